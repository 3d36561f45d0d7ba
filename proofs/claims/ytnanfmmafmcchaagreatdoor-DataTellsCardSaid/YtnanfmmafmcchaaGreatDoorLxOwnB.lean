/- Contract of the program's run, blank. -/
import Derived.Test.YtnanfmmafmcchaaGreatDoorLxOwnA
import Derived.Test.YtnanfmmafmcchaaGreatDoorRef0
namespace Go.Proofs.YtnanfmmafmcchaaGreatDoor
open Go.RowKit

/-- How long the run is that a text begins with. -/
def runS : Str → Nat
  | [] => 0
  | c :: r => 1 + (r.takeWhile (mayAfter c)).length

set_option maxHeartbeats 1100000 in
theorem ownRun_any (s : ByteArray) (w : World) (h0 : 0 < s.size) (hs : s.size ≤ 1100000) :
    Calls Tryz.prog 52 #[.string s] w fun e w' => e = .returned (.int .i64 (runS s.toList : Nat)) ∧ Below w.heap.size w w' := by
  have H0 := Lib.hid (show s.toList = s[0] :: s.toList.drop 1 from (lxDrop s 0 h0))
  have CF := Lib.hid (fun W => follow_any s[0] W)
  go_enter Tryz.func52, Tryz.ntmps52
  go_wp2_with (first
    | (go_at_call 68; (with_reducible refine (CF.out _).mono ?_); rintro e w1 ⟨v1, rfl, hb1, ha1⟩
       have HB1 := Lib.hid hb1
       obtain ⟨fk, caps, rfl, hen, hask⟩ := ha1
       have HASK := Lib.hid hask
       clear hb1 hask)
    | fail)
  have H1 := Lib.hid (show 1 + ((s.toList.drop 1).takeWhile (mayAfter s[0])).length = runS s.toList from (congrArg runS H0.out).symm)
  go_loop [4] (fun i => ∃ k : Nat, 1 ≤ k ∧ k ≤ s.size ∧ i = .int .i64 k ∧ Hid (k + ((s.toList.drop k).takeWhile (mayAfter s[0])).length = runS s.toList)) (fun i => s.size - (intOf i).toNat)
  case atStart => exact ⟨1, Nat.le_refl _, h0, rfl, H1⟩
  case round =>
    obtain ⟨k, hk1, hk, rfl, hrel'⟩ := hrel
    have hcf : ∀ (args : Array Value) (w : World), (callFunc fk args).run Tryz.prog w = .ok (.enter fk args) w := hen
    by_cases hlt : k < s.size
    · have hd := Lib.hid (lxDrop s k hlt)
      have cv : Calls Tryz.prog fk (#[.int .u8 s[k].toNat] ++ caps) w1 fun e w2 => e = .returned (.bool (mayAfter s[0] s[k])) ∧ w1 = w2 := HASK.out w1 (Below.refl _ _) s[k]
      cases hm : mayAfter s[0] s[k]
      · rw [hm] at cv
        have CV := Lib.hid cv
        have HF := Lib.hid (show k = runS s.toList by
          rw [← hrel'.out, hd.out, List.takeWhile_cons_of_neg (by rw [hm]; simp)]; rfl)
        clear cv hm
        go_wp2_with (first
          | ((with_reducible refine CV.out.mono ?_); rintro e w2 ⟨rfl, rfl⟩)
          | fail)
        go_ret
        exact ⟨ret_int (by rw [HF.out]), HB1.out⟩
      · rw [hm] at cv
        have CV := Lib.hid cv
        have HF := Lib.hid (show (k + 1) + ((s.toList.drop (k + 1)).takeWhile (mayAfter s[0])).length = runS s.toList by
          rw [← hrel'.out, hd.out, List.takeWhile_cons_of_pos hm, List.length_cons]; omega)
        clear cv hm
        go_wp2_with (first
          | ((with_reducible refine CV.out.mono ?_); rintro e w2 ⟨rfl, rfl⟩)
          | fail)
        go_round
        case rel => exact ⟨k + 1, by omega, by omega, by go_num, HF⟩
        case measure => simp [intOf]; omega
    · have HF := Lib.hid (show k = runS s.toList by
        rw [← hrel'.out, lxEnd s k (by omega)]; rfl)
      go_wp2
      go_ret
      exact ⟨ret_int (by rw [HF.out]), HB1.out⟩

theorem run_drop (c : UInt8) (r : Str) : (c :: r).drop (runS (c :: r)) = r.dropWhile (mayAfter c) := by
  show (c :: r).drop (1 + _) = _
  rw [Nat.add_comm, List.drop_succ_cons]
  have h := List.takeWhile_append_dropWhile (p := mayAfter c) (l := r)
  have h2 : (r.takeWhile (mayAfter c) ++ r.dropWhile (mayAfter c)).drop (r.takeWhile (mayAfter c)).length = r.dropWhile (mayAfter c) := List.drop_left' rfl
  rw [h] at h2
  exact h2
theorem runS_le (s : Str) : runS s ≤ s.length := by
  cases s with
  | nil => exact Nat.le_refl _
  | cons c r =>
    have := (List.takeWhile_sublist (mayAfter c) (l := r)).length_le
    show 1 + _ ≤ r.length + 1
    omega
theorem runS_pos {s : Str} (h : s ≠ []) : 1 ≤ runS s := by
  cases s with
  | nil => exact absurd rfl h
  | cons c r => show 1 ≤ 1 + _; omega
theorem blank_cases {c : UInt8} (h : blankB c = true) : c = 32 ∨ c = 9 ∨ c = 10 := by
  unfold blankB at h
  simp only [Bool.or_eq_true, beq_iff_eq] at h
  rcases h with (h | h) | h
  · exact .inl h
  · exact .inr (.inl h)
  · exact .inr (.inr h)
theorem after_blank {c : UInt8} (h : blankB c = true) : mayAfter c = blankB := by
  rcases blank_cases h with rfl | rfl | rfl <;> rfl
theorem after_hash : mayAfter 35 = fun d => d != 10 := rfl
theorem skip_blanks : ∀ r : Str, skipF false r = skipF false (r.dropWhile blankB)
  | [] => rfl
  | c :: r => by
    cases h : blankB c
    · rw [List.dropWhile_cons_of_neg (by rw [h]; simp)]
    · rw [List.dropWhile_cons_of_pos h, skipF, h]
      exact skip_blanks r
theorem skip_line : ∀ r : Str, skipF true r = skipF false (r.dropWhile fun d => d != 10)
  | [] => rfl
  | c :: r => by
    cases h : c == 10
    · rw [List.dropWhile_cons_of_pos (by unfold bne; rw [h]; rfl), skipF, h]
      exact skip_line r
    · rw [List.dropWhile_cons_of_neg (by unfold bne; rw [h]; simp), skipF, h, eq_of_beq h]
      rfl
theorem skip_run {c : UInt8} {r : Str} (h : (blankB c || c == 35) = true) : skipF false (c :: r) = skipF false ((c :: r).drop (runS (c :: r))) := by
  rw [run_drop]
  cases hb : blankB c
  · rw [hb, Bool.false_or] at h
    rw [skipF, hb, h, eq_of_beq h]
    exact skip_line r
  · rw [skipF, hb, after_blank hb]
    exact skip_blanks r
theorem toList_cut (s : ByteArray) (k : Nat) : (s.extract k s.size).toList = s.toList.drop k := by
  rw [ByteArray.toList_eq, ByteArray.toList_eq, ByteArray.data_extract]
  simp [List.extract_eq_take_drop]
  exact List.take_of_length_le (by simp)

set_option maxHeartbeats 1100000 in
theorem ownBlank_any (s : ByteArray) (w : World) (hs : s.size ≤ 1100000) :
    Calls Tryz.prog 33 #[.string s] w fun e w' => ∃ r : Nat, e = .returned (.int .i64 r) ∧ r ≤ s.size ∧ s.toList.drop r = skipF false s.toList ∧ Below w.heap.size w w' := by
  go_enter Tryz.func33, Tryz.ntmps33
  go_wp2
  go_loopw [3] (fun i wr => ∃ k : Nat, k ≤ s.size ∧ i = .int .i64 k ∧ Hid (skipF false (s.toList.drop k) = skipF false s.toList) ∧ Hid (Below w.heap.size w wr)) (fun i _ => s.size - (intOf i).toNat)
  case atStart => exact ⟨0, Nat.zero_le _, rfl, Lib.hid rfl, Lib.hid (Below.refl _ _)⟩
  case round =>
    obtain ⟨k, hk, rfl, hrel', HW⟩ := hrel
    by_cases hlt : k < s.size
    · have hd := Lib.hid (lxDrop s k hlt)
      have e1 : (((s[k].toNat : Nat) : Int) == 35) = (s[k] == 35) := byte_is s[k] 35 (by omega)
      have cb : ∀ W, Calls Tryz.prog 51 #[.int .u8 s[k].toNat] W fun e w' => e = .returned (.bool (blankB s[k])) ∧ W = w' := fun W => ownSpace_any s[k] W
      obtain ⟨n, hn⟩ : ∃ n, n = runS (s.toList.drop k) := ⟨_, rfl⟩
      have hne : s.toList.drop k ≠ [] := by rw [hd.out]; simp
      have hn1 : 1 ≤ n := by rw [hn]; exact runS_pos hne
      have hn2 : k + n ≤ s.size := by
        have := runS_le (s.toList.drop k)
        rw [← hn, List.length_drop, lxLen] at this
        omega
      have cr : ∀ W, Calls Tryz.prog 52 #[.string (s.extract k s.size)] W fun e w' => e = .returned (.int .i64 n) ∧ Below W.heap.size W w' := fun W => by
        have h := ownRun_any (s.extract k s.size) W (by simp; omega) (by simp; omega)
        rw [toList_cut, ← hn] at h
        exact h
      have CR := Lib.hid cr
      cases hb : blankB s[k]
      · cases h35 : (s[k] == 35)
        · have HF := Lib.hid (show s.toList.drop k = skipF false s.toList by rw [← hrel'.out, hd.out, skipF, hb, h35]; rfl)
          rw [hb] at cb
          rw [h35] at e1
          have CB := Lib.hid cb
          clear cb cr hb h35 hn hne
          go_wp2_with (first
            | (go_at_call 51; (with_reducible refine (CB.out _).mono ?_); rintro e w1 ⟨rfl, rfl⟩)
            | fail)
          go_ret
          exact ⟨k, rfl, hk, HF.out, HW.out⟩
        · have HF := Lib.hid (show skipF false (s.toList.drop (k + n)) = skipF false s.toList by
            rw [← hrel'.out, ← List.drop_drop, hn]
            have := skip_run (c := s[k]) (r := s.toList.drop (k + 1)) (by rw [hb, h35]; rfl)
            rw [← hd.out] at this
            exact this.symm)
          rw [hb] at cb
          rw [h35] at e1
          have CB := Lib.hid cb
          clear cb cr hb h35 hn hne
          go_wp2_with (first
            | (go_at_call 51; (with_reducible refine (CB.out _).mono ?_); rintro e w1 ⟨rfl, rfl⟩)
            | (go_at_call 52; (with_reducible refine (CR.out _).mono ?_); rintro e w1 ⟨rfl, hb1⟩
               have HB1 := Lib.hid (HW.out.trans (hb1.mono HW.out.size))
               clear hb1)
            | fail)
          go_roundw
          case rel => exact ⟨k + n, by omega, by go_num, HF, HB1⟩
          case measure => simp [intOf]; omega
      · have HF := Lib.hid (show skipF false (s.toList.drop (k + n)) = skipF false s.toList by
          rw [← hrel'.out, ← List.drop_drop, hn]
          have := skip_run (c := s[k]) (r := s.toList.drop (k + 1)) (by rw [hb]; rfl)
          rw [← hd.out] at this
          exact this.symm)
        rw [hb] at cb
        have CB := Lib.hid cb
        clear cb cr hb hn hne e1
        go_wp2_with (first
          | (go_at_call 51; (with_reducible refine (CB.out _).mono ?_); rintro e w1 ⟨rfl, rfl⟩)
          | (go_at_call 52; (with_reducible refine (CR.out _).mono ?_); rintro e w1 ⟨rfl, hb1⟩
             have HB1 := Lib.hid (HW.out.trans (hb1.mono HW.out.size))
             clear hb1)
          | fail)
        go_roundw
        case rel => exact ⟨k + n, by omega, by go_num, HF, HB1⟩
        case measure => simp [intOf]; omega
    · have HF := Lib.hid (show s.toList.drop k = skipF false s.toList by rw [← hrel'.out, lxEnd s k (by omega)]; rfl)
      go_wp2
      go_ret
      exact ⟨k, rfl, hk, HF.out, HW.out⟩
end Go.Proofs.YtnanfmmafmcchaaGreatDoor
