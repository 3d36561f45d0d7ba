/- Contracts of the reference's typeName, CarriesMay and ArmsMay. -/
import Derived.Test.YtbbdmipfbnfpfaaGreatTuMem
import Derived.RegionTactic
import Derived.BigQuiet
namespace Go.Proofs.YtbbdmipfbnfpfaaGreat
open Go.RowKit

theorem tu1 (w : World) (o : Obj) : Below w.heap.size w (w.alloc o) := (Below.refl _ w).alloc (Nat.le_refl _) o
/-- A string up to a place; from a place on. -/
theorem run_head {P : Program} (t : TypeId) (ht : P.underlying t = some .string) (s : ByteArray) (H : Nat) (h2 : H ≤ s.size) (W : World) :
    (Instr.slice t (.string s) none (some (.int .i64 (H : Int))) none).run P W = .ok (.string (s.extract 0 H)) W := by
  simp [Instr.slice, run_underlying ht, Instr.sliceBounds, run_sliceBound, *, (by omega : (H : Int) ≤ (s.size : Int))]
theorem run_tail {P : Program} (t : TypeId) (ht : P.underlying t = some .string) (s : ByteArray) (l : Int) (L : Nat) (hl : l = (L : Int)) (h2 : L ≤ s.size) (W : World) :
    (Instr.slice t (.string s) (some (.int .i64 l)) none none).run P W = .ok (.string (s.extract L s.size)) W := by
  subst hl
  simp [Instr.slice, run_underlying ht, Instr.sliceBounds, run_sliceBound, *, (by omega : (L : Int) ≤ (s.size : Int))]
theorem head_list (s : ByteArray) (k : Nat) : (s.extract 0 k).toList = s.toList.take k := by
  rw [ByteArray.toList_eq, ByteArray.toList_eq, ByteArray.data_extract]
  simp [List.extract_eq_take_drop]
theorem tail_list (s : ByteArray) (k : Nat) : (s.extract k s.size).toList = s.toList.drop k := by
  rw [ByteArray.toList_eq, ByteArray.toList_eq, ByteArray.data_extract]
  simp [List.extract_eq_take_drop]
  rw [List.take_of_length_le]
  simp
theorem dot_none {l : Str} (h : dotS l = none) : typeB l = may l := by unfold typeB; rw [h]
theorem dot_some {l a b : Str} (h : dotS l = some (a, b)) : typeB l = (may a && may b) := by unfold typeB; rw [h]
/-- Looking for the first dot, a place on. -/
def DotAt (l : Str) (k : Nat) : Prop := dotS l = (dotS (l.drop k)).map fun p => (l.take k ++ p.1, p.2)
theorem DotAt.start (l : Str) : DotAt l 0 := by
  unfold DotAt
  rw [List.drop_zero, List.take_zero]
  cases dotS l <;> rfl
theorem DotAt.found {s : ByteArray} {k : Nat} (hk : k < s.size) (h : DotAt s.toList k) (hc : s[k] = 46) : dotS s.toList = some (s.toList.take k, s.toList.drop (k + 1)) := by
  unfold DotAt at h
  rw [h, lxDrop s k hk, dotS, if_pos hc]
  simp
theorem DotAt.step {s : ByteArray} {k : Nat} (hk : k < s.size) (h : DotAt s.toList k) (hc : s[k] ≠ 46) : DotAt s.toList (k + 1) := by
  unfold DotAt at h ⊢
  rw [lxDrop s k hk, dotS, if_neg hc] at h
  rw [h, Option.map_map]
  have e : s.toList.take (k + 1) = s.toList.take k ++ [s[k]] := by
    have hd := lxDrop s k hk
    have hl : k < s.toList.length := by rw [len_toList]; exact hk
    rw [List.take_succ_eq_append_getElem hl]
    rw [List.drop_eq_getElem_cons hl] at hd
    injection hd with hd _
    rw [hd]
  rw [e]
  congr 1
  funext p
  simp
theorem DotAt.out {l : Str} {k : Nat} (hk : l.length ≤ k) (h : DotAt l k) : dotS l = none := by
  unfold DotAt at h
  rw [h, List.drop_of_length_le hk]
  rfl

set_option maxHeartbeats 2000000 in
theorem tuType_any (s : ByteArray) (w : World) (hs : s.size ≤ maxLen) : Calls Tryz.prog 66 #[.string s] w fun e w' => e = .returned (.bool (typeB s.toList)) ∧ w = w' := by
  have hsz : s.size ≤ 9223372036854775807 := by unfold maxLen at hs; omega
  have HLEN := Lib.hid (len_toList s)
  obtain ⟨R, hR⟩ : ∃ R, R = typeB s.toList := ⟨_, rfl⟩
  rw [← hR]
  have HR := Lib.hid hR
  have HM := Lib.hid hs
  clear hs hR
  go_enter Tryz.func66, Tryz.ntmps66
  go_wp2
  go_loop [3] (fun i => ∃ k : Nat, k ≤ s.size ∧ i = .int .i64 k ∧ Hid (DotAt s.toList k)) (fun i => s.size - (intOf i).toNat)
  case atStart => exact ⟨0, Nat.zero_le _, rfl, Lib.hid (DotAt.start _)⟩
  case round =>
    obtain ⟨k, hk, rfl, HD⟩ := hrel
    by_cases hlt : k < s.size
    · cases hc : (s[k] == 46)
      · have e1 : (((s[k].toNat : Nat) : Int) == 46) = false := by rw [← hc]; exact byte_is s[k] 46 (by omega)
        have HD2 := Lib.hid (HD.out.step hlt (by rw [beq_eq_false_iff_ne] at hc; exact hc))
        clear hc
        go_wp2_with fail
        go_round
        case rel => exact ⟨k + 1, by omega, by go_num, HD2⟩
        case measure => simp [intOf] <;> omega
      · have e1 : (((s[k].toNat : Nat) : Int) == 46) = true := by rw [← hc]; exact byte_is s[k] 46 (by omega)
        have hf := HD.out.found hlt (eq_of_beq hc)
        have hz := HR.out.trans (dot_some hf)
        rw [← head_list, ← tail_list] at hz
        have hcut1 := run_head 9 Tryz.underlying9 s k (by omega)
        have hcut2 := run_tail 9 Tryz.underlying9 s ((k : Int) + 1) (k + 1) (by omega) (by omega)
        have hA : (s.extract 0 k).size ≤ maxLen := by rw [ByteArray.size_extract]; have := HM.out; omega
        have hB : (s.extract (k + 1) s.size).size ≤ maxLen := by rw [ByteArray.size_extract]; have := HM.out; omega
        obtain ⟨A, hAe⟩ : ∃ A, A = s.extract 0 k := ⟨_, rfl⟩
        obtain ⟨B, hBe⟩ : ∃ B, B = s.extract (k + 1) s.size := ⟨_, rfl⟩
        rw [← hAe] at hcut1 hz hA
        rw [← hBe] at hcut2 hz hB
        have CA := Lib.hid (fun W => refMay_any A W hA)
        have CB := Lib.hid (fun W => refMay_any B W hB)
        have i1 : (k : Int) + 1 ≤ (s.size : Int) := by omega
        clear hc hf hA hB hAe hBe
        cases ha : may A.toList
        · rw [ha] at CA hz
          have HZ := Lib.hid hz
          clear hz ha
          go_wp2_with (first
            | (go_at_call 31; (with_reducible refine (CA.out _).mono ?_); rintro e w1 ⟨rfl, rfl⟩)
            | fail)
          go_ret
          exact ⟨ret_bool HZ.out.symm, rfl⟩
        · rw [ha] at CA hz
          have HZ := Lib.hid hz
          clear hz ha
          go_wp2_with (first
            | (go_at_call 31; (with_reducible refine (CA.out _).mono ?_); rintro e w1 ⟨rfl, rfl⟩)
            | (go_at_call 31; (with_reducible refine (CB.out _).mono ?_); rintro e w1 ⟨rfl, rfl⟩)
            | fail)
          go_ret
          exact ⟨ret_bool HZ.out.symm, rfl⟩
    · have HZ := Lib.hid (HR.out.trans (dot_none (HD.out.out (by rw [HLEN.out]; omega))))
      have CM := Lib.hid (fun W => refMay_any s W HM.out)
      go_wp2_with (first
        | (go_at_call 31; (with_reducible refine (CM.out _).mono ?_); rintro e w1 ⟨rfl, rfl⟩)
        | fail)
      go_ret
      exact ⟨ret_bool HZ.out.symm, rfl⟩

theorem empty_is (u : ByteArray) : (u.toList == []) = u.toList.isEmpty := by cases u.toList <;> rfl
set_option maxHeartbeats 2000000 in
theorem tuCarries_any (k : Int) (u : ByteArray) (w : World) (hu : u.size ≤ maxLen) :
    Calls Tryz.prog 50 #[.agg #[.int .i64 k, .string u]] w fun e w' => e = .returned (.bool (carriesB k u.toList)) ∧ Below w.heap.size w w' := by
  have HB := Lib.hid (tu1 w (.cells #[.int .i64 k, .string u] 39))
  by_cases h5 : k = 5
  · subst h5
    have CT := Lib.hid (fun W => tuType_any u W hu)
    have HZ := Lib.hid (show carriesB 5 u.toList = typeB u.toList from rfl)
    generalize carriesB 5 u.toList = R at HZ ⊢
    clear hu
    go_enter Tryz.func50, Tryz.ntmps50
    go_wp2_with (first
      | (go_at_call 66; (with_reducible refine (CT.out _).mono ?_); rintro e w1 ⟨rfl, rfl⟩)
      | fail)
    go_ret
    exact ⟨ret_bool HZ.out.symm, HB.out⟩
  have d5 : (k == 5) = false := by rw [beq_eq_false_iff_ne]; exact h5
  have hz : carriesB k u.toList = (decide (0 ≤ k) && decide (k < 5) && (u.toList == [])) := by unfold carriesB; rw [if_neg h5, empty_is]
  generalize carriesB k u.toList = R at hz ⊢
  clear h5 hu
  by_cases h0 : 0 ≤ k
  · have d0 : decide (0 ≤ k) = true := decide_eq_true h0
    by_cases h1 : k < 5
    · have d1 : decide (k < 5) = true := decide_eq_true h1
      rw [d0, d1] at hz
      have HZ := Lib.hid hz
      clear hz h0 h1
      go_enter Tryz.func50, Tryz.ntmps50
      go_wp2_with fail
      go_ret
      exact ⟨ret_bool (by rw [HZ.out, empty_is]; rfl), HB.out⟩
    · have d1 : decide (k < 5) = false := decide_eq_false h1
      rw [d0, d1] at hz
      have HZ := Lib.hid hz
      clear hz h0 h1
      go_enter Tryz.func50, Tryz.ntmps50
      go_wp2_with fail
      go_ret
      exact ⟨ret_bool HZ.out.symm, HB.out⟩
  · have d0 : decide (0 ≤ k) = false := decide_eq_false h0
    rw [d0] at hz
    have HZ := Lib.hid hz
    clear hz h0
    go_enter Tryz.func50, Tryz.ntmps50
    go_wp2_with fail
    go_ret
    exact ⟨ret_bool HZ.out.symm, HB.out⟩
end Go.Proofs.YtbbdmipfbnfpfaaGreat
