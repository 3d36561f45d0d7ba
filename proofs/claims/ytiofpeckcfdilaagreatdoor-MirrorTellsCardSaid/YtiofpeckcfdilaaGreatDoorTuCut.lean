/- Contracts of strings.Cut at a dot and of the program's validCarries. -/
import Derived.Test.YtiofpeckcfdilaaGreatDoorTuRefs
import Derived.Test.YtiofpeckcfdilaaGreatDoorRef2
import Derived.Test.YtiofpeckcfdilaaGreatDoorShelf
import Derived.Lib.IndexLaws
namespace Go.Proofs.YtiofpeckcfdilaaGreatDoor
open Go.RowKit

theorem dot_ix (l : Str) : (Lib.indexByte l 46 = -1 ∧ dotS l = none) ∨ ∃ k : Nat, k < l.length ∧ Lib.indexByte l 46 = (k : Int) ∧ dotS l = some (l.take k, l.drop (k + 1)) := by
  induction l with
  | nil => exact .inl ⟨rfl, rfl⟩
  | cons c r ih =>
    rw [Lib.indexByte, dotS]
    by_cases hc : c = 46
    · subst hc
      exact .inr ⟨0, by simp, by simp, by simp⟩
    · rw [if_neg (by simpa using hc), if_neg hc]
      rcases ih with ⟨h1, h2⟩ | ⟨k, h1, h2, h3⟩
      · exact .inl ⟨by rw [h1]; rfl, by rw [h2]; rfl⟩
      · refine .inr ⟨k + 1, by rw [List.length_cons]; omega, ?_, ?_⟩
        · rw [h2, if_neg (by rw [beq_iff_eq]; omega)]
          omega
        · rw [h3]
          rfl
theorem ixByte_any (s : ByteArray) (w : World) : Calls Tryz.prog 178 #[.string s, .int .u8 46] w fun e w' => e = .returned (.int .i64 (Lib.indexByte s.toList 46)) ∧ w' = w := by
  have h := Tryz.stringslite_IndexByte s 46 w
  rw [← ByteArray.toList_eq] at h
  exact h
set_option maxHeartbeats 4000000 in
set_option maxRecDepth 20000 in
theorem tuIx_any (s : ByteArray) (w : World) : Calls Tryz.prog 175 #[.string s, .string ⟨#[46]⟩] w fun e w' => e = .returned (.int .i64 (Lib.indexByte s.toList 46)) ∧ w' = w := by
  by_cases hs : s = ⟨#[46]⟩
  · subst hs
    have hz : Lib.indexByte (ByteArray.toList ⟨#[46]⟩) 46 = 0 := by rw [ByteArray.toList_eq]; rfl
    rw [hz]
    clear hz
    go_enter Tryz.func175, Tryz.ntmps175
    go_wp2
    go_ret
    exact ⟨rfl, rfl⟩
  · have c1 : (([46] : List UInt8) == s.toList) = false := by
      rw [beq_eq_false_iff_ne]
      intro h
      refine hs (toList_inj (h.symm.trans ?_))
      rw [ByteArray.toList_eq]
    have CI := Lib.hid (fun W => ixByte_any s W)
    generalize Lib.indexByte s.toList 46 = r at CI ⊢
    clear hs
    go_enter Tryz.func175, Tryz.ntmps175
    go_wp2_with (first
      | (go_at_call 178; refine (CI.out _).mono ?_; rintro e w1 ⟨rfl, rfl⟩)
      | fail)
    go_ret
    exact ⟨rfl, rfl⟩
/-- What strings.Cut answers at a dot. -/
def cutT (s : ByteArray) : ByteArray × ByteArray × Bool := match dotS s.toList with
  | none => (s, ⟨#[]⟩, false)
  | some p => (s.extract 0 p.1.length, s.extract (p.1.length + 1) s.size, true)
theorem cutT_type (s : ByteArray) : typeB s.toList = (may (cutT s).1.toList && (!(cutT s).2.2 || may (cutT s).2.1.toList)) := by
  unfold cutT
  rcases dot_ix s.toList with ⟨_, h⟩ | ⟨k, hk, _, h⟩
  · rw [h, dot_none h]
    simp
  · rw [h, dot_some h]
    have hl : (s.toList.take k).length = k := by rw [List.length_take]; omega
    dsimp only
    rw [hl, head_list, tail_list]
    simp
theorem cutT_small {s : ByteArray} (hs : s.size ≤ maxLen) : (cutT s).1.size ≤ maxLen ∧ (cutT s).2.1.size ≤ maxLen := by
  unfold cutT
  rcases dotS s.toList with _ | p
  · exact ⟨hs, Nat.zero_le _⟩
  · dsimp only
    constructor <;> (rw [ByteArray.size_extract]; omega)
set_option maxHeartbeats 4000000 in
theorem tuLCut_any (s : ByteArray) (w : World) (hs : s.size ≤ maxLen) : Calls Tryz.prog 168 #[.string s, .string ⟨#[46]⟩] w fun e w' => e = .returned (.tuple #[.string (cutT s).1, .string (cutT s).2.1, .bool (cutT s).2.2]) ∧ ∃ q, w' = w.drewN q := by
  have hsz : s.size ≤ 9223372036854775807 := by unfold maxLen at hs; omega
  have CI := Lib.hid (fun W => tuIx_any s W)
  have hl := len_toList s
  rcases dot_ix s.toList with ⟨h1, h⟩ | ⟨k, hk, h1, h⟩
  · have hz : cutT s = (s, ⟨#[]⟩, false) := by unfold cutT; rw [h]
    rw [hz]
    rw [h1] at CI
    clear h h1 hz hs
    go_enter Tryz.func168, Tryz.ntmps168
    go_wp2_with (first
      | (go_at_call 175; (with_reducible refine (CI.out _).mono ?_); rintro e w1 ⟨rfl, rfl⟩)
      | fail)
    go_ret3
    exact ⟨rfl, 0, rfl⟩
  · have hz : cutT s = (s.extract 0 k, s.extract (k + 1) s.size, true) := by
      unfold cutT
      rw [h]
      dsimp only
      rw [List.length_take, Nat.min_eq_left (by omega)]
    rw [hz]
    rw [h1] at CI
    have hcut1 := run_head 9 Tryz.underlying9 s k (by omega)
    have hcut2 := run_tail 9 Tryz.underlying9 s ((k : Int) + 1) (k + 1) (by omega) (by omega)
    have i1 : (k : Int) + 1 ≤ (s.size : Int) := by omega
    have i2 : (k : Int) ≤ (s.size : Int) := by omega
    have i3 : (0 : Int) ≤ (k : Int) := by omega
    generalize s.extract 0 k = A at hcut1 ⊢
    generalize s.extract (k + 1) s.size = B at hcut2 ⊢
    clear h h1 hz hs hl hk
    go_enter Tryz.func168, Tryz.ntmps168
    go_wp2_with (first
      | (go_at_call 175; (with_reducible refine (CI.out _).mono ?_); rintro e w1 ⟨rfl, rfl⟩)
      | fail)
    go_quiet (fail)
    go_wp2
    go_ret3
    exact ⟨rfl, _, rfl⟩
theorem tuCut_any (s : ByteArray) (w : World) (hs : s.size ≤ maxLen) : Calls Tryz.prog 154 #[.string s, .string ⟨#[46]⟩] w fun e w' => e = .returned (.tuple #[.string (cutT s).1, .string (cutT s).2.1, .bool (cutT s).2.2]) ∧ ∃ q, w' = w.drewN q := by
  have CI := Lib.hid (fun W => tuLCut_any s W hs)
  generalize cutT s = p at CI ⊢
  obtain ⟨A, B, c⟩ := p
  dsimp only at CI ⊢
  clear hs
  go_enter Tryz.func154, Tryz.ntmps154
  go_wp2_with (first
    | (go_at_call 168; (with_reducible refine (CI.out _).mono ?_); rintro e w1 ⟨rfl, q, rfl⟩)
    | fail)
  go_ret3
  exact ⟨rfl, q, rfl⟩
set_option maxHeartbeats 4000000 in
theorem ownCarries_any (k : Int) (u : ByteArray) (w : World) (hu : u.size ≤ maxLen) :
    Calls Tryz.prog 131 #[.agg #[.int .i64 k, .string u]] w fun e w' => e = .returned (.bool (carriesB k u.toList)) ∧ Below w.heap.size w w' := by
  have HB := Lib.hid (tu1 w (.cells #[.int .i64 k, .string u] 65))
  by_cases h5 : k = 5
  · subst h5
    have CT := Lib.hid (fun W => tuCut_any u W hu)
    have hz : carriesB 5 u.toList = typeB u.toList := rfl
    rw [cutT_type] at hz
    have hsm := cutT_small hu
    generalize carriesB 5 u.toList = R at hz ⊢
    generalize cutT u = p at hz hsm CT
    obtain ⟨A, B, c⟩ := p
    dsimp only at hz hsm CT
    have CA := Lib.hid (fun W => may_any A W hsm.1)
    have CB := Lib.hid (fun W => may_any B W hsm.2)
    clear hu hsm
    cases ha : may A.toList
    · rw [ha] at CA hz
      have HZ := Lib.hid hz
      clear hz ha
      go_enter Tryz.func131, Tryz.ntmps131
      go_wp2_with (first
        | (go_at_call 154; (with_reducible refine (CT.out _).mono ?_); rintro e w1 ⟨rfl, q, rfl⟩)
        | (go_at_call 26; (with_reducible refine (CA.out _).mono ?_); rintro e w1 ⟨rfl, rfl⟩)
        | fail)
      go_ret
      exact ⟨ret_bool HZ.out.symm, bel_drewN HB.out q⟩
    · rw [ha] at CA hz
      cases c
      · have HZ := Lib.hid hz
        clear hz ha
        go_enter Tryz.func131, Tryz.ntmps131
        go_wp2_with (first
          | (go_at_call 154; (with_reducible refine (CT.out _).mono ?_); rintro e w1 ⟨rfl, q, rfl⟩)
          | (go_at_call 26; (with_reducible refine (CA.out _).mono ?_); rintro e w1 ⟨rfl, rfl⟩)
          | fail)
        go_ret
        exact ⟨ret_bool HZ.out.symm, bel_drewN HB.out q⟩
      · have HZ := Lib.hid hz
        clear hz ha
        go_enter Tryz.func131, Tryz.ntmps131
        go_wp2_with (first
          | (go_at_call 154; (with_reducible refine (CT.out _).mono ?_); rintro e w1 ⟨rfl, q, rfl⟩)
          | (go_at_call 26; (with_reducible refine (CA.out _).mono ?_); rintro e w1 ⟨rfl, rfl⟩)
          | (go_at_call 26; (with_reducible refine (CB.out _).mono ?_); rintro e w1 ⟨rfl, rfl⟩)
          | fail)
        go_ret
        exact ⟨ret_bool HZ.out.symm, bel_drewN HB.out q⟩
  have d5 : (k == 5) = false := by rw [beq_eq_false_iff_ne]; exact h5
  have d5b : (k != 5) = true := by unfold bne; rw [d5]; rfl
  have hz : carriesB k u.toList = (decide (0 ≤ k) && decide (k < 5) && (u.toList == [])) := by unfold carriesB; rw [if_neg h5, empty_is]
  generalize carriesB k u.toList = R at hz ⊢
  clear h5 hu
  by_cases h0 : 0 ≤ k
  · have d0 : decide (0 ≤ k) = true := decide_eq_true h0
    by_cases h1 : k < 5
    · have d1 : decide (k < 5) = true := decide_eq_true h1
      rw [d0, d1] at hz
      have HZ := Lib.hid hz
      clear hz h0 h1
      go_enter Tryz.func131, Tryz.ntmps131
      go_wp2_with fail
      go_ret
      exact ⟨ret_bool (by rw [HZ.out, empty_is]; rfl), HB.out⟩
    · have d1 : decide (k < 5) = false := decide_eq_false h1
      rw [d0, d1] at hz
      have HZ := Lib.hid hz
      clear hz h0 h1
      go_enter Tryz.func131, Tryz.ntmps131
      go_wp2_with fail
      go_ret
      exact ⟨ret_bool HZ.out.symm, HB.out⟩
  · have d0 : decide (0 ≤ k) = false := decide_eq_false h0
    rw [d0] at hz
    have HZ := Lib.hid hz
    clear hz h0
    go_enter Tryz.func131, Tryz.ntmps131
    go_wp2_with fail
    go_ret
    exact ⟨ret_bool HZ.out.symm, HB.out⟩
end Go.Proofs.YtiofpeckcfdilaaGreatDoor
