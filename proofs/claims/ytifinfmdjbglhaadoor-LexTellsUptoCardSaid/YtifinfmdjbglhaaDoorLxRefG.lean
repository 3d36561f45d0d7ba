/- Contracts of the reference's ends, tokenMay. -/
import Derived.Test.YtifinfmdjbglhaaDoorLxRefF
namespace Go.Proofs.YtifinfmdjbglhaaDoor
open Go.RowKit

/-- endsT, with the kind as an int. -/
def endsI (k : Int) (t : Str) : Bool :=
  if k == 0 then !isKw t else if k == 1 || k == 2 then true else k == 3 && t == [41]
theorem endsI_nat (k : Nat) (t : Str) : endsI k t = endsT k t := by
  unfold endsI endsT
  have h : ∀ n : Nat, (((k : Nat) : Int) == (n : Int)) = (k == n) := fun n => by
    rw [Bool.eq_iff_iff, beq_iff_eq, beq_iff_eq]; omega
  rw [show (((k : Nat) : Int) == 0) = (k == 0) from h 0, show (((k : Nat) : Int) == 1) = (k == 1) from h 1, show (((k : Nat) : Int) == 2) = (k == 2) from h 2, show (((k : Nat) : Int) == 3) = (k == 3) from h 3]

set_option maxHeartbeats 1100000 in
theorem refEnds_any (k : Int) (s : ByteArray) (p : Int) (w : World) :
    Calls Tryd.prog 23 #[.agg #[.int .i64 k, .string s, .int .i64 p]] w fun e w' => e = .returned (.bool (endsI k s.toList)) ∧ Below w.heap.size w w' := by
  have HB := Lib.hid ((Below.refl w.heap.size w).alloc (Nat.le_refl _))
  cases z0 : (k == 0)
  · cases z1 : (k == 1)
    · cases z2 : (k == 2)
      · cases z3 : (k == 3)
        · have HF := Lib.hid (show false = endsI k s.toList by unfold endsI; rw [z0, z1, z2, z3]; rfl)
          go_enter Tryd.func23, Tryd.ntmps23
          go_wp2
          go_ret
          exact ⟨ret_bool HF.out, HB.out _⟩
        · cases z4 : (s.toList == [41])
          · have HF := Lib.hid (show false = endsI k s.toList by unfold endsI; rw [z0, z1, z2, z3, z4]; rfl)
            go_enter Tryd.func23, Tryd.ntmps23
            go_wp2
            go_ret
            exact ⟨ret_bool HF.out, HB.out _⟩
          · have HF := Lib.hid (show true = endsI k s.toList by unfold endsI; rw [z0, z1, z2, z3, z4]; rfl)
            go_enter Tryd.func23, Tryd.ntmps23
            go_wp2
            go_ret
            exact ⟨ret_bool HF.out, HB.out _⟩
      ·
        have HF := Lib.hid (show true = endsI k s.toList by unfold endsI; rw [z0, z1, z2]; rfl)
        go_enter Tryd.func23, Tryd.ntmps23
        go_wp2
        go_ret
        exact ⟨ret_bool HF.out, HB.out _⟩
    ·
      have HF := Lib.hid (show true = endsI k s.toList by unfold endsI; rw [z0, z1]; rfl)
      go_enter Tryd.func23, Tryd.ntmps23
      go_wp2
      go_ret
      exact ⟨ret_bool HF.out, HB.out _⟩
  · cases hkw : isKw s.toList
    all_goals
      have ck : ∀ W, Calls Tryd.prog 38 #[.string s] W fun e w' => e = .returned (.bool (isKw s.toList)) ∧ W = w' := fun W => refKeyword_any s W
      rw [hkw] at ck
      have CK := Lib.hid ck
      have HF := Lib.hid (show (!isKw s.toList) = endsI k s.toList by unfold endsI; rw [z0]; rfl)
      rw [hkw] at HF
      clear ck hkw
      go_enter Tryd.func23, Tryd.ntmps23
      go_wp2_with (first | (go_at_call 38; (with_reducible refine (CK.out _).mono ?_); rintro e w9 ⟨rfl, rfl⟩) | fail)
      go_ret
      exact ⟨ret_bool HF.out, HB.out _⟩

/-- tokMay, with the kind as an int. -/
def tokMayI (k : Int) (t : Str) : Bool :=
  if k == 0 then decide (1 ≤ t.length) && letB (t.getD 0 0) && t.all okB
  else if k == 1 then numeral t
  else if k == 2 then true
  else k == 3 && decide (1 ≤ t.length) && signLen t == t.length
theorem tokMayI_nat (k : Nat) (t : Str) : tokMayI k t = tokMay k t := by
  unfold tokMayI tokMay
  have h : ∀ n : Nat, (((k : Nat) : Int) == (n : Int)) = (k == n) := fun n => by
    rw [Bool.eq_iff_iff, beq_iff_eq, beq_iff_eq]; omega
  rw [show (((k : Nat) : Int) == 0) = (k == 0) from h 0, show (((k : Nat) : Int) == 1) = (k == 1) from h 1, show (((k : Nat) : Int) == 2) = (k == 2) from h 2, show (((k : Nat) : Int) == 3) = (k == 3) from h 3]
theorem dropWhile_end {p : UInt8 → Bool} : ∀ (l : Str), (l.dropWhile p = []) ↔ l.all p = true
  | [] => by simp
  | c :: l => by
    cases h : p c
    · rw [List.dropWhile_cons_of_neg (by rw [h]; simp)]; simp [h]
    · rw [List.dropWhile_cons_of_pos h, dropWhile_end l]; simp [h]

theorem list_empty_false {s : ByteArray} (h : 0 < s.size) : s.toList.isEmpty = false ∧ (s.toList == []) = false := by
  have := lxLen s
  cases h2 : s.toList with
  | nil => rw [h2] at this; simp at this; omega
  | cons c r => exact ⟨rfl, rfl⟩

set_option maxHeartbeats 2000000 in
theorem refTokenMay_any (k : Int) (s : ByteArray) (p : Int) (w : World) (hs : s.size ≤ 1100000) :
    Calls Tryd.prog 27 #[.agg #[.int .i64 k, .string s, .int .i64 p]] w fun e w' => e = .returned (.bool (tokMayI k s.toList)) ∧ ∃ q o, w' = (w.alloc o).drewN q := by
  cases z0 : (k == 0)
  · cases z1 : (k == 1)
    · cases z2 : (k == 2)
      · cases z3 : (k == 3)
        · have HF := Lib.hid (show false = tokMayI k s.toList by unfold tokMayI; rw [z0, z1, z2, z3]; rfl)
          go_enter Tryd.func27, Tryd.ntmps27
          go_wp2
          go_ret
          exact ⟨ret_bool HF.out, 0, _, rfl⟩
        · by_cases h0 : s.size = 0
          · have el : s.toList = [] := List.eq_nil_of_length_eq_zero (by rw [lxLen]; exact h0)
            have HF := Lib.hid (show false = tokMayI k s.toList by unfold tokMayI; rw [z0, z1, z2, z3, el]; rfl)
            have e1 : (s.toList == []) = true := by rw [el]; rfl
            have e2 : s.toList.isEmpty = true := by rw [el]; rfl
            clear h0 el
            go_enter Tryd.func27, Tryd.ntmps27
            go_wp2
            go_ret
            exact ⟨ret_bool HF.out, 0, _, rfl⟩
          · obtain ⟨e1, e2⟩ := list_empty_false (s := s) (by omega)
            obtain ⟨L, hL⟩ : ∃ L, L = signLen s.toList := ⟨_, rfl⟩
            have cs : ∀ W, Calls Tryd.prog 44 #[.string s, .int .i64 0] W fun e w' => e = .returned (.int .i64 (L : Nat)) ∧ ∃ q, w' = W.drewN q := fun W => by
              have h := refSign_any s 0 W (by omega) hs
              rw [List.drop_zero, ← hL] at h
              exact h
            have CS := Lib.hid cs
            have HF := Lib.hid (show (((L : Nat) : Int) == (s.size : Int)) = tokMayI k s.toList by
              unfold tokMayI
              rw [z0, z1, z2, z3, lxLen, ← hL, decide_eq_true (show 1 ≤ s.size by omega)]
              show _ = (L == s.size)
              rw [Bool.eq_iff_iff, beq_iff_eq, beq_iff_eq]; omega)
            clear cs hL h0
            go_enter Tryd.func27, Tryd.ntmps27
            go_wp2_with (first | (go_at_call 44; (with_reducible refine (CS.out _).mono ?_); rintro e w9 ⟨rfl, q, rfl⟩) | fail)
            go_ret
            exact ⟨ret_bool HF.out, q, _, rfl⟩
      · have HF := Lib.hid (show true = tokMayI k s.toList by unfold tokMayI; rw [z0, z1, z2]; rfl)
        go_enter Tryd.func27, Tryd.ntmps27
        go_wp2
        go_ret
        exact ⟨ret_bool HF.out, 0, _, rfl⟩
    · have cn : ∀ W, Calls Tryd.prog 42 #[.string s] W fun e w' => e = .returned (.bool (numeral s.toList)) ∧ W = w' := fun W => refNumeral_any s W hs
      have CN := Lib.hid cn
      have HF := Lib.hid (show numeral s.toList = tokMayI k s.toList by unfold tokMayI; rw [z0, z1]; rfl)
      clear cn
      go_enter Tryd.func27, Tryd.ntmps27
      go_wp2_with (first | (go_at_call 42; (with_reducible refine (CN.out _).mono ?_); rintro e w9 ⟨rfl, rfl⟩) | fail)
      go_ret
      exact ⟨ret_bool HF.out, 0, _, rfl⟩
  · by_cases h0 : s.size = 0
    · have el : s.toList = [] := List.eq_nil_of_length_eq_zero (by rw [lxLen]; exact h0)
      have HF := Lib.hid (show false = tokMayI k s.toList by unfold tokMayI; rw [z0, el]; rfl)
      have e1 : (s.toList == []) = true := by rw [el]; rfl
      have e2 : s.toList.isEmpty = true := by rw [el]; rfl
      clear h0 el
      go_enter Tryd.func27, Tryd.ntmps27
      go_wp2
      go_ret
      exact ⟨ret_bool HF.out, 0, _, rfl⟩
    · obtain ⟨e1, e2⟩ := list_empty_false (s := s) (by omega)
      have hpos : 0 < s.size := by omega
      have hgd : s.toList.getD 0 0 = s[0] := lxGetD s 0 hpos
      have cl : ∀ W, Calls Tryd.prog 39 #[.int .u8 s[0].toNat] W fun e w' => e = .returned (.bool (letB s[0])) ∧ W = w' := fun W => refLetter_any s[0].toNat W
      obtain ⟨r0, hr0⟩ : ∃ r0, r0 = s.size - (s.toList.dropWhile okB).length := ⟨_, rfl⟩
      have hle : (s.toList.dropWhile okB).length ≤ s.size := by
        have := drop_while_le okB s.toList
        rw [lxLen] at this; exact this
      have cr : ∀ W, Calls Tryd.prog 40 #[.string s, .int .i64 0, .bool true] W fun e w' => e = .returned (.int .i64 (r0 : Nat)) ∧ W = w' := fun W => by
        have h := refRun_any s 0 true W (Nat.zero_le _) hs
        refine Calls.mono (show Calls Tryd.prog 40 #[.string s, .int .i64 0, .bool true] W _ from h) ?_
        rintro e w' ⟨r, rfl, _, hr, hd, rfl⟩
        refine ⟨?_, rfl⟩
        rw [List.drop_zero, runB_true] at hd
        have hl := congrArg List.length hd
        rw [List.length_drop, lxLen] at hl
        have : r = r0 := by omega
        rw [this]
      have hall : (r0 == s.size) = s.toList.all okB := by
        rw [Bool.eq_iff_iff, beq_iff_eq, ← dropWhile_end]
        constructor
        · intro h; exact List.eq_nil_of_length_eq_zero (by omega)
        · intro h; rw [h] at hr0; simpa using hr0
      cases hlt : letB s[0]
      · rw [hlt] at cl
        have CL := Lib.hid cl
        have HF := Lib.hid (show false = tokMayI k s.toList by unfold tokMayI; rw [z0, hgd, hlt, Bool.and_false]; rfl)
        clear cl cr hall hlt hgd hr0 hle
        go_enter Tryd.func27, Tryd.ntmps27
        go_wp2_with (first | (go_at_call 39; (with_reducible refine (CL.out _).mono ?_); rintro e w9 ⟨rfl, rfl⟩) | fail)
        go_ret
        exact ⟨ret_bool HF.out, 0, _, rfl⟩
      · rw [hlt] at cl
        have CL := Lib.hid cl
        have CR := Lib.hid cr
        have HF := Lib.hid (show (((r0 : Nat) : Int) == (s.size : Int)) = tokMayI k s.toList by
          unfold tokMayI
          rw [z0, hgd, hlt, lxLen, decide_eq_true (show 1 ≤ s.size by omega), ← hall]
          show _ = (r0 == s.size)
          rw [Bool.eq_iff_iff, beq_iff_eq, beq_iff_eq]; omega)
        clear cl cr hall hlt hgd hr0 hle
        go_enter Tryd.func27, Tryd.ntmps27
        go_wp2_with (first | (go_at_call 39; (with_reducible refine (CL.out _).mono ?_); rintro e w9 ⟨rfl, rfl⟩) | (go_at_call 40; (with_reducible refine (CR.out _).mono ?_); rintro e w9 ⟨rfl, rfl⟩) | fail)
        go_ret
        exact ⟨ret_bool HF.out, 0, _, rfl⟩
end Go.Proofs.YtifinfmdjbglhaaDoor
