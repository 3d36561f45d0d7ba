/- Contract of the program's fits. -/
import Derived.Test.YtnanfmmafmcchaaGreatDoorLxOwnJ
namespace Go.Proofs.YtnanfmmafmcchaaGreatDoor
open Go.RowKit

def mayHereI (after : Bool) (k : Int) (t : Str) : Bool := tokMayI k t && !(k == 1 && t.head? == some 45 && after)
def fitsP (neg : Bool) (k : Int) (t : Str) : Bool :=
  k == 2 || (decide (0 < (plainS neg t).2) && (plainS neg t).2 == t.length && ((plainS neg t).1 : Int) == k && ((plainS neg t).1 != 1 || numeral t))

theorem take_full (p : UInt8 → Bool) : ∀ r : Str, ((r.takeWhile p).length == r.length) = r.all p
  | [] => rfl
  | c :: r => by
    cases h : p c
    · rw [List.takeWhile_cons_of_neg (by rw [h]; simp), List.all_cons, h]
      rfl
    · rw [List.takeWhile_cons_of_pos h, List.all_cons, h, Bool.true_and, ← take_full p r, List.length_cons, List.length_cons]
      rw [Bool.eq_iff_iff, beq_iff_eq, beq_iff_eq]
      omega
theorem run_full (c : UInt8) (r : Str) : (runS (c :: r) == (c :: r).length) = r.all (mayAfter c) := by
  rw [← take_full]
  show (1 + _ == r.length + 1) = _
  rw [Bool.eq_iff_iff, beq_iff_eq, beq_iff_eq]
  omega
theorem sign_zero {c : UInt8} {r : Str} (h : signs.contains c = false) : signLen (c :: r) = 0 := by
  have h61 : (c == 61) = false := by
    cases e : c == 61
    · rfl
    · rw [eq_of_beq e] at h; revert h; decide
  have h45 : (c == 45) = false := by
    cases e : c == 45
    · rfl
    · rw [eq_of_beq e] at h; revert h; decide
  cases r with
  | nil => show (if signs.contains c then 1 else 0) = 0; rw [h]; rfl
  | cons d t =>
    show (if (c == 61 && d == 61) || (c == 45 && d == 62) then 2 else if signs.contains c then 1 else 0) = 0
    rw [h61, h45, h]; rfl
theorem let_nosign {c : UInt8} (h : letB c = true) : signs.contains c = false := by
  cases e : signs.contains c
  · rfl
  · have := (sign_heads c (List.contains_iff_mem.1 e)).1
    rw [this] at h; cases h
theorem dig_nosign {c : UInt8} (h : digB c = true) : signs.contains c = false := by
  cases e : signs.contains c
  · rfl
  · have := (sign_heads c (List.contains_iff_mem.1 e)).2.1
    rw [this] at h; cases h
theorem numeral_cons {c : UInt8} {r : Str} (h : numeral (c :: r) = true) : r.all digB = true ∧ (digB c = true ∨ (c = 45 ∧ nextDig r = true)) := by
  obtain ⟨c', d', e, h1, h2⟩ := numeral_all h
  injection e with e1 e2
  subst e1 e2
  refine ⟨h1, ?_⟩
  rcases h2 with h2 | ⟨h2, e, d', h3, h4⟩
  · exact .inl h2
  · exact .inr ⟨h2, by rw [h3]; exact h4⟩

theorem fits_plain (neg : Bool) (k : Int) (t : Str) : fitsP neg k t = mayHereI (!neg) k t := by
  unfold fitsP mayHereI tokMayI
  by_cases k2 : k = 2
  · subst k2; rfl
  have z2 : (k == 2) = false := by rw [beq_eq_false_iff_ne]; exact k2
  rw [z2, Bool.false_or]
  cases t with
  | nil =>
    show (decide (0 < 0) && _ && _ && _) = _
    simp only [Nat.lt_irrefl, decide_false, Bool.false_and]
    by_cases k0 : k = 0
    · subst k0; rfl
    by_cases k1 : k = 1
    · subst k1; rfl
    · have z0 : (k == 0) = false := by rw [beq_eq_false_iff_ne]; exact k0
      have z1 : (k == 1) = false := by rw [beq_eq_false_iff_ne]; exact k1
      rw [z0, z1]; simp
  | cons c r =>
    have hrp := runS_pos (s := c :: r) (by simp)
    have hrf := run_full c r
    have hp : plainS neg (c :: r) = if letB c then (0, runS (c :: r)) else if digB c || (c == 45 && neg && decide (1 < runS (c :: r))) then (1, runS (c :: r)) else (3, signLen (c :: r)) := rfl
    cases h1 : letB c
    · simp only [h1, Bool.false_eq_true, if_false] at hp
      cases h2 : (digB c || (c == 45 && neg && decide (1 < runS (c :: r))))
      · -- a sign, or nothing
        simp only [h2, Bool.false_eq_true, if_false] at hp
        rw [hp]
        by_cases k0 : k = 0
        · subst k0
          show (_ && _ && ((3 : Int) == 0) && _) = (decide (1 ≤ (c :: r).length) && letB c && _ && _)
          rw [h1]; simp
        by_cases k1 : k = 1
        · subst k1
          show (_ && _ && ((3 : Int) == 1) && _) = (numeral (c :: r) && !(true && (c :: r).head? == some 45 && !neg))
          rw [show ((3 : Int) == 1) = false from rfl, Bool.and_false, Bool.false_and]
          cases hn : numeral (c :: r)
          · rfl
          · obtain ⟨_, hh⟩ := numeral_cons hn
            rcases hh with hh | ⟨hh, hx⟩
            · rw [hh] at h2; cases h2
            · rw [hh] at h2 ⊢
              have hd45 : digB 45 = false := by decide
              rw [hd45, Bool.false_or, next_run, hx, Bool.and_true] at h2
              have : neg = false := by simpa using h2
              rw [this]; rfl
        by_cases k3 : k = 3
        · subst k3
          show (decide (0 < signLen (c :: r)) && signLen (c :: r) == (c :: r).length && ((3 : Int) == 3) && _) = (((3 : Int) == 3) && decide (1 ≤ (c :: r).length) && signLen (c :: r) == (c :: r).length && _)
          rw [show (((3 : Nat) != 1) || numeral (c :: r)) = true from rfl, show ((3 : Int) == 3) = true from rfl, show (!(((3 : Int) == 1) && (c :: r).head? == some 45 && !neg)) = true from rfl]
          cases hs : signLen (c :: r) == (c :: r).length
          · simp
          · have := eq_of_beq hs
            rw [this]
            simp
        · have z0 : (k == 0) = false := by rw [beq_eq_false_iff_ne]; exact k0
          have z1 : (k == 1) = false := by rw [beq_eq_false_iff_ne]; exact k1
          have z3 : (k == 3) = false := by rw [beq_eq_false_iff_ne]; exact k3
          have z3' : (((3 : Nat) : Int) == k) = false := by rw [beq_eq_false_iff_ne]; omega
          rw [z0, z1, z3, z3']; simp
      · -- a number
        simp only [h2, if_true] at hp
        rw [hp]
        have hm : (digB c || c == 45) = true := by
          cases hd : digB c
          · rw [hd, Bool.false_or] at h2
            simp only [Bool.and_eq_true] at h2
            rw [h2.1.1]; rfl
          · rfl
        rw [after_dig h1 hm] at hrf
        by_cases k0 : k = 0
        · subst k0
          show (_ && _ && ((1 : Int) == 0) && _) = (decide (1 ≤ (c :: r).length) && letB c && _ && _)
          rw [h1]; simp
        by_cases k1 : k = 1
        · subst k1
          show (decide (0 < runS (c :: r)) && runS (c :: r) == (c :: r).length && ((1 : Int) == 1) && (((1 : Nat) != 1) || numeral (c :: r))) = (numeral (c :: r) && !(true && (c :: r).head? == some 45 && !neg))
          rw [hrf, decide_eq_true (show 0 < runS (c :: r) by omega), show ((1 : Int) == 1) = true from rfl, show (((1 : Nat) != 1) || numeral (c :: r)) = numeral (c :: r) from rfl, Bool.true_and, Bool.and_true]
          cases hn : numeral (c :: r)
          · rw [Bool.and_false, Bool.false_and]
          · obtain ⟨ha, _⟩ := numeral_cons hn
            rw [ha, Bool.true_and, Bool.true_and, Bool.true_and]
            cases hd : digB c
            · rw [hd, Bool.false_or] at h2
              simp only [Bool.and_eq_true] at h2
              rw [h2.1.2]; simp
            · have : ((c :: r).head? == some 45) = false := by
                rw [List.head?_cons, beq_eq_false_iff_ne]
                intro e
                injection e with e
                rw [e] at hd; revert hd; decide
              rw [this]; rfl
        by_cases k3 : k = 3
        · subst k3
          show (_ && _ && ((1 : Int) == 3) && _) = (((3 : Int) == 3) && decide (1 ≤ (c :: r).length) && signLen (c :: r) == (c :: r).length && _)
          have hs : (signLen (c :: r) == (c :: r).length) = false := by
            rw [beq_eq_false_iff_ne]
            cases hd : digB c
            · rw [hd, Bool.false_or] at h2
              simp only [Bool.and_eq_true] at h2
              have h45 := eq_of_beq h2.1.1
              have hx := h2.2
              rw [h45, next_run] at hx
              cases r with
              | nil => cases hx
              | cons e d =>
                have he : digB e = true := hx
                have h62 : (e == 62) = false := by
                  cases q : e == 62
                  · rfl
                  · rw [eq_of_beq q] at he; revert he; decide
                rw [h45]
                show (if ((45 : UInt8) == 61 && e == 61) || ((45 : UInt8) == 45 && e == 62) then 2 else if signs.contains 45 then 1 else 0) ≠ _
                rw [h62]
                show 1 ≠ d.length + 1 + 1
                omega
            · rw [sign_zero (dig_nosign hd)]
              simp
          rw [hs]; simp
        · have z0 : (k == 0) = false := by rw [beq_eq_false_iff_ne]; exact k0
          have z1 : (k == 1) = false := by rw [beq_eq_false_iff_ne]; exact k1
          have z3 : (k == 3) = false := by rw [beq_eq_false_iff_ne]; exact k3
          have z1' : (((1 : Nat) : Int) == k) = false := by rw [beq_eq_false_iff_ne]; omega
          rw [z0, z1, z3, z1']; simp
    · -- a word
      simp only [h1, if_true] at hp
      rw [hp]
      rw [after_let h1] at hrf
      have hok : okB c = true := by unfold okB; unfold letB at h1; rw [h1]; rfl
      by_cases k0 : k = 0
      · subst k0
        show (decide (0 < runS (c :: r)) && runS (c :: r) == (c :: r).length && ((0 : Int) == 0) && _) = (decide (1 ≤ (c :: r).length) && letB c && (c :: r).all okB && _)
        rw [hrf, decide_eq_true (show 0 < runS (c :: r) by omega), h1, List.all_cons, hok]
        simp
      have hnum : numeral (c :: r) = false := by
        cases hn : numeral (c :: r)
        · rfl
        · obtain ⟨_, hh⟩ := numeral_cons hn
          rcases hh with hh | ⟨hh, _⟩
          · rw [let_dig hh] at h1; cases h1
          · rw [hh] at h1; revert h1; decide
      have hs : (signLen (c :: r) == (c :: r).length) = false := by
        rw [sign_zero (let_nosign h1)]; simp
      have z0' : (((0 : Nat) : Int) == k) = false := by rw [beq_eq_false_iff_ne]; omega
      have z0 : (k == 0) = false := by rw [beq_eq_false_iff_ne]; exact k0
      rw [z0, z0', hnum, hs]
      simp
end Go.Proofs.YtnanfmmafmcchaaGreatDoor
