/- Contracts of the program's plain, token. -/
import Derived.Test.YtnanfmmafmcchaaGreatDoorLxOwnF
import Derived.Test.YtnanfmmafmcchaaGreatDoorRef1
import Derived.Test.YtnanfmmafmcchaaGreatDoorPlain
namespace Go.Proofs.YtnanfmmafmcchaaGreatDoor
open Go.RowKit

/-- The kind of the word, number or sign that a text begins with, and how long it is. -/
def plainS (neg : Bool) : Str → Nat × Nat
  | [] => (0, 0)
  | c :: r =>
    if letB c then (0, runS (c :: r))
    else if digB c || (c == 45 && neg && decide (1 < runS (c :: r))) then (1, runS (c :: r))
    else (3, signLen (c :: r))

set_option maxHeartbeats 2000000 in
theorem ownPlain_any (s : ByteArray) (neg : Bool) (w : World) (hs : s.size ≤ 1100000) :
    Calls Tryz.prog 54 #[.string s, .bool neg] w fun e w' => e = .returned (.tuple #[.int .i64 ((plainS neg s.toList).1 : Nat), .int .i64 ((plainS neg s.toList).2 : Nat)]) ∧ Below w.heap.size w w' := by
  by_cases h0 : 0 < s.size
  · obtain ⟨e1, e2⟩ := list_empty_false (s := s) h0
    have d0 := lxDrop s 0 h0
    rw [List.drop_zero] at d0
    obtain ⟨n, hn⟩ : ∃ n, n = runS s.toList := ⟨_, rfl⟩
    have cr : ∀ W, Calls Tryz.prog 52 #[.string s] W fun e w' => e = .returned (.int .i64 (n : Nat)) ∧ Below W.heap.size W w' := fun W => by
      have h := ownRun_any s W h0 hs
      rw [← hn] at h
      exact h
    have CR := Lib.hid cr
    have HP : plainS neg s.toList = if letB s[0] then (0, n) else if digB s[0] || (s[0] == 45 && neg && decide (1 < n)) then (1, n) else (3, signLen s.toList) := by
      rw [hn]
      conv => lhs; rw [d0]
      conv => rhs; rw [d0]
      rfl
    have HP := Lib.hid HP
    have cl : ∀ W, Calls Tryz.prog 70 #[.int .u8 s[0].toNat] W fun e w' => e = .returned (.bool (letB s[0])) ∧ W = w' := fun W => ownLetter_any s[0].toNat W
    have cd : ∀ W, Calls Tryz.prog 71 #[.int .u8 s[0].toNat] W fun e w' => e = .returned (.bool (digB s[0])) ∧ W = w' := fun W => ownDigit_any s[0].toNat W
    have m45 : ((s[0].toNat : Int) == 45) = (s[0] == 45) := byte_is s[0] 45 (by omega)
    obtain ⟨sl, hsl⟩ : ∃ sl, sl = signLen s.toList := ⟨_, rfl⟩
    have cs : ∀ W, Calls Tryz.prog 72 #[.string s] W fun e w' => e = .returned (.int .i64 (sl : Nat)) ∧ w' = W := fun W => by
      have h := ownSign_any s W h0
      rw [← hsl] at h
      exact h
    have CS := Lib.hid cs
    rw [← hsl] at HP
    clear cr cs d0 hn hsl
    have b1 : decide ((1 : Int) < (n : Int)) = decide (1 < n) := by rw [decide_eq_decide]; omega
    cases h1 : letB s[0]
    · rw [h1] at cl HP
      have CL := Lib.hid cl
      cases h2 : digB s[0]
      · rw [h2] at cd HP
        have CD := Lib.hid cd
        clear cl cd h1 h2
        cases h3 : (s[0] == 45)
        · rw [h3] at m45 HP
          have HF := Lib.hid (show plainS neg s.toList = (3, sl) from HP.out)
          clear h3 HP b1
          go_enter Tryz.func54, Tryz.ntmps54
          go_wp2_with (first
            | (go_at_call 52; (with_reducible refine (CR.out _).mono ?_); rintro e w1 ⟨rfl, hb1⟩)
            | (go_at_call 70; (with_reducible refine (CL.out _).mono ?_); rintro e w2 ⟨rfl, rfl⟩)
            | (go_at_call 71; (with_reducible refine (CD.out _).mono ?_); rintro e w2 ⟨rfl, rfl⟩)
            | (go_at_call 72; (with_reducible refine (CS.out _).mono ?_); rintro e w2 ⟨rfl, rfl⟩)
            | fail)
          go_ret2
          rw [HF.out]
          exact ⟨rfl, hb1⟩
        · rw [h3] at m45 HP
          cases neg
          · have HF := Lib.hid (show plainS false s.toList = (3, sl) from HP.out)
            clear h3 HP b1
            go_enter Tryz.func54, Tryz.ntmps54
            go_wp2_with (first
              | (go_at_call 52; (with_reducible refine (CR.out _).mono ?_); rintro e w1 ⟨rfl, hb1⟩)
              | (go_at_call 70; (with_reducible refine (CL.out _).mono ?_); rintro e w2 ⟨rfl, rfl⟩)
              | (go_at_call 71; (with_reducible refine (CD.out _).mono ?_); rintro e w2 ⟨rfl, rfl⟩)
              | (go_at_call 72; (with_reducible refine (CS.out _).mono ?_); rintro e w2 ⟨rfl, rfl⟩)
              | fail)
            go_ret2
            rw [HF.out]
            exact ⟨rfl, hb1⟩
          · cases h4 : decide (1 < n)
            · rw [h4] at b1 HP
              have HF := Lib.hid (show plainS true s.toList = (3, sl) from HP.out)
              clear h3 h4 HP
              go_enter Tryz.func54, Tryz.ntmps54
              go_wp2_with (first
                | (go_at_call 52; (with_reducible refine (CR.out _).mono ?_); rintro e w1 ⟨rfl, hb1⟩)
                | (go_at_call 70; (with_reducible refine (CL.out _).mono ?_); rintro e w2 ⟨rfl, rfl⟩)
                | (go_at_call 71; (with_reducible refine (CD.out _).mono ?_); rintro e w2 ⟨rfl, rfl⟩)
                | (go_at_call 72; (with_reducible refine (CS.out _).mono ?_); rintro e w2 ⟨rfl, rfl⟩)
                | fail)
              go_ret2
              rw [HF.out]
              exact ⟨rfl, hb1⟩
            · rw [h4] at b1 HP
              have HF := Lib.hid (show plainS true s.toList = (1, n) from HP.out)
              clear h3 h4 HP
              go_enter Tryz.func54, Tryz.ntmps54
              go_wp2_with (first
                | (go_at_call 52; (with_reducible refine (CR.out _).mono ?_); rintro e w1 ⟨rfl, hb1⟩)
                | (go_at_call 70; (with_reducible refine (CL.out _).mono ?_); rintro e w2 ⟨rfl, rfl⟩)
                | (go_at_call 71; (with_reducible refine (CD.out _).mono ?_); rintro e w2 ⟨rfl, rfl⟩)
                | fail)
              go_ret2
              rw [HF.out]
              exact ⟨rfl, hb1⟩
      · rw [h2] at cd HP
        have CD := Lib.hid cd
        have HF := Lib.hid (show plainS neg s.toList = (1, n) from HP.out)
        clear cl cd h1 h2 HP b1 m45
        go_enter Tryz.func54, Tryz.ntmps54
        go_wp2_with (first
          | (go_at_call 52; (with_reducible refine (CR.out _).mono ?_); rintro e w1 ⟨rfl, hb1⟩)
          | (go_at_call 70; (with_reducible refine (CL.out _).mono ?_); rintro e w2 ⟨rfl, rfl⟩)
          | (go_at_call 71; (with_reducible refine (CD.out _).mono ?_); rintro e w2 ⟨rfl, rfl⟩)
          | fail)
        go_ret2
        rw [HF.out]
        exact ⟨rfl, hb1⟩
    · rw [h1] at cl HP
      have CL := Lib.hid cl
      have HF := Lib.hid (show plainS neg s.toList = (0, n) from HP.out)
      clear cl cd h1 HP b1 m45
      go_enter Tryz.func54, Tryz.ntmps54
      go_wp2_with (first
        | (go_at_call 52; (with_reducible refine (CR.out _).mono ?_); rintro e w1 ⟨rfl, hb1⟩)
        | (go_at_call 70; (with_reducible refine (CL.out _).mono ?_); rintro e w2 ⟨rfl, rfl⟩)
        | fail)
      go_ret2
      rw [HF.out]
      exact ⟨rfl, hb1⟩
  · have el : s.toList = [] := List.eq_nil_of_length_eq_zero (by rw [lxLen]; omega)
    have e1 : (s.toList == []) = true := by rw [el]; rfl
    have e2 : s.toList.isEmpty = true := by rw [el]; rfl
    have HF := Lib.hid (show plainS neg s.toList = (0, 0) by rw [el]; rfl)
    clear el
    go_enter Tryz.func54, Tryz.ntmps54
    go_wp2
    go_ret2
    rw [HF.out]
    exact ⟨rfl, Below.refl _ _⟩

/-! ### From plain to the plain lexer -/
theorem run_take (c : UInt8) (r : Str) : (c :: r).take (runS (c :: r)) = c :: r.takeWhile (mayAfter c) := by
  show (c :: r).take (1 + _) = _
  rw [Nat.add_comm, List.take_succ_cons]
  congr 1
  have h := List.takeWhile_append_dropWhile (p := mayAfter c) (l := r)
  have h2 : (r.takeWhile (mayAfter c) ++ r.dropWhile (mayAfter c)).take (r.takeWhile (mayAfter c)).length = r.takeWhile (mayAfter c) := List.take_left' rfl
  rw [h] at h2
  exact h2
theorem after_let {c : UInt8} (h : letB c = true) : mayAfter c = okB := by unfold mayAfter; rw [h]; rfl
theorem after_dig {c : UInt8} (h1 : letB c = false) (h : (digB c || c == 45) = true) : mayAfter c = digB := by unfold mayAfter; rw [h1, h]; rfl
theorem next_run (r : Str) : decide (1 < runS (45 :: r)) = nextDig r := by
  show decide (1 < 1 + (r.takeWhile (mayAfter 45)).length) = _
  rw [after_dig (c := 45) rfl rfl]
  cases r with
  | nil => rfl
  | cons d t =>
    show _ = digB d
    cases h : digB d
    · rw [List.takeWhile_cons_of_neg (by rw [h]; simp)]; rfl
    · rw [List.takeWhile_cons_of_pos h, List.length_cons]
      exact decide_eq_true (by omega)
theorem digits_run {c : UInt8} {r : Str} (h : (digB c || (c == 45 && nextDig r)) = true) : digitsS (c :: r.takeWhile digB) := by
  cases hd : digB c
  · rw [hd, Bool.false_or, Bool.and_eq_true] at h
    obtain ⟨h1, h2⟩ := h
    cases r with
    | nil => cases h2
    | cons d t =>
      have hd2 : digB d = true := h2
      rw [List.takeWhile_cons_of_pos hd2]
      exact ⟨true, d, t.takeWhile digB, by rw [eq_of_beq h1]; rfl, hd2, all_take t⟩
  · exact ⟨false, c, r.takeWhile digB, rfl, hd, all_take r⟩

/-- The plain lexer's one step, by plain and canonical. -/
theorem tok1_plain (after : Bool) (c : UInt8) (r : Str) (h34 : (c == 34) = false) :
    tok1 after (c :: r) =
      let p := plainS (!after) (c :: r)
      if p.2 = 0 then .error 201
      else if p.1 = 1 ∧ numeral ((c :: r).take p.2) = false then .error 202
      else .ok (p.1, (c :: r).take p.2, (c :: r).drop p.2) := by
  unfold tok1 plainS
  dsimp only
  cases h1 : letB c
  · simp only [Bool.false_eq_true, if_false]
    have hcond : (c == 45 && !after && decide (1 < runS (c :: r))) = (c == 45 && !after && nextDig r) := by
      cases h : (c == 45)
      · rfl
      · rw [eq_of_beq h, next_run]
    rw [hcond]
    cases h2 : (digB c || (c == 45 && !after && nextDig r))
    · simp only [Bool.false_eq_true, if_false, h34]
      by_cases h0 : signLen (c :: r) = 0
      · rw [if_pos h0, if_pos h0]
      · rw [if_neg h0, if_neg h0, if_neg (fun h => by cases h.1)]
    · simp only [if_true]
      have hm : (digB c || c == 45) = true := by
        cases hd : digB c
        · rw [hd, Bool.false_or] at h2
          simp only [Bool.and_eq_true] at h2
          rw [h2.1.1]; rfl
        · rfl
      have ha := after_dig h1 hm
      rw [run_take, run_drop, ha]
      rw [if_neg (show ¬ runS (c :: r) = 0 from Nat.pos_iff_ne_zero.1 (runS_pos (by simp)))]
      cases hn : numeral (c :: r.takeWhile digB)
      · rfl
      · rfl
  · simp only [if_true]
    rw [run_take, run_drop, after_let h1]
    rw [if_neg (show ¬ runS (c :: r) = 0 from Nat.pos_iff_ne_zero.1 (runS_pos (by simp))), if_neg (fun h => by cases h.1)]
    have hok : okB c = true := by unfold okB; unfold letB at h1; rw [h1]; rfl
    rw [List.takeWhile_cons_of_pos hok, List.dropWhile_cons_of_pos hok]
theorem plain_le (neg : Bool) : ∀ s : Str, (plainS neg s).2 ≤ s.length
  | [] => Nat.le_refl _
  | c :: r => by
    unfold plainS
    dsimp only
    split
    · exact runS_le (c :: r)
    · split
      · exact runS_le (c :: r)
      · exact sign_le (c :: r)
/-- Where plain says a number, the text is digits, or a minus and digits. -/
theorem plain_digits {neg : Bool} {c : UInt8} {r : Str} (h : (plainS neg (c :: r)).1 = 1) : digitsS ((c :: r).take (plainS neg (c :: r)).2) := by
  unfold plainS at h ⊢
  dsimp only at h ⊢
  split at h
  · cases h
  · rename_i h1
    split at h
    · rename_i h2
      rw [if_neg h1, if_pos h2]
      have h1' : letB c = false := by simpa using h1
      have h3 : (digB c || (c == 45 && nextDig r)) = true := by
        cases hd : digB c
        · rw [hd, Bool.false_or, Bool.and_eq_true, Bool.and_eq_true] at h2
          have h45 := h2.1.1
          have := h2.2
          rw [eq_of_beq h45, next_run] at this
          rw [h45, this]; rfl
        · rfl
      have hm : (digB c || c == 45) = true := by
        cases hd : digB c
        · rw [hd, Bool.false_or, Bool.and_eq_true] at h3
          rw [h3.1]; rfl
        · rfl
      show digitsS ((c :: r).take (runS (c :: r)))
      rw [run_take, after_dig h1' hm]
      exact digits_run h3
    · cases h
end Go.Proofs.YtnanfmmafmcchaaGreatDoor
