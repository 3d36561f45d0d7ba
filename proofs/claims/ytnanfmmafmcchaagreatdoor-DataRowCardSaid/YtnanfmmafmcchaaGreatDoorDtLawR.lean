/- The law DataRow returns true, whatever its values. -/
import Derived.Test.YtnanfmmafmcchaaGreatDoorDtBox
import Derived.BigQuiet
namespace Go.Proofs.YtnanfmmafmcchaaGreatDoor
open Go.RowKit

theorem row_ways (a b c : Val) : sameV a a = true ∧ lessV a a = false ∧ ((lessV a b = true ∧ lessV b a = false ∧ sameV a b = false ∧ (lessV b c = false ∨ (lessV b c = true ∧ lessV a c = true))) ∨ (lessV a b = false ∧ lessV b a = false ∧ sameV a b = true) ∨ (lessV a b = false ∧ lessV b a = true ∧ sameV a b = false)) := by
  have R := ranks_vals
  have ne : ∀ {x y : Val}, lessV x y = true → sameV x y = false := fun {x y} h => by
    cases h3 : sameV x y
    · rfl
    · rw [sameV_iff] at h3; subst h3; rw [R.irr] at h; cases h
  have no : ∀ {x y : Val}, lessV x y = true → lessV y x = false := fun {x y} h => by
    cases h3 : lessV y x
    · rfl
    · have := R.tr _ _ _ h h3; rw [R.irr] at this; cases this
  refine ⟨sameV_iff.2 rfl, R.irr a, ?_⟩
  rcases R.tri a b with h | h | h
  · refine .inl ⟨h, no h, ne h, ?_⟩
    cases h5 : lessV b c
    · exact .inl rfl
    · exact .inr ⟨rfl, R.tr _ _ _ h h5⟩
  · subst h
    exact .inr (.inl ⟨R.irr a, R.irr a, sameV_iff.2 rfl⟩)
  · refine .inr (.inr ⟨no h, h, ?_⟩)
    have := ne h
    cases h3 : sameV a b
    · rfl
    · rw [sameV_iff] at h3; subst h3; rw [R.irr] at h; cases h

set_option maxHeartbeats 8000000 in
set_option maxRecDepth 20000 in
theorem dataRow_walk (k x : Int) (s : ByteArray) (a : Option Addr) (n c : Nat) (l : List Int) (k1 x1 : Int) (s1 : ByteArray) (a1 : Option Addr) (n1 c1 : Nat) (l1 : List Int) (k2 x2 : Int) (s2 : ByteArray) (a2 : Option Addr) (n2 c2 : Nat) (l2 : List Int) (w : World) (h0 : Nums w w.heap.size a n l) (h1 : Nums w w.heap.size a1 n1 l1) (h2 : Nums w w.heap.size a2 n2 l2) (hm : Met w) :
    Calls Tryz.prog 5 #[.agg #[.int .i64 k, .int .i64 x, .string s, .slice a n c], .agg #[.int .i64 k1, .int .i64 x1, .string s1, .slice a1 n1 c1], .agg #[.int .i64 k2, .int .i64 x2, .string s2, .slice a2 n2 c2]] w fun e w' => e = .returned (.bool true) ∧ Below w.heap.size w w' := by
  have HM := Lib.hid hm
  have HB0 := Lib.hid ((((Below.refl w.heap.size w).alloc (Nat.le_refl _) (.cells #[.int .i64 k, .int .i64 x, .string s, .slice a n c] 24)).alloc (by simp) (.cells #[.int .i64 k1, .int .i64 x1, .string s1, .slice a1 n1 c1] 24)).alloc (by simp <;> omega) (.cells #[.int .i64 k2, .int .i64 x2, .string s2, .slice a2 n2 c2] 24))
  have HX0 := Lib.hid (show Box (((w.alloc (.cells #[.int .i64 k, .int .i64 x, .string s, .slice a n c] 24)).alloc (.cells #[.int .i64 k1, .int .i64 x1, .string s1, .slice a1 n1 c1] 24)).alloc (.cells #[.int .i64 k2, .int .i64 x2, .string s2, .slice a2 n2 c2] 24)) w.heap.size k x s a n c from ((Box.new w _ rfl _ _ _ _ _ _).alloc _).alloc _)
  have HX1 := Lib.hid (show Box (((w.alloc (.cells #[.int .i64 k, .int .i64 x, .string s, .slice a n c] 24)).alloc (.cells #[.int .i64 k1, .int .i64 x1, .string s1, .slice a1 n1 c1] 24)).alloc (.cells #[.int .i64 k2, .int .i64 x2, .string s2, .slice a2 n2 c2] 24)) (w.heap.size + 1) k1 x1 s1 a1 n1 c1 from (Box.new _ _ (by simp) _ _ _ _ _ _).alloc _)
  have HX2 := Lib.hid (show Box (((w.alloc (.cells #[.int .i64 k, .int .i64 x, .string s, .slice a n c] 24)).alloc (.cells #[.int .i64 k1, .int .i64 x1, .string s1, .slice a1 n1 c1] 24)).alloc (.cells #[.int .i64 k2, .int .i64 x2, .string s2, .slice a2 n2 c2] 24)) (w.heap.size + 2) k2 x2 s2 a2 n2 c2 from Box.new _ _ (by simp) _ _ _ _ _ _)
  obtain ⟨A, hA⟩ : ∃ A : Val, A = ⟨k, x, s.toList, l⟩ := ⟨_, rfl⟩
  obtain ⟨B, hB⟩ : ∃ B : Val, B = ⟨k1, x1, s1.toList, l1⟩ := ⟨_, rfl⟩
  obtain ⟨C, hC⟩ : ∃ C : Val, C = ⟨k2, x2, s2.toList, l2⟩ := ⟨_, rfl⟩
  have clAB : ∀ W, Below w.heap.size w W → Calls Tryz.prog 15 #[.agg #[.int .i64 k, .int .i64 x, .string s, .slice a n c], .agg #[.int .i64 k1, .int .i64 x1, .string s1, .slice a1 n1 c1]] W fun e w' => e = .returned (.bool (lessV A B)) ∧ Below W.heap.size W w' := fun W hW => by
    rw [hA, hB]
    exact less_any k x s a n c l k1 x1 s1 a1 n1 c1 l1 W w.heap.size hW.size (h0.below hW) (h1.below hW)
  have clBA : ∀ W, Below w.heap.size w W → Calls Tryz.prog 15 #[.agg #[.int .i64 k1, .int .i64 x1, .string s1, .slice a1 n1 c1], .agg #[.int .i64 k, .int .i64 x, .string s, .slice a n c]] W fun e w' => e = .returned (.bool (lessV B A)) ∧ Below W.heap.size W w' := fun W hW => by
    rw [hB, hA]
    exact less_any k1 x1 s1 a1 n1 c1 l1 k x s a n c l W w.heap.size hW.size (h1.below hW) (h0.below hW)
  have csAB : ∀ W, Below w.heap.size w W → Calls Tryz.prog 13 #[.agg #[.int .i64 k, .int .i64 x, .string s, .slice a n c], .agg #[.int .i64 k1, .int .i64 x1, .string s1, .slice a1 n1 c1]] W fun e w' => e = .returned (.bool (sameV A B)) ∧ Below W.heap.size W w' := fun W hW => by
    rw [hA, hB]
    exact same_any k x s a n c l k1 x1 s1 a1 n1 c1 l1 W w.heap.size hW.size (h0.below hW) (h1.below hW)
  have csAA : ∀ W, Below w.heap.size w W → Calls Tryz.prog 13 #[.agg #[.int .i64 k, .int .i64 x, .string s, .slice a n c], .agg #[.int .i64 k, .int .i64 x, .string s, .slice a n c]] W fun e w' => e = .returned (.bool (sameV A A)) ∧ Below W.heap.size W w' := fun W hW => by
    rw [hA]
    exact same_any k x s a n c l k x s a n c l W w.heap.size hW.size (h0.below hW) (h0.below hW)
  have clAA : ∀ W, Below w.heap.size w W → Calls Tryz.prog 15 #[.agg #[.int .i64 k, .int .i64 x, .string s, .slice a n c], .agg #[.int .i64 k, .int .i64 x, .string s, .slice a n c]] W fun e w' => e = .returned (.bool (lessV A A)) ∧ Below W.heap.size W w' := fun W hW => by
    rw [hA]
    exact less_any k x s a n c l k x s a n c l W w.heap.size hW.size (h0.below hW) (h0.below hW)
  have clBC : ∀ W, Below w.heap.size w W → Calls Tryz.prog 15 #[.agg #[.int .i64 k1, .int .i64 x1, .string s1, .slice a1 n1 c1], .agg #[.int .i64 k2, .int .i64 x2, .string s2, .slice a2 n2 c2]] W fun e w' => e = .returned (.bool (lessV B C)) ∧ Below W.heap.size W w' := fun W hW => by
    rw [hB, hC]
    exact less_any k1 x1 s1 a1 n1 c1 l1 k2 x2 s2 a2 n2 c2 l2 W w.heap.size hW.size (h1.below hW) (h2.below hW)
  have clAC : ∀ W, Below w.heap.size w W → Calls Tryz.prog 15 #[.agg #[.int .i64 k, .int .i64 x, .string s, .slice a n c], .agg #[.int .i64 k2, .int .i64 x2, .string s2, .slice a2 n2 c2]] W fun e w' => e = .returned (.bool (lessV A C)) ∧ Below W.heap.size W w' := fun W hW => by
    rw [hA, hC]
    exact less_any k x s a n c l k2 x2 s2 a2 n2 c2 l2 W w.heap.size hW.size (h0.below hW) (h2.below hW)
  obtain ⟨raa, rla, rows⟩ := row_ways A B C
  have CF := Lib.hid (dataFirst_any _ (HM.out.keep HB0.out))
  clear hm h0 h1 h2 hA hB hC
  by_cases g0 : n ≤ 40
  · by_cases g1 : n1 ≤ 40
    · by_cases g2 : n2 ≤ 40
      · have b0 : decide ((40 : Int) < (n : Int)) = false := decide_eq_false (by omega)
        have d0 : decide (40 < n) = false := decide_eq_false (by omega)
        have b1 : decide ((40 : Int) < (n1 : Int)) = false := decide_eq_false (by omega)
        have d1 : decide (40 < n1) = false := decide_eq_false (by omega)
        have b2 : decide ((40 : Int) < (n2 : Int)) = false := decide_eq_false (by omega)
        have d2 : decide (40 < n2) = false := decide_eq_false (by omega)
        rw [raa] at csAA
        rw [rla] at clAA
        have CSAA := Lib.hid csAA
        have CLAA := Lib.hid clAA
        rcases rows with ⟨e1, e2, e3, e4⟩ | ⟨e1, e2, e3⟩ | ⟨e1, e2, e3⟩
        · rcases e4 with e4 | ⟨e4, e5⟩
          · rw [e1] at clAB
            rw [e2] at clBA
            rw [e3] at csAB
            have CAB := Lib.hid clAB
            have CBA := Lib.hid clBA
            have CSAB := Lib.hid csAB
            rw [e4] at clBC
            have CBC := Lib.hid clBC
            clear e4
            clear clAB clBA csAB csAA clAA clBC clAC raa rla e1 e2 e3
            go_enter Tryz.func5, Tryz.ntmps5
            go_wp2_with (first
              | (go_at_call 8; (with_reducible refine CF.out.mono ?_)
                 rintro e w1 ⟨rfl, hb1⟩
                 have HB := Lib.hid (HB0.out.trans (hb1.mono HB0.out.size))
                 have HX0 := Lib.hid (HX0.out.next hb1)
                 have HX1 := Lib.hid (HX1.out.next hb1)
                 have HX2 := Lib.hid (HX2.out.next hb1)
                 obtain ⟨z0, p0, q0, r0, t0⟩ := HX0.out
                 obtain ⟨z1, p1, q1, r1, t1⟩ := HX1.out
                 obtain ⟨z2, p2, q2, r2, t2⟩ := HX2.out
                 clear hb1)
              | fail)
            go_region_held3 (fun W => (W.cell? ⟨w.heap.size, 0, none⟩ = some (.int .i64 k) ∧ W.cell? ⟨w.heap.size, 1, none⟩ = some (.int .i64 x) ∧ W.cell? ⟨w.heap.size, 2, none⟩ = some (.string s) ∧ W.cell? ⟨w.heap.size, 3, none⟩ = some (.slice a n c)) ∧ W.cell? ⟨(w.heap.size + 1), 0, none⟩ = some (.int .i64 k1) ∧ W.cell? ⟨(w.heap.size + 1), 1, none⟩ = some (.int .i64 x1) ∧ W.cell? ⟨(w.heap.size + 1), 2, none⟩ = some (.string s1) ∧ W.cell? ⟨(w.heap.size + 1), 3, none⟩ = some (.slice a1 n1 c1)) (exact ⟨⟨p0, q0, r0, t0⟩, p1, q1, r1, t1⟩) (first
              | (go_at_call 15; (with_reducible refine (CAB.out _ ?_).mono ?_)
                 · first | exact HB.out | exact HB.out.drew | exact below_drewN HB.out _
                 rintro e wn ⟨rfl, hbn⟩
                 have HX0 := Lib.hid (HX0.out.below (show Below _ _ wn from ⟨hbn.os, hbn.tape, hbn.output, hbn.size, hbn.block⟩) HX0.out.1)
                 have HX1 := Lib.hid (HX1.out.below (show Below _ _ wn from ⟨hbn.os, hbn.tape, hbn.output, hbn.size, hbn.block⟩) HX1.out.1)
                 have HX2 := Lib.hid (HX2.out.below (show Below _ _ wn from ⟨hbn.os, hbn.tape, hbn.output, hbn.size, hbn.block⟩) HX2.out.1)
                 have HB := Lib.hid (show Below w.heap.size w wn from below_next HB.out ⟨hbn.os, hbn.tape, hbn.output, hbn.size, hbn.block⟩)
                 obtain ⟨z0, p0, q0, r0, t0⟩ := HX0.out
                 obtain ⟨z1, p1, q1, r1, t1⟩ := HX1.out
                 obtain ⟨z2, p2, q2, r2, t2⟩ := HX2.out
                 clear hbn)
              | (go_at_call 15; (with_reducible refine (CBA.out _ ?_).mono ?_)
                 · first | exact HB.out | exact HB.out.drew | exact below_drewN HB.out _
                 rintro e wn ⟨rfl, hbn⟩
                 have HX0 := Lib.hid (HX0.out.below (show Below _ _ wn from ⟨hbn.os, hbn.tape, hbn.output, hbn.size, hbn.block⟩) HX0.out.1)
                 have HX1 := Lib.hid (HX1.out.below (show Below _ _ wn from ⟨hbn.os, hbn.tape, hbn.output, hbn.size, hbn.block⟩) HX1.out.1)
                 have HX2 := Lib.hid (HX2.out.below (show Below _ _ wn from ⟨hbn.os, hbn.tape, hbn.output, hbn.size, hbn.block⟩) HX2.out.1)
                 have HB := Lib.hid (show Below w.heap.size w wn from below_next HB.out ⟨hbn.os, hbn.tape, hbn.output, hbn.size, hbn.block⟩)
                 obtain ⟨z0, p0, q0, r0, t0⟩ := HX0.out
                 obtain ⟨z1, p1, q1, r1, t1⟩ := HX1.out
                 obtain ⟨z2, p2, q2, r2, t2⟩ := HX2.out
                 clear hbn)
              | fail)
            all_goals
              go_wp2_with (first
                | (go_at_call 13; (with_reducible refine (CSAB.out _ ?_).mono ?_)
                   · first | exact HB.out | exact HB.out.drew | exact below_drewN HB.out _
                   rintro e wn ⟨rfl, hbn⟩
                   have HX0 := Lib.hid (HX0.out.below (show Below _ _ wn from ⟨hbn.os, hbn.tape, hbn.output, hbn.size, hbn.block⟩) HX0.out.1)
                   have HX1 := Lib.hid (HX1.out.below (show Below _ _ wn from ⟨hbn.os, hbn.tape, hbn.output, hbn.size, hbn.block⟩) HX1.out.1)
                   have HX2 := Lib.hid (HX2.out.below (show Below _ _ wn from ⟨hbn.os, hbn.tape, hbn.output, hbn.size, hbn.block⟩) HX2.out.1)
                   have HB := Lib.hid (show Below w.heap.size w wn from below_next HB.out ⟨hbn.os, hbn.tape, hbn.output, hbn.size, hbn.block⟩)
                   obtain ⟨z0, p0, q0, r0, t0⟩ := HX0.out
                   obtain ⟨z1, p1, q1, r1, t1⟩ := HX1.out
                   obtain ⟨z2, p2, q2, r2, t2⟩ := HX2.out
                   clear hbn)
                | (go_at_call 13; (with_reducible refine (CSAA.out _ ?_).mono ?_)
                   · first | exact HB.out | exact HB.out.drew | exact below_drewN HB.out _
                   rintro e wn ⟨rfl, hbn⟩
                   have HX0 := Lib.hid (HX0.out.below (show Below _ _ wn from ⟨hbn.os, hbn.tape, hbn.output, hbn.size, hbn.block⟩) HX0.out.1)
                   have HX1 := Lib.hid (HX1.out.below (show Below _ _ wn from ⟨hbn.os, hbn.tape, hbn.output, hbn.size, hbn.block⟩) HX1.out.1)
                   have HX2 := Lib.hid (HX2.out.below (show Below _ _ wn from ⟨hbn.os, hbn.tape, hbn.output, hbn.size, hbn.block⟩) HX2.out.1)
                   have HB := Lib.hid (show Below w.heap.size w wn from below_next HB.out ⟨hbn.os, hbn.tape, hbn.output, hbn.size, hbn.block⟩)
                   obtain ⟨z0, p0, q0, r0, t0⟩ := HX0.out
                   obtain ⟨z1, p1, q1, r1, t1⟩ := HX1.out
                   obtain ⟨z2, p2, q2, r2, t2⟩ := HX2.out
                   clear hbn)
                | (go_at_call 15; (with_reducible refine (CLAA.out _ ?_).mono ?_)
                   · first | exact HB.out | exact HB.out.drew | exact below_drewN HB.out _
                   rintro e wn ⟨rfl, hbn⟩
                   have HX0 := Lib.hid (HX0.out.below (show Below _ _ wn from ⟨hbn.os, hbn.tape, hbn.output, hbn.size, hbn.block⟩) HX0.out.1)
                   have HX1 := Lib.hid (HX1.out.below (show Below _ _ wn from ⟨hbn.os, hbn.tape, hbn.output, hbn.size, hbn.block⟩) HX1.out.1)
                   have HX2 := Lib.hid (HX2.out.below (show Below _ _ wn from ⟨hbn.os, hbn.tape, hbn.output, hbn.size, hbn.block⟩) HX2.out.1)
                   have HB := Lib.hid (show Below w.heap.size w wn from below_next HB.out ⟨hbn.os, hbn.tape, hbn.output, hbn.size, hbn.block⟩)
                   obtain ⟨z0, p0, q0, r0, t0⟩ := HX0.out
                   obtain ⟨z1, p1, q1, r1, t1⟩ := HX1.out
                   obtain ⟨z2, p2, q2, r2, t2⟩ := HX2.out
                   clear hbn)
                | (go_at_call 15; (with_reducible refine (CBC.out _ ?_).mono ?_)
                   · first | exact HB.out | exact HB.out.drew | exact below_drewN HB.out _
                   rintro e wn ⟨rfl, hbn⟩
                   have HX0 := Lib.hid (HX0.out.below (show Below _ _ wn from ⟨hbn.os, hbn.tape, hbn.output, hbn.size, hbn.block⟩) HX0.out.1)
                   have HX1 := Lib.hid (HX1.out.below (show Below _ _ wn from ⟨hbn.os, hbn.tape, hbn.output, hbn.size, hbn.block⟩) HX1.out.1)
                   have HX2 := Lib.hid (HX2.out.below (show Below _ _ wn from ⟨hbn.os, hbn.tape, hbn.output, hbn.size, hbn.block⟩) HX2.out.1)
                   have HB := Lib.hid (show Below w.heap.size w wn from below_next HB.out ⟨hbn.os, hbn.tape, hbn.output, hbn.size, hbn.block⟩)
                   obtain ⟨z0, p0, q0, r0, t0⟩ := HX0.out
                   obtain ⟨z1, p1, q1, r1, t1⟩ := HX1.out
                   obtain ⟨z2, p2, q2, r2, t2⟩ := HX2.out
                   clear hbn)
                | fail)
              go_ret
              exact ⟨rfl, HB.out⟩
          · rw [e1] at clAB
            rw [e2] at clBA
            rw [e3] at csAB
            have CAB := Lib.hid clAB
            have CBA := Lib.hid clBA
            have CSAB := Lib.hid csAB
            rw [e4] at clBC
            rw [e5] at clAC
            have CBC := Lib.hid clBC
            have CAC := Lib.hid clAC
            clear e4 e5
            clear clAB clBA csAB csAA clAA clBC clAC raa rla e1 e2 e3
            go_enter Tryz.func5, Tryz.ntmps5
            go_wp2_with (first
              | (go_at_call 8; (with_reducible refine CF.out.mono ?_)
                 rintro e w1 ⟨rfl, hb1⟩
                 have HB := Lib.hid (HB0.out.trans (hb1.mono HB0.out.size))
                 have HX0 := Lib.hid (HX0.out.next hb1)
                 have HX1 := Lib.hid (HX1.out.next hb1)
                 have HX2 := Lib.hid (HX2.out.next hb1)
                 obtain ⟨z0, p0, q0, r0, t0⟩ := HX0.out
                 obtain ⟨z1, p1, q1, r1, t1⟩ := HX1.out
                 obtain ⟨z2, p2, q2, r2, t2⟩ := HX2.out
                 clear hb1)
              | fail)
            go_region_held3 (fun W => (W.cell? ⟨w.heap.size, 0, none⟩ = some (.int .i64 k) ∧ W.cell? ⟨w.heap.size, 1, none⟩ = some (.int .i64 x) ∧ W.cell? ⟨w.heap.size, 2, none⟩ = some (.string s) ∧ W.cell? ⟨w.heap.size, 3, none⟩ = some (.slice a n c)) ∧ W.cell? ⟨(w.heap.size + 1), 0, none⟩ = some (.int .i64 k1) ∧ W.cell? ⟨(w.heap.size + 1), 1, none⟩ = some (.int .i64 x1) ∧ W.cell? ⟨(w.heap.size + 1), 2, none⟩ = some (.string s1) ∧ W.cell? ⟨(w.heap.size + 1), 3, none⟩ = some (.slice a1 n1 c1)) (exact ⟨⟨p0, q0, r0, t0⟩, p1, q1, r1, t1⟩) (first
              | (go_at_call 15; (with_reducible refine (CAB.out _ ?_).mono ?_)
                 · first | exact HB.out | exact HB.out.drew | exact below_drewN HB.out _
                 rintro e wn ⟨rfl, hbn⟩
                 have HX0 := Lib.hid (HX0.out.below (show Below _ _ wn from ⟨hbn.os, hbn.tape, hbn.output, hbn.size, hbn.block⟩) HX0.out.1)
                 have HX1 := Lib.hid (HX1.out.below (show Below _ _ wn from ⟨hbn.os, hbn.tape, hbn.output, hbn.size, hbn.block⟩) HX1.out.1)
                 have HX2 := Lib.hid (HX2.out.below (show Below _ _ wn from ⟨hbn.os, hbn.tape, hbn.output, hbn.size, hbn.block⟩) HX2.out.1)
                 have HB := Lib.hid (show Below w.heap.size w wn from below_next HB.out ⟨hbn.os, hbn.tape, hbn.output, hbn.size, hbn.block⟩)
                 obtain ⟨z0, p0, q0, r0, t0⟩ := HX0.out
                 obtain ⟨z1, p1, q1, r1, t1⟩ := HX1.out
                 obtain ⟨z2, p2, q2, r2, t2⟩ := HX2.out
                 clear hbn)
              | (go_at_call 15; (with_reducible refine (CBA.out _ ?_).mono ?_)
                 · first | exact HB.out | exact HB.out.drew | exact below_drewN HB.out _
                 rintro e wn ⟨rfl, hbn⟩
                 have HX0 := Lib.hid (HX0.out.below (show Below _ _ wn from ⟨hbn.os, hbn.tape, hbn.output, hbn.size, hbn.block⟩) HX0.out.1)
                 have HX1 := Lib.hid (HX1.out.below (show Below _ _ wn from ⟨hbn.os, hbn.tape, hbn.output, hbn.size, hbn.block⟩) HX1.out.1)
                 have HX2 := Lib.hid (HX2.out.below (show Below _ _ wn from ⟨hbn.os, hbn.tape, hbn.output, hbn.size, hbn.block⟩) HX2.out.1)
                 have HB := Lib.hid (show Below w.heap.size w wn from below_next HB.out ⟨hbn.os, hbn.tape, hbn.output, hbn.size, hbn.block⟩)
                 obtain ⟨z0, p0, q0, r0, t0⟩ := HX0.out
                 obtain ⟨z1, p1, q1, r1, t1⟩ := HX1.out
                 obtain ⟨z2, p2, q2, r2, t2⟩ := HX2.out
                 clear hbn)
              | fail)
            all_goals
              go_wp2_with (first
                | (go_at_call 13; (with_reducible refine (CSAB.out _ ?_).mono ?_)
                   · first | exact HB.out | exact HB.out.drew | exact below_drewN HB.out _
                   rintro e wn ⟨rfl, hbn⟩
                   have HX0 := Lib.hid (HX0.out.below (show Below _ _ wn from ⟨hbn.os, hbn.tape, hbn.output, hbn.size, hbn.block⟩) HX0.out.1)
                   have HX1 := Lib.hid (HX1.out.below (show Below _ _ wn from ⟨hbn.os, hbn.tape, hbn.output, hbn.size, hbn.block⟩) HX1.out.1)
                   have HX2 := Lib.hid (HX2.out.below (show Below _ _ wn from ⟨hbn.os, hbn.tape, hbn.output, hbn.size, hbn.block⟩) HX2.out.1)
                   have HB := Lib.hid (show Below w.heap.size w wn from below_next HB.out ⟨hbn.os, hbn.tape, hbn.output, hbn.size, hbn.block⟩)
                   obtain ⟨z0, p0, q0, r0, t0⟩ := HX0.out
                   obtain ⟨z1, p1, q1, r1, t1⟩ := HX1.out
                   obtain ⟨z2, p2, q2, r2, t2⟩ := HX2.out
                   clear hbn)
                | (go_at_call 13; (with_reducible refine (CSAA.out _ ?_).mono ?_)
                   · first | exact HB.out | exact HB.out.drew | exact below_drewN HB.out _
                   rintro e wn ⟨rfl, hbn⟩
                   have HX0 := Lib.hid (HX0.out.below (show Below _ _ wn from ⟨hbn.os, hbn.tape, hbn.output, hbn.size, hbn.block⟩) HX0.out.1)
                   have HX1 := Lib.hid (HX1.out.below (show Below _ _ wn from ⟨hbn.os, hbn.tape, hbn.output, hbn.size, hbn.block⟩) HX1.out.1)
                   have HX2 := Lib.hid (HX2.out.below (show Below _ _ wn from ⟨hbn.os, hbn.tape, hbn.output, hbn.size, hbn.block⟩) HX2.out.1)
                   have HB := Lib.hid (show Below w.heap.size w wn from below_next HB.out ⟨hbn.os, hbn.tape, hbn.output, hbn.size, hbn.block⟩)
                   obtain ⟨z0, p0, q0, r0, t0⟩ := HX0.out
                   obtain ⟨z1, p1, q1, r1, t1⟩ := HX1.out
                   obtain ⟨z2, p2, q2, r2, t2⟩ := HX2.out
                   clear hbn)
                | (go_at_call 15; (with_reducible refine (CLAA.out _ ?_).mono ?_)
                   · first | exact HB.out | exact HB.out.drew | exact below_drewN HB.out _
                   rintro e wn ⟨rfl, hbn⟩
                   have HX0 := Lib.hid (HX0.out.below (show Below _ _ wn from ⟨hbn.os, hbn.tape, hbn.output, hbn.size, hbn.block⟩) HX0.out.1)
                   have HX1 := Lib.hid (HX1.out.below (show Below _ _ wn from ⟨hbn.os, hbn.tape, hbn.output, hbn.size, hbn.block⟩) HX1.out.1)
                   have HX2 := Lib.hid (HX2.out.below (show Below _ _ wn from ⟨hbn.os, hbn.tape, hbn.output, hbn.size, hbn.block⟩) HX2.out.1)
                   have HB := Lib.hid (show Below w.heap.size w wn from below_next HB.out ⟨hbn.os, hbn.tape, hbn.output, hbn.size, hbn.block⟩)
                   obtain ⟨z0, p0, q0, r0, t0⟩ := HX0.out
                   obtain ⟨z1, p1, q1, r1, t1⟩ := HX1.out
                   obtain ⟨z2, p2, q2, r2, t2⟩ := HX2.out
                   clear hbn)
                | (go_at_call 15; (with_reducible refine (CBC.out _ ?_).mono ?_)
                   · first | exact HB.out | exact HB.out.drew | exact below_drewN HB.out _
                   rintro e wn ⟨rfl, hbn⟩
                   have HX0 := Lib.hid (HX0.out.below (show Below _ _ wn from ⟨hbn.os, hbn.tape, hbn.output, hbn.size, hbn.block⟩) HX0.out.1)
                   have HX1 := Lib.hid (HX1.out.below (show Below _ _ wn from ⟨hbn.os, hbn.tape, hbn.output, hbn.size, hbn.block⟩) HX1.out.1)
                   have HX2 := Lib.hid (HX2.out.below (show Below _ _ wn from ⟨hbn.os, hbn.tape, hbn.output, hbn.size, hbn.block⟩) HX2.out.1)
                   have HB := Lib.hid (show Below w.heap.size w wn from below_next HB.out ⟨hbn.os, hbn.tape, hbn.output, hbn.size, hbn.block⟩)
                   obtain ⟨z0, p0, q0, r0, t0⟩ := HX0.out
                   obtain ⟨z1, p1, q1, r1, t1⟩ := HX1.out
                   obtain ⟨z2, p2, q2, r2, t2⟩ := HX2.out
                   clear hbn)
                | (go_at_call 15; (with_reducible refine (CAC.out _ ?_).mono ?_)
                   · first | exact HB.out | exact HB.out.drew | exact below_drewN HB.out _
                   rintro e wn ⟨rfl, hbn⟩
                   have HX0 := Lib.hid (HX0.out.below (show Below _ _ wn from ⟨hbn.os, hbn.tape, hbn.output, hbn.size, hbn.block⟩) HX0.out.1)
                   have HX1 := Lib.hid (HX1.out.below (show Below _ _ wn from ⟨hbn.os, hbn.tape, hbn.output, hbn.size, hbn.block⟩) HX1.out.1)
                   have HX2 := Lib.hid (HX2.out.below (show Below _ _ wn from ⟨hbn.os, hbn.tape, hbn.output, hbn.size, hbn.block⟩) HX2.out.1)
                   have HB := Lib.hid (show Below w.heap.size w wn from below_next HB.out ⟨hbn.os, hbn.tape, hbn.output, hbn.size, hbn.block⟩)
                   obtain ⟨z0, p0, q0, r0, t0⟩ := HX0.out
                   obtain ⟨z1, p1, q1, r1, t1⟩ := HX1.out
                   obtain ⟨z2, p2, q2, r2, t2⟩ := HX2.out
                   clear hbn)
                | fail)
              go_ret
              exact ⟨rfl, HB.out⟩
        · rw [e1] at clAB
          rw [e2] at clBA
          rw [e3] at csAB
          have CAB := Lib.hid clAB
          have CBA := Lib.hid clBA
          have CSAB := Lib.hid csAB
          clear clAB clBA csAB csAA clAA clBC clAC raa rla e1 e2 e3
          go_enter Tryz.func5, Tryz.ntmps5
          go_wp2_with (first
            | (go_at_call 8; (with_reducible refine CF.out.mono ?_)
               rintro e w1 ⟨rfl, hb1⟩
               have HB := Lib.hid (HB0.out.trans (hb1.mono HB0.out.size))
               have HX0 := Lib.hid (HX0.out.next hb1)
               have HX1 := Lib.hid (HX1.out.next hb1)
               have HX2 := Lib.hid (HX2.out.next hb1)
               obtain ⟨z0, p0, q0, r0, t0⟩ := HX0.out
               obtain ⟨z1, p1, q1, r1, t1⟩ := HX1.out
               obtain ⟨z2, p2, q2, r2, t2⟩ := HX2.out
               clear hb1)
            | fail)
          go_region_held3 (fun W => (W.cell? ⟨w.heap.size, 0, none⟩ = some (.int .i64 k) ∧ W.cell? ⟨w.heap.size, 1, none⟩ = some (.int .i64 x) ∧ W.cell? ⟨w.heap.size, 2, none⟩ = some (.string s) ∧ W.cell? ⟨w.heap.size, 3, none⟩ = some (.slice a n c)) ∧ W.cell? ⟨(w.heap.size + 1), 0, none⟩ = some (.int .i64 k1) ∧ W.cell? ⟨(w.heap.size + 1), 1, none⟩ = some (.int .i64 x1) ∧ W.cell? ⟨(w.heap.size + 1), 2, none⟩ = some (.string s1) ∧ W.cell? ⟨(w.heap.size + 1), 3, none⟩ = some (.slice a1 n1 c1)) (exact ⟨⟨p0, q0, r0, t0⟩, p1, q1, r1, t1⟩) (first
            | (go_at_call 15; (with_reducible refine (CAB.out _ ?_).mono ?_)
               · first | exact HB.out | exact HB.out.drew | exact below_drewN HB.out _
               rintro e wn ⟨rfl, hbn⟩
               have HX0 := Lib.hid (HX0.out.below (show Below _ _ wn from ⟨hbn.os, hbn.tape, hbn.output, hbn.size, hbn.block⟩) HX0.out.1)
               have HX1 := Lib.hid (HX1.out.below (show Below _ _ wn from ⟨hbn.os, hbn.tape, hbn.output, hbn.size, hbn.block⟩) HX1.out.1)
               have HX2 := Lib.hid (HX2.out.below (show Below _ _ wn from ⟨hbn.os, hbn.tape, hbn.output, hbn.size, hbn.block⟩) HX2.out.1)
               have HB := Lib.hid (show Below w.heap.size w wn from below_next HB.out ⟨hbn.os, hbn.tape, hbn.output, hbn.size, hbn.block⟩)
               obtain ⟨z0, p0, q0, r0, t0⟩ := HX0.out
               obtain ⟨z1, p1, q1, r1, t1⟩ := HX1.out
               obtain ⟨z2, p2, q2, r2, t2⟩ := HX2.out
               clear hbn)
            | (go_at_call 15; (with_reducible refine (CBA.out _ ?_).mono ?_)
               · first | exact HB.out | exact HB.out.drew | exact below_drewN HB.out _
               rintro e wn ⟨rfl, hbn⟩
               have HX0 := Lib.hid (HX0.out.below (show Below _ _ wn from ⟨hbn.os, hbn.tape, hbn.output, hbn.size, hbn.block⟩) HX0.out.1)
               have HX1 := Lib.hid (HX1.out.below (show Below _ _ wn from ⟨hbn.os, hbn.tape, hbn.output, hbn.size, hbn.block⟩) HX1.out.1)
               have HX2 := Lib.hid (HX2.out.below (show Below _ _ wn from ⟨hbn.os, hbn.tape, hbn.output, hbn.size, hbn.block⟩) HX2.out.1)
               have HB := Lib.hid (show Below w.heap.size w wn from below_next HB.out ⟨hbn.os, hbn.tape, hbn.output, hbn.size, hbn.block⟩)
               obtain ⟨z0, p0, q0, r0, t0⟩ := HX0.out
               obtain ⟨z1, p1, q1, r1, t1⟩ := HX1.out
               obtain ⟨z2, p2, q2, r2, t2⟩ := HX2.out
               clear hbn)
            | fail)
          all_goals
            go_wp2_with (first
              | (go_at_call 13; (with_reducible refine (CSAB.out _ ?_).mono ?_)
                 · first | exact HB.out | exact HB.out.drew | exact below_drewN HB.out _
                 rintro e wn ⟨rfl, hbn⟩
                 have HX0 := Lib.hid (HX0.out.below (show Below _ _ wn from ⟨hbn.os, hbn.tape, hbn.output, hbn.size, hbn.block⟩) HX0.out.1)
                 have HX1 := Lib.hid (HX1.out.below (show Below _ _ wn from ⟨hbn.os, hbn.tape, hbn.output, hbn.size, hbn.block⟩) HX1.out.1)
                 have HX2 := Lib.hid (HX2.out.below (show Below _ _ wn from ⟨hbn.os, hbn.tape, hbn.output, hbn.size, hbn.block⟩) HX2.out.1)
                 have HB := Lib.hid (show Below w.heap.size w wn from below_next HB.out ⟨hbn.os, hbn.tape, hbn.output, hbn.size, hbn.block⟩)
                 obtain ⟨z0, p0, q0, r0, t0⟩ := HX0.out
                 obtain ⟨z1, p1, q1, r1, t1⟩ := HX1.out
                 obtain ⟨z2, p2, q2, r2, t2⟩ := HX2.out
                 clear hbn)
              | (go_at_call 13; (with_reducible refine (CSAA.out _ ?_).mono ?_)
                 · first | exact HB.out | exact HB.out.drew | exact below_drewN HB.out _
                 rintro e wn ⟨rfl, hbn⟩
                 have HX0 := Lib.hid (HX0.out.below (show Below _ _ wn from ⟨hbn.os, hbn.tape, hbn.output, hbn.size, hbn.block⟩) HX0.out.1)
                 have HX1 := Lib.hid (HX1.out.below (show Below _ _ wn from ⟨hbn.os, hbn.tape, hbn.output, hbn.size, hbn.block⟩) HX1.out.1)
                 have HX2 := Lib.hid (HX2.out.below (show Below _ _ wn from ⟨hbn.os, hbn.tape, hbn.output, hbn.size, hbn.block⟩) HX2.out.1)
                 have HB := Lib.hid (show Below w.heap.size w wn from below_next HB.out ⟨hbn.os, hbn.tape, hbn.output, hbn.size, hbn.block⟩)
                 obtain ⟨z0, p0, q0, r0, t0⟩ := HX0.out
                 obtain ⟨z1, p1, q1, r1, t1⟩ := HX1.out
                 obtain ⟨z2, p2, q2, r2, t2⟩ := HX2.out
                 clear hbn)
              | (go_at_call 15; (with_reducible refine (CLAA.out _ ?_).mono ?_)
                 · first | exact HB.out | exact HB.out.drew | exact below_drewN HB.out _
                 rintro e wn ⟨rfl, hbn⟩
                 have HX0 := Lib.hid (HX0.out.below (show Below _ _ wn from ⟨hbn.os, hbn.tape, hbn.output, hbn.size, hbn.block⟩) HX0.out.1)
                 have HX1 := Lib.hid (HX1.out.below (show Below _ _ wn from ⟨hbn.os, hbn.tape, hbn.output, hbn.size, hbn.block⟩) HX1.out.1)
                 have HX2 := Lib.hid (HX2.out.below (show Below _ _ wn from ⟨hbn.os, hbn.tape, hbn.output, hbn.size, hbn.block⟩) HX2.out.1)
                 have HB := Lib.hid (show Below w.heap.size w wn from below_next HB.out ⟨hbn.os, hbn.tape, hbn.output, hbn.size, hbn.block⟩)
                 obtain ⟨z0, p0, q0, r0, t0⟩ := HX0.out
                 obtain ⟨z1, p1, q1, r1, t1⟩ := HX1.out
                 obtain ⟨z2, p2, q2, r2, t2⟩ := HX2.out
                 clear hbn)
              | fail)
            go_ret
            exact ⟨rfl, HB.out⟩
        · rw [e1] at clAB
          rw [e2] at clBA
          rw [e3] at csAB
          have CAB := Lib.hid clAB
          have CBA := Lib.hid clBA
          have CSAB := Lib.hid csAB
          clear clAB clBA csAB csAA clAA clBC clAC raa rla e1 e2 e3
          go_enter Tryz.func5, Tryz.ntmps5
          go_wp2_with (first
            | (go_at_call 8; (with_reducible refine CF.out.mono ?_)
               rintro e w1 ⟨rfl, hb1⟩
               have HB := Lib.hid (HB0.out.trans (hb1.mono HB0.out.size))
               have HX0 := Lib.hid (HX0.out.next hb1)
               have HX1 := Lib.hid (HX1.out.next hb1)
               have HX2 := Lib.hid (HX2.out.next hb1)
               obtain ⟨z0, p0, q0, r0, t0⟩ := HX0.out
               obtain ⟨z1, p1, q1, r1, t1⟩ := HX1.out
               obtain ⟨z2, p2, q2, r2, t2⟩ := HX2.out
               clear hb1)
            | fail)
          go_region_held3 (fun W => (W.cell? ⟨w.heap.size, 0, none⟩ = some (.int .i64 k) ∧ W.cell? ⟨w.heap.size, 1, none⟩ = some (.int .i64 x) ∧ W.cell? ⟨w.heap.size, 2, none⟩ = some (.string s) ∧ W.cell? ⟨w.heap.size, 3, none⟩ = some (.slice a n c)) ∧ W.cell? ⟨(w.heap.size + 1), 0, none⟩ = some (.int .i64 k1) ∧ W.cell? ⟨(w.heap.size + 1), 1, none⟩ = some (.int .i64 x1) ∧ W.cell? ⟨(w.heap.size + 1), 2, none⟩ = some (.string s1) ∧ W.cell? ⟨(w.heap.size + 1), 3, none⟩ = some (.slice a1 n1 c1)) (exact ⟨⟨p0, q0, r0, t0⟩, p1, q1, r1, t1⟩) (first
            | (go_at_call 15; (with_reducible refine (CAB.out _ ?_).mono ?_)
               · first | exact HB.out | exact HB.out.drew | exact below_drewN HB.out _
               rintro e wn ⟨rfl, hbn⟩
               have HX0 := Lib.hid (HX0.out.below (show Below _ _ wn from ⟨hbn.os, hbn.tape, hbn.output, hbn.size, hbn.block⟩) HX0.out.1)
               have HX1 := Lib.hid (HX1.out.below (show Below _ _ wn from ⟨hbn.os, hbn.tape, hbn.output, hbn.size, hbn.block⟩) HX1.out.1)
               have HX2 := Lib.hid (HX2.out.below (show Below _ _ wn from ⟨hbn.os, hbn.tape, hbn.output, hbn.size, hbn.block⟩) HX2.out.1)
               have HB := Lib.hid (show Below w.heap.size w wn from below_next HB.out ⟨hbn.os, hbn.tape, hbn.output, hbn.size, hbn.block⟩)
               obtain ⟨z0, p0, q0, r0, t0⟩ := HX0.out
               obtain ⟨z1, p1, q1, r1, t1⟩ := HX1.out
               obtain ⟨z2, p2, q2, r2, t2⟩ := HX2.out
               clear hbn)
            | (go_at_call 15; (with_reducible refine (CBA.out _ ?_).mono ?_)
               · first | exact HB.out | exact HB.out.drew | exact below_drewN HB.out _
               rintro e wn ⟨rfl, hbn⟩
               have HX0 := Lib.hid (HX0.out.below (show Below _ _ wn from ⟨hbn.os, hbn.tape, hbn.output, hbn.size, hbn.block⟩) HX0.out.1)
               have HX1 := Lib.hid (HX1.out.below (show Below _ _ wn from ⟨hbn.os, hbn.tape, hbn.output, hbn.size, hbn.block⟩) HX1.out.1)
               have HX2 := Lib.hid (HX2.out.below (show Below _ _ wn from ⟨hbn.os, hbn.tape, hbn.output, hbn.size, hbn.block⟩) HX2.out.1)
               have HB := Lib.hid (show Below w.heap.size w wn from below_next HB.out ⟨hbn.os, hbn.tape, hbn.output, hbn.size, hbn.block⟩)
               obtain ⟨z0, p0, q0, r0, t0⟩ := HX0.out
               obtain ⟨z1, p1, q1, r1, t1⟩ := HX1.out
               obtain ⟨z2, p2, q2, r2, t2⟩ := HX2.out
               clear hbn)
            | fail)
          all_goals
            go_wp2_with (first
              | (go_at_call 13; (with_reducible refine (CSAB.out _ ?_).mono ?_)
                 · first | exact HB.out | exact HB.out.drew | exact below_drewN HB.out _
                 rintro e wn ⟨rfl, hbn⟩
                 have HX0 := Lib.hid (HX0.out.below (show Below _ _ wn from ⟨hbn.os, hbn.tape, hbn.output, hbn.size, hbn.block⟩) HX0.out.1)
                 have HX1 := Lib.hid (HX1.out.below (show Below _ _ wn from ⟨hbn.os, hbn.tape, hbn.output, hbn.size, hbn.block⟩) HX1.out.1)
                 have HX2 := Lib.hid (HX2.out.below (show Below _ _ wn from ⟨hbn.os, hbn.tape, hbn.output, hbn.size, hbn.block⟩) HX2.out.1)
                 have HB := Lib.hid (show Below w.heap.size w wn from below_next HB.out ⟨hbn.os, hbn.tape, hbn.output, hbn.size, hbn.block⟩)
                 obtain ⟨z0, p0, q0, r0, t0⟩ := HX0.out
                 obtain ⟨z1, p1, q1, r1, t1⟩ := HX1.out
                 obtain ⟨z2, p2, q2, r2, t2⟩ := HX2.out
                 clear hbn)
              | (go_at_call 13; (with_reducible refine (CSAA.out _ ?_).mono ?_)
                 · first | exact HB.out | exact HB.out.drew | exact below_drewN HB.out _
                 rintro e wn ⟨rfl, hbn⟩
                 have HX0 := Lib.hid (HX0.out.below (show Below _ _ wn from ⟨hbn.os, hbn.tape, hbn.output, hbn.size, hbn.block⟩) HX0.out.1)
                 have HX1 := Lib.hid (HX1.out.below (show Below _ _ wn from ⟨hbn.os, hbn.tape, hbn.output, hbn.size, hbn.block⟩) HX1.out.1)
                 have HX2 := Lib.hid (HX2.out.below (show Below _ _ wn from ⟨hbn.os, hbn.tape, hbn.output, hbn.size, hbn.block⟩) HX2.out.1)
                 have HB := Lib.hid (show Below w.heap.size w wn from below_next HB.out ⟨hbn.os, hbn.tape, hbn.output, hbn.size, hbn.block⟩)
                 obtain ⟨z0, p0, q0, r0, t0⟩ := HX0.out
                 obtain ⟨z1, p1, q1, r1, t1⟩ := HX1.out
                 obtain ⟨z2, p2, q2, r2, t2⟩ := HX2.out
                 clear hbn)
              | (go_at_call 15; (with_reducible refine (CLAA.out _ ?_).mono ?_)
                 · first | exact HB.out | exact HB.out.drew | exact below_drewN HB.out _
                 rintro e wn ⟨rfl, hbn⟩
                 have HX0 := Lib.hid (HX0.out.below (show Below _ _ wn from ⟨hbn.os, hbn.tape, hbn.output, hbn.size, hbn.block⟩) HX0.out.1)
                 have HX1 := Lib.hid (HX1.out.below (show Below _ _ wn from ⟨hbn.os, hbn.tape, hbn.output, hbn.size, hbn.block⟩) HX1.out.1)
                 have HX2 := Lib.hid (HX2.out.below (show Below _ _ wn from ⟨hbn.os, hbn.tape, hbn.output, hbn.size, hbn.block⟩) HX2.out.1)
                 have HB := Lib.hid (show Below w.heap.size w wn from below_next HB.out ⟨hbn.os, hbn.tape, hbn.output, hbn.size, hbn.block⟩)
                 obtain ⟨z0, p0, q0, r0, t0⟩ := HX0.out
                 obtain ⟨z1, p1, q1, r1, t1⟩ := HX1.out
                 obtain ⟨z2, p2, q2, r2, t2⟩ := HX2.out
                 clear hbn)
              | fail)
            go_ret
            exact ⟨rfl, HB.out⟩
      · have b0 : decide ((40 : Int) < (n : Int)) = false := decide_eq_false (by omega)
        have d0 : decide (40 < n) = false := decide_eq_false (by omega)
        have b1 : decide ((40 : Int) < (n1 : Int)) = false := decide_eq_false (by omega)
        have d1 : decide (40 < n1) = false := decide_eq_false (by omega)
        have b2 : decide ((40 : Int) < (n2 : Int)) = true := decide_eq_true (by omega)
        have d2 : decide (40 < n2) = true := decide_eq_true (by omega)
        clear clAB clBA csAB csAA clAA clBC clAC raa rla rows
        go_enter Tryz.func5, Tryz.ntmps5
        go_wp2_with (first
          | (go_at_call 8; (with_reducible refine CF.out.mono ?_)
             rintro e w1 ⟨rfl, hb1⟩
             have HB := Lib.hid (HB0.out.trans (hb1.mono HB0.out.size))
             have HX0 := Lib.hid (HX0.out.next hb1)
             have HX1 := Lib.hid (HX1.out.next hb1)
             have HX2 := Lib.hid (HX2.out.next hb1)
             obtain ⟨z0, p0, q0, r0, t0⟩ := HX0.out
             obtain ⟨z1, p1, q1, r1, t1⟩ := HX1.out
             obtain ⟨z2, p2, q2, r2, t2⟩ := HX2.out
             clear hb1)
          | fail)
        go_ret
        exact ⟨rfl, HB.out⟩
    · have b0 : decide ((40 : Int) < (n : Int)) = false := decide_eq_false (by omega)
      have d0 : decide (40 < n) = false := decide_eq_false (by omega)
      have b1 : decide ((40 : Int) < (n1 : Int)) = true := decide_eq_true (by omega)
      have d1 : decide (40 < n1) = true := decide_eq_true (by omega)
      clear clAB clBA csAB csAA clAA clBC clAC raa rla rows
      go_enter Tryz.func5, Tryz.ntmps5
      go_wp2_with (first
        | (go_at_call 8; (with_reducible refine CF.out.mono ?_)
           rintro e w1 ⟨rfl, hb1⟩
           have HB := Lib.hid (HB0.out.trans (hb1.mono HB0.out.size))
           have HX0 := Lib.hid (HX0.out.next hb1)
           have HX1 := Lib.hid (HX1.out.next hb1)
           have HX2 := Lib.hid (HX2.out.next hb1)
           obtain ⟨z0, p0, q0, r0, t0⟩ := HX0.out
           obtain ⟨z1, p1, q1, r1, t1⟩ := HX1.out
           obtain ⟨z2, p2, q2, r2, t2⟩ := HX2.out
           clear hb1)
        | fail)
      go_ret
      exact ⟨rfl, HB.out⟩
  · have b0 : decide ((40 : Int) < (n : Int)) = true := decide_eq_true (by omega)
    have d0 : decide (40 < n) = true := decide_eq_true (by omega)
    clear clAB clBA csAB csAA clAA clBC clAC raa rla rows
    go_enter Tryz.func5, Tryz.ntmps5
    go_wp2_with (first
      | (go_at_call 8; (with_reducible refine CF.out.mono ?_)
         rintro e w1 ⟨rfl, hb1⟩
         have HB := Lib.hid (HB0.out.trans (hb1.mono HB0.out.size))
         have HX0 := Lib.hid (HX0.out.next hb1)
         have HX1 := Lib.hid (HX1.out.next hb1)
         have HX2 := Lib.hid (HX2.out.next hb1)
         obtain ⟨z0, p0, q0, r0, t0⟩ := HX0.out
         obtain ⟨z1, p1, q1, r1, t1⟩ := HX1.out
         obtain ⟨z2, p2, q2, r2, t2⟩ := HX2.out
         clear hb1)
      | fail)
    go_ret
    exact ⟨rfl, HB.out⟩
end Go.Proofs.YtnanfmmafmcchaaGreatDoor
