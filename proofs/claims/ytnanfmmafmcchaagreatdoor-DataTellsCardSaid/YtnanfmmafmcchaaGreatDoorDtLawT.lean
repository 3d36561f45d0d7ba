/- The law DataTells returns true, whatever its arguments (a text of at most 10^15 bytes in the first value). -/
import Derived.Test.YtnanfmmafmcchaaGreatDoorDtBox
import Derived.Test.YtnanfmmafmcchaaGreatDoorDtRefRead
import Derived.BigQuiet
namespace Go.Proofs.YtnanfmmafmcchaaGreatDoor
open Go.RowKit

set_option maxHeartbeats 8000000 in
set_option maxRecDepth 20000 in
theorem dataTells_walk (k x : Int) (s : ByteArray) (a : Option Addr) (n c : Nat) (l : List Int) (k1 x1 : Int) (s1 : ByteArray) (a1 : Option Addr) (n1 c1 : Nat) (l1 : List Int) (t : ByteArray) (w : World) (h : Nums w w.heap.size a n l) (h1 : Nums w w.heap.size a1 n1 l1)
    (hx : inI64 x) (hi : ∀ y ∈ l, inI64 y) (hm : Met w) (hz : s.size ≤ 1000000000000000) :
    Calls Tryz.prog 3 #[.agg #[.int .i64 k, .int .i64 x, .string s, .slice a n c], .agg #[.int .i64 k1, .int .i64 x1, .string s1, .slice a1 n1 c1], .string t] w fun e w' => e = .returned (.bool true) ∧ Below w.heap.size w w' := by
  have HM := Lib.hid hm
  have HB0 := Lib.hid (((Below.refl w.heap.size w).alloc (Nat.le_refl _) (.cells #[.int .i64 k, .int .i64 x, .string s, .slice a n c] 24)).alloc (by simp) (.cells #[.int .i64 k1, .int .i64 x1, .string s1, .slice a1 n1 c1] 24))
  have HX0 := Lib.hid (show Box ((w.alloc (.cells #[.int .i64 k, .int .i64 x, .string s, .slice a n c] 24)).alloc (.cells #[.int .i64 k1, .int .i64 x1, .string s1, .slice a1 n1 c1] 24)) w.heap.size k x s a n c from (Box.new w _ rfl _ _ _ _ _ _).alloc _)
  have HX1 := Lib.hid (show Box ((w.alloc (.cells #[.int .i64 k, .int .i64 x, .string s, .slice a n c] 24)).alloc (.cells #[.int .i64 k1, .int .i64 x1, .string s1, .slice a1 n1 c1] 24)) (w.heap.size + 1) k1 x1 s1 a1 n1 c1 from Box.new _ _ (by simp) _ _ _ _ _ _)
  have CF := Lib.hid (dataFirst_any _ (HM.out.keep HB0.out))
  obtain ⟨A, hA⟩ : ∃ A : Val, A = ⟨k, x, s.toList, l⟩ := ⟨_, rfl⟩
  obtain ⟨B, hB⟩ : ∃ B : Val, B = ⟨k1, x1, s1.toList, l1⟩ := ⟨_, rfl⟩

  have cma : ∀ W, Below w.heap.size w W → Calls Tryz.prog 11 #[.agg #[.int .i64 k, .int .i64 x, .string s, .slice a n c]] W fun e w' => e = .returned (.bool (mayV A)) ∧ Below W.heap.size W w' := fun W hW => by
    rw [hA]
    exact may_any k x s a n c l W w.heap.size hW.size (h.below hW)
  have cmr : ∀ W, Below w.heap.size w W → Calls Tryz.prog 12 #[.agg #[.int .i64 k, .int .i64 x, .string s, .slice a n c]] W fun e w' => e = .returned (.bool (mayV A)) ∧ Below W.heap.size W w' := fun W hW => by
    rw [hA]
    exact refMay_any k x s a n c l W w.heap.size (h.below hW)
  have csb : ∀ W, Below w.heap.size w W → Calls Tryz.prog 13 #[.agg #[.int .i64 k, .int .i64 x, .string s, .slice a n c], .agg #[.int .i64 k1, .int .i64 x1, .string s1, .slice a1 n1 c1]] W fun e w' => e = .returned (.bool (sameV A B)) ∧ Below W.heap.size W w' := fun W hW => by
    rw [hA, hB]
    exact same_any k x s a n c l k1 x1 s1 a1 n1 c1 l1 W w.heap.size hW.size (h.below hW) (h1.below hW)
  have csr : ∀ W, Below w.heap.size w W → Calls Tryz.prog 14 #[.agg #[.int .i64 k, .int .i64 x, .string s, .slice a n c], .agg #[.int .i64 k1, .int .i64 x1, .string s1, .slice a1 n1 c1]] W fun e w' => e = .returned (.bool (sameV A B)) ∧ Below W.heap.size W w' := fun W hW => by
    rw [hA, hB]
    exact refSame_any k x s a n c l k1 x1 s1 a1 n1 c1 l1 W w.heap.size hW.size (h.below hW) (h1.below hW)
  have clb : ∀ W, Below w.heap.size w W → Calls Tryz.prog 15 #[.agg #[.int .i64 k, .int .i64 x, .string s, .slice a n c], .agg #[.int .i64 k1, .int .i64 x1, .string s1, .slice a1 n1 c1]] W fun e w' => e = .returned (.bool (lessV A B)) ∧ Below W.heap.size W w' := fun W hW => by
    rw [hA, hB]
    exact less_any k x s a n c l k1 x1 s1 a1 n1 c1 l1 W w.heap.size hW.size (h.below hW) (h1.below hW)
  have clr : ∀ W, Below w.heap.size w W → Calls Tryz.prog 16 #[.agg #[.int .i64 k, .int .i64 x, .string s, .slice a n c], .agg #[.int .i64 k1, .int .i64 x1, .string s1, .slice a1 n1 c1]] W fun e w' => e = .returned (.bool (lessV A B)) ∧ Below W.heap.size W w' := fun W hW => by
    rw [hA, hB]
    exact refLess_any k x s a n c l k1 x1 s1 a1 n1 c1 l1 W w.heap.size hW.size (h.below hW) (h1.below hW)
  have cho : ∀ W, Below w.heap.size w W → Calls Tryz.prog 17 #[.agg #[.int .i64 k, .int .i64 x, .string s, .slice a n c]] W fun e w' => e = .returned (.string (lxS (showV A))) ∧ Below W.heap.size W w' := fun W hW => by
    rw [hA]
    by_cases hm5 : mayV ⟨k, x, s.toList, l⟩ = true ∧ k = 5
    · exact showChan_any k x s a n c l W w.heap.size hW.size (h.below hW) hx hm5.1 (by rw [beq_iff_eq]; exact hm5.2) (fun _ _ => hz) (HM.out.keep hW).pow
    · exact show_any k x s a n c l W w.heap.size hW.size (h.below hW) hx hi (fun e1 e2 => absurd ⟨e1, e2⟩ hm5) (HM.out.keep hW).pow
  have chr : ∀ W, Below w.heap.size w W → Calls Tryz.prog 18 #[.agg #[.int .i64 k, .int .i64 x, .string s, .slice a n c]] W fun e w' => e = .returned (.string (lxS (showV A))) ∧ Below W.heap.size W w' := fun W hW => by
    rw [hA]
    exact refShow_any k x s a n c l W w.heap.size hW.size (h.below hW) hx hi (fun _ _ => hz)

  obtain ⟨m0, hm0⟩ : ∃ m0, m0 = mayV A := ⟨_, rfl⟩
  obtain ⟨m1, hm1⟩ : ∃ m1, m1 = sameV A B := ⟨_, rfl⟩
  obtain ⟨m2, hm2⟩ : ∃ m2, m2 = lessV A B := ⟨_, rfl⟩
  obtain ⟨SA, hSA⟩ : ∃ SA, SA = lxS (showV A) := ⟨_, rfl⟩
  rw [← hm0] at cma cmr
  rw [← hm1] at csb csr
  rw [← hm2] at clb clr
  rw [← hSA] at cho chr
  have CMA := Lib.hid cma
  have CMR := Lib.hid cmr
  have CSB := Lib.hid csb
  have CSR := Lib.hid csr
  have CLB := Lib.hid clb
  have CLR := Lib.hid clr
  have CHO := Lib.hid cho
  have CHR := Lib.hid chr
  clear cma cmr csb csr clb clr cho chr hm0 hm1 hm2 hSA h h1 hx hi hz hA hB
  by_cases ga : n ≤ 40
  · have ba0 : decide ((40 : Int) < (n : Int)) = false := decide_eq_false (by omega)
    have ba1 : decide (40 < n) = false := decide_eq_false (by omega)
    by_cases gb : n1 ≤ 40
    · have bb0 : decide ((40 : Int) < (n1 : Int)) = false := decide_eq_false (by omega)
      have bb1 : decide (40 < n1) = false := decide_eq_false (by omega)
      by_cases gt : t.size ≤ 400
      · have bt0 : decide ((400 : Int) < (t.size : Int)) = false := decide_eq_false (by omega)
        have bt1 : decide (400 < t.size) = false := decide_eq_false (by omega)
        obtain ⟨K3, X3, S3, L3, ec, hall⟩ : ∃ (K3 X3 : Int) (S3 : ByteArray) (L3 : List Int) (ec : Int), ∀ e w', ReadAns w' (readV t.toList) e → ∃ a3 n3 c3, e = .returned (.tuple #[.agg #[.int .i64 K3, .int .i64 X3, .string S3, .slice a3 n3 c3], .int .i64 ec]) ∧ Nums w' w'.heap.size a3 n3 L3 := by
          cases hr : readV t.toList with
          | none => exact ⟨0, 0, ⟨#[]⟩, [], 300, fun e w' ha => ⟨none, 0, 0, ha, Nums.zero _ _ _⟩⟩
          | some v => exact ⟨v.kind, v.num, lxS v.text, v.list, 0, fun e w' ha => by
              obtain ⟨a3, c3, he, hn⟩ := ha
              exact ⟨a3, _, c3, he, hn⟩⟩
        have crd : ∀ W, Below w.heap.size w W → Calls Tryz.prog 9 #[.string t] W fun e w' => ∃ a3 n3 c3, e = .returned (.tuple #[.agg #[.int .i64 K3, .int .i64 X3, .string S3, .slice a3 n3 c3], .int .i64 ec]) ∧ Nums w' w'.heap.size a3 n3 L3 ∧ Below W.heap.size W w' := fun W hW => by
          refine (read_any t W (by omega) (HM.out.keep hW)).mono ?_
          rintro e w' ⟨ha, hb⟩
          obtain ⟨a3, n3, c3, he, hn⟩ := hall e w' ha
          exact ⟨a3, n3, c3, he, hn, hb⟩
        have crv : ∀ W, Below w.heap.size w W → Calls Tryz.prog 10 #[.string t] W fun e w' => ∃ a3 n3 c3, e = .returned (.tuple #[.agg #[.int .i64 K3, .int .i64 X3, .string S3, .slice a3 n3 c3], .int .i64 ec]) ∧ Nums w' w'.heap.size a3 n3 L3 ∧ Below W.heap.size W w' := fun W _ => by
          refine (refReadValue_any t W (by omega)).mono ?_
          rintro e w' ⟨ha, hb⟩
          obtain ⟨a3, n3, c3, he, hn⟩ := hall e w' ha
          exact ⟨a3, n3, c3, he, hn, hb⟩
        have cvw : ∀ (a3 : Option Addr) (n3 c3 : Nat) (a4 : Option Addr) (n4 c4 : Nat) W, Below w.heap.size w W → Nums W W.heap.size a3 n3 L3 → Nums W W.heap.size a4 n4 L3 → Calls Tryz.prog 14 #[.agg #[.int .i64 K3, .int .i64 X3, .string S3, .slice a3 n3 c3], .agg #[.int .i64 K3, .int .i64 X3, .string S3, .slice a4 n4 c4]] W fun e w' => e = .returned (.bool true) ∧ Below W.heap.size W w' := fun a3 n3 c3 a4 n4 c4 W _ hn hn' => by
          have := refSame_any K3 X3 S3 a3 n3 c3 L3 K3 X3 S3 a4 n4 c4 L3 W W.heap.size (Nat.le_refl _) hn hn'
          rw [sameV_iff.2 rfl] at this
          exact this
        have CRD := Lib.hid crd
        have CRV := Lib.hid crv
        have CVW := Lib.hid cvw
        clear crd crv cvw hall hm
        go_enter Tryz.func3, Tryz.ntmps3
        go_wp2_with (first
          | (go_at_call 8; (with_reducible refine CF.out.mono ?_)
             rintro e w1 ⟨rfl, hb1⟩
             have HB := Lib.hid (HB0.out.trans (hb1.mono HB0.out.size))
             have HX0 := Lib.hid (HX0.out.next hb1)
             have HX1 := Lib.hid (HX1.out.next hb1)
             obtain ⟨z0, p0, q0, r0, t0⟩ := HX0.out
             obtain ⟨z1, p1, q1, r1, t1⟩ := HX1.out
             clear hb1)
          | (go_at_call 9; (with_reducible refine (CRD.out _ HB.out).mono ?_)
             rintro e w2 ⟨a3, n3, c3, rfl, hn3, hb1⟩
             have HX3 := Lib.hid (Box.new w2 _ rfl K3 X3 S3 a3 n3 c3)
             have HX0 := Lib.hid ((HX0.out.next hb1).alloc (.cells #[.int .i64 K3, .int .i64 X3, .string S3, .slice a3 n3 c3] 24))
             have HX1 := Lib.hid ((HX1.out.next hb1).alloc (.cells #[.int .i64 K3, .int .i64 X3, .string S3, .slice a3 n3 c3] 24))
             have HN3 := Lib.hid (show Nums (w2.alloc (.cells #[.int .i64 K3, .int .i64 X3, .string S3, .slice a3 n3 c3] 24)) (w2.alloc (.cells #[.int .i64 K3, .int .i64 X3, .string S3, .slice a3 n3 c3] 24)).heap.size a3 n3 L3 from (hn3.alloc (Nat.le_refl _) _).more (by simp))
             have HB2 := Lib.hid (below_next HB.out hb1)
             have HB := Lib.hid (HB2.out.alloc HB2.out.size (.cells #[.int .i64 K3, .int .i64 X3, .string S3, .slice a3 n3 c3] 24))
             obtain ⟨z0, p0, q0, r0, t0⟩ := HX0.out
             obtain ⟨z1, p1, q1, r1, t1⟩ := HX1.out
             obtain ⟨z3, p3, q3, r3, t3⟩ := HX3.out
             clear hb1 hn3)
          | (go_at_call 10; (with_reducible refine (CRV.out _ HB.out).mono ?_)
             rintro e w4 ⟨a4, n4, c4, rfl, hn4, hb1⟩
             have HX4 := Lib.hid (Box.new w4 _ rfl K3 X3 S3 a4 n4 c4)
             have HX0 := Lib.hid ((HX0.out.next hb1).alloc (.cells #[.int .i64 K3, .int .i64 X3, .string S3, .slice a4 n4 c4] 24))
             have HX1 := Lib.hid ((HX1.out.next hb1).alloc (.cells #[.int .i64 K3, .int .i64 X3, .string S3, .slice a4 n4 c4] 24))
             have HX3 := Lib.hid ((HX3.out.next hb1).alloc (.cells #[.int .i64 K3, .int .i64 X3, .string S3, .slice a4 n4 c4] 24))
             have HN3 := Lib.hid (show Nums (w4.alloc (.cells #[.int .i64 K3, .int .i64 X3, .string S3, .slice a4 n4 c4] 24)) (w4.alloc (.cells #[.int .i64 K3, .int .i64 X3, .string S3, .slice a4 n4 c4] 24)).heap.size a3 n3 L3 from (((HN3.out.below hb1).more hb1.size).alloc (Nat.le_refl _) _).more (by simp))
             have HN4 := Lib.hid (show Nums (w4.alloc (.cells #[.int .i64 K3, .int .i64 X3, .string S3, .slice a4 n4 c4] 24)) (w4.alloc (.cells #[.int .i64 K3, .int .i64 X3, .string S3, .slice a4 n4 c4] 24)).heap.size a4 n4 L3 from (hn4.alloc (Nat.le_refl _) _).more (by simp))
             have HB2 := Lib.hid (below_next HB.out hb1)
             have HB := Lib.hid (HB2.out.alloc HB2.out.size (.cells #[.int .i64 K3, .int .i64 X3, .string S3, .slice a4 n4 c4] 24))
             obtain ⟨z0, p0, q0, r0, t0⟩ := HX0.out
             obtain ⟨z1, p1, q1, r1, t1⟩ := HX1.out
             obtain ⟨z3, p3, q3, r3, t3⟩ := HX3.out
             obtain ⟨z4, p4, q4, r4, t4⟩ := HX4.out
             clear hb1 hn4)
          | fail)
        go_region_held3 (fun W => (W.cell? ⟨w.heap.size, 0, none⟩ = some (.int .i64 k) ∧ W.cell? ⟨w.heap.size, 1, none⟩ = some (.int .i64 x) ∧ W.cell? ⟨w.heap.size, 2, none⟩ = some (.string s) ∧ W.cell? ⟨w.heap.size, 3, none⟩ = some (.slice a n c)) ∧ (W.cell? ⟨w.heap.size + 1, 0, none⟩ = some (.int .i64 k1) ∧ W.cell? ⟨w.heap.size + 1, 1, none⟩ = some (.int .i64 x1) ∧ W.cell? ⟨w.heap.size + 1, 2, none⟩ = some (.string s1) ∧ W.cell? ⟨w.heap.size + 1, 3, none⟩ = some (.slice a1 n1 c1)) ∧ (W.cell? ⟨w2.heap.size, 0, none⟩ = some (.int .i64 K3) ∧ W.cell? ⟨w2.heap.size, 1, none⟩ = some (.int .i64 X3) ∧ W.cell? ⟨w2.heap.size, 2, none⟩ = some (.string S3) ∧ W.cell? ⟨w2.heap.size, 3, none⟩ = some (.slice a3 n3 c3)) ∧ W.cell? ⟨w4.heap.size, 0, none⟩ = some (.int .i64 K3) ∧ W.cell? ⟨w4.heap.size, 1, none⟩ = some (.int .i64 X3) ∧ W.cell? ⟨w4.heap.size, 2, none⟩ = some (.string S3) ∧ W.cell? ⟨w4.heap.size, 3, none⟩ = some (.slice a4 n4 c4)) (exact ⟨⟨p0, q0, r0, t0⟩, ⟨p1, q1, r1, t1⟩, ⟨p3, q3, r3, t3⟩, p4, q4, r4, t4⟩) (first
          | (go_at_call 11; (with_reducible refine (CMA.out _ ?_).mono ?_)
             · first | exact HB.out | exact HB.out.drew | exact below_drewN HB.out _
             rintro e wn ⟨rfl, hbn⟩
             have HX0 := Lib.hid (HX0.out.below (show Below _ _ wn from ⟨hbn.os, hbn.tape, hbn.output, hbn.size, hbn.block⟩) HX0.out.1)
             have HX1 := Lib.hid (HX1.out.below (show Below _ _ wn from ⟨hbn.os, hbn.tape, hbn.output, hbn.size, hbn.block⟩) HX1.out.1)
             have HX3 := Lib.hid (HX3.out.below (show Below _ _ wn from ⟨hbn.os, hbn.tape, hbn.output, hbn.size, hbn.block⟩) HX3.out.1)
             have HX4 := Lib.hid (HX4.out.below (show Below _ _ wn from ⟨hbn.os, hbn.tape, hbn.output, hbn.size, hbn.block⟩) HX4.out.1)
             have HN3 := Lib.hid ((HN3.out.below (show Below _ _ wn from ⟨hbn.os, hbn.tape, hbn.output, hbn.size, hbn.block⟩)).more hbn.size)
             have HN4 := Lib.hid ((HN4.out.below (show Below _ _ wn from ⟨hbn.os, hbn.tape, hbn.output, hbn.size, hbn.block⟩)).more hbn.size)
             have HB := Lib.hid (show Below w.heap.size w wn from below_next HB.out ⟨hbn.os, hbn.tape, hbn.output, hbn.size, hbn.block⟩)
             obtain ⟨z0, p0, q0, r0, t0⟩ := HX0.out
             obtain ⟨z1, p1, q1, r1, t1⟩ := HX1.out
             obtain ⟨z3, p3, q3, r3, t3⟩ := HX3.out
             obtain ⟨z4, p4, q4, r4, t4⟩ := HX4.out
             clear hbn)
          | (go_at_call 12; (with_reducible refine (CMR.out _ ?_).mono ?_)
             · first | exact HB.out | exact HB.out.drew | exact below_drewN HB.out _
             rintro e wn ⟨rfl, hbn⟩
             have HX0 := Lib.hid (HX0.out.below (show Below _ _ wn from ⟨hbn.os, hbn.tape, hbn.output, hbn.size, hbn.block⟩) HX0.out.1)
             have HX1 := Lib.hid (HX1.out.below (show Below _ _ wn from ⟨hbn.os, hbn.tape, hbn.output, hbn.size, hbn.block⟩) HX1.out.1)
             have HX3 := Lib.hid (HX3.out.below (show Below _ _ wn from ⟨hbn.os, hbn.tape, hbn.output, hbn.size, hbn.block⟩) HX3.out.1)
             have HX4 := Lib.hid (HX4.out.below (show Below _ _ wn from ⟨hbn.os, hbn.tape, hbn.output, hbn.size, hbn.block⟩) HX4.out.1)
             have HN3 := Lib.hid ((HN3.out.below (show Below _ _ wn from ⟨hbn.os, hbn.tape, hbn.output, hbn.size, hbn.block⟩)).more hbn.size)
             have HN4 := Lib.hid ((HN4.out.below (show Below _ _ wn from ⟨hbn.os, hbn.tape, hbn.output, hbn.size, hbn.block⟩)).more hbn.size)
             have HB := Lib.hid (show Below w.heap.size w wn from below_next HB.out ⟨hbn.os, hbn.tape, hbn.output, hbn.size, hbn.block⟩)
             obtain ⟨z0, p0, q0, r0, t0⟩ := HX0.out
             obtain ⟨z1, p1, q1, r1, t1⟩ := HX1.out
             obtain ⟨z3, p3, q3, r3, t3⟩ := HX3.out
             obtain ⟨z4, p4, q4, r4, t4⟩ := HX4.out
             clear hbn)
          | (go_at_call 13; (with_reducible refine (CSB.out _ ?_).mono ?_)
             · first | exact HB.out | exact HB.out.drew | exact below_drewN HB.out _
             rintro e wn ⟨rfl, hbn⟩
             have HX0 := Lib.hid (HX0.out.below (show Below _ _ wn from ⟨hbn.os, hbn.tape, hbn.output, hbn.size, hbn.block⟩) HX0.out.1)
             have HX1 := Lib.hid (HX1.out.below (show Below _ _ wn from ⟨hbn.os, hbn.tape, hbn.output, hbn.size, hbn.block⟩) HX1.out.1)
             have HX3 := Lib.hid (HX3.out.below (show Below _ _ wn from ⟨hbn.os, hbn.tape, hbn.output, hbn.size, hbn.block⟩) HX3.out.1)
             have HX4 := Lib.hid (HX4.out.below (show Below _ _ wn from ⟨hbn.os, hbn.tape, hbn.output, hbn.size, hbn.block⟩) HX4.out.1)
             have HN3 := Lib.hid ((HN3.out.below (show Below _ _ wn from ⟨hbn.os, hbn.tape, hbn.output, hbn.size, hbn.block⟩)).more hbn.size)
             have HN4 := Lib.hid ((HN4.out.below (show Below _ _ wn from ⟨hbn.os, hbn.tape, hbn.output, hbn.size, hbn.block⟩)).more hbn.size)
             have HB := Lib.hid (show Below w.heap.size w wn from below_next HB.out ⟨hbn.os, hbn.tape, hbn.output, hbn.size, hbn.block⟩)
             obtain ⟨z0, p0, q0, r0, t0⟩ := HX0.out
             obtain ⟨z1, p1, q1, r1, t1⟩ := HX1.out
             obtain ⟨z3, p3, q3, r3, t3⟩ := HX3.out
             obtain ⟨z4, p4, q4, r4, t4⟩ := HX4.out
             clear hbn)
          | (go_at_call 14; (with_reducible refine (CSR.out _ ?_).mono ?_)
             · first | exact HB.out | exact HB.out.drew | exact below_drewN HB.out _
             rintro e wn ⟨rfl, hbn⟩
             have HX0 := Lib.hid (HX0.out.below (show Below _ _ wn from ⟨hbn.os, hbn.tape, hbn.output, hbn.size, hbn.block⟩) HX0.out.1)
             have HX1 := Lib.hid (HX1.out.below (show Below _ _ wn from ⟨hbn.os, hbn.tape, hbn.output, hbn.size, hbn.block⟩) HX1.out.1)
             have HX3 := Lib.hid (HX3.out.below (show Below _ _ wn from ⟨hbn.os, hbn.tape, hbn.output, hbn.size, hbn.block⟩) HX3.out.1)
             have HX4 := Lib.hid (HX4.out.below (show Below _ _ wn from ⟨hbn.os, hbn.tape, hbn.output, hbn.size, hbn.block⟩) HX4.out.1)
             have HN3 := Lib.hid ((HN3.out.below (show Below _ _ wn from ⟨hbn.os, hbn.tape, hbn.output, hbn.size, hbn.block⟩)).more hbn.size)
             have HN4 := Lib.hid ((HN4.out.below (show Below _ _ wn from ⟨hbn.os, hbn.tape, hbn.output, hbn.size, hbn.block⟩)).more hbn.size)
             have HB := Lib.hid (show Below w.heap.size w wn from below_next HB.out ⟨hbn.os, hbn.tape, hbn.output, hbn.size, hbn.block⟩)
             obtain ⟨z0, p0, q0, r0, t0⟩ := HX0.out
             obtain ⟨z1, p1, q1, r1, t1⟩ := HX1.out
             obtain ⟨z3, p3, q3, r3, t3⟩ := HX3.out
             obtain ⟨z4, p4, q4, r4, t4⟩ := HX4.out
             clear hbn)
          | (go_at_call 14; (with_reducible refine (CVW.out _ _ _ _ _ _ _ ?_ ?_ ?_).mono ?_)
             · first | exact HB.out | exact HB.out.drew | exact below_drewN HB.out _
             · exact HN3.out
             · exact HN4.out
             rintro e wn ⟨rfl, hbn⟩
             have HX0 := Lib.hid (HX0.out.below (show Below _ _ wn from ⟨hbn.os, hbn.tape, hbn.output, hbn.size, hbn.block⟩) HX0.out.1)
             have HX1 := Lib.hid (HX1.out.below (show Below _ _ wn from ⟨hbn.os, hbn.tape, hbn.output, hbn.size, hbn.block⟩) HX1.out.1)
             have HX3 := Lib.hid (HX3.out.below (show Below _ _ wn from ⟨hbn.os, hbn.tape, hbn.output, hbn.size, hbn.block⟩) HX3.out.1)
             have HX4 := Lib.hid (HX4.out.below (show Below _ _ wn from ⟨hbn.os, hbn.tape, hbn.output, hbn.size, hbn.block⟩) HX4.out.1)
             have HN3 := Lib.hid ((HN3.out.below (show Below _ _ wn from ⟨hbn.os, hbn.tape, hbn.output, hbn.size, hbn.block⟩)).more hbn.size)
             have HN4 := Lib.hid ((HN4.out.below (show Below _ _ wn from ⟨hbn.os, hbn.tape, hbn.output, hbn.size, hbn.block⟩)).more hbn.size)
             have HB := Lib.hid (show Below w.heap.size w wn from below_next HB.out ⟨hbn.os, hbn.tape, hbn.output, hbn.size, hbn.block⟩)
             obtain ⟨z0, p0, q0, r0, t0⟩ := HX0.out
             obtain ⟨z1, p1, q1, r1, t1⟩ := HX1.out
             obtain ⟨z3, p3, q3, r3, t3⟩ := HX3.out
             obtain ⟨z4, p4, q4, r4, t4⟩ := HX4.out
             clear hbn)
          | (go_at_call 15; (with_reducible refine (CLB.out _ ?_).mono ?_)
             · first | exact HB.out | exact HB.out.drew | exact below_drewN HB.out _
             rintro e wn ⟨rfl, hbn⟩
             have HX0 := Lib.hid (HX0.out.below (show Below _ _ wn from ⟨hbn.os, hbn.tape, hbn.output, hbn.size, hbn.block⟩) HX0.out.1)
             have HX1 := Lib.hid (HX1.out.below (show Below _ _ wn from ⟨hbn.os, hbn.tape, hbn.output, hbn.size, hbn.block⟩) HX1.out.1)
             have HX3 := Lib.hid (HX3.out.below (show Below _ _ wn from ⟨hbn.os, hbn.tape, hbn.output, hbn.size, hbn.block⟩) HX3.out.1)
             have HX4 := Lib.hid (HX4.out.below (show Below _ _ wn from ⟨hbn.os, hbn.tape, hbn.output, hbn.size, hbn.block⟩) HX4.out.1)
             have HN3 := Lib.hid ((HN3.out.below (show Below _ _ wn from ⟨hbn.os, hbn.tape, hbn.output, hbn.size, hbn.block⟩)).more hbn.size)
             have HN4 := Lib.hid ((HN4.out.below (show Below _ _ wn from ⟨hbn.os, hbn.tape, hbn.output, hbn.size, hbn.block⟩)).more hbn.size)
             have HB := Lib.hid (show Below w.heap.size w wn from below_next HB.out ⟨hbn.os, hbn.tape, hbn.output, hbn.size, hbn.block⟩)
             obtain ⟨z0, p0, q0, r0, t0⟩ := HX0.out
             obtain ⟨z1, p1, q1, r1, t1⟩ := HX1.out
             obtain ⟨z3, p3, q3, r3, t3⟩ := HX3.out
             obtain ⟨z4, p4, q4, r4, t4⟩ := HX4.out
             clear hbn)
          | (go_at_call 16; (with_reducible refine (CLR.out _ ?_).mono ?_)
             · first | exact HB.out | exact HB.out.drew | exact below_drewN HB.out _
             rintro e wn ⟨rfl, hbn⟩
             have HX0 := Lib.hid (HX0.out.below (show Below _ _ wn from ⟨hbn.os, hbn.tape, hbn.output, hbn.size, hbn.block⟩) HX0.out.1)
             have HX1 := Lib.hid (HX1.out.below (show Below _ _ wn from ⟨hbn.os, hbn.tape, hbn.output, hbn.size, hbn.block⟩) HX1.out.1)
             have HX3 := Lib.hid (HX3.out.below (show Below _ _ wn from ⟨hbn.os, hbn.tape, hbn.output, hbn.size, hbn.block⟩) HX3.out.1)
             have HX4 := Lib.hid (HX4.out.below (show Below _ _ wn from ⟨hbn.os, hbn.tape, hbn.output, hbn.size, hbn.block⟩) HX4.out.1)
             have HN3 := Lib.hid ((HN3.out.below (show Below _ _ wn from ⟨hbn.os, hbn.tape, hbn.output, hbn.size, hbn.block⟩)).more hbn.size)
             have HN4 := Lib.hid ((HN4.out.below (show Below _ _ wn from ⟨hbn.os, hbn.tape, hbn.output, hbn.size, hbn.block⟩)).more hbn.size)
             have HB := Lib.hid (show Below w.heap.size w wn from below_next HB.out ⟨hbn.os, hbn.tape, hbn.output, hbn.size, hbn.block⟩)
             obtain ⟨z0, p0, q0, r0, t0⟩ := HX0.out
             obtain ⟨z1, p1, q1, r1, t1⟩ := HX1.out
             obtain ⟨z3, p3, q3, r3, t3⟩ := HX3.out
             obtain ⟨z4, p4, q4, r4, t4⟩ := HX4.out
             clear hbn)
          | (go_at_call 17; (with_reducible refine (CHO.out _ ?_).mono ?_)
             · first | exact HB.out | exact HB.out.drew | exact below_drewN HB.out _
             rintro e wn ⟨rfl, hbn⟩
             have HX0 := Lib.hid (HX0.out.below (show Below _ _ wn from ⟨hbn.os, hbn.tape, hbn.output, hbn.size, hbn.block⟩) HX0.out.1)
             have HX1 := Lib.hid (HX1.out.below (show Below _ _ wn from ⟨hbn.os, hbn.tape, hbn.output, hbn.size, hbn.block⟩) HX1.out.1)
             have HX3 := Lib.hid (HX3.out.below (show Below _ _ wn from ⟨hbn.os, hbn.tape, hbn.output, hbn.size, hbn.block⟩) HX3.out.1)
             have HX4 := Lib.hid (HX4.out.below (show Below _ _ wn from ⟨hbn.os, hbn.tape, hbn.output, hbn.size, hbn.block⟩) HX4.out.1)
             have HN3 := Lib.hid ((HN3.out.below (show Below _ _ wn from ⟨hbn.os, hbn.tape, hbn.output, hbn.size, hbn.block⟩)).more hbn.size)
             have HN4 := Lib.hid ((HN4.out.below (show Below _ _ wn from ⟨hbn.os, hbn.tape, hbn.output, hbn.size, hbn.block⟩)).more hbn.size)
             have HB := Lib.hid (show Below w.heap.size w wn from below_next HB.out ⟨hbn.os, hbn.tape, hbn.output, hbn.size, hbn.block⟩)
             obtain ⟨z0, p0, q0, r0, t0⟩ := HX0.out
             obtain ⟨z1, p1, q1, r1, t1⟩ := HX1.out
             obtain ⟨z3, p3, q3, r3, t3⟩ := HX3.out
             obtain ⟨z4, p4, q4, r4, t4⟩ := HX4.out
             clear hbn)
          | (go_at_call 18; (with_reducible refine (CHR.out _ ?_).mono ?_)
             · first | exact HB.out | exact HB.out.drew | exact below_drewN HB.out _
             rintro e wn ⟨rfl, hbn⟩
             have HX0 := Lib.hid (HX0.out.below (show Below _ _ wn from ⟨hbn.os, hbn.tape, hbn.output, hbn.size, hbn.block⟩) HX0.out.1)
             have HX1 := Lib.hid (HX1.out.below (show Below _ _ wn from ⟨hbn.os, hbn.tape, hbn.output, hbn.size, hbn.block⟩) HX1.out.1)
             have HX3 := Lib.hid (HX3.out.below (show Below _ _ wn from ⟨hbn.os, hbn.tape, hbn.output, hbn.size, hbn.block⟩) HX3.out.1)
             have HX4 := Lib.hid (HX4.out.below (show Below _ _ wn from ⟨hbn.os, hbn.tape, hbn.output, hbn.size, hbn.block⟩) HX4.out.1)
             have HN3 := Lib.hid ((HN3.out.below (show Below _ _ wn from ⟨hbn.os, hbn.tape, hbn.output, hbn.size, hbn.block⟩)).more hbn.size)
             have HN4 := Lib.hid ((HN4.out.below (show Below _ _ wn from ⟨hbn.os, hbn.tape, hbn.output, hbn.size, hbn.block⟩)).more hbn.size)
             have HB := Lib.hid (show Below w.heap.size w wn from below_next HB.out ⟨hbn.os, hbn.tape, hbn.output, hbn.size, hbn.block⟩)
             obtain ⟨z0, p0, q0, r0, t0⟩ := HX0.out
             obtain ⟨z1, p1, q1, r1, t1⟩ := HX1.out
             obtain ⟨z3, p3, q3, r3, t3⟩ := HX3.out
             obtain ⟨z4, p4, q4, r4, t4⟩ := HX4.out
             clear hbn)
          | fail)
        all_goals
          go_wp2
          go_ret
          exact ⟨rfl, HB.out⟩
      · have bt0 : decide ((400 : Int) < (t.size : Int)) = true := decide_eq_true (by omega)
        have bt1 : decide (400 < t.size) = true := decide_eq_true (by omega)
        go_enter Tryz.func3, Tryz.ntmps3
        go_wp2_with (first
          | (go_at_call 8; (with_reducible refine CF.out.mono ?_)
             rintro e w1 ⟨rfl, hb1⟩
             have HB := Lib.hid (HB0.out.trans (hb1.mono HB0.out.size))
             have HX0 := Lib.hid (HX0.out.next hb1)
             have HX1 := Lib.hid (HX1.out.next hb1)
             obtain ⟨z0, p0, q0, r0, t0⟩ := HX0.out
             obtain ⟨z1, p1, q1, r1, t1⟩ := HX1.out
             clear hb1)
          | fail)
        go_ret
        exact ⟨rfl, HB.out⟩
    · have bb0 : decide ((40 : Int) < (n1 : Int)) = true := decide_eq_true (by omega)
      have bb1 : decide (40 < n1) = true := decide_eq_true (by omega)
      go_enter Tryz.func3, Tryz.ntmps3
      go_wp2_with (first
        | (go_at_call 8; (with_reducible refine CF.out.mono ?_)
           rintro e w1 ⟨rfl, hb1⟩
           have HB := Lib.hid (HB0.out.trans (hb1.mono HB0.out.size))
           have HX0 := Lib.hid (HX0.out.next hb1)
           have HX1 := Lib.hid (HX1.out.next hb1)
           obtain ⟨z0, p0, q0, r0, t0⟩ := HX0.out
           obtain ⟨z1, p1, q1, r1, t1⟩ := HX1.out
           clear hb1)
        | fail)
      go_ret
      exact ⟨rfl, HB.out⟩
  · have ba0 : decide ((40 : Int) < (n : Int)) = true := decide_eq_true (by omega)
    have ba1 : decide (40 < n) = true := decide_eq_true (by omega)
    go_enter Tryz.func3, Tryz.ntmps3
    go_wp2_with (first
      | (go_at_call 8; (with_reducible refine CF.out.mono ?_)
         rintro e w1 ⟨rfl, hb1⟩
         have HB := Lib.hid (HB0.out.trans (hb1.mono HB0.out.size))
         have HX0 := Lib.hid (HX0.out.next hb1)
         have HX1 := Lib.hid (HX1.out.next hb1)
         obtain ⟨z0, p0, q0, r0, t0⟩ := HX0.out
         obtain ⟨z1, p1, q1, r1, t1⟩ := HX1.out
         clear hb1)
      | fail)
    go_ret
    exact ⟨rfl, HB.out⟩
end Go.Proofs.YtnanfmmafmcchaaGreatDoor
