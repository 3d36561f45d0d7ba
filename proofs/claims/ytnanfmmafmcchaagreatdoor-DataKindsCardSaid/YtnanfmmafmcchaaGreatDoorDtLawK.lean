/- The law DataKinds returns true, whatever its arguments. -/
import Derived.Test.YtnanfmmafmcchaaGreatDoorDtBox
namespace Go.Proofs.YtnanfmmafmcchaaGreatDoor
open Go.RowKit

theorem what_mod (k : Int) (n : Nat) (h1 : 1 ≤ n) (h2 : n ≤ 1000) : ∃ i : Nat, i < n ∧ (IntKind.u64.wrap k).tmod (n : Int) = (i : Int) := by
  have h0 : 0 ≤ IntKind.u64.wrap k := by rw [IntKind.wrap_u64]; omega
  have hm := Int.emod_nonneg (IntKind.u64.wrap k) (show (n : Int) ≠ 0 by omega)
  have hl := Int.emod_lt_of_pos (IntKind.u64.wrap k) (show (0 : Int) < n by omega)
  refine ⟨((IntKind.u64.wrap k).tmod (n : Int)).toNat, ?_, ?_⟩
  · rw [Int.tmod_eq_emod_of_nonneg h0]; omega
  · rw [Int.tmod_eq_emod_of_nonneg h0]; omega

theorem made_nums (W : World) : (Instr.makeSlice 22 (.int .i64 17) (.int .i64 17)).run Tryz.prog W =
    .ok (.slice (some ⟨W.heap.size, 0, none⟩) 17 17) (W.alloc (.cells (madeCells #[.int .i64 0] 17) 2)) := by
  obtain ⟨i, hi, hzz⟩ := Option.map_eq_some_iff.1 info_i64
  simp only [Prod.mk.injEq] at hzz
  obtain ⟨hz, hs, hb⟩ := hzz
  have hr := run_make (P := Tryz.prog) W 22 2 i _ Tryz.underlying22 hi hz .i64 .i64 17 17 (by omega) (by omega) (by rw [hb]; omega) (by omega)
  rw [hs] at hr
  exact hr
/-- Contracts for a value that is not valid, next to one that is. -/
theorem bad_calls (k x : Int) (s : ByteArray) (a : Option Addr) (n c : Nat) (l : List Int) (k' x' : Int) (s' : ByteArray) (a' : Option Addr) (n' c' : Nat) (l' : List Int) (w : World) (h : Nums w w.heap.size a n l) (hm : Met w)
    (hv : mayV ⟨k, x, s.toList, l⟩ = true) (hw : mayV ⟨k', x', s'.toList, l'⟩ = false) (hx : inI64 x') (hi : ∀ y ∈ l', inI64 y) (W : World) (hW : Below w.heap.size w W) (h' : Nums W W.heap.size a' n' l') :
    Calls Tryz.prog 11 #[.agg #[.int .i64 k', .int .i64 x', .string s', .slice a' n' c']] W (fun e w' => e = .returned (.bool false) ∧ Below W.heap.size W w') ∧
    Calls Tryz.prog 17 #[.agg #[.int .i64 k', .int .i64 x', .string s', .slice a' n' c']] W (fun e w' => e = .returned (.string ⟨#[]⟩) ∧ Below W.heap.size W w') ∧
    Calls Tryz.prog 13 #[.agg #[.int .i64 k, .int .i64 x, .string s, .slice a n c], .agg #[.int .i64 k', .int .i64 x', .string s', .slice a' n' c']] W (fun e w' => e = .returned (.bool false) ∧ Below W.heap.size W w') := by
  obtain ⟨e1, e2⟩ := kinds_other hv hw
  have c1 := may_any k' x' s' a' n' c' l' W W.heap.size (Nat.le_refl _) h'
  have c2 := show_any k' x' s' a' n' c' l' W W.heap.size (Nat.le_refl _) h' hx hi (fun h _ => by rw [hw] at h; cases h) (hm.keep hW).pow
  have c3 := same_any k x s a n c l k' x' s' a' n' c' l' W W.heap.size (Nat.le_refl _) ((h.below hW).more hW.size) h'
  rw [hw] at c1
  rw [e2] at c2
  rw [e1] at c3
  exact ⟨c1, c2, c3⟩
theorem nums_made1 (W : World) (b : Nat) (v : Int) (hb : W.heap.size = b) : Nums (W.alloc (.cells #[.int .i64 v] 2)) (W.alloc (.cells #[.int .i64 v] 2)).heap.size (some ⟨b, 0, none⟩) 1 [v] := by
  subst hb
  exact (Nums.made W _ [v] 1 rfl rfl (by omega)).more (by simp)
theorem made17 : madeCells #[.int .i64 0] 17 = ((List.replicate 17 0).map encI64).toArray := by kernel_rfl
theorem nums_made17 (W : World) (b : Nat) (hb : W.heap.size = b) : Nums (W.alloc (.cells (madeCells #[.int .i64 0] 17) 2)) (W.alloc (.cells (madeCells #[.int .i64 0] 17) 2)).heap.size (some ⟨b, 0, none⟩) 17 (List.replicate 17 0) := by
  subst hb
  exact (Nums.made W _ (List.replicate 17 0) 17 made17 (by simp) (by omega)).more (by simp)
theorem in1 : inI64 1 := by unfold inI64; omega

set_option maxHeartbeats 8000000 in
set_option maxRecDepth 20000 in
theorem dataKinds_walk (k x : Int) (s : ByteArray) (a : Option Addr) (n c : Nat) (l : List Int) (what : Int) (w : World) (h : Nums w w.heap.size a n l) (hx : inI64 x) (hi : ∀ y ∈ l, inI64 y) (hm : Met w) :
    Calls Tryz.prog 6 #[.agg #[.int .i64 k, .int .i64 x, .string s, .slice a n c], .int .i64 what] w fun e w' => e = .returned (.bool true) ∧ Below w.heap.size w w' := by
  have HM := Lib.hid hm
  have HB0 := Lib.hid ((Below.refl w.heap.size w).alloc (Nat.le_refl _) (.cells #[.int .i64 k, .int .i64 x, .string s, .slice a n c] 24))
  have HX0 := Lib.hid (Box.new w _ rfl k x s a n c)
  have CF := Lib.hid (dataFirst_any _ (HM.out.keep HB0.out))
  have cmv : ∀ W, Below w.heap.size w W → Calls Tryz.prog 11 #[.agg #[.int .i64 k, .int .i64 x, .string s, .slice a n c]] W fun e w' => e = .returned (.bool (mayV ⟨k, x, s.toList, l⟩)) ∧ Below W.heap.size W w' := fun W hW =>
    may_any k x s a n c l W w.heap.size hW.size (h.below hW)
  cases hmv : mayV ⟨k, x, s.toList, l⟩
  · rw [hmv] at cmv
    have CMV := Lib.hid cmv
    have cs : ∀ W, Below w.heap.size w W → Calls Tryz.prog 17 #[.agg #[.int .i64 k, .int .i64 x, .string s, .slice a n c]] W fun e w' => e = .returned (.string ⟨#[]⟩) ∧ Below W.heap.size W w' := fun W hW => by
      have h := show_any k x s a n c l W w.heap.size hW.size (h.below hW) hx hi (fun h _ => by rw [hmv] at h; cases h) (HM.out.keep hW).pow
      rw [showV_may hmv] at h
      exact h
    have CS := Lib.hid cs
    clear cmv cs hmv h hx hi hm
    go_enter Tryz.func6, Tryz.ntmps6
    go_wp2_with (first
      | (go_at_call 8; (with_reducible refine CF.out.mono ?_)
         rintro e w1 ⟨rfl, hb1⟩
         have HB := Lib.hid (HB0.out.trans (hb1.mono HB0.out.size))
         have HX0 := Lib.hid (HX0.out.next hb1)
         obtain ⟨z0, p0, q0, r0, t0⟩ := HX0.out
         clear hb1)
      | (go_at_call 11; (with_reducible refine (CMV.out _ HB.out).mono ?_)
         rintro e w1 ⟨rfl, hb1⟩
         have HB := Lib.hid (below_next HB.out hb1)
         have HX0 := Lib.hid (HX0.out.next hb1)
         obtain ⟨z0, p0, q0, r0, t0⟩ := HX0.out
         clear hb1)
      | (go_at_call 17; (with_reducible refine (CS.out _ HB.out).mono ?_)
         rintro e w1 ⟨rfl, hb1⟩
         have HB := Lib.hid (below_next HB.out hb1)
         clear hb1)
      | fail)
    go_ret
    exact ⟨rfl, HB.out⟩
  · rw [hmv] at cmv
    have CMV := Lib.hid cmv
    obtain ⟨i, hi5, e5⟩ := what_mod what 5 (by omega) (by omega)
    obtain ⟨j, hj100, e100⟩ := what_mod what 100 (by omega) (by omega)
    have HH := Lib.hid h
    have HMV := Lib.hid hmv
    clear cmv hmv h hm
    have hi5' : i = 0 ∨ i = 1 ∨ i = 2 ∨ i = 3 ∨ i = 4 := by omega
    rcases hi5' with rfl | rfl | rfl | rfl | rfl
    · have e5 : (IntKind.u64.wrap what).tmod 5 = 0 := e5
      clear e100
      cases f1 : (k == 1)
      · cases f2 : (k == 2)
        · cases f5 : (k == 5)
          · have MFX := Lib.hid (kinds_num (v := ⟨k, x, s.toList, l⟩) (by rw [beq_eq_false_iff_ne] at f1; exact f1) (by rw [beq_eq_false_iff_ne] at f2; exact f2) (by rw [beq_eq_false_iff_ne] at f5; exact f5))
            go_enter Tryz.func6, Tryz.ntmps6
            go_wp2_with (first
              | (go_at_call 8; (with_reducible refine CF.out.mono ?_)
                 rintro e w1 ⟨rfl, hb1⟩
                 have HB := Lib.hid (HB0.out.trans (hb1.mono HB0.out.size))
                 have HX0 := Lib.hid (HX0.out.next hb1)
                 obtain ⟨z0, p0, q0, r0, t0⟩ := HX0.out
                 clear hb1)
              | (go_at_call 11; (with_reducible refine (CMV.out _ HB.out).mono ?_)
                 rintro e w2 ⟨rfl, hb1⟩
                 have HB := Lib.hid (below_next HB.out hb1)
                 have HX0 := Lib.hid (HX0.out.next hb1)
                 obtain ⟨z0, p0, q0, r0, t0⟩ := HX0.out
                 clear hb1
                 have hbw := (show Below w.heap.size w (w2.alloc (.cells #[.int .i64 k, .int .i64 1, .string s, .slice a n c] 24)) from HB.out.alloc HB.out.size _)
                 have HX1 := Lib.hid (show Box (w2.alloc (.cells #[.int .i64 k, .int .i64 1, .string s, .slice a n c] 24)) w2.heap.size k 1 s a n c from (Box.new w2 _ rfl _ _ _ _ _ _))
                 have HX2 := Lib.hid (show Box (w2.alloc (.cells #[.int .i64 k, .int .i64 1, .string s, .slice a n c] 24)) w.heap.size k x s a n c from (HX0.out.alloc _))
                 have hnw : Nums (w2.alloc (.cells #[.int .i64 k, .int .i64 1, .string s, .slice a n c] 24)) ((w2.alloc (.cells #[.int .i64 k, .int .i64 1, .string s, .slice a n c] 24))).heap.size a n l := ((HH.out.below (hbw)).more hbw.size)
                 have B1 := Lib.hid (bad_calls k x s a n c l k 1 s a n c l w HH.out HM.out HMV.out MFX.out in1 hi (w2.alloc (.cells #[.int .i64 k, .int .i64 1, .string s, .slice a n c] 24)) hbw hnw)
                 have B2 := Lib.hid (fun W hW (hd : Below ((w2.alloc (.cells #[.int .i64 k, .int .i64 1, .string s, .slice a n c] 24))).heap.size (w2.alloc (.cells #[.int .i64 k, .int .i64 1, .string s, .slice a n c] 24)) W) => bad_calls k x s a n c l k 1 s a n c l w HH.out HM.out HMV.out MFX.out in1 hi W hW ((hnw.below hd).more hd.size))
                 have HBW := Lib.hid hbw
                 clear hbw hnw)
              | (go_at_call 11; (with_reducible refine B1.out.1.mono ?_)
                 rintro e w3 ⟨rfl, hb1⟩
                 have HD := Lib.hid hb1
                 have HB3 := Lib.hid (below_next HBW.out hb1)
                 have HX1 := Lib.hid (HX1.out.next hb1)
                 have HX2 := Lib.hid (HX2.out.next hb1)
                 obtain ⟨z1, p1, q1, r1, t1⟩ := HX1.out
                 obtain ⟨z2, p2, q2, r2, t2⟩ := HX2.out
                 clear hb1)
              | (go_at_call 17; (with_reducible refine (B2.out _ HB3.out HD.out).2.1.mono ?_)
                 rintro e w4 ⟨rfl, hb1⟩
                 have HD4 := Lib.hid (below_next HD.out hb1)
                 have HB4 := Lib.hid (below_next HB3.out hb1)
                 have HX1 := Lib.hid (HX1.out.next hb1)
                 have HX2 := Lib.hid (HX2.out.next hb1)
                 obtain ⟨z3, p3, q3, r3, t3⟩ := HX1.out
                 obtain ⟨z4, p4, q4, r4, t4⟩ := HX2.out
                 clear hb1)
              | (go_at_call 13; (with_reducible refine (B2.out _ HB4.out HD4.out).2.2.mono ?_)
                 rintro e w5 ⟨rfl, hb1⟩
                 have HB5 := Lib.hid (below_next HB4.out hb1)
                 clear hb1)
              | fail)
            go_ret
            exact ⟨rfl, HB5.out⟩
          · go_enter Tryz.func6, Tryz.ntmps6
            go_wp2_with (first
              | (go_at_call 8; (with_reducible refine CF.out.mono ?_)
                 rintro e w1 ⟨rfl, hb1⟩
                 have HB := Lib.hid (HB0.out.trans (hb1.mono HB0.out.size))
                 have HX0 := Lib.hid (HX0.out.next hb1)
                 obtain ⟨z0, p0, q0, r0, t0⟩ := HX0.out
                 clear hb1)
              | (go_at_call 11; (with_reducible refine (CMV.out _ HB.out).mono ?_)
                 rintro e w2 ⟨rfl, hb1⟩
                 have HB := Lib.hid (below_next HB.out hb1)
                 have HX0 := Lib.hid (HX0.out.next hb1)
                 obtain ⟨z0, p0, q0, r0, t0⟩ := HX0.out
                 clear hb1)
              | fail)
            go_ret
            exact ⟨rfl, HB.out.alloc HB.out.size _⟩
        · go_enter Tryz.func6, Tryz.ntmps6
          go_wp2_with (first
            | (go_at_call 8; (with_reducible refine CF.out.mono ?_)
               rintro e w1 ⟨rfl, hb1⟩
               have HB := Lib.hid (HB0.out.trans (hb1.mono HB0.out.size))
               have HX0 := Lib.hid (HX0.out.next hb1)
               obtain ⟨z0, p0, q0, r0, t0⟩ := HX0.out
               clear hb1)
            | (go_at_call 11; (with_reducible refine (CMV.out _ HB.out).mono ?_)
               rintro e w2 ⟨rfl, hb1⟩
               have HB := Lib.hid (below_next HB.out hb1)
               have HX0 := Lib.hid (HX0.out.next hb1)
               obtain ⟨z0, p0, q0, r0, t0⟩ := HX0.out
               clear hb1)
            | fail)
          go_ret
          exact ⟨rfl, HB.out.alloc HB.out.size _⟩
      · go_enter Tryz.func6, Tryz.ntmps6
        go_wp2_with (first
          | (go_at_call 8; (with_reducible refine CF.out.mono ?_)
             rintro e w1 ⟨rfl, hb1⟩
             have HB := Lib.hid (HB0.out.trans (hb1.mono HB0.out.size))
             have HX0 := Lib.hid (HX0.out.next hb1)
             obtain ⟨z0, p0, q0, r0, t0⟩ := HX0.out
             clear hb1)
          | (go_at_call 11; (with_reducible refine (CMV.out _ HB.out).mono ?_)
             rintro e w2 ⟨rfl, hb1⟩
             have HB := Lib.hid (below_next HB.out hb1)
             have HX0 := Lib.hid (HX0.out.next hb1)
             obtain ⟨z0, p0, q0, r0, t0⟩ := HX0.out
             clear hb1)
          | fail)
        go_ret
        exact ⟨rfl, HB.out.alloc HB.out.size _⟩
    · have e5 : (IntKind.u64.wrap what).tmod 5 = 1 := e5
      clear e100
      cases f3 : (k == 3)
      · cases f5 : (k == 5)
        · have MFX := Lib.hid (show mayV ⟨k, x, (⟨#[120]⟩ : ByteArray).toList, l⟩ = false by rw [lit_is [120] ⟨#[120]⟩ rfl]; exact kinds_text (v := ⟨k, x, s.toList, l⟩) 120 (by rw [beq_eq_false_iff_ne] at f3; exact f3) (by rw [beq_eq_false_iff_ne] at f5; exact f5))
          go_enter Tryz.func6, Tryz.ntmps6
          go_wp2_with (first
            | (go_at_call 8; (with_reducible refine CF.out.mono ?_)
               rintro e w1 ⟨rfl, hb1⟩
               have HB := Lib.hid (HB0.out.trans (hb1.mono HB0.out.size))
               have HX0 := Lib.hid (HX0.out.next hb1)
               obtain ⟨z0, p0, q0, r0, t0⟩ := HX0.out
               clear hb1)
            | (go_at_call 11; (with_reducible refine (CMV.out _ HB.out).mono ?_)
               rintro e w2 ⟨rfl, hb1⟩
               have HB := Lib.hid (below_next HB.out hb1)
               have HX0 := Lib.hid (HX0.out.next hb1)
               obtain ⟨z0, p0, q0, r0, t0⟩ := HX0.out
               clear hb1
               have hbw := (show Below w.heap.size w (w2.alloc (.cells #[.int .i64 k, .int .i64 x, .string ⟨#[120]⟩, .slice a n c] 24)) from HB.out.alloc HB.out.size _)
               have HX1 := Lib.hid (show Box (w2.alloc (.cells #[.int .i64 k, .int .i64 x, .string ⟨#[120]⟩, .slice a n c] 24)) w2.heap.size k x ⟨#[120]⟩ a n c from (Box.new w2 _ rfl _ _ _ _ _ _))
               have HX2 := Lib.hid (show Box (w2.alloc (.cells #[.int .i64 k, .int .i64 x, .string ⟨#[120]⟩, .slice a n c] 24)) w.heap.size k x s a n c from (HX0.out.alloc _))
               have hnw : Nums (w2.alloc (.cells #[.int .i64 k, .int .i64 x, .string ⟨#[120]⟩, .slice a n c] 24)) ((w2.alloc (.cells #[.int .i64 k, .int .i64 x, .string ⟨#[120]⟩, .slice a n c] 24))).heap.size a n l := ((HH.out.below (hbw)).more hbw.size)
               have B1 := Lib.hid (bad_calls k x s a n c l k x ⟨#[120]⟩ a n c l w HH.out HM.out HMV.out MFX.out hx hi (w2.alloc (.cells #[.int .i64 k, .int .i64 x, .string ⟨#[120]⟩, .slice a n c] 24)) hbw hnw)
               have B2 := Lib.hid (fun W hW (hd : Below ((w2.alloc (.cells #[.int .i64 k, .int .i64 x, .string ⟨#[120]⟩, .slice a n c] 24))).heap.size (w2.alloc (.cells #[.int .i64 k, .int .i64 x, .string ⟨#[120]⟩, .slice a n c] 24)) W) => bad_calls k x s a n c l k x ⟨#[120]⟩ a n c l w HH.out HM.out HMV.out MFX.out hx hi W hW ((hnw.below hd).more hd.size))
               have HBW := Lib.hid hbw
               clear hbw hnw)
            | (go_at_call 11; (with_reducible refine B1.out.1.mono ?_)
               rintro e w3 ⟨rfl, hb1⟩
               have HD := Lib.hid hb1
               have HB3 := Lib.hid (below_next HBW.out hb1)
               have HX1 := Lib.hid (HX1.out.next hb1)
               have HX2 := Lib.hid (HX2.out.next hb1)
               obtain ⟨z1, p1, q1, r1, t1⟩ := HX1.out
               obtain ⟨z2, p2, q2, r2, t2⟩ := HX2.out
               clear hb1)
            | (go_at_call 17; (with_reducible refine (B2.out _ HB3.out HD.out).2.1.mono ?_)
               rintro e w4 ⟨rfl, hb1⟩
               have HD4 := Lib.hid (below_next HD.out hb1)
               have HB4 := Lib.hid (below_next HB3.out hb1)
               have HX1 := Lib.hid (HX1.out.next hb1)
               have HX2 := Lib.hid (HX2.out.next hb1)
               obtain ⟨z3, p3, q3, r3, t3⟩ := HX1.out
               obtain ⟨z4, p4, q4, r4, t4⟩ := HX2.out
               clear hb1)
            | (go_at_call 13; (with_reducible refine (B2.out _ HB4.out HD4.out).2.2.mono ?_)
               rintro e w5 ⟨rfl, hb1⟩
               have HB5 := Lib.hid (below_next HB4.out hb1)
               clear hb1)
            | fail)
          go_ret
          exact ⟨rfl, HB5.out⟩
        · have MFX := Lib.hid (kinds_nums (v := ⟨k, x, s.toList, l⟩) 0 (.inr (eq_of_beq f5)))
          go_enter Tryz.func6, Tryz.ntmps6
          go_wp2_with (first
            | (go_at_call 8; (with_reducible refine CF.out.mono ?_)
               rintro e w1 ⟨rfl, hb1⟩
               have HB := Lib.hid (HB0.out.trans (hb1.mono HB0.out.size))
               have HX0 := Lib.hid (HX0.out.next hb1)
               obtain ⟨z0, p0, q0, r0, t0⟩ := HX0.out
               clear hb1)
            | (go_at_call 11; (with_reducible refine (CMV.out _ HB.out).mono ?_)
               rintro e w2 ⟨rfl, hb1⟩
               have HB := Lib.hid (below_next HB.out hb1)
               have HX0 := Lib.hid (HX0.out.next hb1)
               obtain ⟨z0, p0, q0, r0, t0⟩ := HX0.out
               clear hb1
               have hbw := (show Below w.heap.size w ((w2.alloc (.cells #[.int .i64 k, .int .i64 x, .string s, .slice (some ⟨w2.heap.size + 1, 0, none⟩) 1 1] 24)).alloc (.cells #[.int .i64 0] 2)) from (HB.out.alloc HB.out.size _).alloc (by have := HB.out.size; simp; omega) _)
               have HX1 := Lib.hid (show Box ((w2.alloc (.cells #[.int .i64 k, .int .i64 x, .string s, .slice (some ⟨w2.heap.size + 1, 0, none⟩) 1 1] 24)).alloc (.cells #[.int .i64 0] 2)) w2.heap.size k x s (some ⟨w2.heap.size + 1, 0, none⟩) 1 1 from ((Box.new w2 _ rfl _ _ _ _ _ _).alloc _))
               have HX2 := Lib.hid (show Box ((w2.alloc (.cells #[.int .i64 k, .int .i64 x, .string s, .slice (some ⟨w2.heap.size + 1, 0, none⟩) 1 1] 24)).alloc (.cells #[.int .i64 0] 2)) w.heap.size k x s a n c from ((HX0.out.alloc _).alloc _))
               have hnw : Nums ((w2.alloc (.cells #[.int .i64 k, .int .i64 x, .string s, .slice (some ⟨w2.heap.size + 1, 0, none⟩) 1 1] 24)).alloc (.cells #[.int .i64 0] 2)) (((w2.alloc (.cells #[.int .i64 k, .int .i64 x, .string s, .slice (some ⟨w2.heap.size + 1, 0, none⟩) 1 1] 24)).alloc (.cells #[.int .i64 0] 2))).heap.size (some ⟨w2.heap.size + 1, 0, none⟩) 1 [0] := nums_made1 _ _ 0 (by simp)
               have B1 := Lib.hid (bad_calls k x s a n c l k x s (some ⟨w2.heap.size + 1, 0, none⟩) 1 1 [0] w HH.out HM.out HMV.out MFX.out hx (fun y hy => by simp only [List.mem_cons, List.not_mem_nil, or_false] at hy; unfold inI64; omega) ((w2.alloc (.cells #[.int .i64 k, .int .i64 x, .string s, .slice (some ⟨w2.heap.size + 1, 0, none⟩) 1 1] 24)).alloc (.cells #[.int .i64 0] 2)) hbw hnw)
               have B2 := Lib.hid (fun W hW (hd : Below (((w2.alloc (.cells #[.int .i64 k, .int .i64 x, .string s, .slice (some ⟨w2.heap.size + 1, 0, none⟩) 1 1] 24)).alloc (.cells #[.int .i64 0] 2))).heap.size ((w2.alloc (.cells #[.int .i64 k, .int .i64 x, .string s, .slice (some ⟨w2.heap.size + 1, 0, none⟩) 1 1] 24)).alloc (.cells #[.int .i64 0] 2)) W) => bad_calls k x s a n c l k x s (some ⟨w2.heap.size + 1, 0, none⟩) 1 1 [0] w HH.out HM.out HMV.out MFX.out hx (fun y hy => by simp only [List.mem_cons, List.not_mem_nil, or_false] at hy; unfold inI64; omega) W hW ((hnw.below hd).more hd.size))
               have HBW := Lib.hid hbw
               clear hbw hnw)
            | (go_at_call 11; (with_reducible refine B1.out.1.mono ?_)
               rintro e w3 ⟨rfl, hb1⟩
               have HD := Lib.hid hb1
               have HB3 := Lib.hid (below_next HBW.out hb1)
               have HX1 := Lib.hid (HX1.out.next hb1)
               have HX2 := Lib.hid (HX2.out.next hb1)
               obtain ⟨z1, p1, q1, r1, t1⟩ := HX1.out
               obtain ⟨z2, p2, q2, r2, t2⟩ := HX2.out
               clear hb1)
            | (go_at_call 17; (with_reducible refine (B2.out _ HB3.out HD.out).2.1.mono ?_)
               rintro e w4 ⟨rfl, hb1⟩
               have HD4 := Lib.hid (below_next HD.out hb1)
               have HB4 := Lib.hid (below_next HB3.out hb1)
               have HX1 := Lib.hid (HX1.out.next hb1)
               have HX2 := Lib.hid (HX2.out.next hb1)
               obtain ⟨z3, p3, q3, r3, t3⟩ := HX1.out
               obtain ⟨z4, p4, q4, r4, t4⟩ := HX2.out
               clear hb1)
            | (go_at_call 13; (with_reducible refine (B2.out _ HB4.out HD4.out).2.2.mono ?_)
               rintro e w5 ⟨rfl, hb1⟩
               have HB5 := Lib.hid (below_next HB4.out hb1)
               clear hb1)
            | fail)
          go_ret
          exact ⟨rfl, HB5.out⟩
      · have MFX := Lib.hid (kinds_nums (v := ⟨k, x, s.toList, l⟩) 0 (.inl (eq_of_beq f3)))
        go_enter Tryz.func6, Tryz.ntmps6
        go_wp2_with (first
          | (go_at_call 8; (with_reducible refine CF.out.mono ?_)
             rintro e w1 ⟨rfl, hb1⟩
             have HB := Lib.hid (HB0.out.trans (hb1.mono HB0.out.size))
             have HX0 := Lib.hid (HX0.out.next hb1)
             obtain ⟨z0, p0, q0, r0, t0⟩ := HX0.out
             clear hb1)
          | (go_at_call 11; (with_reducible refine (CMV.out _ HB.out).mono ?_)
             rintro e w2 ⟨rfl, hb1⟩
             have HB := Lib.hid (below_next HB.out hb1)
             have HX0 := Lib.hid (HX0.out.next hb1)
             obtain ⟨z0, p0, q0, r0, t0⟩ := HX0.out
             clear hb1
             have hbw := (show Below w.heap.size w ((w2.alloc (.cells #[.int .i64 k, .int .i64 x, .string s, .slice (some ⟨w2.heap.size + 1, 0, none⟩) 1 1] 24)).alloc (.cells #[.int .i64 0] 2)) from (HB.out.alloc HB.out.size _).alloc (by have := HB.out.size; simp; omega) _)
             have HX1 := Lib.hid (show Box ((w2.alloc (.cells #[.int .i64 k, .int .i64 x, .string s, .slice (some ⟨w2.heap.size + 1, 0, none⟩) 1 1] 24)).alloc (.cells #[.int .i64 0] 2)) w2.heap.size k x s (some ⟨w2.heap.size + 1, 0, none⟩) 1 1 from ((Box.new w2 _ rfl _ _ _ _ _ _).alloc _))
             have HX2 := Lib.hid (show Box ((w2.alloc (.cells #[.int .i64 k, .int .i64 x, .string s, .slice (some ⟨w2.heap.size + 1, 0, none⟩) 1 1] 24)).alloc (.cells #[.int .i64 0] 2)) w.heap.size k x s a n c from ((HX0.out.alloc _).alloc _))
             have hnw : Nums ((w2.alloc (.cells #[.int .i64 k, .int .i64 x, .string s, .slice (some ⟨w2.heap.size + 1, 0, none⟩) 1 1] 24)).alloc (.cells #[.int .i64 0] 2)) (((w2.alloc (.cells #[.int .i64 k, .int .i64 x, .string s, .slice (some ⟨w2.heap.size + 1, 0, none⟩) 1 1] 24)).alloc (.cells #[.int .i64 0] 2))).heap.size (some ⟨w2.heap.size + 1, 0, none⟩) 1 [0] := nums_made1 _ _ 0 (by simp)
             have B1 := Lib.hid (bad_calls k x s a n c l k x s (some ⟨w2.heap.size + 1, 0, none⟩) 1 1 [0] w HH.out HM.out HMV.out MFX.out hx (fun y hy => by simp only [List.mem_cons, List.not_mem_nil, or_false] at hy; unfold inI64; omega) ((w2.alloc (.cells #[.int .i64 k, .int .i64 x, .string s, .slice (some ⟨w2.heap.size + 1, 0, none⟩) 1 1] 24)).alloc (.cells #[.int .i64 0] 2)) hbw hnw)
             have B2 := Lib.hid (fun W hW (hd : Below (((w2.alloc (.cells #[.int .i64 k, .int .i64 x, .string s, .slice (some ⟨w2.heap.size + 1, 0, none⟩) 1 1] 24)).alloc (.cells #[.int .i64 0] 2))).heap.size ((w2.alloc (.cells #[.int .i64 k, .int .i64 x, .string s, .slice (some ⟨w2.heap.size + 1, 0, none⟩) 1 1] 24)).alloc (.cells #[.int .i64 0] 2)) W) => bad_calls k x s a n c l k x s (some ⟨w2.heap.size + 1, 0, none⟩) 1 1 [0] w HH.out HM.out HMV.out MFX.out hx (fun y hy => by simp only [List.mem_cons, List.not_mem_nil, or_false] at hy; unfold inI64; omega) W hW ((hnw.below hd).more hd.size))
             have HBW := Lib.hid hbw
             clear hbw hnw)
          | (go_at_call 11; (with_reducible refine B1.out.1.mono ?_)
             rintro e w3 ⟨rfl, hb1⟩
             have HD := Lib.hid hb1
             have HB3 := Lib.hid (below_next HBW.out hb1)
             have HX1 := Lib.hid (HX1.out.next hb1)
             have HX2 := Lib.hid (HX2.out.next hb1)
             obtain ⟨z1, p1, q1, r1, t1⟩ := HX1.out
             obtain ⟨z2, p2, q2, r2, t2⟩ := HX2.out
             clear hb1)
          | (go_at_call 17; (with_reducible refine (B2.out _ HB3.out HD.out).2.1.mono ?_)
             rintro e w4 ⟨rfl, hb1⟩
             have HD4 := Lib.hid (below_next HD.out hb1)
             have HB4 := Lib.hid (below_next HB3.out hb1)
             have HX1 := Lib.hid (HX1.out.next hb1)
             have HX2 := Lib.hid (HX2.out.next hb1)
             obtain ⟨z3, p3, q3, r3, t3⟩ := HX1.out
             obtain ⟨z4, p4, q4, r4, t4⟩ := HX2.out
             clear hb1)
          | (go_at_call 13; (with_reducible refine (B2.out _ HB4.out HD4.out).2.2.mono ?_)
             rintro e w5 ⟨rfl, hb1⟩
             have HB5 := Lib.hid (below_next HB4.out hb1)
             clear hb1)
          | fail)
        go_ret
        exact ⟨rfl, HB5.out⟩
    · have e5 : (IntKind.u64.wrap what).tmod 5 = 2 := e5
      clear e100
      cases f4 : (k == 4)
      · have MFX := Lib.hid (kinds_list (v := ⟨k, x, s.toList, l⟩) 7 (by rw [beq_eq_false_iff_ne] at f4; exact f4))
        go_enter Tryz.func6, Tryz.ntmps6
        go_wp2_with (first
          | (go_at_call 8; (with_reducible refine CF.out.mono ?_)
             rintro e w1 ⟨rfl, hb1⟩
             have HB := Lib.hid (HB0.out.trans (hb1.mono HB0.out.size))
             have HX0 := Lib.hid (HX0.out.next hb1)
             obtain ⟨z0, p0, q0, r0, t0⟩ := HX0.out
             clear hb1)
          | (go_at_call 11; (with_reducible refine (CMV.out _ HB.out).mono ?_)
             rintro e w2 ⟨rfl, hb1⟩
             have HB := Lib.hid (below_next HB.out hb1)
             have HX0 := Lib.hid (HX0.out.next hb1)
             obtain ⟨z0, p0, q0, r0, t0⟩ := HX0.out
             clear hb1
             have hbw := (show Below w.heap.size w ((w2.alloc (.cells #[.int .i64 k, .int .i64 x, .string s, .slice (some ⟨w2.heap.size + 1, 0, none⟩) 1 1] 24)).alloc (.cells #[.int .i64 7] 2)) from (HB.out.alloc HB.out.size _).alloc (by have := HB.out.size; simp; omega) _)
             have HX1 := Lib.hid (show Box ((w2.alloc (.cells #[.int .i64 k, .int .i64 x, .string s, .slice (some ⟨w2.heap.size + 1, 0, none⟩) 1 1] 24)).alloc (.cells #[.int .i64 7] 2)) w2.heap.size k x s (some ⟨w2.heap.size + 1, 0, none⟩) 1 1 from ((Box.new w2 _ rfl _ _ _ _ _ _).alloc _))
             have HX2 := Lib.hid (show Box ((w2.alloc (.cells #[.int .i64 k, .int .i64 x, .string s, .slice (some ⟨w2.heap.size + 1, 0, none⟩) 1 1] 24)).alloc (.cells #[.int .i64 7] 2)) w.heap.size k x s a n c from ((HX0.out.alloc _).alloc _))
             have hnw : Nums ((w2.alloc (.cells #[.int .i64 k, .int .i64 x, .string s, .slice (some ⟨w2.heap.size + 1, 0, none⟩) 1 1] 24)).alloc (.cells #[.int .i64 7] 2)) (((w2.alloc (.cells #[.int .i64 k, .int .i64 x, .string s, .slice (some ⟨w2.heap.size + 1, 0, none⟩) 1 1] 24)).alloc (.cells #[.int .i64 7] 2))).heap.size (some ⟨w2.heap.size + 1, 0, none⟩) 1 [7] := nums_made1 _ _ 7 (by simp)
             have B1 := Lib.hid (bad_calls k x s a n c l k x s (some ⟨w2.heap.size + 1, 0, none⟩) 1 1 [7] w HH.out HM.out HMV.out MFX.out hx (fun y hy => by simp only [List.mem_cons, List.not_mem_nil, or_false] at hy; unfold inI64; omega) ((w2.alloc (.cells #[.int .i64 k, .int .i64 x, .string s, .slice (some ⟨w2.heap.size + 1, 0, none⟩) 1 1] 24)).alloc (.cells #[.int .i64 7] 2)) hbw hnw)
             have B2 := Lib.hid (fun W hW (hd : Below (((w2.alloc (.cells #[.int .i64 k, .int .i64 x, .string s, .slice (some ⟨w2.heap.size + 1, 0, none⟩) 1 1] 24)).alloc (.cells #[.int .i64 7] 2))).heap.size ((w2.alloc (.cells #[.int .i64 k, .int .i64 x, .string s, .slice (some ⟨w2.heap.size + 1, 0, none⟩) 1 1] 24)).alloc (.cells #[.int .i64 7] 2)) W) => bad_calls k x s a n c l k x s (some ⟨w2.heap.size + 1, 0, none⟩) 1 1 [7] w HH.out HM.out HMV.out MFX.out hx (fun y hy => by simp only [List.mem_cons, List.not_mem_nil, or_false] at hy; unfold inI64; omega) W hW ((hnw.below hd).more hd.size))
             have HBW := Lib.hid hbw
             clear hbw hnw)
          | (go_at_call 11; (with_reducible refine B1.out.1.mono ?_)
             rintro e w3 ⟨rfl, hb1⟩
             have HD := Lib.hid hb1
             have HB3 := Lib.hid (below_next HBW.out hb1)
             have HX1 := Lib.hid (HX1.out.next hb1)
             have HX2 := Lib.hid (HX2.out.next hb1)
             obtain ⟨z1, p1, q1, r1, t1⟩ := HX1.out
             obtain ⟨z2, p2, q2, r2, t2⟩ := HX2.out
             clear hb1)
          | (go_at_call 17; (with_reducible refine (B2.out _ HB3.out HD.out).2.1.mono ?_)
             rintro e w4 ⟨rfl, hb1⟩
             have HD4 := Lib.hid (below_next HD.out hb1)
             have HB4 := Lib.hid (below_next HB3.out hb1)
             have HX1 := Lib.hid (HX1.out.next hb1)
             have HX2 := Lib.hid (HX2.out.next hb1)
             obtain ⟨z3, p3, q3, r3, t3⟩ := HX1.out
             obtain ⟨z4, p4, q4, r4, t4⟩ := HX2.out
             clear hb1)
          | (go_at_call 13; (with_reducible refine (B2.out _ HB4.out HD4.out).2.2.mono ?_)
             rintro e w5 ⟨rfl, hb1⟩
             have HB5 := Lib.hid (below_next HB4.out hb1)
             clear hb1)
          | fail)
        go_ret
        exact ⟨rfl, HB5.out⟩
      · have MFX := Lib.hid (kinds_long (v := ⟨k, x, s.toList, l⟩) (l := List.replicate 17 0) (eq_of_beq f4) (by simp))
        have hmk := fun W => made_nums W
        go_enter Tryz.func6, Tryz.ntmps6
        go_wp2_with (first
          | (go_at_call 8; (with_reducible refine CF.out.mono ?_)
             rintro e w1 ⟨rfl, hb1⟩
             have HB := Lib.hid (HB0.out.trans (hb1.mono HB0.out.size))
             have HX0 := Lib.hid (HX0.out.next hb1)
             obtain ⟨z0, p0, q0, r0, t0⟩ := HX0.out
             clear hb1)
          | (go_at_call 11; (with_reducible refine (CMV.out _ HB.out).mono ?_)
             rintro e w2 ⟨rfl, hb1⟩
             have HB := Lib.hid (below_next HB.out hb1)
             have HX0 := Lib.hid (HX0.out.next hb1)
             obtain ⟨z0, p0, q0, r0, t0⟩ := HX0.out
             clear hb1
             have hbw := (show Below w.heap.size w ((w2.alloc (.cells #[.int .i64 k, .int .i64 x, .string s, .slice (some ⟨w2.heap.size + 1, 0, none⟩) 17 17] 24)).alloc (.cells (madeCells #[.int .i64 0] 17) 2)) from (HB.out.alloc HB.out.size _).alloc (by have := HB.out.size; simp; omega) _)
             have HX1 := Lib.hid (show Box ((w2.alloc (.cells #[.int .i64 k, .int .i64 x, .string s, .slice (some ⟨w2.heap.size + 1, 0, none⟩) 17 17] 24)).alloc (.cells (madeCells #[.int .i64 0] 17) 2)) w2.heap.size k x s (some ⟨w2.heap.size + 1, 0, none⟩) 17 17 from ((Box.new w2 _ rfl _ _ _ _ _ _).alloc _))
             have HX2 := Lib.hid (show Box ((w2.alloc (.cells #[.int .i64 k, .int .i64 x, .string s, .slice (some ⟨w2.heap.size + 1, 0, none⟩) 17 17] 24)).alloc (.cells (madeCells #[.int .i64 0] 17) 2)) w.heap.size k x s a n c from ((HX0.out.alloc _).alloc _))
             have hnw : Nums ((w2.alloc (.cells #[.int .i64 k, .int .i64 x, .string s, .slice (some ⟨w2.heap.size + 1, 0, none⟩) 17 17] 24)).alloc (.cells (madeCells #[.int .i64 0] 17) 2)) (((w2.alloc (.cells #[.int .i64 k, .int .i64 x, .string s, .slice (some ⟨w2.heap.size + 1, 0, none⟩) 17 17] 24)).alloc (.cells (madeCells #[.int .i64 0] 17) 2))).heap.size (some ⟨w2.heap.size + 1, 0, none⟩) 17 (List.replicate 17 0) := nums_made17 _ _ (by simp)
             have B1 := Lib.hid (bad_calls k x s a n c l k x s (some ⟨w2.heap.size + 1, 0, none⟩) 17 17 (List.replicate 17 0) w HH.out HM.out HMV.out MFX.out hx (fun y hy => by rw [List.eq_of_mem_replicate hy]; exact in0) ((w2.alloc (.cells #[.int .i64 k, .int .i64 x, .string s, .slice (some ⟨w2.heap.size + 1, 0, none⟩) 17 17] 24)).alloc (.cells (madeCells #[.int .i64 0] 17) 2)) hbw hnw)
             have B2 := Lib.hid (fun W hW (hd : Below (((w2.alloc (.cells #[.int .i64 k, .int .i64 x, .string s, .slice (some ⟨w2.heap.size + 1, 0, none⟩) 17 17] 24)).alloc (.cells (madeCells #[.int .i64 0] 17) 2))).heap.size ((w2.alloc (.cells #[.int .i64 k, .int .i64 x, .string s, .slice (some ⟨w2.heap.size + 1, 0, none⟩) 17 17] 24)).alloc (.cells (madeCells #[.int .i64 0] 17) 2)) W) => bad_calls k x s a n c l k x s (some ⟨w2.heap.size + 1, 0, none⟩) 17 17 (List.replicate 17 0) w HH.out HM.out HMV.out MFX.out hx (fun y hy => by rw [List.eq_of_mem_replicate hy]; exact in0) W hW ((hnw.below hd).more hd.size))
             have HBW := Lib.hid hbw
             clear hbw hnw)
          | (go_at_call 11; (with_reducible refine B1.out.1.mono ?_)
             rintro e w3 ⟨rfl, hb1⟩
             have HD := Lib.hid hb1
             have HB3 := Lib.hid (below_next HBW.out hb1)
             have HX1 := Lib.hid (HX1.out.next hb1)
             have HX2 := Lib.hid (HX2.out.next hb1)
             obtain ⟨z1, p1, q1, r1, t1⟩ := HX1.out
             obtain ⟨z2, p2, q2, r2, t2⟩ := HX2.out
             clear hb1)
          | (go_at_call 17; (with_reducible refine (B2.out _ HB3.out HD.out).2.1.mono ?_)
             rintro e w4 ⟨rfl, hb1⟩
             have HD4 := Lib.hid (below_next HD.out hb1)
             have HB4 := Lib.hid (below_next HB3.out hb1)
             have HX1 := Lib.hid (HX1.out.next hb1)
             have HX2 := Lib.hid (HX2.out.next hb1)
             obtain ⟨z3, p3, q3, r3, t3⟩ := HX1.out
             obtain ⟨z4, p4, q4, r4, t4⟩ := HX2.out
             clear hb1)
          | (go_at_call 13; (with_reducible refine (B2.out _ HB4.out HD4.out).2.2.mono ?_)
             rintro e w5 ⟨rfl, hb1⟩
             have HB5 := Lib.hid (below_next HB4.out hb1)
             clear hb1)
          | fail)
        go_ret
        exact ⟨rfl, HB5.out⟩
    · have e5 : (IntKind.u64.wrap what).tmod 5 = 3 := e5
      have e100 : (IntKind.u64.wrap what).tmod 100 = (j : Int) := e100
      have MFX := Lib.hid (kinds_kind (v := ⟨k, x, s.toList, l⟩) (k := 6 + (j : Int)) (by omega))
      go_enter Tryz.func6, Tryz.ntmps6
      go_wp2_with (first
        | (go_at_call 8; (with_reducible refine CF.out.mono ?_)
           rintro e w1 ⟨rfl, hb1⟩
           have HB := Lib.hid (HB0.out.trans (hb1.mono HB0.out.size))
           have HX0 := Lib.hid (HX0.out.next hb1)
           obtain ⟨z0, p0, q0, r0, t0⟩ := HX0.out
           clear hb1)
        | (go_at_call 11; (with_reducible refine (CMV.out _ HB.out).mono ?_)
           rintro e w2 ⟨rfl, hb1⟩
           have HB := Lib.hid (below_next HB.out hb1)
           have HX0 := Lib.hid (HX0.out.next hb1)
           obtain ⟨z0, p0, q0, r0, t0⟩ := HX0.out
           clear hb1
           have hbw := (show Below w.heap.size w (w2.alloc (.cells #[.int .i64 (6 + (j : Int)), .int .i64 x, .string s, .slice a n c] 24)) from HB.out.alloc HB.out.size _)
           have HX1 := Lib.hid (show Box (w2.alloc (.cells #[.int .i64 (6 + (j : Int)), .int .i64 x, .string s, .slice a n c] 24)) w2.heap.size (6 + (j : Int)) x s a n c from (Box.new w2 _ rfl _ _ _ _ _ _))
           have HX2 := Lib.hid (show Box (w2.alloc (.cells #[.int .i64 (6 + (j : Int)), .int .i64 x, .string s, .slice a n c] 24)) w.heap.size k x s a n c from (HX0.out.alloc _))
           have hnw : Nums (w2.alloc (.cells #[.int .i64 (6 + (j : Int)), .int .i64 x, .string s, .slice a n c] 24)) ((w2.alloc (.cells #[.int .i64 (6 + (j : Int)), .int .i64 x, .string s, .slice a n c] 24))).heap.size a n l := ((HH.out.below (hbw)).more hbw.size)
           have B1 := Lib.hid (bad_calls k x s a n c l (6 + (j : Int)) x s a n c l w HH.out HM.out HMV.out MFX.out hx hi (w2.alloc (.cells #[.int .i64 (6 + (j : Int)), .int .i64 x, .string s, .slice a n c] 24)) hbw hnw)
           have B2 := Lib.hid (fun W hW (hd : Below ((w2.alloc (.cells #[.int .i64 (6 + (j : Int)), .int .i64 x, .string s, .slice a n c] 24))).heap.size (w2.alloc (.cells #[.int .i64 (6 + (j : Int)), .int .i64 x, .string s, .slice a n c] 24)) W) => bad_calls k x s a n c l (6 + (j : Int)) x s a n c l w HH.out HM.out HMV.out MFX.out hx hi W hW ((hnw.below hd).more hd.size))
           have HBW := Lib.hid hbw
           clear hbw hnw)
        | (go_at_call 11; (with_reducible refine B1.out.1.mono ?_)
           rintro e w3 ⟨rfl, hb1⟩
           have HD := Lib.hid hb1
           have HB3 := Lib.hid (below_next HBW.out hb1)
           have HX1 := Lib.hid (HX1.out.next hb1)
           have HX2 := Lib.hid (HX2.out.next hb1)
           obtain ⟨z1, p1, q1, r1, t1⟩ := HX1.out
           obtain ⟨z2, p2, q2, r2, t2⟩ := HX2.out
           clear hb1)
        | (go_at_call 17; (with_reducible refine (B2.out _ HB3.out HD.out).2.1.mono ?_)
           rintro e w4 ⟨rfl, hb1⟩
           have HD4 := Lib.hid (below_next HD.out hb1)
           have HB4 := Lib.hid (below_next HB3.out hb1)
           have HX1 := Lib.hid (HX1.out.next hb1)
           have HX2 := Lib.hid (HX2.out.next hb1)
           obtain ⟨z3, p3, q3, r3, t3⟩ := HX1.out
           obtain ⟨z4, p4, q4, r4, t4⟩ := HX2.out
           clear hb1)
        | (go_at_call 13; (with_reducible refine (B2.out _ HB4.out HD4.out).2.2.mono ?_)
           rintro e w5 ⟨rfl, hb1⟩
           have HB5 := Lib.hid (below_next HB4.out hb1)
           clear hb1)
        | fail)
      go_ret
      exact ⟨rfl, HB5.out⟩
    · have e5 : (IntKind.u64.wrap what).tmod 5 = 4 := e5
      have e100 : (IntKind.u64.wrap what).tmod 100 = (j : Int) := e100
      have MFX := Lib.hid (kinds_kind (v := ⟨k, x, s.toList, l⟩) (k := -1 - (j : Int)) (by omega))
      go_enter Tryz.func6, Tryz.ntmps6
      go_wp2_with (first
        | (go_at_call 8; (with_reducible refine CF.out.mono ?_)
           rintro e w1 ⟨rfl, hb1⟩
           have HB := Lib.hid (HB0.out.trans (hb1.mono HB0.out.size))
           have HX0 := Lib.hid (HX0.out.next hb1)
           obtain ⟨z0, p0, q0, r0, t0⟩ := HX0.out
           clear hb1)
        | (go_at_call 11; (with_reducible refine (CMV.out _ HB.out).mono ?_)
           rintro e w2 ⟨rfl, hb1⟩
           have HB := Lib.hid (below_next HB.out hb1)
           have HX0 := Lib.hid (HX0.out.next hb1)
           obtain ⟨z0, p0, q0, r0, t0⟩ := HX0.out
           clear hb1
           have hbw := (show Below w.heap.size w (w2.alloc (.cells #[.int .i64 (-1 - (j : Int)), .int .i64 x, .string s, .slice a n c] 24)) from HB.out.alloc HB.out.size _)
           have HX1 := Lib.hid (show Box (w2.alloc (.cells #[.int .i64 (-1 - (j : Int)), .int .i64 x, .string s, .slice a n c] 24)) w2.heap.size (-1 - (j : Int)) x s a n c from (Box.new w2 _ rfl _ _ _ _ _ _))
           have HX2 := Lib.hid (show Box (w2.alloc (.cells #[.int .i64 (-1 - (j : Int)), .int .i64 x, .string s, .slice a n c] 24)) w.heap.size k x s a n c from (HX0.out.alloc _))
           have hnw : Nums (w2.alloc (.cells #[.int .i64 (-1 - (j : Int)), .int .i64 x, .string s, .slice a n c] 24)) ((w2.alloc (.cells #[.int .i64 (-1 - (j : Int)), .int .i64 x, .string s, .slice a n c] 24))).heap.size a n l := ((HH.out.below (hbw)).more hbw.size)
           have B1 := Lib.hid (bad_calls k x s a n c l (-1 - (j : Int)) x s a n c l w HH.out HM.out HMV.out MFX.out hx hi (w2.alloc (.cells #[.int .i64 (-1 - (j : Int)), .int .i64 x, .string s, .slice a n c] 24)) hbw hnw)
           have B2 := Lib.hid (fun W hW (hd : Below ((w2.alloc (.cells #[.int .i64 (-1 - (j : Int)), .int .i64 x, .string s, .slice a n c] 24))).heap.size (w2.alloc (.cells #[.int .i64 (-1 - (j : Int)), .int .i64 x, .string s, .slice a n c] 24)) W) => bad_calls k x s a n c l (-1 - (j : Int)) x s a n c l w HH.out HM.out HMV.out MFX.out hx hi W hW ((hnw.below hd).more hd.size))
           have HBW := Lib.hid hbw
           clear hbw hnw)
        | (go_at_call 11; (with_reducible refine B1.out.1.mono ?_)
           rintro e w3 ⟨rfl, hb1⟩
           have HD := Lib.hid hb1
           have HB3 := Lib.hid (below_next HBW.out hb1)
           have HX1 := Lib.hid (HX1.out.next hb1)
           have HX2 := Lib.hid (HX2.out.next hb1)
           obtain ⟨z1, p1, q1, r1, t1⟩ := HX1.out
           obtain ⟨z2, p2, q2, r2, t2⟩ := HX2.out
           clear hb1)
        | (go_at_call 17; (with_reducible refine (B2.out _ HB3.out HD.out).2.1.mono ?_)
           rintro e w4 ⟨rfl, hb1⟩
           have HD4 := Lib.hid (below_next HD.out hb1)
           have HB4 := Lib.hid (below_next HB3.out hb1)
           have HX1 := Lib.hid (HX1.out.next hb1)
           have HX2 := Lib.hid (HX2.out.next hb1)
           obtain ⟨z3, p3, q3, r3, t3⟩ := HX1.out
           obtain ⟨z4, p4, q4, r4, t4⟩ := HX2.out
           clear hb1)
        | (go_at_call 13; (with_reducible refine (B2.out _ HB4.out HD4.out).2.2.mono ?_)
           rintro e w5 ⟨rfl, hb1⟩
           have HB5 := Lib.hid (below_next HB4.out hb1)
           clear hb1)
        | fail)
      go_ret
      exact ⟨rfl, HB5.out⟩
end Go.Proofs.YtnanfmmafmcchaaGreatDoor
