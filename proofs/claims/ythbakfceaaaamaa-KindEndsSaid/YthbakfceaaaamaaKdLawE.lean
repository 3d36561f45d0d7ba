/- The law KindEnds returns true, whatever its arguments. -/
import Derived.Test.YthbakfceaaaamaaKdOfs
namespace Go.Proofs.Ythbakfceaaaamaa
open Go.RowKit

theorem may_c : may [99] = true := by decide
theorem ends_env (at0 : Int) : envT [⟨⟨#[99]⟩, 5, at0⟩] = [([99], 5)] := by
  unfold envT
  rw [List.map_cons, one_byte]
  rfl
theorem ends_var (at0 : Int) : kindF [varT [99]] 0 (envT [⟨⟨#[99]⟩, 5, at0⟩]) = (5, 0) := by
  rw [kindF_leaf _ (sound_var may_c) rfl, ends_env]
  rfl
theorem two_end {k : Int} (b : Int) (h0 : 0 ≤ k) (h19 : k ≤ 19) (h : arT k = 2) : twoK k 5 b = (0, 502) ∧ (b = 1 → twoK k b 5 = (0, 502)) := by
  rcases kd_two h0 h19 h with rfl | rfl | rfl | rfl | rfl | rfl | rfl | rfl | rfl | rfl | rfl | rfl
  all_goals
    constructor
    · unfold twoK fitsK
      simp
    · rintro rfl
      rfl
theorem ends_l {k : Int} (n at0 : Int) (h0 : 0 ≤ k) (h19 : k ≤ 19) (h : arT k = 2) : kindF [varT [99], numT n, twoT k 0 1] 2 (envT [⟨⟨#[99]⟩, 5, at0⟩]) = (0, 502) := by
  rw [kindF_two _ (sound_var may_c) rfl (sound_num n) rfl h h0 h19, ends_env]
  exact (two_end 1 h0 h19 h).1
theorem ends_r {k : Int} (n at0 : Int) (h0 : 0 ≤ k) (h19 : k ≤ 19) (h : arT k = 2) : kindF [numT n, varT [99], twoT k 0 1] 2 (envT [⟨⟨#[99]⟩, 5, at0⟩]) = (0, 502) := by
  rw [kindF_two _ (sound_num n) rfl (sound_var may_c) rfl h h0 h19, ends_env]
  exact (two_end 1 h0 h19 h).2 rfl
theorem ends_o {k : Int} (at0 : Int) (h : k = 15 ∨ k = 16) : kindF [varT [99], oneT k 0] 1 (envT [⟨⟨#[99]⟩, 5, at0⟩]) = (0, 502) := by
  rw [kindF_one _ (sound_var may_c) rfl h, ends_env]
  rcases h with rfl | rfl <;> rfl

set_option maxHeartbeats 8000000 in
set_option maxRecDepth 20000 in
theorem ends_left (kd at0 n : Int) (w : World) (k : Int) (e1 : wrap64 (6 + wrap64 ((IntKind.u64.wrap kd).tmod 14)) = k) (h0 : 0 ≤ k) (h19 : k ≤ 19) (h : arT k = 2) (d15 : (k == 15) = false) (d16 : (k == 16) = false) :
    Calls Try.prog 6 #[.int .i64 kd, .bool true, .int .i64 at0, .int .i64 n] w fun e w' => e = .returned (.bool true) ∧ Below w.heap.size w w' := by
  have HC1 := Lib.hid (fun (g : Nat) (W : World) (ea : Option Addr) (hg : g = W.heap.size) (hE : Typs W W.heap.size ea 1 (envT [⟨⟨#[99]⟩, 5, at0⟩])) => kOfMade_any #[.int .i64 0, .string ⟨#[99]⟩, .int .i64 0, .string ⟨#[]⟩, .int .i64 (-1), .int .i64 (-1)] [varT [99]] 1 0 ea 1 1 (envT [⟨⟨#[99]⟩, 5, at0⟩]) W g hg rfl rfl (by omega) (short_trms rfl) hE (ends_var at0))
  have HC2 := Lib.hid (fun (g : Nat) (W : World) (ea : Option Addr) (hg : g = W.heap.size) (hE : Typs W W.heap.size ea 1 (envT [⟨⟨#[99]⟩, 5, at0⟩])) => kOfMade_any #[.int .i64 0, .string ⟨#[99]⟩, .int .i64 0, .string ⟨#[]⟩, .int .i64 (-1), .int .i64 (-1), .int .i64 1, .string ⟨#[]⟩, .int .i64 n, .string ⟨#[]⟩, .int .i64 (-1), .int .i64 (-1), .int .i64 k, .string ⟨#[]⟩, .int .i64 0, .string ⟨#[]⟩, .int .i64 0, .int .i64 1] [varT [99], numT n, twoT k 0 1] 3 2 ea 1 1 (envT [⟨⟨#[99]⟩, 5, at0⟩]) W g hg rfl rfl (by omega) (short_trms rfl) hE (ends_l n at0 h0 h19 h))
  have HE1 := Lib.hid e1
  clear e1
  go_enter Try.func6, Try.ntmps6
  go_wp2_with (first
    | (go_at_call 8; (with_reducible refine (kdFirst_any _).mono ?_)
       rintro e w1 ⟨rfl, hb1⟩
       have HB := Lib.hid hb1
       have HT := Lib.hid (Typs.made w1 #[.string ⟨#[99]⟩, .int .i64 5, .int .i64 at0] [⟨⟨#[99]⟩, 5, at0⟩] 1 w1.heap.size rfl rfl rfl (by omega))
       have e1 := HE1.out
       clear hb1)
    | (go_at_call 9; (with_reducible refine (HC1.out _ _ _ ?_ ?_).mono ?_)
       · simp
       · exact HT.out.on (up2 (w1.alloc (.cells #[.string ⟨#[99]⟩, .int .i64 5, .int .i64 at0] 46)) _ _)
       rintro e w2 ⟨rfl, hb2⟩
       have HT2 := Lib.hid ((HT.out.on (up2 (w1.alloc (.cells #[.string ⟨#[99]⟩, .int .i64 5, .int .i64 at0] 46)) _ _)).on hb2)
       have hc : BoxU w2 (w1.heap.size + 1) (.int .i64 0) (.string ⟨#[99]⟩) (.int .i64 0) (.string ⟨#[]⟩) (.int .i64 (-1)) (.int .i64 (-1)) := ((BoxU.newAt (w1.alloc (.cells #[.string ⟨#[99]⟩, .int .i64 5, .int .i64 at0] 46)) (.int .i64 0) (.string ⟨#[99]⟩) (.int .i64 0) (.string ⟨#[]⟩) (.int .i64 (-1)) (.int .i64 (-1)) (by simp)).on (up1 _ (.cells #[.int .i64 1, .string ⟨#[]⟩, .int .i64 n, .string ⟨#[]⟩, .int .i64 (-1), .int .i64 (-1)] 49))).on hb2
       have ho : BoxU w2 (w1.heap.size + 1 + 1) (.int .i64 1) (.string ⟨#[]⟩) (.int .i64 n) (.string ⟨#[]⟩) (.int .i64 (-1)) (.int .i64 (-1)) := (BoxU.newAt ((w1.alloc (.cells #[.string ⟨#[99]⟩, .int .i64 5, .int .i64 at0] 46)).alloc (.cells #[.int .i64 0, .string ⟨#[99]⟩, .int .i64 0, .string ⟨#[]⟩, .int .i64 (-1), .int .i64 (-1)] 49)) (.int .i64 1) (.string ⟨#[]⟩) (.int .i64 n) (.string ⟨#[]⟩) (.int .i64 (-1)) (.int .i64 (-1)) (by simp)).on hb2
       have l1 := hc.lt
       have l2 := ho.lt
       have l0 : w1.heap.size < w2.heap.size := by omega
       have l3 : w1.heap.size < w2.heap.size + 1 := by omega
       obtain ⟨⟨c0, c1, c2, c3, c4, c5⟩, _⟩ := hc.cells
       obtain ⟨⟨o0, o1, o2, o3, o4, o5⟩, _⟩ := ho.cells
       have HB2 := Lib.hid (below_on (below_on HB.out (up3 w1 _ _ _)) hb2)
       clear hb2 hc ho)
    | (go_at_call 9; (with_reducible refine (HC2.out _ _ _ ?_ ?_).mono ?_)
       · simp
       · exact HT2.out.on (up1 w2 _)
       rintro e w3 ⟨rfl, hb3⟩
       have HB3 := Lib.hid (below_on (below_on HB2.out (up1 w2 _)) hb3)
       clear hb3)
    | fail)
  go_ret
  exact ⟨rfl, HB3.out⟩

set_option maxHeartbeats 8000000 in
set_option maxRecDepth 20000 in
theorem ends_right (kd at0 n : Int) (w : World) (k : Int) (e1 : wrap64 (6 + wrap64 ((IntKind.u64.wrap kd).tmod 14)) = k) (h0 : 0 ≤ k) (h19 : k ≤ 19) (h : arT k = 2) (d15 : (k == 15) = false) (d16 : (k == 16) = false) :
    Calls Try.prog 6 #[.int .i64 kd, .bool false, .int .i64 at0, .int .i64 n] w fun e w' => e = .returned (.bool true) ∧ Below w.heap.size w w' := by
  have HC1 := Lib.hid (fun (g : Nat) (W : World) (ea : Option Addr) (hg : g = W.heap.size) (hE : Typs W W.heap.size ea 1 (envT [⟨⟨#[99]⟩, 5, at0⟩])) => kOfMade_any #[.int .i64 0, .string ⟨#[99]⟩, .int .i64 0, .string ⟨#[]⟩, .int .i64 (-1), .int .i64 (-1)] [varT [99]] 1 0 ea 1 1 (envT [⟨⟨#[99]⟩, 5, at0⟩]) W g hg rfl rfl (by omega) (short_trms rfl) hE (ends_var at0))
  have HC2 := Lib.hid (fun (g : Nat) (W : World) (ea : Option Addr) (hg : g = W.heap.size) (hE : Typs W W.heap.size ea 1 (envT [⟨⟨#[99]⟩, 5, at0⟩])) => kOfMade_any #[.int .i64 1, .string ⟨#[]⟩, .int .i64 n, .string ⟨#[]⟩, .int .i64 (-1), .int .i64 (-1), .int .i64 0, .string ⟨#[99]⟩, .int .i64 0, .string ⟨#[]⟩, .int .i64 (-1), .int .i64 (-1), .int .i64 k, .string ⟨#[]⟩, .int .i64 0, .string ⟨#[]⟩, .int .i64 0, .int .i64 1] [numT n, varT [99], twoT k 0 1] 3 2 ea 1 1 (envT [⟨⟨#[99]⟩, 5, at0⟩]) W g hg rfl rfl (by omega) (short_trms rfl) hE (ends_r n at0 h0 h19 h))
  have HE1 := Lib.hid e1
  clear e1
  go_enter Try.func6, Try.ntmps6
  go_wp2_with (first
    | (go_at_call 8; (with_reducible refine (kdFirst_any _).mono ?_)
       rintro e w1 ⟨rfl, hb1⟩
       have HB := Lib.hid hb1
       have HT := Lib.hid (Typs.made w1 #[.string ⟨#[99]⟩, .int .i64 5, .int .i64 at0] [⟨⟨#[99]⟩, 5, at0⟩] 1 w1.heap.size rfl rfl rfl (by omega))
       have e1 := HE1.out
       clear hb1)
    | (go_at_call 9; (with_reducible refine (HC1.out _ _ _ ?_ ?_).mono ?_)
       · simp
       · exact HT.out.on (up2 (w1.alloc (.cells #[.string ⟨#[99]⟩, .int .i64 5, .int .i64 at0] 46)) _ _)
       rintro e w2 ⟨rfl, hb2⟩
       have HT2 := Lib.hid ((HT.out.on (up2 (w1.alloc (.cells #[.string ⟨#[99]⟩, .int .i64 5, .int .i64 at0] 46)) _ _)).on hb2)
       have hc : BoxU w2 (w1.heap.size + 1) (.int .i64 0) (.string ⟨#[99]⟩) (.int .i64 0) (.string ⟨#[]⟩) (.int .i64 (-1)) (.int .i64 (-1)) := ((BoxU.newAt (w1.alloc (.cells #[.string ⟨#[99]⟩, .int .i64 5, .int .i64 at0] 46)) (.int .i64 0) (.string ⟨#[99]⟩) (.int .i64 0) (.string ⟨#[]⟩) (.int .i64 (-1)) (.int .i64 (-1)) (by simp)).on (up1 _ (.cells #[.int .i64 1, .string ⟨#[]⟩, .int .i64 n, .string ⟨#[]⟩, .int .i64 (-1), .int .i64 (-1)] 49))).on hb2
       have ho : BoxU w2 (w1.heap.size + 1 + 1) (.int .i64 1) (.string ⟨#[]⟩) (.int .i64 n) (.string ⟨#[]⟩) (.int .i64 (-1)) (.int .i64 (-1)) := (BoxU.newAt ((w1.alloc (.cells #[.string ⟨#[99]⟩, .int .i64 5, .int .i64 at0] 46)).alloc (.cells #[.int .i64 0, .string ⟨#[99]⟩, .int .i64 0, .string ⟨#[]⟩, .int .i64 (-1), .int .i64 (-1)] 49)) (.int .i64 1) (.string ⟨#[]⟩) (.int .i64 n) (.string ⟨#[]⟩) (.int .i64 (-1)) (.int .i64 (-1)) (by simp)).on hb2
       have l1 := hc.lt
       have l2 := ho.lt
       have l0 : w1.heap.size < w2.heap.size := by omega
       have l3 : w1.heap.size < w2.heap.size + 1 := by omega
       obtain ⟨⟨c0, c1, c2, c3, c4, c5⟩, _⟩ := hc.cells
       obtain ⟨⟨o0, o1, o2, o3, o4, o5⟩, _⟩ := ho.cells
       have HB2 := Lib.hid (below_on (below_on HB.out (up3 w1 _ _ _)) hb2)
       clear hb2 hc ho)
    | (go_at_call 9; (with_reducible refine (HC2.out _ _ _ ?_ ?_).mono ?_)
       · simp
       · exact HT2.out.on (up2 w2 _ _)
       rintro e w3 ⟨rfl, hb3⟩
       have HB3 := Lib.hid (below_on (below_on HB2.out (up2 w2 _ _)) hb3)
       clear hb3)
    | fail)
  go_ret
  exact ⟨rfl, HB3.out⟩

set_option maxHeartbeats 8000000 in
set_option maxRecDepth 20000 in
theorem ends_one_l15 (kd at0 n : Int) (w : World) (e1 : wrap64 (6 + wrap64 ((IntKind.u64.wrap kd).tmod 14)) = 15)  :
    Calls Try.prog 6 #[.int .i64 kd, .bool true, .int .i64 at0, .int .i64 n] w fun e w' => e = .returned (.bool true) ∧ Below w.heap.size w w' := by
  have HC1 := Lib.hid (fun (g : Nat) (W : World) (ea : Option Addr) (hg : g = W.heap.size) (hE : Typs W W.heap.size ea 1 (envT [⟨⟨#[99]⟩, 5, at0⟩])) => kOfMade_any #[.int .i64 0, .string ⟨#[99]⟩, .int .i64 0, .string ⟨#[]⟩, .int .i64 (-1), .int .i64 (-1)] [varT [99]] 1 0 ea 1 1 (envT [⟨⟨#[99]⟩, 5, at0⟩]) W g hg rfl rfl (by omega) (short_trms rfl) hE (ends_var at0))
  have HC2 := Lib.hid (fun (g : Nat) (W : World) (ea : Option Addr) (hg : g = W.heap.size) (hE : Typs W W.heap.size ea 1 (envT [⟨⟨#[99]⟩, 5, at0⟩])) => kOfMade_any #[.int .i64 0, .string ⟨#[99]⟩, .int .i64 0, .string ⟨#[]⟩, .int .i64 (-1), .int .i64 (-1), .int .i64 15, .string ⟨#[]⟩, .int .i64 0, .string ⟨#[]⟩, .int .i64 0, .int .i64 (-1)] [varT [99], oneT 15 0] 2 1 ea 1 1 (envT [⟨⟨#[99]⟩, 5, at0⟩]) W g hg rfl rfl (by omega) (short_trms rfl) hE (ends_o at0 (.inl rfl)))
  have HE1 := Lib.hid e1
  clear e1
  go_enter Try.func6, Try.ntmps6
  go_wp2_with (first
    | (go_at_call 8; (with_reducible refine (kdFirst_any _).mono ?_)
       rintro e w1 ⟨rfl, hb1⟩
       have HB := Lib.hid hb1
       have HT := Lib.hid (Typs.made w1 #[.string ⟨#[99]⟩, .int .i64 5, .int .i64 at0] [⟨⟨#[99]⟩, 5, at0⟩] 1 w1.heap.size rfl rfl rfl (by omega))
       have e1 := HE1.out
       clear hb1)
    | (go_at_call 9; (with_reducible refine (HC1.out _ _ _ ?_ ?_).mono ?_)
       · simp
       · exact HT.out.on (up2 (w1.alloc (.cells #[.string ⟨#[99]⟩, .int .i64 5, .int .i64 at0] 46)) _ _)
       rintro e w2 ⟨rfl, hb2⟩
       have HT2 := Lib.hid ((HT.out.on (up2 (w1.alloc (.cells #[.string ⟨#[99]⟩, .int .i64 5, .int .i64 at0] 46)) _ _)).on hb2)
       have hc : BoxU w2 (w1.heap.size + 1) (.int .i64 0) (.string ⟨#[99]⟩) (.int .i64 0) (.string ⟨#[]⟩) (.int .i64 (-1)) (.int .i64 (-1)) := ((BoxU.newAt (w1.alloc (.cells #[.string ⟨#[99]⟩, .int .i64 5, .int .i64 at0] 46)) (.int .i64 0) (.string ⟨#[99]⟩) (.int .i64 0) (.string ⟨#[]⟩) (.int .i64 (-1)) (.int .i64 (-1)) (by simp)).on (up1 _ (.cells #[.int .i64 1, .string ⟨#[]⟩, .int .i64 n, .string ⟨#[]⟩, .int .i64 (-1), .int .i64 (-1)] 49))).on hb2
       have ho : BoxU w2 (w1.heap.size + 1 + 1) (.int .i64 1) (.string ⟨#[]⟩) (.int .i64 n) (.string ⟨#[]⟩) (.int .i64 (-1)) (.int .i64 (-1)) := (BoxU.newAt ((w1.alloc (.cells #[.string ⟨#[99]⟩, .int .i64 5, .int .i64 at0] 46)).alloc (.cells #[.int .i64 0, .string ⟨#[99]⟩, .int .i64 0, .string ⟨#[]⟩, .int .i64 (-1), .int .i64 (-1)] 49)) (.int .i64 1) (.string ⟨#[]⟩) (.int .i64 n) (.string ⟨#[]⟩) (.int .i64 (-1)) (.int .i64 (-1)) (by simp)).on hb2
       have l1 := hc.lt
       have l2 := ho.lt
       have l0 : w1.heap.size < w2.heap.size := by omega
       have l3 : w1.heap.size < w2.heap.size + 1 := by omega
       obtain ⟨⟨c0, c1, c2, c3, c4, c5⟩, _⟩ := hc.cells
       obtain ⟨⟨o0, o1, o2, o3, o4, o5⟩, _⟩ := ho.cells
       have HB2 := Lib.hid (below_on (below_on HB.out (up3 w1 _ _ _)) hb2)
       clear hb2 hc ho)
    | (go_at_call 9; (with_reducible refine (HC2.out _ _ _ ?_ ?_).mono ?_)
       · simp
       · exact HT2.out.on (up2 w2 _ _)
       rintro e w3 ⟨rfl, hb3⟩
       have HB3 := Lib.hid (below_on (below_on HB2.out (up2 w2 _ _)) hb3)
       clear hb3)
    | fail)
  go_ret
  exact ⟨rfl, HB3.out⟩

set_option maxHeartbeats 8000000 in
set_option maxRecDepth 20000 in
theorem ends_one_l16 (kd at0 n : Int) (w : World) (e1 : wrap64 (6 + wrap64 ((IntKind.u64.wrap kd).tmod 14)) = 16)  :
    Calls Try.prog 6 #[.int .i64 kd, .bool true, .int .i64 at0, .int .i64 n] w fun e w' => e = .returned (.bool true) ∧ Below w.heap.size w w' := by
  have HC1 := Lib.hid (fun (g : Nat) (W : World) (ea : Option Addr) (hg : g = W.heap.size) (hE : Typs W W.heap.size ea 1 (envT [⟨⟨#[99]⟩, 5, at0⟩])) => kOfMade_any #[.int .i64 0, .string ⟨#[99]⟩, .int .i64 0, .string ⟨#[]⟩, .int .i64 (-1), .int .i64 (-1)] [varT [99]] 1 0 ea 1 1 (envT [⟨⟨#[99]⟩, 5, at0⟩]) W g hg rfl rfl (by omega) (short_trms rfl) hE (ends_var at0))
  have HC2 := Lib.hid (fun (g : Nat) (W : World) (ea : Option Addr) (hg : g = W.heap.size) (hE : Typs W W.heap.size ea 1 (envT [⟨⟨#[99]⟩, 5, at0⟩])) => kOfMade_any #[.int .i64 0, .string ⟨#[99]⟩, .int .i64 0, .string ⟨#[]⟩, .int .i64 (-1), .int .i64 (-1), .int .i64 16, .string ⟨#[]⟩, .int .i64 0, .string ⟨#[]⟩, .int .i64 0, .int .i64 (-1)] [varT [99], oneT 16 0] 2 1 ea 1 1 (envT [⟨⟨#[99]⟩, 5, at0⟩]) W g hg rfl rfl (by omega) (short_trms rfl) hE (ends_o at0 (.inr rfl)))
  have HE1 := Lib.hid e1
  clear e1
  go_enter Try.func6, Try.ntmps6
  go_wp2_with (first
    | (go_at_call 8; (with_reducible refine (kdFirst_any _).mono ?_)
       rintro e w1 ⟨rfl, hb1⟩
       have HB := Lib.hid hb1
       have HT := Lib.hid (Typs.made w1 #[.string ⟨#[99]⟩, .int .i64 5, .int .i64 at0] [⟨⟨#[99]⟩, 5, at0⟩] 1 w1.heap.size rfl rfl rfl (by omega))
       have e1 := HE1.out
       clear hb1)
    | (go_at_call 9; (with_reducible refine (HC1.out _ _ _ ?_ ?_).mono ?_)
       · simp
       · exact HT.out.on (up2 (w1.alloc (.cells #[.string ⟨#[99]⟩, .int .i64 5, .int .i64 at0] 46)) _ _)
       rintro e w2 ⟨rfl, hb2⟩
       have HT2 := Lib.hid ((HT.out.on (up2 (w1.alloc (.cells #[.string ⟨#[99]⟩, .int .i64 5, .int .i64 at0] 46)) _ _)).on hb2)
       have hc : BoxU w2 (w1.heap.size + 1) (.int .i64 0) (.string ⟨#[99]⟩) (.int .i64 0) (.string ⟨#[]⟩) (.int .i64 (-1)) (.int .i64 (-1)) := ((BoxU.newAt (w1.alloc (.cells #[.string ⟨#[99]⟩, .int .i64 5, .int .i64 at0] 46)) (.int .i64 0) (.string ⟨#[99]⟩) (.int .i64 0) (.string ⟨#[]⟩) (.int .i64 (-1)) (.int .i64 (-1)) (by simp)).on (up1 _ (.cells #[.int .i64 1, .string ⟨#[]⟩, .int .i64 n, .string ⟨#[]⟩, .int .i64 (-1), .int .i64 (-1)] 49))).on hb2
       have ho : BoxU w2 (w1.heap.size + 1 + 1) (.int .i64 1) (.string ⟨#[]⟩) (.int .i64 n) (.string ⟨#[]⟩) (.int .i64 (-1)) (.int .i64 (-1)) := (BoxU.newAt ((w1.alloc (.cells #[.string ⟨#[99]⟩, .int .i64 5, .int .i64 at0] 46)).alloc (.cells #[.int .i64 0, .string ⟨#[99]⟩, .int .i64 0, .string ⟨#[]⟩, .int .i64 (-1), .int .i64 (-1)] 49)) (.int .i64 1) (.string ⟨#[]⟩) (.int .i64 n) (.string ⟨#[]⟩) (.int .i64 (-1)) (.int .i64 (-1)) (by simp)).on hb2
       have l1 := hc.lt
       have l2 := ho.lt
       have l0 : w1.heap.size < w2.heap.size := by omega
       have l3 : w1.heap.size < w2.heap.size + 1 := by omega
       obtain ⟨⟨c0, c1, c2, c3, c4, c5⟩, _⟩ := hc.cells
       obtain ⟨⟨o0, o1, o2, o3, o4, o5⟩, _⟩ := ho.cells
       have HB2 := Lib.hid (below_on (below_on HB.out (up3 w1 _ _ _)) hb2)
       clear hb2 hc ho)
    | (go_at_call 9; (with_reducible refine (HC2.out _ _ _ ?_ ?_).mono ?_)
       · simp
       · exact HT2.out.on (up2 w2 _ _)
       rintro e w3 ⟨rfl, hb3⟩
       have HB3 := Lib.hid (below_on (below_on HB2.out (up2 w2 _ _)) hb3)
       clear hb3)
    | fail)
  go_ret
  exact ⟨rfl, HB3.out⟩

set_option maxHeartbeats 8000000 in
set_option maxRecDepth 20000 in
theorem ends_one_r15 (kd at0 n : Int) (w : World) (e1 : wrap64 (6 + wrap64 ((IntKind.u64.wrap kd).tmod 14)) = 15)  :
    Calls Try.prog 6 #[.int .i64 kd, .bool false, .int .i64 at0, .int .i64 n] w fun e w' => e = .returned (.bool true) ∧ Below w.heap.size w w' := by
  have HC1 := Lib.hid (fun (g : Nat) (W : World) (ea : Option Addr) (hg : g = W.heap.size) (hE : Typs W W.heap.size ea 1 (envT [⟨⟨#[99]⟩, 5, at0⟩])) => kOfMade_any #[.int .i64 0, .string ⟨#[99]⟩, .int .i64 0, .string ⟨#[]⟩, .int .i64 (-1), .int .i64 (-1)] [varT [99]] 1 0 ea 1 1 (envT [⟨⟨#[99]⟩, 5, at0⟩]) W g hg rfl rfl (by omega) (short_trms rfl) hE (ends_var at0))
  have HC2 := Lib.hid (fun (g : Nat) (W : World) (ea : Option Addr) (hg : g = W.heap.size) (hE : Typs W W.heap.size ea 1 (envT [⟨⟨#[99]⟩, 5, at0⟩])) => kOfMade_any #[.int .i64 0, .string ⟨#[99]⟩, .int .i64 0, .string ⟨#[]⟩, .int .i64 (-1), .int .i64 (-1), .int .i64 15, .string ⟨#[]⟩, .int .i64 0, .string ⟨#[]⟩, .int .i64 0, .int .i64 (-1)] [varT [99], oneT 15 0] 2 1 ea 1 1 (envT [⟨⟨#[99]⟩, 5, at0⟩]) W g hg rfl rfl (by omega) (short_trms rfl) hE (ends_o at0 (.inl rfl)))
  have HE1 := Lib.hid e1
  clear e1
  go_enter Try.func6, Try.ntmps6
  go_wp2_with (first
    | (go_at_call 8; (with_reducible refine (kdFirst_any _).mono ?_)
       rintro e w1 ⟨rfl, hb1⟩
       have HB := Lib.hid hb1
       have HT := Lib.hid (Typs.made w1 #[.string ⟨#[99]⟩, .int .i64 5, .int .i64 at0] [⟨⟨#[99]⟩, 5, at0⟩] 1 w1.heap.size rfl rfl rfl (by omega))
       have e1 := HE1.out
       clear hb1)
    | (go_at_call 9; (with_reducible refine (HC1.out _ _ _ ?_ ?_).mono ?_)
       · simp
       · exact HT.out.on (up2 (w1.alloc (.cells #[.string ⟨#[99]⟩, .int .i64 5, .int .i64 at0] 46)) _ _)
       rintro e w2 ⟨rfl, hb2⟩
       have HT2 := Lib.hid ((HT.out.on (up2 (w1.alloc (.cells #[.string ⟨#[99]⟩, .int .i64 5, .int .i64 at0] 46)) _ _)).on hb2)
       have hc : BoxU w2 (w1.heap.size + 1) (.int .i64 0) (.string ⟨#[99]⟩) (.int .i64 0) (.string ⟨#[]⟩) (.int .i64 (-1)) (.int .i64 (-1)) := ((BoxU.newAt (w1.alloc (.cells #[.string ⟨#[99]⟩, .int .i64 5, .int .i64 at0] 46)) (.int .i64 0) (.string ⟨#[99]⟩) (.int .i64 0) (.string ⟨#[]⟩) (.int .i64 (-1)) (.int .i64 (-1)) (by simp)).on (up1 _ (.cells #[.int .i64 1, .string ⟨#[]⟩, .int .i64 n, .string ⟨#[]⟩, .int .i64 (-1), .int .i64 (-1)] 49))).on hb2
       have ho : BoxU w2 (w1.heap.size + 1 + 1) (.int .i64 1) (.string ⟨#[]⟩) (.int .i64 n) (.string ⟨#[]⟩) (.int .i64 (-1)) (.int .i64 (-1)) := (BoxU.newAt ((w1.alloc (.cells #[.string ⟨#[99]⟩, .int .i64 5, .int .i64 at0] 46)).alloc (.cells #[.int .i64 0, .string ⟨#[99]⟩, .int .i64 0, .string ⟨#[]⟩, .int .i64 (-1), .int .i64 (-1)] 49)) (.int .i64 1) (.string ⟨#[]⟩) (.int .i64 n) (.string ⟨#[]⟩) (.int .i64 (-1)) (.int .i64 (-1)) (by simp)).on hb2
       have l1 := hc.lt
       have l2 := ho.lt
       have l0 : w1.heap.size < w2.heap.size := by omega
       have l3 : w1.heap.size < w2.heap.size + 1 := by omega
       obtain ⟨⟨c0, c1, c2, c3, c4, c5⟩, _⟩ := hc.cells
       obtain ⟨⟨o0, o1, o2, o3, o4, o5⟩, _⟩ := ho.cells
       have HB2 := Lib.hid (below_on (below_on HB.out (up3 w1 _ _ _)) hb2)
       clear hb2 hc ho)
    | (go_at_call 9; (with_reducible refine (HC2.out _ _ _ ?_ ?_).mono ?_)
       · simp
       · exact HT2.out.on (up3 w2 _ _ _)
       rintro e w3 ⟨rfl, hb3⟩
       have HB3 := Lib.hid (below_on (below_on HB2.out (up3 w2 _ _ _)) hb3)
       clear hb3)
    | fail)
  go_ret
  exact ⟨rfl, HB3.out⟩

set_option maxHeartbeats 8000000 in
set_option maxRecDepth 20000 in
theorem ends_one_r16 (kd at0 n : Int) (w : World) (e1 : wrap64 (6 + wrap64 ((IntKind.u64.wrap kd).tmod 14)) = 16)  :
    Calls Try.prog 6 #[.int .i64 kd, .bool false, .int .i64 at0, .int .i64 n] w fun e w' => e = .returned (.bool true) ∧ Below w.heap.size w w' := by
  have HC1 := Lib.hid (fun (g : Nat) (W : World) (ea : Option Addr) (hg : g = W.heap.size) (hE : Typs W W.heap.size ea 1 (envT [⟨⟨#[99]⟩, 5, at0⟩])) => kOfMade_any #[.int .i64 0, .string ⟨#[99]⟩, .int .i64 0, .string ⟨#[]⟩, .int .i64 (-1), .int .i64 (-1)] [varT [99]] 1 0 ea 1 1 (envT [⟨⟨#[99]⟩, 5, at0⟩]) W g hg rfl rfl (by omega) (short_trms rfl) hE (ends_var at0))
  have HC2 := Lib.hid (fun (g : Nat) (W : World) (ea : Option Addr) (hg : g = W.heap.size) (hE : Typs W W.heap.size ea 1 (envT [⟨⟨#[99]⟩, 5, at0⟩])) => kOfMade_any #[.int .i64 0, .string ⟨#[99]⟩, .int .i64 0, .string ⟨#[]⟩, .int .i64 (-1), .int .i64 (-1), .int .i64 16, .string ⟨#[]⟩, .int .i64 0, .string ⟨#[]⟩, .int .i64 0, .int .i64 (-1)] [varT [99], oneT 16 0] 2 1 ea 1 1 (envT [⟨⟨#[99]⟩, 5, at0⟩]) W g hg rfl rfl (by omega) (short_trms rfl) hE (ends_o at0 (.inr rfl)))
  have HE1 := Lib.hid e1
  clear e1
  go_enter Try.func6, Try.ntmps6
  go_wp2_with (first
    | (go_at_call 8; (with_reducible refine (kdFirst_any _).mono ?_)
       rintro e w1 ⟨rfl, hb1⟩
       have HB := Lib.hid hb1
       have HT := Lib.hid (Typs.made w1 #[.string ⟨#[99]⟩, .int .i64 5, .int .i64 at0] [⟨⟨#[99]⟩, 5, at0⟩] 1 w1.heap.size rfl rfl rfl (by omega))
       have e1 := HE1.out
       clear hb1)
    | (go_at_call 9; (with_reducible refine (HC1.out _ _ _ ?_ ?_).mono ?_)
       · simp
       · exact HT.out.on (up2 (w1.alloc (.cells #[.string ⟨#[99]⟩, .int .i64 5, .int .i64 at0] 46)) _ _)
       rintro e w2 ⟨rfl, hb2⟩
       have HT2 := Lib.hid ((HT.out.on (up2 (w1.alloc (.cells #[.string ⟨#[99]⟩, .int .i64 5, .int .i64 at0] 46)) _ _)).on hb2)
       have hc : BoxU w2 (w1.heap.size + 1) (.int .i64 0) (.string ⟨#[99]⟩) (.int .i64 0) (.string ⟨#[]⟩) (.int .i64 (-1)) (.int .i64 (-1)) := ((BoxU.newAt (w1.alloc (.cells #[.string ⟨#[99]⟩, .int .i64 5, .int .i64 at0] 46)) (.int .i64 0) (.string ⟨#[99]⟩) (.int .i64 0) (.string ⟨#[]⟩) (.int .i64 (-1)) (.int .i64 (-1)) (by simp)).on (up1 _ (.cells #[.int .i64 1, .string ⟨#[]⟩, .int .i64 n, .string ⟨#[]⟩, .int .i64 (-1), .int .i64 (-1)] 49))).on hb2
       have ho : BoxU w2 (w1.heap.size + 1 + 1) (.int .i64 1) (.string ⟨#[]⟩) (.int .i64 n) (.string ⟨#[]⟩) (.int .i64 (-1)) (.int .i64 (-1)) := (BoxU.newAt ((w1.alloc (.cells #[.string ⟨#[99]⟩, .int .i64 5, .int .i64 at0] 46)).alloc (.cells #[.int .i64 0, .string ⟨#[99]⟩, .int .i64 0, .string ⟨#[]⟩, .int .i64 (-1), .int .i64 (-1)] 49)) (.int .i64 1) (.string ⟨#[]⟩) (.int .i64 n) (.string ⟨#[]⟩) (.int .i64 (-1)) (.int .i64 (-1)) (by simp)).on hb2
       have l1 := hc.lt
       have l2 := ho.lt
       have l0 : w1.heap.size < w2.heap.size := by omega
       have l3 : w1.heap.size < w2.heap.size + 1 := by omega
       obtain ⟨⟨c0, c1, c2, c3, c4, c5⟩, _⟩ := hc.cells
       obtain ⟨⟨o0, o1, o2, o3, o4, o5⟩, _⟩ := ho.cells
       have HB2 := Lib.hid (below_on (below_on HB.out (up3 w1 _ _ _)) hb2)
       clear hb2 hc ho)
    | (go_at_call 9; (with_reducible refine (HC2.out _ _ _ ?_ ?_).mono ?_)
       · simp
       · exact HT2.out.on (up3 w2 _ _ _)
       rintro e w3 ⟨rfl, hb3⟩
       have HB3 := Lib.hid (below_on (below_on HB2.out (up3 w2 _ _ _)) hb3)
       clear hb3)
    | fail)
  go_ret
  exact ⟨rfl, HB3.out⟩

theorem kind_what (kd : Int) : ∃ k, wrap64 (6 + wrap64 ((IntKind.u64.wrap kd).tmod 14)) = k ∧ 6 ≤ k ∧ k ≤ 19 := by
  have h0 : 0 ≤ IntKind.u64.wrap kd := by rw [IntKind.wrap_u64]; omega
  refine ⟨_, rfl, ?_⟩
  rw [Int.tmod_eq_emod_of_nonneg h0]
  unfold wrap64
  omega
theorem kindEnds_walk (kd : Int) (left : Bool) (at0 n : Int) (w : World) :
    Calls Try.prog 6 #[.int .i64 kd, .bool left, .int .i64 at0, .int .i64 n] w fun e w' => e = .returned (.bool true) ∧ Below w.heap.size w w' := by
  obtain ⟨k, e1, h6, h19⟩ := kind_what kd
  by_cases hk : k = 15 ∨ k = 16
  · rcases hk with rfl | rfl <;> cases left
    · exact ends_one_r15 kd at0 n w e1
    · exact ends_one_l15 kd at0 n w e1
    · exact ends_one_r16 kd at0 n w e1
    · exact ends_one_l16 kd at0 n w e1
  · have ha : arT k = 2 := by unfold arT; rw [if_neg hk, if_neg (by omega)]
    have d15 : (k == 15) = false := by rw [beq_eq_false_iff_ne]; omega
    have d16 : (k == 16) = false := by rw [beq_eq_false_iff_ne]; omega
    cases left
    · exact ends_right kd at0 n w k e1 (by omega) h19 ha d15 d16
    · exact ends_left kd at0 n w k e1 (by omega) h19 ha d15 d16
end Go.Proofs.Ythbakfceaaaamaa
