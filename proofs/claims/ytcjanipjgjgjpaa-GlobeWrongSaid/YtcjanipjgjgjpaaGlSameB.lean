/- Contract of the program's Same (package globe). -/
import Derived.Test.YtcjanipjgjgjpaaGlSameA
import Derived.Deep.RegionHeld3
namespace Go.Proofs.Ytcjanipjgjgjpaa
open Go.RowKit

theorem gb_drew {B : Nat} {a w : World} (h : Below B a w) : Below B a w.drew := ⟨h.os, h.tape, h.output, h.size, h.block⟩
theorem gb_undrew {B : Nat} {a w : World} (h : Below B a.drew w) : Below B a w := ⟨h.os, h.tape, h.output, h.size, h.block⟩
theorem field_pts (x : ByteArray) (ra a : Option Addr) (rn rc n c : Nat) (W : World) : (Instr.field 27 (.agg #[.string x, .slice ra rn rc, .slice a n c]) 2).run Try.prog W = .ok (.slice a n c) W := by kernel_rfl
def sameQ (nm : Str) (rs : List Str) (ps : List PointL) (nm' : Str) (rs' : List Str) (ps' : List PointL) : Bool := protB nm rs ps && (protB nm' rs' ps' && (decide (rs = rs') && samePs (trimQ nm rs ps) (trimQ nm' rs' ps')))
section
variable (nm nm' : ByteArray) (hnm : nm.size ≤ maxLen) (hnm' : nm'.size ≤ maxLen) (ra ra' : Option Addr) (rn rc rn' rc' : Nat) (rs rs' : List Str) (a a' : Option Addr) (n c n' c' : Nat) (ps ps' : List PointL) (w : World) (bound : Nat) (hb : bound ≤ w.heap.size) (hr : Strs w bound ra rn rs) (hr' : Strs w bound ra' rn' rs') (h : Pts w bound a n ps) (h' : Pts w bound a' n' ps')
include hnm hnm' hb hr hr' h h'
set_option maxHeartbeats 16000000 in
set_option maxRecDepth 20000 in
theorem gSameOk_any (hv : protB nm.toList rs ps = true) (hu : protB nm'.toList rs' ps' = true) (hs : rs = rs') :
    Calls Try.prog 14 #[.agg #[.string nm, .slice ra rn rc, .slice a n c], .agg #[.string nm', .slice ra' rn' rc', .slice a' n' c']] w fun e w' => e = .returned (.bool (sameQ nm.toList rs ps nm'.toList rs' ps')) ∧ Below w.heap.size w w' := by
  have HB0 := Lib.hid (below_on (tu1 w (.cells #[.string nm, .slice ra rn rc, .slice a n c] 27)) (tu1 (w.alloc (.cells #[.string nm, .slice ra rn rc, .slice a n c] 27)) (.cells #[.string nm', .slice ra' rn' rc', .slice a' n' c'] 27)))
  have HL := Lib.hid ((PBox.new w nm ra rn rc a n c).on (tu1 (w.alloc (.cells #[.string nm, .slice ra rn rc, .slice a n c] 27)) (.cells #[.string nm', .slice ra' rn' rc', .slice a' n' c'] 27)))
  have HX := Lib.hid (PBox.new (w.alloc (.cells #[.string nm, .slice ra rn rc, .slice a n c] 27)) nm' ra' rn' rc' a' n' c')
  rw [World.size_alloc] at HX
  have CM := Lib.hid (fun (W : World) (hW : Below w.heap.size w W) => gMay_any nm hnm ra rn rc rs a n c ps W bound (by have := hW.size; omega) (hr.below (hW.mono hb)) (h.below (hW.mono hb)))
  have CN := Lib.hid (fun (W : World) (hW : Below w.heap.size w W) => gMay_any nm' hnm' ra' rn' rc' rs' a' n' c' ps' W bound (by have := hW.size; omega) (hr'.below (hW.mono hb)) (h'.below (hW.mono hb)))
  have CT := Lib.hid (fun (W : World) (hW : Below w.heap.size w W) => gTrim_any nm hnm ra rn rc rs a n c ps W bound (by have := hW.size; omega) (hr.below (hW.mono hb)) (h.below (hW.mono hb)))
  have CU := Lib.hid (fun (W : World) (hW : Below w.heap.size w W) => gTrim_any nm' hnm' ra' rn' rc' rs' a' n' c' ps' W bound (by have := hW.size; omega) (hr'.below (hW.mono hb)) (h'.below (hW.mono hb)))
  have CS := Lib.hid (fun (W : World) (hW : Below w.heap.size w W) => eqStrs_any ra ra' rn rn' rc rc' rs rs' W bound (hr.below (hW.mono hb)) (hr'.below (hW.mono hb)))
  have CE := Lib.hid (fun (xa ya : Option Addr) (xn xc yn yc : Nat) (W : World) (hx : Pts W W.heap.size xa xn (trimQ nm.toList rs ps)) (hy : Pts W W.heap.size ya yn (trimQ nm'.toList rs' ps')) => gEqualFunc_any xa ya xn yn xc yc _ _ W W.heap.size (Nat.le_refl _) hx hy)
  obtain ⟨lc0, lc1, lc2⟩ := HL.out.cells
  obtain ⟨xc0, xc1, xc2⟩ := HX.out.cells
  obtain ⟨R, hR⟩ : ∃ R, R = sameQ nm.toList rs ps nm'.toList rs' ps' := ⟨_, rfl⟩
  rw [← hR]
  unfold sameQ at hR
  clear h h' hr hr'
  go_enter Try.func14, Try.ntmps14
  go_upto_region 1 with fail
  generalize hw0 : (w.alloc (.cells #[.string nm, .slice ra rn rc, .slice a n c] 27)).alloc (.cells #[.string nm', .slice ra' rn' rc', .slice a' n' c'] 27) = w0 at HB0 HL HX ⊢
  clear hw0 lc0 lc1 lc2 xc0 xc1 xc2
  have HK := Lib.hid (fun (W : World) (hW : Below w0.heap.size w0 W) => And.intro (HL.out.on hW).cells (HX.out.on hW).cells)
  obtain ⟨⟨_, _, _⟩, _, _, _⟩ := HK.out _ (Below.refl _ _)
  have H0 := Lib.hid (gb_drew (Below.refl w0.heap.size w0))
  have HB1 := Lib.hid (fun (W : World) (hW : Below w0.heap.size w0 W) => below_on HB0.out hW)
  have hsd : decide (rs = rs') = true := decide_eq_true hs
  rw [hv, hu, hsd, Bool.true_and, Bool.true_and, Bool.true_and] at hR
  rw [hv] at CM
  rw [hu] at CN
  rw [hsd] at CS
  have HZ := Lib.hid hR
  have hfa := fun xa ya xn xc yn yc W => field_pts (nameQ nm rs ps) xa ya xn xc yn yc W
  have hfb := fun xa ya xn xc yn yc W => field_pts (nameQ nm' rs' ps') xa ya xn xc yn yc W
  clear hR hv hu hs hsd
  go_region_held3 (fun W => (W.cell? ⟨w.heap.size, 0, none⟩ = some (.string nm) ∧ W.cell? ⟨w.heap.size, 1, none⟩ = some (.slice ra rn rc) ∧ W.cell? ⟨w.heap.size, 2, none⟩ = some (.slice a n c)) ∧ W.cell? ⟨w.heap.size + 1, 0, none⟩ = some (.string nm') ∧ W.cell? ⟨w.heap.size + 1, 1, none⟩ = some (.slice ra' rn' rc') ∧ W.cell? ⟨w.heap.size + 1, 2, none⟩ = some (.slice a' n' c'))
    (first | exact HK.out _ H0.out | exact HK.out _ H1.out | exact HK.out _ H2.out | exact HK.out _ H3.out | exact HK.out _ H4.out | exact HK.out _ H5.out | exact HK.out _ H6.out)
    (first
    | (go_at_call 12; (with_reducible refine (CM.out _ (HB1.out _ H0.out)).mono ?_)
       rintro e w1 ⟨rfl, hb1⟩
       have H1 := Lib.hid (show Below w0.heap.size w0 w1 from below_on H0.out hb1)
       clear hb1)
    | (go_at_call 12; (with_reducible refine (CN.out _ (HB1.out _ H1.out)).mono ?_)
       rintro e w2 ⟨rfl, hb2⟩
       have H2 := Lib.hid (below_on H1.out hb2)
       clear hb2)
    | (go_at_call 33; (with_reducible refine (CS.out _ (HB1.out _ H2.out)).mono ?_)
       rintro e w3 ⟨rfl, q3, hw3⟩
       have H3 := Lib.hid (show Below w0.heap.size w0 w3 by rw [hw3]; exact bel_drewN H2.out q3)
       clear hw3)
    | (go_at_call 11; (with_reducible refine (CT.out _ (HB1.out _ H3.out)).mono ?_)
       rintro e w4 ⟨⟨xa, xn, xc, sa, sn, sc, rfl, ht4⟩, hb4⟩
       have HT4 := Lib.hid ht4.pts
       have H4 := Lib.hid (below_on H3.out hb4)
       clear hb4 ht4)
    | (go_at_call 11; (with_reducible refine (CU.out _ (HB1.out _ H4.out)).mono ?_)
       rintro e w5 ⟨⟨ya, yn, yc, ta, tn, tc, rfl, hu5⟩, hb5⟩
       have HU5 := Lib.hid hu5.pts
       have HT5 := Lib.hid (HT4.out.on hb5)
       have H5 := Lib.hid (below_on H4.out hb5)
       clear hb5 hu5)
    | (go_at_call 34; (with_reducible refine (CE.out sa ta sn sc tn tc _ HT5.out HU5.out).mono ?_)
       rintro e w6 ⟨rfl, hb6⟩
       have H6 := Lib.hid (below_on H5.out hb6)
       clear hb6)
    | fail)
  all_goals
    go_wp2_with fail
    go_ret
    exact ⟨ret_bool HZ.out.symm, HB1.out _ H6.out⟩
end
end Go.Proofs.Ytcjanipjgjgjpaa
