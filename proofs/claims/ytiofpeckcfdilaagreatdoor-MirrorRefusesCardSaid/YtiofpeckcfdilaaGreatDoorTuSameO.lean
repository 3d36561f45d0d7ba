/- Contract of the program's Same. -/
import Derived.Test.YtiofpeckcfdilaaGreatDoorTuTrimO
import Derived.Test.YtiofpeckcfdilaaGreatDoorTuOwnE
import Derived.Deep.RegionWith
namespace Go.Proofs.YtiofpeckcfdilaaGreatDoor
open Go.RowKit

/-- Do two types have the same trims? -/
def sameL (ts us : List TurnL) : Bool := locB ts && locB us && sameTs (trimL ts) (trimL us)
theorem bel_drew1 {B : Nat} {a w : World} (h : Below B a w) : Below B a w.drew := ⟨h.os, h.tape, h.output, h.size, h.block⟩
theorem bel_undrew {B : Nat} {a w : World} (h : Below B a.drew w) : Below B a w := ⟨h.os, h.tape, h.output, h.size, h.block⟩
theorem field_turns (x : ByteArray) (a : Option Addr) (n c : Nat) (W : World) : (Instr.field 24 (.agg #[.string x, .slice a n c]) 1).run Tryz.prog W = .ok (.slice a n c) W := by kernel_rfl

set_option maxHeartbeats 16000000 in
set_option maxRecDepth 20000 in
theorem ownSame_any (nm nm' : ByteArray) (a a' : Option Addr) (n c n' c' : Nat) (ts us : List TurnL) (w : World) (bound : Nat) (hb : bound ≤ w.heap.size) (h : Turns w bound a n ts) (h' : Turns w bound a' n' us) :
    Calls Tryz.prog 24 #[.agg #[.string nm, .slice a n c], .agg #[.string nm', .slice a' n' c']] w fun e w' => e = .returned (.bool (sameL ts us)) ∧ Below w.heap.size w w' := by
  have HB0 := Lib.hid (below_on (tu1 w (.cells #[.string nm, .slice a n c] 24)) (tu1 (w.alloc (.cells #[.string nm, .slice a n c] 24)) (.cells #[.string nm', .slice a' n' c'] 24)))
  have HL := Lib.hid ((LBox.new w nm a n c).on (tu1 (w.alloc (.cells #[.string nm, .slice a n c] 24)) (.cells #[.string nm', .slice a' n' c'] 24)))
  have HX := Lib.hid (LBox.new (w.alloc (.cells #[.string nm, .slice a n c] 24)) nm' a' n' c')
  rw [World.size_alloc] at HX
  have CM := Lib.hid (fun (W : World) (hW : Below w.heap.size w W) => ownMay_any nm a n c ts W bound (by have := hW.size; omega) (h.below (hW.mono hb)))
  have CN := Lib.hid (fun (W : World) (hW : Below w.heap.size w W) => ownMay_any nm' a' n' c' us W bound (by have := hW.size; omega) (h'.below (hW.mono hb)))
  have CT := Lib.hid (fun (W : World) (hW : Below w.heap.size w W) => ownTrim_any nm a n c ts W bound (by have := hW.size; omega) (h.below (hW.mono hb)))
  have CU := Lib.hid (fun (W : World) (hW : Below w.heap.size w W) => ownTrim_any nm' a' n' c' us W bound (by have := hW.size; omega) (h'.below (hW.mono hb)))
  have CE := Lib.hid (fun (xa ya : Option Addr) (xn xc yn yc : Nat) (W : World) (hx : Turns W W.heap.size xa xn (trimL ts)) (hy : Turns W W.heap.size ya yn (trimL us)) => ownEqualFunc_any xa ya xn yn xc yc _ _ W W.heap.size (Nat.le_refl _) hx hy)
  obtain ⟨lc0, lc1⟩ := HL.out.cells
  obtain ⟨xc0, xc1⟩ := HX.out.cells
  obtain ⟨R, hR⟩ : ∃ R, R = sameL ts us := ⟨_, rfl⟩
  rw [← hR]
  unfold sameL at hR
  clear h h'
  cases hv : locB ts
  · rw [hv] at CM hR
    have HZ := Lib.hid hR
    clear hR hv
    go_enter Tryz.func24, Tryz.ntmps24
    go_wp2
    go_region_with (first
      | (go_at_call 53; (with_reducible refine (CM.out _ (bel_drew1 HB0.out)).mono ?_)
         rintro e w1 ⟨rfl, hb1⟩
         have HB1 := Lib.hid (below_on HB0.out (bel_undrew hb1))
         clear hb1)
      | fail)
    all_goals
      go_wp2_with fail
      go_ret
      exact ⟨ret_bool HZ.out.symm, HB1.out⟩
  rw [hv] at CM hR
  cases hu : locB us
  · rw [hu] at CN hR
    have HZ := Lib.hid hR
    clear hR hv hu
    go_enter Tryz.func24, Tryz.ntmps24
    go_wp2
    go_region_with (first
      | (go_at_call 53; (with_reducible refine (CM.out _ (bel_drew1 HB0.out)).mono ?_)
         rintro e w1 ⟨rfl, hb1⟩
         have HB1 := Lib.hid (below_on HB0.out (bel_undrew hb1))
         obtain ⟨_, _⟩ := (HL.out.on (bel_undrew hb1)).cells
         obtain ⟨_, _⟩ := (HX.out.on (bel_undrew hb1)).cells
         clear hb1)
      | (go_at_call 53; (with_reducible refine (CN.out _ HB1.out).mono ?_)
         rintro e w2 ⟨rfl, hb2⟩
         have HB2 := Lib.hid (below_on HB1.out hb2)
         clear hb2)
      | fail)
    all_goals
      go_wp2_with fail
      go_ret
      exact ⟨ret_bool (by rw [HZ.out]; rfl), HB2.out⟩
  rw [hu] at CN hR
  have HZ := Lib.hid (show R = sameTs (trimL ts) (trimL us) from hR)
  have hfa := fun xa xn xc W => field_turns (trimName ts nm) xa xn xc W
  have hfb := fun xa xn xc W => field_turns (trimName us nm') xa xn xc W
  clear hR hv hu
  go_enter Tryz.func24, Tryz.ntmps24
  go_wp2
  go_region_with (first
    | (go_at_call 53; (with_reducible refine (CM.out _ (bel_drew1 HB0.out)).mono ?_)
       rintro e w1 ⟨rfl, hb1⟩
       have HB1 := Lib.hid (below_on HB0.out (bel_undrew hb1))
       have HL1 := Lib.hid (HL.out.on (bel_undrew hb1))
       have HX1 := Lib.hid (HX.out.on (bel_undrew hb1))
       obtain ⟨_, _⟩ := HL1.out.cells
       obtain ⟨_, _⟩ := HX1.out.cells
       clear hb1)
    | (go_at_call 53; (with_reducible refine (CN.out _ HB1.out).mono ?_)
       rintro e w2 ⟨rfl, hb2⟩
       have HB2 := Lib.hid (below_on HB1.out hb2)
       have HL2 := Lib.hid (HL1.out.on hb2)
       have HX2 := Lib.hid (HX1.out.on hb2)
       obtain ⟨_, _⟩ := HL2.out.cells
       obtain ⟨_, _⟩ := HX2.out.cells
       clear hb2)
    | (go_at_call 32; (with_reducible refine (CT.out _ HB2.out).mono ?_)
       rintro e w3 ⟨⟨xa, xn, xc, rfl, ht3⟩, hb3⟩
       have HT3 := Lib.hid ht3
       have HB3 := Lib.hid (below_on HB2.out hb3)
       have HX3 := Lib.hid (HX2.out.on hb3)
       obtain ⟨_, _⟩ := HX3.out.cells
       clear hb3 ht3)
    | (go_at_call 32; (with_reducible refine (CU.out _ HB3.out).mono ?_)
       rintro e w4 ⟨⟨ya, yn, yc, rfl, hu4⟩, hb4⟩
       have HU4 := Lib.hid hu4
       have HT4 := Lib.hid (HT3.out.on hb4)
       have HB4 := Lib.hid (below_on HB3.out hb4)
       clear hb4 hu4)
    | (go_at_call 58; (with_reducible refine (CE.out xa ya xn xc yn yc _ HT4.out HU4.out).mono ?_)
       rintro e w5 ⟨rfl, hb5⟩
       have HB5 := Lib.hid (below_on HB4.out hb5)
       clear hb5)
    | fail)
  all_goals
    go_wp2_with fail
    go_ret
    exact ⟨ret_bool HZ.out.symm, HB5.out⟩
end Go.Proofs.YtiofpeckcfdilaaGreatDoor
