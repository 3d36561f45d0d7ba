/- Contract of the reference's LocalWalk. -/
import Derived.Test.YtbbdmipfbnfpfaaGreatTuLoc
namespace Go.Proofs.YtbbdmipfbnfpfaaGreat
open Go.RowKit

/-- LocalWalk's answer. -/
def walkL (ts : List TurnL) (ls : List Str) : Option Nat := if locB ts then walkT ts 0 ls else none
set_option maxHeartbeats 4000000 in
theorem tuLWalk_any (nm : ByteArray) (a : Option Addr) (n c : Nat) (ts : List TurnL) (va : Option Addr) (vn vc : Nat) (ls : List Str) (w : World) (bound : Nat) (hb : bound ≤ w.heap.size) (h : Turns w bound a n ts) (hs : Strs w bound va vn ls) :
    Calls Tryz.prog 8 #[.agg #[.string nm, .slice a n c], .slice va vn vc] w fun e w' => e = .returned (walkV (walkL ts ls)) ∧ Below w.heap.size w w' := by
  have HB0 := Lib.hid (tu1 w (.cells #[.string nm, .slice a n c] 24))
  have HL := Lib.hid (LBox.new w nm a n c)
  have CL := Lib.hid (fun (W : World) (hW : Below w.heap.size w W) => tuLocal_any nm a n c ts W bound (by have := hW.size; omega) (h.below (hW.mono hb)))
  obtain ⟨lc0, lc1⟩ := HL.out.cells
  cases hv : locB ts
  · rw [hv] at CL
    have HZ := Lib.hid (show walkL ts ls = none by unfold walkL; rw [hv]; rfl)
    clear h hv
    go_enter Tryz.func8, Tryz.ntmps8
    go_wp2_with (first
      | (go_at_call 12; (with_reducible refine (CL.out _ HB0.out).mono ?_)
         rintro e w1 ⟨rfl, hb1⟩
         have HB1 := Lib.hid (below_on HB0.out hb1)
         clear hb1)
      | fail)
    go_ret2
    exact ⟨by rw [HZ.out]; rfl, HB1.out⟩
  · rw [hv] at CL
    have hone := locB_one hv
    have hlen := h.1
    have HZ := Lib.hid (show walkL ts ls = walkT ts 0 ls by unfold walkL; rw [hv]; rfl)
    have CA := Lib.hid (fun (W : World) (hW : Below w.heap.size w W) => tuArr_any nm a n c ts W bound (by have := hW.size; omega) (h.below (hW.mono hb)) (by omega))
    have CW := Lib.hid (fun (ra : Option Addr) (rc : Nat) (W : World) (hA : ArmsR W W.heap.size ra n (ts.map TurnL.arms)) (hW : Below w.heap.size w W) => tuWalk_any ra n rc ts va vn vc ls W _ hA hv ((hs.below (hW.mono hb)).more (by have := hW.size; omega)))
    rcases hr : walkT ts 0 ls with _ | p
    · rw [hr] at CW HZ
      dsimp only [walkV] at CW
      clear h hv hone hlen hr
      go_enter Tryz.func8, Tryz.ntmps8
      go_wp2_with (first
        | (go_at_call 12; (with_reducible refine (CL.out _ HB0.out).mono ?_)
           rintro e w1 ⟨rfl, hb1⟩
           have HB1 := Lib.hid (below_on HB0.out hb1)
           obtain ⟨mc0, mc1⟩ := (HL.out.on hb1).cells
           clear hb1)
        | (go_at_call 27; (with_reducible refine (CA.out _ HB1.out).mono ?_)
           rintro e w2 ⟨⟨ra, rc, rfl, hra⟩, hb2⟩
           have HB2 := Lib.hid (below_on HB1.out hb2)
           have HRA := Lib.hid hra
           clear hra hb2)
        | (go_at_call 26; (with_reducible refine (CW.out _ _ _ HRA.out HB2.out).mono ?_)
           rintro e w3 ⟨rfl, q, rfl⟩
           have HB3 := Lib.hid (bel_drewN HB2.out q))
        | fail)
      go_ret2
      exact ⟨by rw [HZ.out]; rfl, HB3.out⟩
    · rw [hr] at CW HZ
      dsimp only [walkV] at CW
      clear h hv hone hlen hr
      go_enter Tryz.func8, Tryz.ntmps8
      go_wp2_with (first
        | (go_at_call 12; (with_reducible refine (CL.out _ HB0.out).mono ?_)
           rintro e w1 ⟨rfl, hb1⟩
           have HB1 := Lib.hid (below_on HB0.out hb1)
           obtain ⟨mc0, mc1⟩ := (HL.out.on hb1).cells
           clear hb1)
        | (go_at_call 27; (with_reducible refine (CA.out _ HB1.out).mono ?_)
           rintro e w2 ⟨⟨ra, rc, rfl, hra⟩, hb2⟩
           have HB2 := Lib.hid (below_on HB1.out hb2)
           have HRA := Lib.hid hra
           clear hra hb2)
        | (go_at_call 26; (with_reducible refine (CW.out _ _ _ HRA.out HB2.out).mono ?_)
           rintro e w3 ⟨rfl, q, rfl⟩
           have HB3 := Lib.hid (bel_drewN HB2.out q))
        | fail)
      go_ret2
      exact ⟨by rw [HZ.out]; rfl, HB3.out⟩
end Go.Proofs.YtbbdmipfbnfpfaaGreat
