/- Contract of the statements' own same: two local types, with their names. -/
import Derived.Test.YtbbdmipfbnfpfaaGreatTuTrimO
import Derived.Test.YtbbdmipfbnfpfaaGreatTuSameT
namespace Go.Proofs.YtbbdmipfbnfpfaaGreat
open Go.RowKit

set_option maxHeartbeats 8000000 in
set_option maxRecDepth 20000 in
theorem lawSame_any (nm nm' : ByteArray) (a a' : Option Addr) (n c n' c' : Nat) (ts us : List TurnL) (w : World) (bound : Nat) (hb : bound ≤ w.heap.size) (h : Turns w bound a n ts) (h' : Turns w bound a' n' us) :
    Calls Tryz.prog 13 #[.agg #[.string nm, .slice a n c], .agg #[.string nm', .slice a' n' c']] w fun e w' => e = .returned (.bool ((nm.toList == nm'.toList) && sameTs ts us)) ∧ Below w.heap.size w w' := by
  have HB0 := Lib.hid (below_on (tu1 w (.cells #[.string nm, .slice a n c] 24)) (tu1 (w.alloc (.cells #[.string nm, .slice a n c] 24)) (.cells #[.string nm', .slice a' n' c'] 24)))
  have HL := Lib.hid ((LBox.new w nm a n c).on (tu1 (w.alloc (.cells #[.string nm, .slice a n c] 24)) (.cells #[.string nm', .slice a' n' c'] 24)))
  have HX := Lib.hid (LBox.new (w.alloc (.cells #[.string nm, .slice a n c] 24)) nm' a' n' c')
  rw [World.size_alloc] at HX
  have CS := Lib.hid (fun (W : World) (hW : Below w.heap.size w W) => (tuSameT_any a a' n n' c c' ts us W bound (h.below (hW.mono hb)) (h'.below (hW.mono hb))).mono fun e w2 h => (⟨h.1, by obtain ⟨q, hq⟩ := h.2; rw [hq]; exact bel_drewN hW q⟩ : e = .returned (.bool (sameTs ts us)) ∧ Below w.heap.size w w2))
  obtain ⟨lc0, lc1⟩ := HL.out.cells
  obtain ⟨xc0, xc1⟩ := HX.out.cells
  obtain ⟨R, hR⟩ : ∃ R, R = ((nm.toList == nm'.toList) && sameTs ts us) := ⟨_, rfl⟩
  rw [← hR]
  clear h h'
  cases hv : (nm.toList == nm'.toList)
  · rw [hv] at hR
    have HZ := Lib.hid (show R = false from hR)
    clear hR
    go_enter Tryz.func13, Tryz.ntmps13
    go_wp2_with fail
    go_ret
    exact ⟨ret_bool HZ.out.symm, HB0.out⟩
  · rw [hv] at hR
    have HZ := Lib.hid (show R = sameTs ts us from hR)
    clear hR
    go_enter Tryz.func13, Tryz.ntmps13
    go_wp2_with (first
      | (go_at_call 33; (with_reducible refine (CS.out _ HB0.out).mono ?_)
         rintro e w1 ⟨rfl, hb1⟩
         have HB1 := Lib.hid hb1
         clear hb1)
      | fail)
    go_ret
    exact ⟨ret_bool HZ.out.symm, HB1.out⟩
end Go.Proofs.YtbbdmipfbnfpfaaGreat
