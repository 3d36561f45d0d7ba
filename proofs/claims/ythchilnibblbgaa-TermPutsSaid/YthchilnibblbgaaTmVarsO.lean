/- Contract of the program's Vars: the names of the tree's variables, rising. -/
import Derived.Test.YthchilnibblbgaaTmVars
namespace Go.Proofs.Ythchilnibblbgaa
open Go.RowKit

/-- The call hands back a slice that reads as these strings. -/
def VarsRet (w : World) (l : List Str) (e : Ending) (w' : World) : Prop := (∃ a n c, e = .returned (.slice a n c) ∧ Strs w' w'.heap.size a n l ∧ From w.heap.size a n) ∧ Below w.heap.size w w'
/-- The world in which Vars begins to gather. -/
def varsW (w1 : World) (cl : Nat) : World := (w1.alloc (.cells #[.slice none 0 0] 50)).alloc (.cells #[.func (.func 39) #[] #[.pointer (some ⟨cl, 0, none⟩), .pointer (some ⟨w1.heap.size, 0, none⟩), .pointer (some ⟨w1.heap.size + 1, 0, none⟩)]] 73)
theorem varsW_size (w1 : World) (cl : Nat) : (varsW w1 cl).heap.size = w1.heap.size + 1 + 1 := by simp [varsW]
theorem varsW_below (w1 : World) (cl : Nat) : Below w1.heap.size w1 (varsW w1 cl) := by
  refine Below.alloc (Below.alloc (Below.refl _ _) (Nat.le_refl _) _) ?_ _
  simp
theorem varsW_ready {w1 : World} {L : List Trm} {la : Option Addr} {ln lc bound cl : Nat} (h : Trms w1 bound la ln L) (hb : bound ≤ w1.heap.size) (hl : cl < w1.heap.size) (hc : w1.cell? ⟨cl, 0, none⟩ = some (.slice la ln lc)) :
    VReady (varsW w1 cl) L la ln lc bound cl w1.heap.size (w1.heap.size + 1) ∧ VHas (varsW w1 cl) w1.heap.size [] := by
  have hs := varsW_size w1 cl
  have hbl := varsW_below w1 cl
  refine ⟨⟨h.below (hbl.mono hb), hb, by omega, ⟨by omega, by omega⟩, ⟨by omega, by omega⟩, (hbl.cell (p := ⟨cl, 0, none⟩) hl).trans hc, ?_⟩, by omega, ?_, none, 0, 0, ?_, Strs.zero _ _ _, From.zero _ _⟩
  · unfold varsW
    rw [cell_top (by simp)]
    rfl
  · unfold varsW World.frozen?
    rw [show ((w1.alloc (.cells #[.slice none 0 0] 50)).alloc (.cells #[.func (.func 39) #[] #[.pointer (some ⟨cl, 0, none⟩), .pointer (some ⟨w1.heap.size, 0, none⟩), .pointer (some ⟨w1.heap.size + 1, 0, none⟩)]] 73)).heap[w1.heap.size]? = some (.cells #[.slice none 0 0] 50 (0, 0)) from
      (((Below.refl _ (w1.alloc (.cells #[.slice none 0 0] 50))).alloc (Nat.le_refl _) _).block w1.heap.size (by simp)).trans (heap_alloc_new w1 _)]
    rfl
  · unfold varsW
    rw [World.cell?_alloc_lt _ _ _ (by simp), cell_top rfl]
    rfl

set_option maxHeartbeats 4000000 in
theorem termVars_any (la : Option Addr) (ln lc : Nat) (L : List Trm) (root : Int) (w : World) (bound : Nat) (hb : bound ≤ w.heap.size) (h : Trms w bound la ln L) :
    Calls Try.prog 25 #[.slice la ln lc, .int .i64 root] w (VarsRet w (varsF L root)) := by
  have hmf : ∀ (fn : Fn) (first cap : Array Value) (w : World), (Instr.makeFunc fn first cap).run Try.prog w = .ok (.func fn first cap) w := fun _ _ _ _ => rfl
  have hb0 := (Below.refl w.heap.size w).alloc (Nat.le_refl _) (.cells #[.slice la ln lc] 22)
  have HB := Lib.hid hb0
  have cm := termMay_any la ln lc L root (w.alloc (.cells #[.slice la ln lc] 22)) bound (by simp; omega) (h.below (hb0.mono hb))
  have HT := Lib.hid h
  have HK := Lib.hid (show (w.alloc (.cells #[.slice la ln lc] 22)).cell? ⟨w.heap.size, 0, none⟩ = some (.slice la ln lc) by rw [cell_top rfl]; rfl)
  clear h hb0
  cases hm : mayF L root
  · rw [hm] at cm
    have HG := Lib.hid (varsF_none hm)
    generalize varsF L root = R at HG ⊢
    have CM := Lib.hid cm
    clear cm hm
    go_enter Try.func25, Try.ntmps25
    go_wp2_with (first
      | (go_at_call 15; (with_reducible refine CM.out.mono ?_)
         rintro e w1 ⟨rfl, hb1⟩
         have HB1 := Lib.hid (below_on HB.out hb1)
         clear hb1)
      | fail)
    go_ret
    exact ⟨⟨none, 0, 0, rfl, by rw [HG.out]; exact Strs.zero _ _ _, From.zero _ _⟩, HB1.out⟩
  · rw [hm] at cm
    obtain ⟨x, hx⟩ := (mayF_iff L root).1 hm
    obtain ⟨r, hr⟩ : ∃ r : Nat, root = (r : Int) := ⟨x.at_, hx.2.1.symm⟩
    subst hr
    have hxr : x.at_ = r := by have := hx.2.1; omega
    have HG := Lib.hid (varsF_good hx)
    have hfew := hx.few
    have cw := fun (cv cw : Nat) (W : World) (hR : VReady W L la ln lc bound w.heap.size cv cw) (hV : VHas W cv []) => gather_any L la ln lc bound w.heap.size cv cw x hx.2.2.1 [] W (by simp; omega) hR hV
    rw [hxr] at cw
    generalize varsF L (r : Int) = R at HG ⊢
    generalize gatherE x [] = q at HG cw
    have CW := Lib.hid cw
    have CM := Lib.hid cm
    clear cm hm hx hxr cw hfew
    go_enter Try.func25, Try.ntmps25
    go_wp2_with (first
      | (go_at_call 15; (with_reducible refine CM.out.mono ?_)
         rintro e w1 ⟨rfl, hb1⟩
         have HB1 := Lib.hid (below_on HB.out hb1)
         have hz1 := hb1.size
         have hrv := varsW_ready (w1 := w1) (L := L) (lc := lc) (bound := bound) (cl := w.heap.size) (HT.out.below (HB1.out.mono hb)) (by have := HB1.out.size; omega) (by simp at hz1; omega) ((hb1.cell (p := ⟨w.heap.size, 0, none⟩) (by simp)).trans HK.out)
         have HB2 := Lib.hid (varsW_below w1 w.heap.size)
         unfold varsW at hrv
         have HR2 := Lib.hid hrv
         clear hb1 hrv)
      | (go_at_call 39; (with_reducible refine (CW.out _ _ _ HR2.out.1 HR2.out.2).mono ?_)
         rintro e w3 ⟨rfl, hb3, hv3⟩
         obtain ⟨y1, y2, ya, yn, yc, yc0, ys, yf⟩ := hv3
         have HB3 := Lib.hid (show Below w1.heap.size (varsW w1 w.heap.size) w3 from hb3.below (Nat.le_refl _) (by simp; omega))
         have HS3 := Lib.hid ys
         have HF3 := Lib.hid yf
         clear hb3 ys yf)
      | fail)
    go_ret
    refine ⟨⟨_, _, _, rfl, by rw [HG.out]; exact HS3.out, HF3.out.low (by have := HB1.out.size; omega)⟩, HB1.out.trans ((HB2.out.trans HB3.out).mono (by have := HB1.out.size; omega))⟩
end Go.Proofs.Ythchilnibblbgaa
