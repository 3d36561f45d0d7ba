/- Contract of the program's Eval. -/
import Derived.Test.YthbakfceaaaamaaTmClo2
import Derived.Test.YthbakfceaaaamaaTmMay
namespace Go.Proofs.Ythbakfceaaaamaa
open Go.RowKit

theorem clo_any (L : List Trm) (env : List (Str × Val)) (la : Option Addr) (ln lc : Nat) (ea : Option Addr) (en ec : Nat) (bound cl cw ce : Nat) : ∀ (e : Exp), Fits L e → ∀ w, EReady w L env la ln lc ea en ec bound cl cw ce →
    Calls Try.prog 21 #[.int .i64 e.at_, .pointer (some ⟨cl, 0, none⟩), .pointer (some ⟨cw, 0, none⟩), .pointer (some ⟨ce, 0, none⟩)] w (PairRet w (evalE env e)) := by
  intro e
  induction e with
  | leaf i t => intro h w hR; exact clo0_any L env la ln lc ea en ec bound cl cw ce i t w h.1 h.2.2 hR
  | one i t a ih =>
    intro h w hR
    have hm := evalE_may env h.2.2.2.2.2
    exact clo1_any L env la ln lc ea en ec bound cl cw ce i t w h.1 h.2.2.1 a.at_ (evalE env a).1 (evalE env a).2 h.2.2.2.1 hm (fun W hW => ih h.2.2.2.2.2 W hW) hR
  | two i t a b iha ihb =>
    intro h w hR
    have hma := evalE_may env h.2.2.2.2.2.2.2.1
    have hmb := evalE_may env h.2.2.2.2.2.2.2.2
    exact clo2_any L env la ln lc ea en ec bound cl cw ce i t w h.1 h.2.2.1 a.at_ b.at_ (evalE env a).1 (evalE env b).1 (evalE env a).2 (evalE env b).2 h.2.1 h.2.2.2.1 h.2.2.2.2.1 hma hmb (fun W hW => iha h.2.2.2.2.2.2.2.1 W hW) (fun W hW => ihb h.2.2.2.2.2.2.2.2 W hW) hR

/-- The world in which Eval begins. -/
def evalW (w : World) (la : Option Addr) (ln lc : Nat) (ea : Option Addr) (en ec : Nat) : World :=
  ((w.alloc (.cells #[.slice la ln lc] 22)).alloc (.cells #[.slice ea en ec] 29)).alloc (.cells #[.int .i64 0, .int .i64 0, .string ⟨#[]⟩, .slice none 0 0] 33)
theorem evalW_size (w : World) (la : Option Addr) (ln lc : Nat) (ea : Option Addr) (en ec : Nat) : (evalW w la ln lc ea en ec).heap.size = w.heap.size + 1 + 1 + 1 := by simp [evalW]
theorem evalW_below (w : World) (la : Option Addr) (ln lc : Nat) (ea : Option Addr) (en ec : Nat) : Below w.heap.size w (evalW w la ln lc ea en ec) := by
  refine Below.alloc (Below.alloc (Below.alloc (Below.refl _ _) (Nat.le_refl _) _) ?_ _) ?_ _
  all_goals simp <;> omega
theorem evalW_slot (w : World) (la : Option Addr) (ln lc : Nat) (ea : Option Addr) (en ec : Nat) : Slot (evalW w la ln lc ea en ec) (w.heap.size + 1 + 1) := by
  have h := Slot.new ((w.alloc (.cells #[.slice la ln lc] 22)).alloc (.cells #[.slice ea en ec] 29))
  rw [World.size_alloc, World.size_alloc] at h
  exact h
theorem evalW_cells (w : World) (la : Option Addr) (ln lc : Nat) (ea : Option Addr) (en ec : Nat) : (evalW w la ln lc ea en ec).cell? ⟨w.heap.size, 0, none⟩ = some (.slice la ln lc) ∧ (evalW w la ln lc ea en ec).cell? ⟨w.heap.size + 1, 0, none⟩ = some (.slice ea en ec) := by
  unfold evalW
  constructor
  · rw [World.cell?_alloc_lt _ _ _ (by simp <;> omega), World.cell?_alloc_lt _ _ _ (by simp <;> omega), cell_top rfl]; rfl
  · rw [World.cell?_alloc_lt _ _ _ (by simp), cell_top (by simp)]; rfl

set_option maxHeartbeats 4000000 in
theorem termEval_any (la : Option Addr) (ln lc : Nat) (L : List Trm) (root : Int) (ea : Option Addr) (en ec : Nat) (env : List (Str × Val)) (w : World) (bound : Nat) (hb : bound ≤ w.heap.size) (h : Trms w bound la ln L) (hE : Binds w bound ea en env) :
    Calls Try.prog 13 #[.slice la ln lc, .int .i64 root, .slice ea en ec] w (PairRet w (evalF L root env)) := by
  have hmf : ∀ (fn : Fn) (first cap : Array Value) (w : World), (Instr.makeFunc fn first cap).run Try.prog w = .ok (.func fn first cap) w := fun _ _ _ _ => rfl
  have hb0 := evalW_below w la ln lc ea en ec
  have hs0 := evalW_slot w la ln lc ea en ec
  obtain ⟨k0, k1⟩ := evalW_cells w la ln lc ea en ec
  have hz := evalW_size w la ln lc ea en ec
  have cm := termMay_any la ln lc L root (evalW w la ln lc ea en ec) bound (by omega) (h.below (hb0.mono hb))
  have HB := Lib.hid hb0
  have HS := Lib.hid hs0
  have HK := Lib.hid (And.intro k0 k1)
  have HZ := Lib.hid hz
  have hsz : w.heap.size ≤ w.heap.size + 1 + 1 := by omega
  have HSZ := Lib.hid hsz
  clear hsz
  have HT := Lib.hid h
  have HE := Lib.hid hE
  cases hm : mayF L root
  · rw [hm] at cm
    have HG := Lib.hid (evalF_none (env := env) hm)
    generalize evalF L root env = R at HG ⊢
    have cm2 := cm
    unfold evalW at cm2
    have CM := Lib.hid cm2
    clear cm cm2 hm hb0 hs0 k0 k1 hz h hE
    go_enter Try.func13, Try.ntmps13
    go_wp2_with (first
      | (go_at_call 16; (with_reducible refine CM.out.mono ?_)
         rintro e w1 ⟨rfl, hb1⟩
         have HS1 := Lib.hid (HS.out.on hb1)
         have HB1 := Lib.hid (below_on HB.out hb1)
         obtain ⟨⟨c0, c1, c2, c3⟩, f0, f1, f2, f3⟩ := HS1.out.cells
         clear hb1)
      | fail)
    (try simp only [Exit.inBlock, Exit.then])
    refine end_pair rfl rfl rfl HS1.out ?_
    exact PairRet.is (PairRet.flat0 (below_set HB1.out HSZ.out _ _ _ _)) HG.out
  · rw [hm] at cm
    obtain ⟨x, hx⟩ := (mayF_iff L root).1 hm
    obtain ⟨r, hr⟩ : ∃ r : Nat, root = (r : Int) := ⟨x.at_, hx.2.1.symm⟩
    subst hr
    have hxr : x.at_ = r := by have := hx.2.1; omega
    have HG := Lib.hid (evalF_good (env := env) hx)
    have cw := fun (B : Nat) (W : World) (hR : EReady W L env la ln lc ea en ec bound w.heap.size B (w.heap.size + 1)) => clo_any L env la ln lc ea en ec bound w.heap.size B (w.heap.size + 1) x hx.2.2.1 W hR
    rw [hxr] at cw
    generalize evalF L (r : Int) env = R at HG ⊢
    generalize evalE env x = q at HG cw
    have CW := Lib.hid cw
    have cm2 := cm
    unfold evalW at cm2
    have CM := Lib.hid cm2
    clear cm cm2 hm hb0 hs0 k0 k1 hz h hE hx hxr cw
    go_enter Try.func13, Try.ntmps13
    go_wp2_with (first
      | (go_at_call 16; (with_reducible refine CM.out.mono ?_)
         rintro e w1 ⟨rfl, hb1⟩
         have hb1' : Below (evalW w la ln lc ea en ec).heap.size (evalW w la ln lc ea en ec) w1 := hb1
         have HB1 := Lib.hid (below_on HB.out hb1')
         have hz1 := HZ.out
         have hs1 := hb1'.size
         have hfw := (Below.refl w1.heap.size w1).alloc (Nat.le_refl _) (.cells #[.func (.func 21) #[] #[.pointer (some ⟨w.heap.size, 0, none⟩), .pointer (some ⟨w1.heap.size, 0, none⟩), .pointer (some ⟨w.heap.size + 1, 0, none⟩)]] 55)
         have HB2 := Lib.hid (below_on HB1.out hfw)
         have HS2 := Lib.hid ((HS.out.on hb1').on hfw)
         have HR2 := Lib.hid (show EReady (w1.alloc (.cells #[.func (.func 21) #[] #[.pointer (some ⟨w.heap.size, 0, none⟩), .pointer (some ⟨w1.heap.size, 0, none⟩), .pointer (some ⟨w.heap.size + 1, 0, none⟩)]] 55)) L env la ln lc ea en ec bound w.heap.size w1.heap.size (w.heap.size + 1) from
           ⟨HT.out.below (HB2.out.mono hb), HE.out.below (HB2.out.mono hb), by simp; omega, by simp; omega, by simp, by simp; omega,
             (World.cell?_alloc_lt _ _ _ (by show w.heap.size < _; omega)).trans ((hb1'.cell (p := ⟨w.heap.size, 0, none⟩) (by show w.heap.size < _; omega)).trans HK.out.1), by rw [cell_top rfl]; rfl,
             (World.cell?_alloc_lt _ _ _ (by show w.heap.size + 1 < _; omega)).trans ((hb1'.cell (p := ⟨w.heap.size + 1, 0, none⟩) (by show w.heap.size + 1 < _; omega)).trans HK.out.2)⟩)
         clear hb1 hb1' hz1 hs1 hfw)
      | (go_at_call 21; (with_reducible refine (CW.out _ _ HR2.out).mono ?_)
         rintro e w3 ⟨⟨s', a', n', c', rfl, hv, hf⟩, hb3⟩
         have HS3 := Lib.hid (HS2.out.on hb3)
         have HB3 := Lib.hid (below_on HB2.out hb3)
         have HV3 := Lib.hid hv
         have HF3 := Lib.hid hf
         obtain ⟨⟨c0, c1, c2, c3⟩, f0, f1, f2, f3⟩ := HS3.out.cells
         clear hb3 hv hf)
      | fail)
    (try simp only [Exit.inBlock, Exit.then])
    refine end_pair rfl rfl rfl HS3.out ?_
    exact PairRet.is (PairRet.of_set HB3.out HSZ.out HS2.out.lt HV3.out HF3.out) HG.out
end Go.Proofs.Ythbakfceaaaamaa
