/- Contract of the program's evaluating closure: terms without operands. -/
import Derived.Test.YthbakfceaaaamaaTmArgs
namespace Go.Proofs.Ythbakfceaaaamaa
open Go.RowKit

/-- What the closure finds where it begins: the list, the binds, itself. -/
def EReady (W : World) (L : List Trm) (env : List (Str × Val)) (la : Option Addr) (ln lc : Nat) (ea : Option Addr) (en ec : Nat) (bound cl cw ce : Nat) : Prop :=
  Trms W bound la ln L ∧ Binds W bound ea en env ∧ bound ≤ W.heap.size ∧ cl < W.heap.size ∧ cw < W.heap.size ∧ ce < W.heap.size ∧
  W.cell? ⟨cl, 0, none⟩ = some (.slice la ln lc) ∧
  W.cell? ⟨cw, 0, none⟩ = some (.func (.func 21) #[] #[.pointer (some ⟨cl, 0, none⟩), .pointer (some ⟨cw, 0, none⟩), .pointer (some ⟨ce, 0, none⟩)]) ∧
  W.cell? ⟨ce, 0, none⟩ = some (.slice ea en ec)
theorem EReady.on {W W' : World} {L : List Trm} {env : List (Str × Val)} {la ea : Option Addr} {ln lc en ec bound cl cw ce : Nat} (h : EReady W L env la ln lc ea en ec bound cl cw ce) (hb : Below W.heap.size W W') : EReady W' L env la ln lc ea en ec bound cl cw ce := by
  obtain ⟨h1, h2, h3, h4, h5, h6, h7, h8, h9⟩ := h
  have := hb.size
  exact ⟨h1.below (hb.mono h3), h2.below (hb.mono h3), by omega, by omega, by omega, by omega, (hb.cell (p := ⟨cl, 0, none⟩) h4).trans h7, (hb.cell (p := ⟨cw, 0, none⟩) h5).trans h8, (hb.cell (p := ⟨ce, 0, none⟩) h6).trans h9⟩
theorem slot_keep {W : World} {R b o : Nat} (h : b ≠ R) (v0 v1 v2 v3 : Value) : ((((W.setCell ⟨R, 0, none⟩ v0).setCell ⟨R, 1, none⟩ v1).setCell ⟨R, 2, none⟩ v2).setCell ⟨R, 3, none⟩ v3).cell? ⟨b, o, none⟩ = W.cell? ⟨b, o, none⟩ := set_keep h v0 v1 v2 v3

set_option maxHeartbeats 4000000 in
theorem clo0_any (L : List Trm) (env : List (Str × Val)) (la : Option Addr) (ln lc : Nat) (ea : Option Addr) (en ec : Nat) (bound cl cw ce i : Nat) (t : Trm) (w : World) (hi : L[i]? = some t) (har : arT t.kind = 0) (hR : EReady w L env la ln lc ea en ec bound cl cw ce) :
    Calls Try.prog 21 #[.int .i64 i, .pointer (some ⟨cl, 0, none⟩), .pointer (some ⟨cw, 0, none⟩), .pointer (some ⟨ce, 0, none⟩)] w (PairRet w (leafV env t)) := by
  have hin : i < ln := by
    obtain ⟨h1, _⟩ := List.getElem?_eq_some_iff.1 hi
    have := hR.1.1
    omega
  have hb0 := (Below.refl w.heap.size w).alloc (Nat.le_refl _) (.cells #[.int .i64 0, .int .i64 0, .string ⟨#[]⟩, .slice none 0 0] 33)
  have HB := Lib.hid hb0
  have HS := Lib.hid (Slot.new w)
  have HR1 := Lib.hid (hR.on hb0)
  obtain ⟨hT, hE, hbz, l1, w1', e1', ccl, ccw, cce⟩ := hR.on hb0
  obtain ⟨b, off, t', ha, hbb, hget, _, hnl, htl, q0, q1, q2, q3, q4, q5⟩ := hT.at_ hin
  rw [hi] at hget
  obtain rfl := Option.some.inj hget
  subst ha
  obtain ⟨nm, hnm⟩ : ∃ nm, nm = lxS t.name := ⟨_, rfl⟩
  obtain ⟨tx, htx⟩ : ∃ tx, tx = lxS t.text := ⟨_, rfl⟩
  have hTT : (⟨t.kind, nm.toList, t.num, tx.toList, t.l, t.r⟩ : Trm) = t := by rw [hnm, htx, lxS_toList, lxS_toList]
  have co := fun W => operands_any t.kind nm t.num tx t.l t.r W
  rw [hTT, opsT0 har] at co
  have hk : t.kind = 0 ∨ t.kind = 1 ∨ t.kind = 2 ∨ t.kind = 3 ∨ t.kind = 4 ∨ t.kind = 5 := by
    unfold arT at har
    split at har
    · cases har
    · split at har
      · omega
      · cases har
  have cv := fun (a' : Option Addr) (n' c' : Nat) W (hW : Below w.heap.size w W) (hE : Binds W bound ea en env) => evalLeaf_any t.kind nm t.num tx t.l t.r a' n' c' ea en ec env W bound (by have := hW.size; have := hR.2.2.1; omega) hE hk
  rw [hTT] at cv
  rw [← hnm] at q1
  rw [← htx] at q3
  have CO := Lib.hid co
  have CV := Lib.hid cv
  have HQ := Lib.hid (And.intro q0 (And.intro q1 (And.intro q2 (And.intro q3 (And.intro q4 q5)))))
  have hbw : b < w.heap.size := by have := hR.2.2.1; omega
  have hlw : cl < w.heap.size := hR.2.2.2.1
  have hew : ce < w.heap.size := hR.2.2.2.2.2.1
  obtain ⟨tk, htk⟩ : ∃ tk, tk = t.kind := ⟨_, rfl⟩
  obtain ⟨tn, htn⟩ : ∃ tn, tn = t.num := ⟨_, rfl⟩
  obtain ⟨tl, htl2⟩ : ∃ tl, tl = t.l := ⟨_, rfl⟩
  obtain ⟨tr, htr⟩ : ∃ tr, tr = t.r := ⟨_, rfl⟩
  rw [← htk, ← htn, ← htl2, ← htr] at CO CV HQ
  rw [← htk] at q0
  rw [← htn] at q2
  rw [← htl2] at q4
  rw [← htr] at q5
  generalize leafV env t = R at CV ⊢
  clear co cv hnm htx hTT hnl htl hi har hT hE hb0 hk htk htn htl2 htr hR
  have hne : b ≠ w.heap.size := by omega
  have hnel : cl ≠ w.heap.size := by omega
  have hnee : ce ≠ w.heap.size := by omega
  go_enter Try.func21, Try.ntmps21
  go_wp2_with (first
    | (go_at_call 22; (with_reducible refine (CO.out _).mono ?_)
       rintro e w2 ⟨⟨ao, no, co, rfl, hnums, _⟩, hb2⟩
       have HB2 := Lib.hid (below_on HB.out hb2)
       have HS2 := Lib.hid (HS.out.on hb2)
       have HR2 := Lib.hid (HR1.out.on hb2)
       have hno : no = 0 := by have := hnums.1; simpa using this.symm
       subst hno
       obtain ⟨_, _, _, _, _, _, ccl, ccw, cce⟩ := HR2.out
       have bl := hb2.mono (B' := w.heap.size) (by simp)
       obtain ⟨q0, q1, q2, q3, q4, q5⟩ := HQ.out
       have r0 := (bl.cell (p := ⟨b, off + i * 6, none⟩) hbw).trans q0
       have r1 := (bl.cell (p := ⟨b, off + i * 6 + 1, none⟩) hbw).trans q1
       have r2 := (bl.cell (p := ⟨b, off + i * 6 + 2, none⟩) hbw).trans q2
       have r3 := (bl.cell (p := ⟨b, off + i * 6 + 3, none⟩) hbw).trans q3
       have r4 := (bl.cell (p := ⟨b, off + i * 6 + 4, none⟩) hbw).trans q4
       have r5 := (bl.cell (p := ⟨b, off + i * 6 + 5, none⟩) hbw).trans q5
       have HQ2 := Lib.hid (And.intro r0 (And.intro r1 (And.intro r2 (And.intro r3 (And.intro r4 r5)))))
       clear hb2 hnums bl q0 q1 q2 q3 q4 q5)
    | fail)
  refine wp_loop_rounds 1 ?_
  rw [rounds_succ]
  go_wp2
  go_region_held3 (fun W => (W.cell? ⟨cl, 0, none⟩ = some (.slice (some ⟨b, off, none⟩) ln lc) ∧ W.cell? ⟨ce, 0, none⟩ = some (.slice ea en ec)) ∧ W.cell? ⟨b, off + i * 6, none⟩ = some (.int .i64 tk) ∧ W.cell? ⟨b, off + i * 6 + 1, none⟩ = some (.string nm) ∧ W.cell? ⟨b, off + i * 6 + 2, none⟩ = some (.int .i64 tn) ∧ W.cell? ⟨b, off + i * 6 + 3, none⟩ = some (.string tx) ∧ W.cell? ⟨b, off + i * 6 + 4, none⟩ = some (.int .i64 tl) ∧ W.cell? ⟨b, off + i * 6 + 5, none⟩ = some (.int .i64 tr)) (first | exact ⟨⟨ccl, cce⟩, r0, r1, r2, r3, r4, r5⟩ | exact ⟨⟨(set_keep hnel _ _ _ _).trans ccl, (set_keep hnee _ _ _ _).trans cce⟩, (set_keep hne _ _ _ _).trans r0, (set_keep hne _ _ _ _).trans r1, (set_keep hne _ _ _ _).trans r2, (set_keep hne _ _ _ _).trans r3, (set_keep hne _ _ _ _).trans r4, (set_keep hne _ _ _ _).trans r5⟩) (first
    | (go_at_call 23; (with_reducible refine (CV.out _ _ _ _ ?_ ?_).mono ?_)
       · first | exact HB2.out | exact HB2.out.drew | exact below_drewN HB2.out _
       · exact HR2.out.2.1
       rintro e wn ⟨⟨s', a2, n2, c2, rfl, hv, hf⟩, hbn⟩
       have HS3 := Lib.hid (HS2.out.on (W' := wn) ⟨hbn.os, hbn.tape, hbn.output, hbn.size, hbn.block⟩)
       have HB3 := Lib.hid (show Below w.heap.size w wn from below_on HB2.out ⟨hbn.os, hbn.tape, hbn.output, hbn.size, hbn.block⟩)
       have HV3 := Lib.hid hv
       have HF3 := Lib.hid (show From w2.heap.size a2 n2 from hf)
       have bl := (show Below w2.heap.size w2 wn from ⟨hbn.os, hbn.tape, hbn.output, hbn.size, hbn.block⟩).mono (B' := w.heap.size) HB2.out.size
       obtain ⟨r0, r1, r2, r3, r4, r5⟩ := HQ2.out
       obtain ⟨_, _, _, _, _, _, ccl', _, cce'⟩ := HR2.out
       have r0 := (bl.cell (p := ⟨b, off + i * 6, none⟩) hbw).trans r0
       have r1 := (bl.cell (p := ⟨b, off + i * 6 + 1, none⟩) hbw).trans r1
       have r2 := (bl.cell (p := ⟨b, off + i * 6 + 2, none⟩) hbw).trans r2
       have r3 := (bl.cell (p := ⟨b, off + i * 6 + 3, none⟩) hbw).trans r3
       have r4 := (bl.cell (p := ⟨b, off + i * 6 + 4, none⟩) hbw).trans r4
       have r5 := (bl.cell (p := ⟨b, off + i * 6 + 5, none⟩) hbw).trans r5
       have ccl := (bl.cell (p := ⟨cl, 0, none⟩) hlw).trans ccl'
       have cce := (bl.cell (p := ⟨ce, 0, none⟩) hew).trans cce'
       obtain ⟨⟨d0, d1', d2', d3⟩, g0, g1, g2, g3⟩ := HS3.out.cells
       clear hbn hv hf bl)
    | fail)
  all_goals go_wp2
  all_goals (try simp only [Exit.inBlock, Exit.then])
  all_goals refine end_pair rfl rfl rfl HS3.out ?_
  all_goals exact PairRet.of_set HB3.out (Nat.le_refl _) HS2.out.lt HV3.out HF3.out
end Go.Proofs.Ythbakfceaaaamaa
