/- Plain: what a near set's points, labels and errors are. No program stands in this text. -/
import Derived.Test.YtiofpeckcfdilaaGreatDoorPjLow
import Derived.Test.YtiofpeckcfdilaaGreatDoorRef2
import Derived.Lib.RowBridge
import Derived.Deep.DeepCutAuto
import Derived.Test.YtiofpeckcfdilaaGreatDoorTuRows
import Derived.Test.YtiofpeckcfdilaaGreatDoorTuLast
import Derived.Laws.Concat
namespace Go.Proofs.YtiofpeckcfdilaaGreatDoor
open Go.RowKit

theorem mem_labelsP (f : List PointL) (s : Str) : s ∈ labelsP f ↔ s ∈ labs8 f := by
  unfold labelsP labs8 Lib.compact
  rw [mem_upTo]
  rw [show (s ∈ f.flatMap fun x => x.arms.map ArmL.label) ↔ s ∈ sortS (f.flatMap fun x => x.arms.map ArmL.label) from ((List.mergeSort_perm _ _).mem_iff).symm]
  constructor
  · rintro ⟨j, hj, e⟩
    subst e
    simp [hj]
  · intro h
    obtain ⟨j, hj, e⟩ := List.getElem_of_mem h
    exact ⟨j, hj, by simpa [getElem!_pos, hj] using e⟩
theorem labelsP_few (f : List PointL) : (labelsP f).length ≤ (f.flatMap PointL.arms).length := by
  rw [← labs8_len]
  unfold labelsP
  refine Nat.le_trans (Lib.compact_length_le _) ?_
  unfold sortS
  rw [List.length_mergeSort]
  exact Nat.le_refl _
theorem mem_labs8 {f : List PointL} {s : Str} (h : s ∈ labs8 f) : ∃ x ∈ f, ∃ a ∈ x.arms, a.label = s := by
  unfold labs8 at h
  obtain ⟨x, hx, h2⟩ := List.mem_flatMap.1 h
  obtain ⟨a, ha, e⟩ := List.mem_map.1 h2
  exact ⟨x, hx, a, ha, e⟩
theorem armsAt_pos {f : List PointL} {s : Str} (h : s ∈ labs8 f) : 0 < (armsAt f s).length := by
  obtain ⟨x, hx, a, ha, e⟩ := mem_labs8 h
  exact List.length_pos_of_mem (a := a) (List.mem_filter.2 ⟨List.mem_flatMap.2 ⟨x, hx, ha⟩, by simp [e]⟩)
theorem mem_armsAt {f : List PointL} {s : Str} {a : ArmL} (h : a ∈ armsAt f s) : ∃ x ∈ f, a ∈ x.arms := by
  obtain ⟨x, hx, ha⟩ := List.mem_flatMap.1 (List.mem_filter.1 h).1
  exact ⟨x, hx, ha⟩
theorem lookP_err {ps : List PointL} {r : Str} {ns : List (List Nat)} {s : List Nat} {e : Int} (h : lookP ps r ns s = .error e) : e = 801 ∨ e = 805 := by
  unfold lookP at h
  split at h
  · cases h; exact .inl rfl
  · split at h
    · cases h
    · split at h
      · cases h; exact .inr rfl
      · cases h
theorem armP_err {ps : List PointL} {r : Str} {f : List PointL} {s : Str} {ns : List (List Nat)} {e : Int} (h : armP ps r f s ns = .error e) : e = 801 ∨ e = 805 := by
  unfold armP at h
  split at h
  · rename_i hk
    cases h
    exact lookP_err hk
  · cases h
theorem pts_arms {nm : Str} {rs : List Str} {ps : List PointL} (hp : protB nm rs ps = true) {near : List Nat} (hn : ∀ x ∈ near, x < ps.length) : ∀ x ∈ ptsOf ps near, x.arms.length ≤ 6 ∧ ∀ a ∈ x.arms, may a.label = true ∧ 0 ≤ a.next ∧ a.next < (ps.length : Int) := by
  intro x hx
  obtain ⟨i, hi, rfl⟩ := List.mem_map.1 hx
  have hlt := hn i hi
  rw [pointOf_lt hlt]
  have hb := (protB_all hp).2.2.2.2 _ (List.getElem_mem hlt)
  unfold pointB at hb
  rcases Bool.or_eq_true_iff.1 hb with h | h
  · rw [(endB_iff.1 h).2.2]
    exact ⟨by simp, fun a ha => by cases ha⟩
  · obtain ⟨h1, _, _, h4⟩ := armsB_all (Bool.and_eq_true_iff.1 h).2
    exact ⟨h4, fun a ha => by
      obtain ⟨k1, _, k3, k4⟩ := armB_all (h1 a ha)
      exact ⟨k1, k3, k4⟩⟩
theorem flat_few {f : List PointL} (h : ∀ x ∈ f, x.arms.length ≤ 6) : (f.flatMap PointL.arms).length ≤ f.length * 6 := by
  induction f with
  | nil => simp
  | cons x r ih =>
    rw [List.flatMap_cons, List.length_append, List.length_cons]
    have h1 := h x (by simp)
    have h2 := ih (fun y hy => h y (by simp [hy]))
    omega
theorem labs8_pos {f : List PointL} {x : PointL} (h : x ∈ f) (h0 : 0 < x.arms.length) : 0 < (labs8 f).length := by
  rw [labs8_len]
  obtain ⟨a, ha⟩ := List.exists_mem_of_length_pos h0
  exact List.length_pos_of_mem (List.mem_flatMap.2 ⟨x, h, ha⟩)
theorem label_short {nm : Str} {rs : List Str} {ps : List PointL} (hp : protB nm rs ps = true) {near : List Nat} (hn : ∀ x ∈ near, x < ps.length) : ∀ s ∈ labelsP (ptsOf ps near), s.length ≤ 12 := by
  intro s hs
  obtain ⟨x, hx, a, ha, rfl⟩ := mem_labs8 ((mem_labelsP _ _).1 hs)
  have := ((pts_arms hp hn x hx).2 a ha).1
  unfold may at this
  simp only [Bool.and_eq_true, decide_eq_true_eq] at this
  exact this.1.1.1.2
/-- A turn of these arms. -/
def turnEnd (kd : Int) (pr : Str) (x : Except Int (List ArmL × List (List Nat))) : Except Int (TurnL × List (List Nat)) :=
  match x with
  | .error e => .error e
  | .ok (l, ns') => .ok (⟨kd, pr, l⟩, ns')
end Go.Proofs.YtiofpeckcfdilaaGreatDoor

/- The view's turn. -/
namespace Go.Proofs.YtiofpeckcfdilaaGreatDoor
open Go.RowKit

section
variable {w wr W : World} {B0 base g mb : Nat} {k : VC} {la : Option Addr} {lc : Nat} {v0 : Value} {U0 : List Nat} {na : Option Addr} {nn nc : Nat} {rs : List Str} {ps : List PointL} {ns : List (List Nat)} {U : List Nat} {x7 : Nat} {kd : Int} {pr : ByteArray} {aa : Option Addr} {an ac b7 : Nat} {out : List ArmL} {b5 : Nat} {pv : Value} {f : List PointL} {b6 : Nat} {lv : Value} {ls : List Str}
/-- An arm more is there, and the box of the turn holds it. -/
theorem TSt.push (h : TSt w wr B0 base g mb k la lc v0 U0 na nn nc rs ps ns U x7 kd pr aa an ac b7 out b5 pv f b6 lv ls) {o : Obj} {aa' : Option Addr} {an' ac' : Nat} {out' : List ArmL} (hA : AOwn W b7 (.slice aa' an' ac') out') (hg : (wr.alloc o).grownBy W (Value.slice aa an ac).ownBlock)
    (ho : (Value.slice aa' an' ac').ownBlock = (Value.slice aa an ac).ownBlock ∨ (Value.slice aa' an' ac').ownBlock = some (wr.heap.size + 1)) :
    TSt w (W.setCell ⟨x7, 2, none⟩ (.slice aa' an' ac')) B0 base g mb k la lc v0 U0 na nn nc rs ps ns U x7 kd pr aa' an' ac' b7 out' b5 pv f b6 lv ls := by
  have hfst := h.first
  have hlow := h.view.low
  have hzw := h.aside.bel.size
  have hz := hg.size
  have hz1 : (wr.alloc o).heap.size = wr.heap.size + 1 := by simp
  have hdist := h.dist
  have hbs := (Beside.refl x7 W).setCell 2 (.slice aa' an' ac')
  have hzs : (W.setCell ⟨x7, 2, none⟩ (.slice aa' an' ac')).heap.size = W.heap.size := by simp
  have hx7 := h.box7.lt
  have hown := h.arms.lt8
  have hk1 : ∀ b, b < wr.heap.size → (Value.slice aa an ac).ownBlock ≠ some b → W.heap[b]? = wr.heap[b]? := fun b hb hne =>
    (hg.block b (by omega) (fun e => hne e.symm)).trans ((tu1 wr o).block b hb)
  have hk : ∀ b, b < wr.heap.size → b ≠ x7 → (Value.slice aa an ac).ownBlock ≠ some b → (W.setCell ⟨x7, 2, none⟩ (.slice aa' an' ac')).heap[b]? = wr.heap[b]? := fun b hb h7 hne =>
    (hbs.block b (by omega) h7).trans (hk1 b hb hne)
  have hown7 : (Value.slice aa an ac).ownBlock ≠ some x7 := fun e => by have := hown _ e; omega
  have hbel : Below B0 wr (W.setCell ⟨x7, 2, none⟩ (.slice aa' an' ac')) := by
    refine Below.trans ?_ (hbs.below (by omega) (by omega))
    exact ⟨hg.os, hg.tape, hg.output, by omega, fun b hb => hk1 b (by omega) (fun e => by have := hown _ e; omega)⟩
  have hfr := h.free
  have hne7 : ∀ b, (b < base ∨ b ∈ U ∨ (Value.slice na nn nc).ownBlock = some b) → b ≠ x7 ∧ (Value.slice aa an ac).ownBlock ≠ some b := fun b hc => by
    constructor
    · rintro rfl
      obtain ⟨h1, h2, h3, h4⟩ := hfr b (.inr (.inl rfl))
      rcases hc with hc | hc | hc
      · omega
      · exact h3 hc
      · exact h4 hc
    · intro e
      obtain ⟨h1, h2, h3, h4⟩ := hfr b (.inr (.inr (.inr (.inr e))))
      rcases hc with hc | hc | hc
      · omega
      · exact h3 hc
      · exact h4 hc
  refine ⟨h.view.stayed hbel (fun b hb hc => hk b hb (hne7 b hc).1 (hne7 b hc).2), h.first, ⟨h.aside.bel.trans hbel, fun b hb h1 h2 h3 => (hk b (by omega) (by omega) (fun e => by have := hown _ e; omega)).trans (h.aside.keep b hb h1 h2 h3), fun b hb hv => h.aside.own b hb hv⟩, h.used, fun b hb => ?_, h.box4.block (hk _ h.box4.lt (by omega) (fun e => by have := hown _ e; omega)), (h.box7.block (hk1 _ hx7 hown7)).set, hA.stay8 (fun b e => hbs.block b (by have := hA.lt8 b e; omega) (by have := hA.lt8 b e; omega)), h.pts.stay (fun b e => hk b (h.pts.lt b e).2 (by have := hdist.2.2.1 b e; omega) (fun e2 => by have := hown _ e2; have := hdist.2.2.1 b e; omega)) hbel, ownsRow_stay h.labs (fun b e => hk b (World.ownsRow.lt h.labs b e).2 (by have := hdist.2.2.2 b e; omega) (fun e2 => by have := hown _ e2; have := hdist.2.2.2 b e; omega)), h.dist⟩
  rw [hzs]
  have hold : ∀ b, (b = w.heap.size ∨ b = x7 ∨ pv.ownBlock = some b ∨ lv.ownBlock = some b ∨ (Value.slice aa an ac).ownBlock = some b) → w.heap.size ≤ b ∧ b < W.heap.size ∧ b ∉ U ∧ (Value.slice na nn nc).ownBlock ≠ some b := fun b hb => by
    obtain ⟨h1, h2, h3, h4⟩ := hfr b hb
    exact ⟨h1, by omega, h3, h4⟩
  rcases hb with hb | hb | hb | hb | hb
  · exact hold b (.inl hb)
  · exact hold b (.inr (.inl hb))
  · exact hold b (.inr (.inr (.inl hb)))
  · exact hold b (.inr (.inr (.inr (.inl hb))))
  · rcases ho with e | e
    · exact hold b (.inr (.inr (.inr (.inr (e.symm.trans hb)))))
    · have hbb : b = wr.heap.size + 1 := Option.some.inj (hb.symm.trans e)
      have hlt := hA.lt8 b hb
      refine ⟨by omega, hlt.2, fun hu => ?_, fun e2 => ?_⟩
      · have := (h.view.nears.used b hu).2.1; omega
      · have := (h.view.nears.lt b e2).2; omega
/-- The labels may be read. -/
theorem TSt.strs {xa : Option Addr} {m xc : Nat} (h : TSt w wr B0 base g mb k la lc v0 U0 na nn nc rs ps ns U x7 kd pr aa an ac b7 out b5 pv f b6 (.slice xa m xc) ls) (hl : ls.length ≤ 1000) (hsm : ∀ s ∈ ls, s.length ≤ 12) : Strs wr wr.heap.size xa m ls := by
  obtain ⟨a, c, e, hS, _, _⟩ := Strs.of_own h.labs (by omega) (fun s hs => Nat.le_trans (hsm s hs) (by simp [maxLen]))
  cases e
  exact hS
/-- The points may be read. -/
theorem TSt.ptsAt {pa : Option Addr} {pn pc : Nat} (h : TSt w wr B0 base g mb k la lc v0 U0 na nn nc rs ps ns U x7 kd pr aa an ac b7 out b5 (.slice pa pn pc) f b6 lv ls) (hl : f.length ≤ 1000000) (hn : 0 < f.length) : Pts wr wr.heap.size pa pn f := by
  obtain ⟨b, c, e, _, _, hP⟩ := h.pts.sees hl (by have := h.view.low; omega) hn
  cases e
  exact hP
theorem AOwn.form8 {base : Nat} {v : Value} {l : List ArmL} (h : AOwn w base v l) (hl : l.length ≤ 1000000) : ∃ a c, v = .slice a l.length c := by
  obtain ⟨a, c, e, _⟩ := h.sees hl
  exact ⟨a, c, e⟩
/-- What there is at the end, where the turn's first box was filled. -/
theorem TSt.close (h : TSt w wr B0 base g mb k la lc v0 U0 na nn nc rs ps ns U x7 kd pr aa an ac b7 out b5 pv f b6 lv ls) (hbs : Beside w.heap.size wr W) (hl : out.length ≤ 1000000) :
    Arms W W.heap.size aa an out ∧ VIn W B0 base g mb k la lc na nn nc rs ps ns U ∧ Aside B0 g mb v0 (.slice na nn nc) w W ∧ (∀ u ∈ U, u ∈ U0 ∨ w.heap.size ≤ u) ∧ ∀ u ∈ blk aa, w.heap.size ≤ u ∧ u < W.heap.size ∧ u ∉ U ∧ (Value.slice na nn nc).ownBlock ≠ some u := by
  have hlow := h.view.low
  have hfst := h.first
  have hzw := h.aside.bel.size
  have hz := hbs.size
  have hdist := h.dist
  have hbel := hbs.below (B := B0) (by omega) (by omega)
  have hA := h.arms.stay8 (w' := W) (fun b e => hbs.block b (h.arms.lt8 b e).2 (by have := h.arms.lt8 b e; omega))
  obtain ⟨a, c, e, hAr, _⟩ := hA.sees hl
  cases e
  refine ⟨hAr, h.view.stayed hbel (fun b hb hc => hbs.block b hb (fun e => ?_)), ⟨h.aside.bel.trans hbel, fun b hb h1 h2 h3 => (hbs.block b (by omega) (by omega)).trans (h.aside.keep b hb h1 h2 h3), fun b hb hv => h.aside.own b hb hv⟩, h.used, fun u hu => ?_⟩
  · subst e
    obtain ⟨h1, h2, h3, h4⟩ := h.free _ (.inl rfl)
    rcases hc with hc | hc | hc
    · omega
    · exact h3 hc
    · exact h4 hc
  · obtain ⟨h1, h2, h3, h4⟩ := h.free u (.inr (.inr (.inr (.inr (blk_own hu)))))
    exact ⟨h1, by omega, h3, h4⟩
end
end Go.Proofs.YtiofpeckcfdilaaGreatDoor

/- Contract of the view's turn. -/
namespace Go.Proofs.YtiofpeckcfdilaaGreatDoor
open Go.RowKit

set_option maxHeartbeats 16000000 in
set_option maxRecDepth 20000 in
theorem turn_any (B0 base g mb : Nat) (k : VC) (la na : Option Addr) (lc nn nc : Nat) (rs : List Str) (ps : List PointL) (ns : List (List Nat)) (U : List Nat) (va : Option Addr) (vn vc : Nat) (near : List Nat) (w : World) (hV : VIn w B0 base g mb k la lc na nn nc rs ps ns U) (hs : Nums w w.heap.size va vn (rowI near)) (hsn : ∀ x ∈ near, x < k.n) (hfew : near.length ≤ 40) (hne : ∀ x ∈ near, 0 < (pointOf ps x).arms.length) :
    Calls Tryz.prog 52 #[.pointer (some ⟨g, 0, none⟩), .slice va vn vc] w fun e w' => TurnRet w B0 base g mb k la lc (.slice na nn nc) rs ps U (turnP ps k.r.toList near ns) e w' := by
  have HV := Lib.hid hV
  have HLOW := Lib.hid hV.low
  have HOB := Lib.hid hV.nears.lt
  have HUS := Lib.hid hV.nears.used
  have HNL := Lib.hid (show near.length = vn by have := hs.1; rwa [rowI_len] at this)
  have hln := hV.prot.len
  have HLEN := Lib.hid hln
  have HPA := Lib.hid (pts_arms hV.prot.ok (near := near) (fun x hx => by have := hsn x hx; omega))
  have HSH := Lib.hid (label_short hV.prot.ok (near := near) (fun x hx => by have := hsn x hx; omega))
  have hfl : (ptsOf ps near).length = vn := by unfold ptsOf; rw [List.length_map]; exact HNL.out
  have HTOT := Lib.hid (show ((ptsOf ps near).flatMap PointL.arms).length ≤ 1000 by
    have h1 := flat_few (fun x hx => (HPA.out x hx).1)
    have h2 := HNL.out
    rw [hfl] at h1
    omega)
  obtain ⟨w1, hw1⟩ : ∃ w1, w1 = w.alloc (.cells #[.int .i64 0, .string ⟨#[]⟩, .slice none 0 0] 51) := ⟨_, rfl⟩
  have hz1 : w1.heap.size = w.heap.size + 1 := by rw [hw1]; simp
  have HT4 := Lib.hid (show TB8 w1 w.heap.size 0 ⟨#[]⟩ none 0 0 by rw [hw1]; exact heap_alloc_new w _)
  have HB1 := Lib.hid (show Below w.heap.size w w1 by rw [hw1]; exact tu1 w _)
  have HW := Lib.hid hw1
  obtain ⟨R, hR⟩ : ∃ R, R = turnP ps k.r.toList near ns := ⟨_, rfl⟩
  rw [← hR]
  unfold turnP at hR
  obtain ⟨t0, t1, t2⟩ := HT4.out.cells
  have f0 := HT4.out.thaw 0
  have f1 := HT4.out.thaw 1
  have f2 := HT4.out.thaw 2
  by_cases h0 : near = []
  · rw [if_pos h0] at hR
    have hv0 : vn = 0 := by rw [← HNL.out, h0]; rfl
    subst hv0
    have HZ := Lib.hid hR
    clear hR hV hs hsn hfew hne hln hfl hw1 h0
    go_enter Tryz.func52, Tryz.ntmps52
    go_upto_region 1 with fail
    rw [← HW.out]
    go_wp2_with fail
    have HB := Lib.hid (((HB1.out.setCell (p := ⟨w.heap.size, 0, none⟩) (Nat.le_refl _) (.int .i64 0)).setCell (p := ⟨w.heap.size, 1, none⟩) (Nat.le_refl _) (.string ⟨#[]⟩)).setCell (p := ⟨w.heap.size, 2, none⟩) (Nat.le_refl _) (.slice none 0 0))
    refine bodyPost_ret (v := .tuple #[.agg #[.int .i64 0, .string ⟨#[]⟩, .slice none 0 0], .int .i64 0]) (by simp [results, go_sem, t0, t1, t2]) rfl ?_
    rw [HZ.out]
    exact ⟨⟨#[]⟩, none, 0, 0, ⟨rfl, by rw [ByteArray.toList_eq], by simp [maxLen, ByteArray.size], ⟨rfl, by omega, fun h => absurd h (Nat.lt_irrefl 0)⟩⟩, na, nn, nc, U, HV.out.on HB.out, Aside.of_below (by have := HLOW.out; omega) HB.out, fun u hu => .inl hu, fun u hu => by simp [blk] at hu⟩
  rw [if_neg h0] at hR
  have hv0 : 0 < vn := by rw [← HNL.out]; exact List.length_pos_iff.2 h0
  have hv40 : vn ≤ 40 := by rw [← HNL.out]; exact hfew
  have e0 : ((vn : Int) == 0) = false := by rw [beq_eq_false_iff_ne]; omega
  have HR := Lib.hid hR
  obtain ⟨F, hF⟩ : ∃ F, F = ptsOf ps near := ⟨_, rfl⟩
  have CP := Lib.hid (points_any B0 g k la na k.n lc nn nc mb ps va vn vc near w1 (hV.box.on HB1.out) (hV.pts.below (HB1.out.mono (by have := HLOW.out; omega))) (by have := HLOW.out; omega) (hs.on HB1.out) hsn (by omega))
  rw [← hF] at CP hfl HTOT HPA HSH HR
  have hpos0 : 0 < (labs8 F).length := by
    obtain ⟨x, hx⟩ := List.exists_mem_of_length_pos (show 0 < near.length by rw [HNL.out]; exact hv0)
    exact labs8_pos (x := pointOf ps x) (by rw [hF]; exact List.mem_map.2 ⟨x, hx, rfl⟩) (hne x hx)
  have HPOS := Lib.hid hpos0
  have HFL := Lib.hid hfl
  have i0 : (0 : Int) < (vn : Int) := by omega
  clear hR hV hs hsn hfew hne hln hfl hw1 h0 hF hpos0
  go_enter Tryz.func52, Tryz.ntmps52
  go_upto_region 1 with fail
  rw [← HW.out]
  go_upto_region 4 with (first
    | (go_at_call 85; (with_reducible refine CP.out.mono ?_)
       rintro e w2 ⟨⟨pv, rfl, hE⟩, hb2⟩
       obtain ⟨pb, pc, rfl, hpb1, hpb2, hP⟩ := hE.sees (by rw [HFL.out]; omega) (by have := hb2.size; have := HLOW.out; omega) (by rw [HFL.out]; exact hv0)
       rw [HFL.out] at hE hP ⊢
       have HE2 := Lib.hid hE
       have HP2 := Lib.hid hP
       have HB2 := Lib.hid hb2
       have hz2 := hb2.size
       obtain ⟨lb, lo, q6, s6, aa6, an6, ac6, al6, hxa, hlb, hx6, ⟨z0, z1, z2⟩, hq6, hs6, hal6⟩ := hP.at_ hv0
       cases hxa
       clear hE hP hb2)
    | fail)
  go_upto_region 5 with fail
  have hp0 : pointOf F 0 = ⟨q6.toList, s6.toList, al6⟩ := by unfold pointOf; rw [hx6]; rfl
  have HK := Lib.hid (show kindP k.r.toList F = (if s6.toList == k.r.toList then 2 else 1) ∧ peerP k.r.toList F = (if s6.toList == k.r.toList then q6.toList else s6.toList) by
    unfold kindP peerP
    rw [hp0]
    exact ⟨rfl, rfl⟩)
  obtain ⟨w3, hw3⟩ : ∃ w3, w3 = w2.alloc (.cells #[.int .i64 1, .string s6, .slice none 0 0] 51) := ⟨_, rfl⟩
  have HT3 := Lib.hid (show TB8 w3 w2.heap.size 1 s6 none 0 0 by rw [hw3]; exact heap_alloc_new w2 _)
  have HB3 := Lib.hid (show Below w2.heap.size w2 w3 by rw [hw3]; exact tu1 w2 _)
  have hz3 : w3.heap.size = w2.heap.size + 1 := by rw [hw3]; simp
  rw [← hw3]
  have y0 := (HB3.out.cell (p := ⟨pb, 0, none⟩) hpb2).trans z0
  have y1 := (HB3.out.cell (p := ⟨pb, 1, none⟩) hpb2).trans z1
  obtain ⟨v0, v1, v2, v3, v4, v5, v6⟩ := ((HV.out.box.on HB1.out).on HB2.out |>.on HB3.out).cells
  obtain ⟨t0, t1, t2⟩ := HT3.out.cells
  have f0 := HT3.out.thaw 0
  have f1 := HT3.out.thaw 1
  have f2 := HT3.out.thaw 2
  have HSM := Lib.hid (And.intro hq6 hs6)
  have HAL := Lib.hid hal6
  clear hw3 z0 z1 z2 hx6 hp0 hq6 hs6 hal6
  go_quiet (fail)
  go_upto_if 34 with fail
  go_cut [] (fun wx => ∃ (kd : Int) (pr : ByteArray), Hid (TB8 wx w2.heap.size kd pr none 0 0) ∧ Hid (kd = kindP k.r.toList F ∧ pr.toList = peerP k.r.toList F ∧ pr.size ≤ maxLen) ∧ Hid (Below w2.heap.size w2 wx))
  case first =>
    cases hc : (s6.toList == k.r.toList)
    · go_wp2_with fail
      go_meet
      case rel =>
        exact ⟨1, s6, Lib.hid (HT3.out.on (bel_drewN (Below.refl _ _) _)), Lib.hid (by rw [HK.out.1, HK.out.2, hc]; exact ⟨rfl, rfl, HSM.out.2⟩), Lib.hid (bel_drewN HB3.out _)⟩
    · go_wp2_with fail
      go_meet
      case rel =>
        exact ⟨2, q6, Lib.hid (TB8.fill (HT3.out.on (bel_drewN (Below.refl _ _) _))), Lib.hid (by rw [HK.out.1, HK.out.2, hc]; exact ⟨rfl, rfl, HSM.out.1⟩), Lib.hid ((((bel_drewN HB3.out _).setCell (Nat.le_refl _) _).setCell (Nat.le_refl _) _).setCell (Nat.le_refl _) _)⟩
  case rest =>
    obtain ⟨kd, pr, HT7, HKP, HB7⟩ := hcut
    have hzc := HB7.out.size
    have hx7 := HT7.out.lt
    obtain ⟨LS, hLS⟩ : ∃ LS, LS = labelsP F := ⟨_, rfl⟩
    obtain ⟨m, hm⟩ : ∃ m, m = LS.length := ⟨_, rfl⟩
    have HP7 := Lib.hid (HP2.out.below HB7.out)
    have CLB := Lib.hid (labelsOf_any (some ⟨pb, 0, none⟩) vn pc F wc w2.heap.size hzc HP7.out HTOT.out HPOS.out)
    have hm1 : m ≤ 1000 := by
      have h1 := labelsP_few F
      have h2 := HTOT.out
      rw [hm, hLS]
      omega
    rw [← hLS, ← hm] at CLB
    rw [← hLS] at HSH HR
    have HM := Lib.hid hm
    have HLS := Lib.hid hLS
    clear hm hLS
    go_upto_region 8 with (first
      | (go_at_call 86; (with_reducible refine CLB.out.mono ?_)
         rintro e w4 ⟨⟨lv, rfl, ho⟩, hb4⟩
         obtain ⟨xa, xc, rfl, hS, _, _⟩ := Strs.of_own ho (by omega) (fun s hs => Nat.le_trans (HSH.out s hs) (by simp [maxLen]))
         have HS4 := Lib.hid hS
         have HO4 := Lib.hid ho
         have HB4 := Lib.hid hb4
         have hz4 := hb4.size
         obtain ⟨t0, t1, t2⟩ := (HT7.out.on hb4).cells
         have HOL := Lib.hid (World.ownsRow.lt ho)
         clear hS ho hb4)
      | fail)
    have CF := Lib.hid (fault_any kd pb 0 vn pc F xa m xc LS w4 w4.heap.size (Nat.le_refl _) ((HP7.out.below (HB4.out.mono hzc)).more (by omega)) hv0 HS4.out HTOT.out)
    obtain ⟨fv, hfv⟩ : ∃ fv, fv = faultP kd F LS := ⟨_, rfl⟩
    rw [← hfv] at CF
    have HFV := Lib.hid hfv
    clear hfv
    go_upto_region 9 with (first
      | (go_at_call 87; (with_reducible refine CF.out.mono ?_)
         rintro e w5 ⟨rfl, hb5⟩
         have HB5 := Lib.hid hb5
         have hz5 := hb5.size
         clear hb5)
      | fail)
    have HBW := Lib.hid (show Below w.heap.size w w5 from below_on (below_on (below_on HB1.out HB2.out |>.trans (HB7.out.mono (by omega))) HB4.out) HB5.out)
    have HT5 := Lib.hid (show TB8 w5 w.heap.size 0 ⟨#[]⟩ none 0 0 from HT4.out.block ((HB5.out.block _ (by omega)).trans ((HB4.out.block _ (by omega)).trans ((HB7.out.block _ (by omega)).trans (HB2.out.block _ (by omega))))))
    by_cases hf : fv = 0
    case neg =>
      have e9 : (fv != 0) = true := by simp [bne, beq_eq_false_iff_ne.2 hf]
      have HZ := Lib.hid (show R = .error fv by rw [HR.out, ← HKP.out.1, ← HFV.out, if_pos hf])
      obtain ⟨t0, t1, t2⟩ := HT5.out.cells
      have f0 := HT5.out.thaw 0
      have f1 := HT5.out.thaw 1
      have f2 := HT5.out.thaw 2
      clear hf
      go_wp2_with fail
      refine bodyPost_ret (v := .tuple #[.agg #[.int .i64 0, .string ⟨#[]⟩, .slice none 0 0], .int .i64 fv]) (by simp [results, go_sem, t0, t1, t2]) rfl ?_
      rw [HZ.out]
      have hl := HLOW.out
      exact ⟨⟨0, ⟨#[]⟩, none, 0, 0, rfl⟩, ((((HBW.out.setCell (p := ⟨w.heap.size, 0, none⟩) (Nat.le_refl _) _).setCell (p := ⟨w.heap.size, 1, none⟩) (Nat.le_refl _) _).setCell (p := ⟨w.heap.size, 2, none⟩) (Nat.le_refl _) _)).mono (by omega)⟩
    case pos =>
      have e9 : (fv != 0) = false := by rw [hf]; rfl
      have HRR := Lib.hid (show R = turnEnd kd pr.toList (armsP ps k.r.toList F LS [] ns) by
        rw [HR.out, ← HKP.out.1, ← HKP.out.2.1, ← HFV.out, if_neg (by simp [hf])]
        unfold turnEnd
        cases armsP ps k.r.toList F LS [] ns <;> rfl)
      clear hf
      have hlo := HLOW.out
      have hfree : ∀ b, w.heap.size ≤ b → b ∉ U ∧ (Value.slice na nn nc).ownBlock ≠ some b := fun b hb => ⟨fun e => by have := HUS.out b e; omega, fun e => by have := HOB.out b e; omega⟩
      have hx4 := HT5.out.lt
      have HTS := Lib.hid (show TSt w w5 B0 base g mb k la lc (.slice na nn nc) U na nn nc rs ps ns U w2.heap.size kd pr none 0 0 w5.heap.size [] w1.heap.size (.slice (some ⟨pb, 0, none⟩) vn pc) F wc.heap.size (.slice xa m xc) LS from by
        refine ⟨HV.out.on HBW.out, by omega, Aside.of_below (by omega) HBW.out, fun u hu => .inl hu, fun b hb => ?_, HT5.out, (HT7.out.on HB4.out).on HB5.out, ⟨[], World.ownsRow_nil _ _ _ _, rfl, fun _ h => by cases h⟩, HE2.out.stay (fun b e => ?_) ?_, ?_, by omega, by omega, fun b e => ?_, fun b e => ?_⟩
        · have hin : ∀ b, w.heap.size ≤ b → b < w5.heap.size → w.heap.size ≤ b ∧ b < w5.heap.size ∧ b ∉ U ∧ (Value.slice na nn nc).ownBlock ≠ some b := fun b h1 h2 => ⟨h1, h2, hfree b h1⟩
          rcases hb with hb | hb | hb | hb | hb
          · exact hin b (by omega) (by omega)
          · exact hin b (by omega) (by omega)
          · have hbb : pb = b := Option.some.inj hb
            exact hin b (by omega) (by omega)
          · have := HOL.out b hb
            exact hin b (by omega) (by omega)
          · cases hb
        · have hbb : pb = b := Option.some.inj e
          exact (HB5.out.block b (by omega)).trans ((HB4.out.block b (by omega)).trans (HB7.out.block b (by omega)))
        · exact (HB7.out.mono (by omega)).trans ((HB4.out.mono (by omega)).trans (HB5.out.mono (by omega)))
        · rw [← HM.out]
          exact ownsRow_stay HO4.out (fun b e => HB5.out.block b (HOL.out b e).2)
        · have hbb : pb = b := Option.some.inj e
          omega
        · have := HOL.out b e
          omega)
      clear hfree hlo
      go_wp2_with fail
      go_loopw [53] (fun i wr => ∃ (j : Nat) (na' : Option Addr) (nn' nc' : Nat) (ns' : List (List Nat)) (U' : List Nat) (aa : Option Addr) (an ac : Nat) (out : List ArmL), j ≤ m ∧ i = .int .i64 j ∧ Hid (TSt w wr B0 base g mb k la lc (.slice na nn nc) U na' nn' nc' rs ps ns' U' w2.heap.size kd pr aa an ac w5.heap.size out w1.heap.size (.slice (some ⟨pb, 0, none⟩) vn pc) F wc.heap.size (.slice xa m xc) LS) ∧ Hid (R = turnEnd kd pr.toList (armsP ps k.r.toList F (LS.drop j) out ns')) ∧ Hid (out.length = j ∧ w5.heap.size ≤ wr.heap.size)) (fun i _ => m - (intOf i).toNat)
      case atStart => exact ⟨0, na, nn, nc, ns, U, none, 0, 0, [], Nat.zero_le _, rfl, HTS, HRR, Lib.hid ⟨rfl, Nat.le_refl _⟩⟩
      case round =>
        obtain ⟨j, na', nn', nc', ns', U', aa, an, ac, out, hj, rfl, HT, HJ, HO⟩ := hrel
        by_cases hlt : j < m
        · obtain ⟨lb, lo, lab, hxa, hlb, hx, q0⟩ := (HT.out.strs (by rw [← HM.out]; exact hm1) HSH.out).part8 hlt
          subst hxa
          have hdr : LS.drop j = lab.toList :: LS.drop (j + 1) := by
            obtain ⟨h1, h2⟩ := List.getElem?_eq_some_iff.1 hx
            rw [List.drop_eq_getElem_cons h1, h2]
          have hl8 : lab.toList ∈ labs8 F := (mem_labelsP F _).1 (by rw [← HLS.out]; exact List.mem_of_getElem? hx)
          have hzl : lab.size ≤ maxLen := by
            have h1 := HSH.out _ (List.mem_of_getElem? hx)
            rw [ByteArray.toList_eq] at h1
            have h2 : lab.size ≤ 12 := by simpa using h1
            exact Nat.le_trans h2 (by simp [maxLen])
          have HZL := Lib.hid hzl
          have CA := Lib.hid (arm_any B0 base g mb k la na' lc nn' nc' rs ps ns' U' (some ⟨pb, 0, none⟩) vn pc F lab wr HT.out.view (HT.out.ptsAt (by rw [HFL.out]; omega) (by rw [HFL.out]; exact hv0)) HTOT.out (armsAt_pos hl8) (fun a ha => by
            obtain ⟨x, hx, h2⟩ := mem_armsAt ha
            have h3 := (HPA.out x hx).2 a h2
            have h4 := HLEN.out
            exact ⟨h3.2.1, by omega⟩))
          have hst := HJ.out
          rw [hdr] at hst
          have j1 : (j : Int) < (m : Int) := by omega
          have j2 : (0 : Int) ≤ (j : Int) := by omega
          clear hx hdr hl8 hzl
          cases hap : armP ps k.r.toList F lab.toList ns' with
          | error er =>
            rw [hap] at CA
            have HZ := Lib.hid (show R = .error er by rw [hst]; unfold armsP; rw [hap]; rfl)
            have her : (er != 0) = true := by rcases armP_err hap with rfl | rfl <;> rfl
            clear hst hap
            go_upto_region 15 with (first
              | (go_at_call 88; (with_reducible refine CA.out.mono ?_)
                 rintro e w6 ⟨⟨s6, u6, ck6, nx6, rfl⟩, hb6⟩
                 have HB6 := Lib.hid hb6
                 have hz6 := hb6.size
                 clear hb6)
              | fail)
            obtain ⟨wx, hwx⟩ : ∃ wx, wx = w6.alloc (.cells #[.string s6, .int .i64 ck6, .string u6, .int .i64 nx6] 67) := ⟨_, rfl⟩
            have HBX := Lib.hid (show Below wr.heap.size wr wx by rw [hwx]; exact below_on HB6.out (tu1 w6 _))
            rw [← hwx]
            have HTX := Lib.hid (HT.out.on HBX.out)
            obtain ⟨t0, t1, t2⟩ := HTX.out.box4.cells
            have f0 := HTX.out.box4.thaw 0
            have f1 := HTX.out.box4.thaw 1
            have f2 := HTX.out.box4.thaw 2
            clear hwx
            go_wp2_with fail
            refine bodyPost_ret (v := .tuple #[.agg #[.int .i64 0, .string ⟨#[]⟩, .slice none 0 0], .int .i64 er]) (by simp [results, go_sem, t0, t1, t2]) rfl ?_
            rw [HZ.out]
            have hl := HLOW.out
            have hbl := HTX.out.aside.bel
            exact ⟨⟨0, ⟨#[]⟩, none, 0, 0, rfl⟩, ((hbl.setCell (p := ⟨w.heap.size, 0, none⟩) (by show B0 ≤ w.heap.size; omega) _).setCell (p := ⟨w.heap.size, 1, none⟩) (by show B0 ≤ w.heap.size; omega) _).setCell (p := ⟨w.heap.size, 2, none⟩) (by show B0 ≤ w.heap.size; omega) _⟩
          | ok p =>
            obtain ⟨x, ns2⟩ := p
            rw [hap] at CA
            have HZ := Lib.hid (show R = turnEnd kd pr.toList (armsP ps k.r.toList F (LS.drop (j + 1)) (out ++ [x]) ns2) by rw [hst]; conv => lhs; unfold armsP; rw [hap])
            clear hst hap
            go_upto_region 15 with (first
              | (go_at_call 88; (with_reducible refine CA.out.mono ?_)
                 rintro e w6 ⟨⟨u6, hu6, hu6m, rfl⟩, hlab, na2, nn2, nc2, U2, hv6, ha6, hu26⟩
                 have HT6 := Lib.hid (HT.out.look hv6 ha6 hu26)
                 have HX6 := Lib.hid (And.intro hu6 (And.intro hu6m hlab))
                 have hz6 := ha6.bel.size
                 clear hv6 ha6 hu26 hu6 hu6m hlab)
              | fail)
            obtain ⟨wx, hwx⟩ : ∃ wx, wx = w6.alloc (.cells #[.string lab, .int .i64 x.ck, .string u6, .int .i64 x.next] 67) := ⟨_, rfl⟩
            have HBX := Lib.hid (show Below w6.heap.size w6 wx by rw [hwx]; exact tu1 w6 _)
            have HX := Lib.hid (show ABx wx w6.heap.size lab x.ck u6 x.next by rw [hwx]; exact heap_alloc_new w6 _)
            have hzx : w6.heap.size < wx.heap.size := by rw [hwx]; simp
            rw [← hwx]
            have HTX := Lib.hid (HT6.out.on HBX.out)
            obtain ⟨t0, t1, t2⟩ := HTX.out.box7.cells
            obtain ⟨x0, x1, x2, x3⟩ := HX.out.cells
            have HXX := Lib.hid (show armR ⟨lab, x.ck, u6, x.next⟩ = x by unfold armR; rw [HX6.out.1, ← HX6.out.2.2])
            clear hwx
            go_wp2_with (first
              | (at_builtin
                 refine wpList_append_arm8 rfl (.tmp 69) (.tmp 71) rfl w5.heap.size (.slice aa an ac) out ⟨lab, x.ck, u6, x.next⟩ rfl ⟨HZL.out, HX6.out.2.1⟩ rfl rfl rfl HTX.out.arms (by have := HO.out.2; omega) (by rw [HO.out.1]; omega) ?_
                 intro v7 w7 hA hgr ho
                 rw [HXX.out] at hA
                 obtain ⟨a7, c7, hv7⟩ := hA.form8 (by rw [List.length_append, HO.out.1]; simp; omega)
                 rw [List.length_append, List.length_singleton] at hv7
                 subst hv7
                 have hT7 := HTX.out.box7.block ((hgr.block _ (by have := HTX.out.box7.lt; simp; omega) (fun e => by have := HTX.out.arms.lt8 _ e.symm; have := HTX.out.dist; omega)).trans ((tu1 wx _).block _ HTX.out.box7.lt))
                 have f2 := hT7.thaw 2
                 have c2 := hT7.cells.2.2
                 have hz7 : wr.heap.size ≤ w7.heap.size := by have := hgr.size; simp at this; omega
                 clear hT7
                 have HA7 := Lib.hid hA
                 have HG7 := Lib.hid hgr
                 have HO7 := Lib.hid ho
                 clear hA hgr ho)
              | fail)
            go_roundw
            case rel => exact ⟨j + 1, na2, nn2, nc2, ns2, U2, a7, out.length + 1, c7, out ++ [x], by omega, by go_num, Lib.hid (HTX.out.push HA7.out HG7.out HO7.out), HZ, Lib.hid ⟨by rw [List.length_append, HO.out.1]; rfl, by have := HO.out.2; simp; omega⟩⟩
            case measure => simp [intOf]; omega
        · obtain rfl : j = m := by omega
          have hnil : LS.drop j = [] := List.drop_of_length_le (by rw [← HM.out]; exact Nat.le_refl _)
          have hst := HJ.out
          rw [hnil] at hst
          have HZ := Lib.hid (show R = .ok (⟨kd, pr.toList, out⟩, ns') from hst)
          have d3 : decide ((j : Int) < (j : Int)) = false := decide_eq_false (by omega)
          obtain ⟨t0, t1, t2⟩ := HT.out.box7.cells
          obtain ⟨q0, q1, q2⟩ := HT.out.box4.cells
          have f0 := HT.out.box4.thaw 0
          have f1 := HT.out.box4.thaw 1
          have f2 := HT.out.box4.thaw 2
          clear hst hnil
          go_wp2_with fail
          refine bodyPost_ret (v := .tuple #[.agg #[.int .i64 kd, .string pr, .slice aa an ac], .int .i64 0]) (by simp [results, go_sem, q0, q1, q2]) rfl ?_
          rw [HZ.out]
          have hbs := (((Beside.refl w.heap.size wr).setCell 0 (.int .i64 kd)).setCell 1 (.string pr)).setCell 2 (.slice aa an ac)
          obtain ⟨hAr, hVW, hAs, hUs, hBl⟩ := HT.out.close hbs (by rw [HO.out.1]; omega)
          exact ⟨pr, aa, an, ac, ⟨rfl, rfl, HKP.out.2.2, hAr⟩, na', nn', nc', U', hVW, hAs, hUs, hBl⟩
end Go.Proofs.YtiofpeckcfdilaaGreatDoor

/- Turns that the call makes by append: the blocks of their arms are named. -/
namespace Go.Proofs.YtiofpeckcfdilaaGreatDoor
open Go.RowKit

def TurnIn8 (w : World) (A : List Nat) (r : TR) (t : TurnL) : Prop :=
  r.k = t.kind ∧ r.s.toList = t.peer ∧ r.s.size ≤ maxLen ∧ Arms w w.heap.size r.a r.n t.arms ∧ ∀ b off, r.a = some ⟨b, off, none⟩ → b ∈ A
def TwOwn (w : World) (base : Nat) (v : Value) (f : List TurnL) (A : List Nat) : Prop :=
  ∃ rs : List TR, w.ownsRow base 51 3 v f.length (rs.flatMap encTR) ∧ rs.length = f.length ∧ (∀ (j : Nat) (r : TR) (t : TurnL), rs[j]? = some r → f[j]? = some t → TurnIn8 w A r t) ∧ ∀ u ∈ A, base ≤ u ∧ u < w.heap.size ∧ v.ownBlock ≠ some u
theorem TwOwn.zero (w : World) (base : Nat) : TwOwn w base (.slice none 0 0) [] [] := ⟨[], World.ownsRow_nil w base 51 3, rfl, fun j r l h => by simp at h, fun u h => by cases h⟩
theorem TwOwn.lt {w : World} {base : Nat} {v : Value} {f : List TurnL} {A : List Nat} (h : TwOwn w base v f A) : ∀ b, v.ownBlock = some b → base ≤ b ∧ b < w.heap.size := by
  obtain ⟨rs, h, _⟩ := h
  exact h.lt
theorem TwOwn.used {w : World} {base : Nat} {v : Value} {f : List TurnL} {A : List Nat} (h : TwOwn w base v f A) : ∀ u ∈ A, base ≤ u ∧ u < w.heap.size ∧ v.ownBlock ≠ some u := by
  obtain ⟨rs, _, _, _, h⟩ := h
  exact h
theorem TwOwn.stay {w w' : World} {base : Nat} {v : Value} {f : List TurnL} {A : List Nat} (h : TwOwn w base v f A) (hz : w.heap.size ≤ w'.heap.size) (hv : ∀ b, v.ownBlock = some b → w'.heap[b]? = w.heap[b]?) (hu : ∀ u ∈ A, w'.heap[u]? = w.heap[u]?) : TwOwn w' base v f A := by
  obtain ⟨rs, h, hrl, hrd, hus⟩ := h
  refine ⟨rs, ownsRow_stay h hv, hrl, fun j r t hr ht => ?_, fun u h1 => ⟨(hus u h1).1, by have := (hus u h1).2.1; omega, (hus u h1).2.2⟩⟩
  obtain ⟨e1, e2, e3, e4, e5⟩ := hrd j r t hr ht
  exact ⟨e1, e2, e3, e4.stay hz (fun b off e => hu b (e5 b off e)), e5⟩
theorem TwOwn.towns {w : World} {base : Nat} {v : Value} {f : List TurnL} {A : List Nat} (h : TwOwn w base v f A) : TOwn w base v f := by
  obtain ⟨rs, h, hrl, hrd, hus⟩ := h
  refine ⟨rs, h, hrl, fun j r t hr ht => ?_⟩
  obtain ⟨e1, e2, e3, e4, e5⟩ := hrd j r t hr ht
  exact ⟨e1, e2, e3, e4, fun b off e => hus b (e5 b off e)⟩
theorem TwOwn.add {W : World} {base : Nat} {v : Value} {f : List TurnL} {A : List Nat} {r : TR} {t : TurnL} (hB : TwOwn W base v f A) (hA : TurnIn8 W (blk r.a) r t) (hAb : ∀ u ∈ blk r.a, base ≤ u ∧ u < W.heap.size ∧ v.ownBlock ≠ some u) (hb : base ≤ W.heap.size) (hlen : f.length ≤ 1000000) (ty : Nat) :
    ∃ v' w', (Builtin.append_ #[22, 22] ty #[v, .slice (some ⟨W.heap.size, 0, none⟩) 1 1]).run Tryz.prog (W.alloc (.cells #[.int .i64 r.k, .string r.s, .slice r.a r.n r.c] 51)) = .ok v' w' ∧ TwOwn w' base v' (f ++ [t]) (A ++ blk r.a) ∧ (W.alloc (.cells #[.int .i64 r.k, .string r.s, .slice r.a r.n r.c] 51)).grownBy w' v.ownBlock ∧ (v'.ownBlock = v.ownBlock ∨ v'.ownBlock = some (W.heap.size + 1)) := by
  obtain ⟨i0, hi0, hzz⟩ := Option.map_eq_some_iff.1 info_turn
  simp only [Prod.mk.injEq] at hzz
  obtain ⟨hz, hs1, hb1⟩ := hzz
  obtain ⟨rs, hown, hrl, hrd, hus⟩ := hB
  have hown1 : (W.alloc (.cells #[.int .i64 r.k, .string r.s, .slice r.a r.n r.c] 51)).ownsRow base 51 3 v f.length (rs.flatMap encTR) := World.ownsRow.alloc hown _
  obtain ⟨v', w', hrun, hown', hgr, _, hat⟩ := run_append_own_at (P := Tryz.prog) (W.alloc (.cells #[.int .i64 r.k, .string r.s, .slice r.a r.n r.c] 51)) base 22 ty 51 i0 _ 3 48 Tryz.underlying22 hi0 hz hs1 hb1 rfl (by omega) v f.length (rs.flatMap encTR) hown1
    ⟨W.heap.size, 0, none⟩ 1 1 (encTR r) rfl
    (fun j u hu => by
      rw [Go.WideShapes.add_plain, cell_of_row _ _ _ _ _ _ (heap_alloc_new W _), Nat.zero_add, ← hu]
      rw [← Array.getElem?_toList]
      rfl)
    (fun u hu => by
      unfold encTR at hu
      simp only [List.mem_cons, List.not_mem_nil, or_false] at hu
      rcases hu with rfl | rfl | rfl <;> rfl) (by unfold maxLen; omega) (by omega) (by simp; omega)
  have hsz : W.heap.size + 1 ≤ w'.heap.size := by
    have := hgr.size
    simpa using this
  have hblk : ∀ b, b < W.heap.size → v.ownBlock ≠ some b → w'.heap[b]? = W.heap[b]? := fun b hbl hne => (hgr.block b (by simp; omega) (fun e => hne e.symm)).trans ((tu1 W _).block b hbl)
  have hnew : ∀ b, b < W.heap.size → v.ownBlock ≠ some b → v'.ownBlock ≠ some b := fun b hbl hne => by
    rcases hat with e | e
    · rw [e]; exact hne
    · rw [e]
      intro e2
      have := Option.some.inj e2
      simp at this
      omega
  obtain ⟨r0, hr0⟩ : ∃ r0, r0 = r := ⟨_, rfl⟩
  have hmove : ∀ (B : List Nat) (r : TR) (t : TurnL), (∀ u ∈ B, u < W.heap.size ∧ v.ownBlock ≠ some u) → (∀ u ∈ B, u ∈ A ++ blk r0.a) → TurnIn8 W B r t → TurnIn8 w' (A ++ blk r0.a) r t := fun B r t hB2 hB3 ⟨e1, e2, e3, e4, e5⟩ =>
    ⟨e1, e2, e3, e4.stay (by omega) (fun b off e => hblk b (hB2 b (e5 b off e)).1 (hB2 b (e5 b off e)).2), fun b off e => hB3 b (e5 b off e)⟩
  rw [hr0] at hmove
  refine ⟨v', w', hrun, ⟨rs ++ [r], ?_, by simp [hrl], fun j r2 k hj hk => ?_, fun u h1 => ?_⟩, hgr, by simpa using hat⟩
  · rw [List.length_append, List.flatMap_append, List.flatMap_cons, List.flatMap_nil, List.append_nil]
    exact hown'
  · rcases Nat.lt_or_ge j rs.length with hlt | hge
    · rw [List.getElem?_append_left hlt] at hj
      rw [List.getElem?_append_left (by omega)] at hk
      exact hmove A _ _ (fun u hu => (hus u hu).2) (fun u hu => List.mem_append_left _ hu) (hrd j r2 k hj hk)
    · rw [List.getElem?_append_right hge] at hj
      rw [List.getElem?_append_right (by omega), ← hrl] at hk
      have h0 : j - rs.length = 0 := by
        obtain ⟨h1, _⟩ := List.getElem?_eq_some_iff.1 hj
        simpa using h1
      rw [h0] at hj hk
      obtain rfl : r = r2 := by simpa using hj
      obtain rfl : t = k := by simpa using hk
      exact hmove (blk r.a) _ _ (fun u hu => (hAb u hu).2) (fun u hu => List.mem_append_right _ hu) hA
  · rcases List.mem_append.1 h1 with h | h
    · exact ⟨(hus u h).1, by have := (hus u h).2.1; omega, hnew u (hus u h).2.1 (hus u h).2.2⟩
    · exact ⟨(hAb u h).1, by have := (hAb u h).2.1; omega, hnew u (hAb u h).2.1 (hAb u h).2.2⟩
theorem wpList_append_turn8 {ops : Array Oper} {rest : List Oper} {o : Oper} {a : Act} {Q : Exit → Act → World → Prop} {W : World} {cells : Array Value} (hgd : o.guard = none) (s x : Operand)
    (ho : o.op = .call { callee := .builtin .append, args := #[s, x], argTypes := #[22, 22] }) (base : Nat) (v : Value) (f : List TurnL) (A : List Nat) (r : TR) (t : TurnL) (hc : cells = #[.int .i64 r.k, .string r.s, .slice r.a r.n r.c])
    (hs : a.eval s = v) {g : Nat} (hx : a.eval x = .slice (some ⟨g, 0, none⟩) 1 1) (hg : g = W.heap.size) (hB : TwOwn W base v f A) (hA : TurnIn8 W (blk r.a) r t) (hAb : ∀ u ∈ blk r.a, base ≤ u ∧ u < W.heap.size ∧ v.ownBlock ≠ some u) (hb : base ≤ W.heap.size) (hlen : f.length ≤ 1000000)
    (h : ∀ v' w', TwOwn w' base v' (f ++ [t]) (A ++ blk r.a) → (W.alloc (.cells #[.int .i64 r.k, .string r.s, .slice r.a r.n r.c] 51)).grownBy w' v.ownBlock → (v'.ownBlock = v.ownBlock ∨ v'.ownBlock = some (W.heap.size + 1)) → wpList Tryz.prog ops Q rest (a.put o.dst v') w') : wpList Tryz.prog ops Q (o :: rest) a (W.alloc (.cells cells 51)) := by
  subst hc hg
  obtain ⟨v', w', hrun, hown, hgr, hat⟩ := hB.add hA hAb hb hlen o.type
  exact wpList_append_lx hgd s x _ ho _ _ _ hs hx hrun (h v' w' hown hgr hat)
end Go.Proofs.YtiofpeckcfdilaaGreatDoor

/- What stands between two turns of a projection. -/
namespace Go.Proofs.YtiofpeckcfdilaaGreatDoor
open Go.RowKit

/-- The box of a local type. -/
def LB8 (W : World) (g : Nat) (s : ByteArray) (a : Option Addr) (n c : Nat) : Prop := W.heap[g]? = some (.cells #[.string s, .slice a n c] 24 (0, 0))
section
variable {W W' : World} {g : Nat} {s : ByteArray} {a : Option Addr} {n c : Nat}
theorem LB8.lt (h : LB8 W g s a n c) : g < W.heap.size := (Array.getElem?_eq_some_iff.1 h).1
theorem LB8.on (h : LB8 W g s a n c) (hb : Below W.heap.size W W') : LB8 W' g s a n c := (hb.block g h.lt).trans h
theorem LB8.block (h : LB8 W g s a n c) (hb : W'.heap[g]? = W.heap[g]?) : LB8 W' g s a n c := hb.trans h
theorem LB8.cells (h : LB8 W g s a n c) : W.cell? ⟨g, 0, none⟩ = some (.string s) ∧ W.cell? ⟨g, 1, none⟩ = some (.slice a n c) := by
  unfold LB8 at h
  refine ⟨?_, ?_⟩
  all_goals (rw [cell_of_row _ _ _ _ _ _ h]; rfl)
theorem LB8.thaw (h : LB8 W g s a n c) (o : Nat) : W.frozen? ⟨g, o, none⟩ = false := by
  unfold LB8 at h
  unfold World.frozen?
  rw [h]
  simp
theorem LB8.set {a' : Option Addr} {n' c' : Nat} (h : LB8 W g s a n c) : LB8 (W.setCell ⟨g, 1, none⟩ (.slice a' n' c')) g s a' n' c' := by
  unfold LB8 at h ⊢
  obtain ⟨hlt, hk⟩ := Array.getElem?_eq_some_iff.1 h
  show (W.heap.modify g _)[g]? = _
  rw [Array.getElem?_eq_getElem (by rw [Array.size_modify]; exact hlt), Array.getElem_modify_self, hk]
  rfl
end
structure RSt (w wr : World) (B0 base g mb : Nat) (k : VC) (la : Option Addr) (lc : Nat) (na : Option Addr) (nn nc : Nat) (rs : List Str) (ps : List PointL) (ns : List (List Nat)) (U : List Nat) (x9 : Nat) (nm9 : ByteArray) (ta : Option Addr) (tn tc b9 : Nat) (ts : List TurnL) (A : List Nat) : Prop where
  view : VIn wr B0 base g mb k la lc na nn nc rs ps ns U
  bel : Below B0 w wr
  box9 : LB8 wr x9 nm9 ta tn tc
  own : TwOwn wr b9 (.slice ta tn tc) ts A
  free : ∀ b, (b = x9 ∨ (Value.slice ta tn tc).ownBlock = some b ∨ b ∈ A) → base ≤ b ∧ b < wr.heap.size ∧ b ∉ U ∧ (Value.slice na nn nc).ownBlock ≠ some b
  dist : x9 < b9 ∧ b9 ≤ wr.heap.size
section
variable {w wr W : World} {B0 base g mb : Nat} {k : VC} {la : Option Addr} {lc : Nat} {na : Option Addr} {nn nc : Nat} {rs : List Str} {ps : List PointL} {ns : List (List Nat)} {U : List Nat} {x9 : Nat} {nm9 : ByteArray} {ta : Option Addr} {tn tc b9 : Nat} {ts : List TurnL} {A : List Nat}
theorem RSt.on (h : RSt w wr B0 base g mb k la lc na nn nc rs ps ns U x9 nm9 ta tn tc b9 ts A) (hb : Below wr.heap.size wr W) : RSt w W B0 base g mb k la lc na nn nc rs ps ns U x9 nm9 ta tn tc b9 ts A := by
  have hz := hb.size
  have hlow := h.view.low
  have hd := h.dist
  refine ⟨h.view.on hb, h.bel.trans (hb.mono (by omega)), h.box9.on hb, h.own.stay hz (fun b e => hb.block b (h.own.lt b e).2) (fun u hu => hb.block u (h.own.used u hu).2.1), fun b hb2 => ?_, by omega⟩
  obtain ⟨h1, h2, h3, h4⟩ := h.free b hb2
  exact ⟨h1, by omega, h3, h4⟩
/-- Behind a turn. -/
theorem RSt.turn (h : RSt w wr B0 base g mb k la lc na nn nc rs ps ns U x9 nm9 ta tn tc b9 ts A) {na' : Option Addr} {nn' nc' : Nat} {ns' : List (List Nat)} {U' : List Nat} (hv : VIn W B0 base g mb k la lc na' nn' nc' rs ps ns' U') (ha : Aside B0 g mb (.slice na nn nc) (.slice na' nn' nc') wr W) (hu : ∀ u ∈ U', u ∈ U ∨ wr.heap.size ≤ u) :
    RSt w W B0 base g mb k la lc na' nn' nc' rs ps ns' U' x9 nm9 ta tn tc b9 ts A := by
  have hz := ha.bel.size
  have hlow := h.view.low
  have hd := h.dist
  have hk : ∀ b, (b = x9 ∨ (Value.slice ta tn tc).ownBlock = some b ∨ b ∈ A) → W.heap[b]? = wr.heap[b]? := fun b hb => by
    obtain ⟨h1, h2, h3, h4⟩ := h.free b hb
    exact ha.keep b h2 (by omega) (by omega) h4
  refine ⟨hv, h.bel.trans ha.bel, h.box9.block (hk _ (.inl rfl)), h.own.stay hz (fun b e => hk b (.inr (.inl e))) (fun u hu => hk u (.inr (.inr hu))), fun b hb => ?_, by omega⟩
  obtain ⟨h1, h2, h3, h4⟩ := h.free b hb
  refine ⟨h1, by omega, fun h5 => ?_, ha.own b h2 h4⟩
  rcases hu b h5 with h6 | h6
  · exact h3 h6
  · omega
/-- A turn more is there, and the box of the local type holds it. -/
theorem RSt.push (h : RSt w wr B0 base g mb k la lc na nn nc rs ps ns U x9 nm9 ta tn tc b9 ts A) {o : Obj} {ta' : Option Addr} {tn' tc' : Nat} {ts' : List TurnL} {A2 : List Nat} (hA : TwOwn W b9 (.slice ta' tn' tc') ts' (A ++ A2)) (hg : (wr.alloc o).grownBy W (Value.slice ta tn tc).ownBlock)
    (ho : (Value.slice ta' tn' tc').ownBlock = (Value.slice ta tn tc).ownBlock ∨ (Value.slice ta' tn' tc').ownBlock = some (wr.heap.size + 1)) (hA2 : ∀ u ∈ A2, base ≤ u ∧ u < wr.heap.size ∧ u ∉ U ∧ (Value.slice na nn nc).ownBlock ≠ some u) :
    RSt w (W.setCell ⟨x9, 1, none⟩ (.slice ta' tn' tc')) B0 base g mb k la lc na nn nc rs ps ns U x9 nm9 ta' tn' tc' b9 ts' (A ++ A2) := by
  have hlow := h.view.low
  have hz := hg.size
  have hz1 : (wr.alloc o).heap.size = wr.heap.size + 1 := by simp
  have hdist := h.dist
  have hbs := (Beside.refl x9 W).setCell 1 (.slice ta' tn' tc')
  have hzs : (W.setCell ⟨x9, 1, none⟩ (.slice ta' tn' tc')).heap.size = W.heap.size := by simp
  have hx9 := h.box9.lt
  have hown := h.own.lt
  have hk1 : ∀ b, b < wr.heap.size → (Value.slice ta tn tc).ownBlock ≠ some b → W.heap[b]? = wr.heap[b]? := fun b hb hne =>
    (hg.block b (by omega) (fun e => hne e.symm)).trans ((tu1 wr o).block b hb)
  have hk : ∀ b, b < wr.heap.size → b ≠ x9 → (Value.slice ta tn tc).ownBlock ≠ some b → (W.setCell ⟨x9, 1, none⟩ (.slice ta' tn' tc')).heap[b]? = wr.heap[b]? := fun b hb h7 hne =>
    (hbs.block b (by omega) h7).trans (hk1 b hb hne)
  have hfr := h.free
  have hbase := (hfr x9 (.inl rfl)).1
  have hown9 : (Value.slice ta tn tc).ownBlock ≠ some x9 := fun e => by have := hown _ e; omega
  have hbel : Below B0 wr (W.setCell ⟨x9, 1, none⟩ (.slice ta' tn' tc')) := by
    refine Below.trans ?_ (hbs.below (by omega) (by omega))
    exact ⟨hg.os, hg.tape, hg.output, by omega, fun b hb => hk1 b (by omega) (fun e => by have := hown _ e; omega)⟩
  have hne9 : ∀ b, (b < base ∨ b ∈ U ∨ (Value.slice na nn nc).ownBlock = some b) → b ≠ x9 ∧ (Value.slice ta tn tc).ownBlock ≠ some b := fun b hc => by
    constructor
    · rintro rfl
      obtain ⟨h1, h2, h3, h4⟩ := hfr b (.inl rfl)
      rcases hc with hc | hc | hc
      · omega
      · exact h3 hc
      · exact h4 hc
    · intro e
      obtain ⟨h1, h2, h3, h4⟩ := hfr b (.inr (.inl e))
      rcases hc with hc | hc | hc
      · omega
      · exact h3 hc
      · exact h4 hc
  refine ⟨h.view.stayed hbel (fun b hb hc => hk b hb (hne9 b hc).1 (hne9 b hc).2), h.bel.trans hbel, (h.box9.block (hk1 _ hx9 hown9)).set, hA.stay (by omega) (fun b e => hbs.block b (hA.lt b e).2 (by have := hA.lt b e; omega)) (fun u hu => hbs.block u (hA.used u hu).2.1 (by have := hA.used u hu; omega)), fun b hb => ?_, by omega⟩
  rw [hzs]
  have hold : ∀ b, (b = x9 ∨ (Value.slice ta tn tc).ownBlock = some b ∨ b ∈ A) → base ≤ b ∧ b < W.heap.size ∧ b ∉ U ∧ (Value.slice na nn nc).ownBlock ≠ some b := fun b hb => by
    obtain ⟨h1, h2, h3, h4⟩ := hfr b hb
    exact ⟨h1, by omega, h3, h4⟩
  rcases hb with hb | hb | hb
  · exact hold b (.inl hb)
  · rcases ho with e | e
    · exact hold b (.inr (.inl (e.symm.trans hb)))
    · have hbb : b = wr.heap.size + 1 := Option.some.inj (hb.symm.trans e)
      have hlt := hA.lt b hb
      refine ⟨by omega, hlt.2, fun hu => ?_, fun e2 => ?_⟩
      · have := (h.view.nears.used b hu).2.1; omega
      · have := (h.view.nears.lt b e2).2; omega
  · rcases List.mem_append.1 hb with hb | hb
    · exact hold b (.inr (.inr hb))
    · obtain ⟨h1, h2, h3, h4⟩ := hA2 b hb
      exact ⟨h1, by omega, h3, h4⟩
end
end Go.Proofs.YtiofpeckcfdilaaGreatDoor

/- Plain: the near sets that a projection meets. No program stands in this text. -/
namespace Go.Proofs.YtiofpeckcfdilaaGreatDoor
open Go.RowKit

theorem near_arms {nm : Str} {rs : List Str} {ps : List PointL} {r : Str} (hp : protB nm rs ps = true) (hr : hasS rs r = true) {s : List Nat} {x : Nat} (hx : x ∈ nearP ps r s) : 0 < (pointOf ps x).arms.length := by
  have hlt := near_lt hx
  have hin := near_in_it hx
  have hb := (protB_all hp).2.2.2.2 _ (List.getElem_mem hlt)
  rw [pointOf_lt hlt] at hin ⊢
  have hro := (protB_all hp).2.1
  have hne : r ≠ [] := by
    unfold rolesB at hro
    have h1 := List.all_eq_true.1 (Bool.and_eq_true_iff.1 hro).2 r ((hasS_iff _ _).1 hr)
    intro e
    rw [e] at h1
    unfold may at h1
    simp at h1
  unfold pointB at hb
  rcases Bool.or_eq_true_iff.1 hb with h | h
  · obtain ⟨h1, h2, _⟩ := endB_iff.1 h
    unfold inP at hin
    rw [h1, h2] at hin
    simp only [Bool.or_self] at hin
    exact absurd (beq_iff_eq.1 hin).symm hne
  · exact (armsB_all (Bool.and_eq_true_iff.1 h).2).2.2.1
def NearOk (ps : List PointL) (ns : List (List Nat)) : Prop := ∀ l ∈ ns, l.length ≤ 40 ∧ ∀ x ∈ l, 0 < (pointOf ps x).arms.length
theorem near_few8 (ps : List PointL) (r : Str) (s : List Nat) : (nearP ps r s).length ≤ ps.length := by
  unfold nearP spanP
  have h1 := List.length_filter_le (fun p => inP (pointOf ps p) r) ((List.range ps.length).filter fun p => decide (p ∈ metL (outsP ps r) ps.length s))
  have h2 := List.length_filter_le (fun p => decide (p ∈ metL (outsP ps r) ps.length s)) (List.range ps.length)
  rw [List.length_range] at h2
  omega
section
variable {nm : Str} {rs : List Str} {ps : List PointL} {r : Str} (hp : protB nm rs ps = true) (hr : hasS rs r = true)
include hp hr
theorem lookP_near {ns : List (List Nat)} {s : List Nat} {j : Nat} {ns' : List (List Nat)} (h : lookP ps r ns s = .ok (j, ns')) (hn : NearOk ps ns) : NearOk ps ns' := by
  unfold lookP at h
  split at h
  · cases h
  · split at h
    · cases h; exact hn
    · split at h
      · cases h
      · cases h
        intro l hl
        rcases List.mem_append.1 hl with h1 | h1
        · exact hn l h1
        · rw [List.mem_singleton.1 h1]
          have h2 := near_few8 ps r s
          have h3 := (protB_all hp).2.2.2.1
          exact ⟨by omega, fun x hx => near_arms hp hr hx⟩
theorem armP_near {f : List PointL} {s : Str} {ns : List (List Nat)} {a : ArmL} {ns' : List (List Nat)} (h : armP ps r f s ns = .ok (a, ns')) (hn : NearOk ps ns) : NearOk ps ns' := by
  unfold armP at h
  split at h
  · cases h
  · rename_i hk
    cases h
    exact lookP_near hp hr hk hn
theorem armsP_near {f : List PointL} : ∀ (ls : List Str) (out : List ArmL) (ns : List (List Nat)) (l : List ArmL) (ns' : List (List Nat)), armsP ps r f ls out ns = .ok (l, ns') → NearOk ps ns → NearOk ps ns'
  | [], out, ns, l, ns', h, hn => by
    unfold armsP at h
    cases h
    exact hn
  | s :: ls, out, ns, l, ns', h, hn => by
    unfold armsP at h
    split at h
    · cases h
    · rename_i hk
      exact armsP_near ls _ _ l ns' h (armP_near hp hr hk hn)
theorem turnP_near {near : List Nat} {ns : List (List Nat)} {t : TurnL} {ns' : List (List Nat)} (h : turnP ps r near ns = .ok (t, ns')) (hn : NearOk ps ns) : NearOk ps ns' := by
  unfold turnP at h
  split at h
  · cases h; exact hn
  · split at h
    · cases h
    · split at h
      · cases h
      · rename_i hk
        cases h
        exact armsP_near hp hr _ _ _ _ _ hk hn
omit hp hr in
theorem armsP_err {f : List PointL} : ∀ (ls : List Str) (out : List ArmL) (ns : List (List Nat)) (e : Int), armsP ps r f ls out ns = .error e → e = 801 ∨ e = 805
  | [], out, ns, e, h => by unfold armsP at h; cases h
  | s :: ls, out, ns, e, h => by
    unfold armsP at h
    split at h
    · rename_i hk
      cases h
      exact armP_err hk
    · exact armsP_err ls _ _ e h
omit hp hr in
theorem turnP_err {near : List Nat} {ns : List (List Nat)} {e : Int} (h : turnP ps r near ns = .error e) : e ≠ 0 := by
  unfold turnP at h
  split at h
  · cases h
  · split at h
    · rename_i hk
      cases h
      exact hk
    · split at h
      · rename_i hk
        cases h
        rcases armsP_err _ _ _ _ hk with rfl | rfl <;> decide
      · cases h
end
end Go.Proofs.YtiofpeckcfdilaaGreatDoor

/- Contract of the program's viewOf. -/
namespace Go.Proofs.YtiofpeckcfdilaaGreatDoor
open Go.RowKit

theorem step_append_bool8 {ops : Array Oper} {o : Oper} {a : Act} {K : Act → World → Prop} {Q : Exit → Act → World → Prop} {E : Prop} {w1 : World} (W : World) (hgd : o.guard = none) (s x : Operand)
    (ho : o.op = .call { callee := .builtin .append, args := #[s, x], argTypes := #[92, 92] }) (base : Nat) (v : Value) (l : List Bool) (n : Bool)
    (hw1 : w1 = W.alloc (.cells #[.bool n] 4))
    (hs : a.eval s = v) (hx : a.eval x = .slice (some ⟨W.heap.size, 0, none⟩) 1 1) (h : BOwn W base v l) (hb : base ≤ W.heap.size) (hlen : l.length ≤ 1000000)
    (hk : ∀ v' w', BOwn w' base v' (l ++ [n]) → (W.alloc (.cells #[.bool n] 4)).grownBy w' v.ownBlock → K (a.put o.dst v') w') : if Region.wanted o (yielded ops a.tmps) = true then Oper.wp Tryz.prog o a w1 K Q else E := by
  have hwant : Region.wanted o (yielded ops a.tmps) = true := by simp [Region.wanted, hgd]
  rw [if_pos hwant]
  subst hw1
  obtain ⟨v', w', hrun, hown, hgr, _⟩ := h.add hb n hlen o.type
  unfold Oper.wp execOp
  simp only [ho, resolve, invoke, builtin, Sem.run_bind, Sem.run_pure, Result.andThen_ok, List.map_toArray, List.map_cons, List.map_nil, hs, hx, hrun]
  exact hk v' w' hown hgr
theorem BOwn.form8 {w : World} {base : Nat} {v : Value} {l : List Bool} (h : BOwn w base v l) : ∃ a c, v = .slice a l.length c := by
  rcases h.2 with ⟨h0, h1⟩ | ⟨g, cap, cur, rfl, hbase, hh, h1, h2, h3, h4⟩
  · exact ⟨none, 0, by rw [h1, h0]⟩
  · exact ⟨_, cap, rfl⟩
/-- Marks that the call made stay where their own block stays. -/
theorem BOwn.stay8 {w w' : World} {base : Nat} {v : Value} {l : List Bool} (h : BOwn w base v l) (hb : ∀ b, v.ownBlock = some b → w'.heap[b]? = w.heap[b]?) : BOwn w' base v l := ownsRow_stay h hb
def marksP (ps : List PointL) (r : Str) (j : Nat) : List Bool := (List.range j).map (lostP ps r)
theorem marksP_succ (ps : List PointL) (r : Str) (j : Nat) : marksP ps r (j + 1) = marksP ps r j ++ [lostP ps r j] := by
  unfold marksP
  rw [List.range_succ, List.map_append]
  rfl
theorem marksP_len (ps : List PointL) (r : Str) (j : Nat) : (marksP ps r j).length = j := by
  unfold marksP
  rw [List.length_map, List.length_range]
set_option maxHeartbeats 16000000 in
set_option maxRecDepth 20000 in
theorem viewOf_any (nm : ByteArray) (ra : Option Addr) (rn rc : Nat) (rs : List Str) (a : Option Addr) (n c : Nat) (ps : List PointL) (r : ByteArray) (w : World) (hP : PIn w nm ra rn rs a n ps) (hok : protB nm.toList rs ps = true) (hhas : hasS rs r.toList = true) :
    Calls Tryz.prog 50 #[.agg #[.string nm, .slice ra rn rc, .slice a n c], .string r] w fun e w' => (∃ (g mb : Nat) (la : Option Addr) (lc : Nat), e = .returned (.pointer (some ⟨g, 0, none⟩)) ∧ VIn w' w.heap.size w'.heap.size g mb ⟨nm, ra, rn, rc, a, n, c, r⟩ la lc none 0 0 rs ps [] []) ∧ Below w.heap.size w w' := by
  have hln : ps.length = n := hP.pts.1
  have hfew := (protB_all hok).2.2.2.1
  have hone := (protB_all hok).2.2.1
  have HIN := Lib.hid hP
  have HOK := Lib.hid (And.intro hok hhas)
  have hmm := @run_makeMap Tryz.prog
  have hn24 : n ≤ 24 := by omega
  obtain ⟨w1, hw1⟩ : ∃ w1, w1 = w.alloc (.cells #[.string nm, .slice ra rn rc, .slice a n c] 37) := ⟨_, rfl⟩
  have HP1 := Lib.hid (show PBox w1 w.heap.size nm ra rn rc a n c by rw [hw1]; exact PBox.new w nm ra rn rc a n c)
  have HB1 := Lib.hid (show Below w.heap.size w w1 by rw [hw1]; exact tu1 w _)
  have hz1 : w1.heap.size = w.heap.size + 1 := by rw [hw1]; simp
  have HW1 := Lib.hid hw1
  obtain ⟨c0, c1, c2⟩ := HP1.out.cells
  clear hP hok hhas hln hfew hw1
  go_enter Tryz.func50, Tryz.ntmps50
  go_upto_region 1 with fail
  rw [← HW1.out]
  go_upto_region 2 with fail
  obtain ⟨w3, hw3⟩ : ∃ w3, w3 = (w1.alloc (.map #[] 0)).alloc (.cells #[.string nm, .slice ra rn rc, .slice a n c, .string r, .slice none 0 0, .slice none 0 0, .map (some (w.heap.size + 1))] 96) := ⟨_, rfl⟩
  have hz2 : (w1.alloc (.map #[] 0)).heap.size = w.heap.size + 1 + 1 := by simp [hz1]
  have hB13 : Below w1.heap.size w1 w3 := by rw [hw3]; exact below_on (tu1 w1 _) (tu1 _ _)
  have HV3 := Lib.hid (show VBox w3 (w.heap.size + 1 + 1) ⟨nm, ra, rn, rc, a, n, c, r⟩ none 0 0 none 0 0 (w.heap.size + 1) by
    have h1 := VBox.new (w1.alloc (.map #[] 0)) ⟨nm, ra, rn, rc, a, n, c, r⟩ none 0 0 none 0 0 (w.heap.size + 1)
    rw [hz2] at h1
    rw [hw3]
    exact h1)
  have HM3 := Lib.hid (show KMap w3 (w.heap.size + 1) [] by
    have h1 := KMap.made w1
    rw [hz1] at h1
    rw [hw3]
    exact h1.block ((tu1 (w1.alloc (.map #[] 0)) _).block _ (by omega)))
  have HP3 := Lib.hid (HP1.out.on hB13)
  have HB3 := Lib.hid (below_on HB1.out hB13)
  have hz3 : w3.heap.size = w.heap.size + 3 := by rw [hw3]; simp [hz1]
  rw [← hw3]
  obtain ⟨c0, c1, c2⟩ := HP3.out.cells
  clear hw3 hz2 hB13 hz1
  go_wp2_with fail
  go_loopw [15] (fun i wr => ∃ (j : Nat) (la : Option Addr) (lc : Nat), j ≤ n ∧ i = .int .i64 j ∧ Hid (VBox wr (w.heap.size + 1 + 1) ⟨nm, ra, rn, rc, a, n, c, r⟩ la j lc none 0 0 (w.heap.size + 1)) ∧ Hid (BOwn wr (w.heap.size + 3) (.slice la j lc) (marksP ps r.toList j)) ∧ Hid (Below (w.heap.size + 2) w3 wr)) (fun i _ => n - (intOf i).toNat)
  case atStart => exact ⟨0, none, 0, Nat.zero_le _, rfl, HV3, Lib.hid (BOwn.zero _ _), Lib.hid (Below.refl _ _)⟩
  case round =>
    obtain ⟨j, la, lc, hj, rfl, HV, HO, HBr⟩ := hrel
    have hzr := HBr.out.size
    have HPr := Lib.hid (show PBox wr w.heap.size nm ra rn rc a n c from (HBr.out.block _ (by omega)).trans HP3.out)
    by_cases hlt : j < n
    · have j1 : (j : Int) < (n : Int) := by omega
      have j2 : (0 : Int) ≤ (j : Int) := by omega
      have HQ := Lib.hid (fun (W : World) (hPB : PBox W w.heap.size nm ra rn rc a n c) (hVB : VBox W (w.heap.size + 1 + 1) ⟨nm, ra, rn, rc, a, n, c, r⟩ la j lc none 0 0 (w.heap.size + 1)) => show W.cell? ⟨w.heap.size, 0, none⟩ = some (.string nm) ∧ W.cell? ⟨w.heap.size, 1, none⟩ = some (.slice ra rn rc) ∧ W.cell? ⟨w.heap.size, 2, none⟩ = some (.slice a n c) ∧ W.cell? ⟨w.heap.size + 1 + 1, 4, none⟩ = some (.slice la j lc) from ⟨hPB.cells.1, hPB.cells.2.1, hPB.cells.2.2, hVB.cells.2.2.2.2.1⟩)
      have HPd := Lib.hid (show PBox wr.drew w.heap.size nm ra rn rc a n c from HPr.out)
      have HVd := Lib.hid (show VBox wr.drew (w.heap.size + 1 + 1) ⟨nm, ra, rn, rc, a, n, c, r⟩ la j lc none 0 0 (w.heap.size + 1) from HV.out)
      have HOd := Lib.hid (show BOwn wr.drew (w.heap.size + 3) (.slice la j lc) (marksP ps r.toList j) from HO.out.drew)
      have HBd := Lib.hid (show Below (w.heap.size + 2) w3 wr.drew from bel_drewN HBr.out 1)
      have HINd := Lib.hid (show PIn wr.drew nm ra rn rs a n ps from (HIN.out.on (HB3.out.trans (HBd.out.mono (by omega)))))
      have CL := Lib.hid (HINd.out.lost (rc := rc) (c := c) r (j : Int))
      have HLQ := Lib.hid (show lostQ nm.toList rs ps r.toList (j : Int) = lostP ps r.toList j by
        unfold lostQ lostP
        rw [HOK.out.1, HOK.out.2, HIN.out.pts.1, decide_eq_true j2, decide_eq_true j1]
        rfl)
      rw [HLQ.out] at CL
      have hzd : wr.drew.heap.size = wr.heap.size := rfl
      go_wp2
      refine wp_region_last2 (S := fun W => W.cell? ⟨w.heap.size, 0, none⟩ = some (.string nm) ∧ W.cell? ⟨w.heap.size, 1, none⟩ = some (.slice ra rn rc) ∧ W.cell? ⟨w.heap.size, 2, none⟩ = some (.slice a n c) ∧ W.cell? ⟨w.heap.size + 1 + 1, 4, none⟩ = some (.slice la j lc)) rfl (by kernel_rfl) (by kernel_rfl) (HQ.out _ HPd.out HVd.out) (fun hHeld => ?_)
      simp only [List.pop_toArray, List.dropLast_cons_cons, List.dropLast_singleton]
      try simp only [Act.put, List.setIfInBounds_toArray]
      refine' wpAnyH_take (i := 0) (v := _) rfl (by kernel_rfl) (by kernel_rfl) (by kernel_rfl) (fun _ _ _ h => h) (Or.inl ⟨by rfl, ?hy0⟩) (by assumption) ?rest0
      case hy0 =>
        intro W hSw
        (try dsimp only at hSw)
        first | (go_simp; done) | (go_simp; with_reducible rfl)
      try simp only [Act.put]
      refine' wpAnyH_take (i := 1) (v := _) rfl (by kernel_rfl) (by kernel_rfl) (by kernel_rfl) (fun _ _ _ h => h) (Or.inl ⟨by rfl, ?hy1⟩) (by assumption) ?rest1
      case hy1 =>
        intro W hSw
        (try dsimp only at hSw)
        first | (go_simp; done) | (go_simp; with_reducible rfl)
      try simp only [Act.put]
      refine' wpAnyH_take (i := 2) (v := _) rfl (by kernel_rfl) (by kernel_rfl) (by kernel_rfl) (fun _ _ _ h => h) (Or.inl ⟨by rfl, ?hy2⟩) (by assumption) ?rest2
      case hy2 =>
        intro W hSw
        (try dsimp only at hSw)
        first | (go_simp; done) | (go_simp; with_reducible rfl)
      try simp only [Act.put]
      refine' wpAnyH_take (i := 3) (v := _) rfl (by kernel_rfl) (by kernel_rfl) (by kernel_rfl) (fun _ _ _ h => h) (Or.inl ⟨by rfl, ?hy3⟩) (by assumption) ?rest3
      case hy3 =>
        intro W hSw
        (try dsimp only at hSw)
        first | (go_simp; done) | (go_simp; with_reducible rfl)
      try simp only [Act.put]
      refine' wpAnyH_take (i := 4) (v := _) rfl (by kernel_rfl) (by kernel_rfl) (by kernel_rfl) (fun _ _ _ h => h) (Or.inl ⟨by rfl, ?hy4⟩) (by assumption) ?rest4
      case hy4 =>
        intro W hSw
        (try dsimp only at hSw)
        first | (go_simp; done) | (go_simp; with_reducible rfl)
      try simp only [Act.put]
      refine' wpAnyH_take (i := 5) (v := _) rfl (by kernel_rfl) (by kernel_rfl) (by kernel_rfl) (fun _ _ _ h => h) (Or.inl ⟨by rfl, ?hy5⟩) (by assumption) ?rest5
      case hy5 =>
        intro W hSw
        (try dsimp only at hSw)
        first | (go_simp; done) | (go_simp; with_reducible rfl)
      try simp only [Act.put]
      refine' wpAnyH_take (i := 6) (v := _) rfl (by kernel_rfl) (by kernel_rfl) (by kernel_rfl) (fun _ _ _ h => h) (Or.inl ⟨by rfl, ?hy6⟩) (by assumption) ?rest6
      case hy6 =>
        intro W hSw
        (try dsimp only at hSw)
        first | (go_simp; done) | (go_simp; with_reducible rfl)
      try simp only [Act.put]
      refine' wpAnyH_take (i := 7) (v := _) rfl (by kernel_rfl) (by kernel_rfl) (by kernel_rfl) (fun _ _ _ h => h) (Or.inl ⟨by rfl, ?hy7⟩) (by assumption) ?rest7
      case hy7 =>
        intro W hSw
        (try dsimp only at hSw)
        first | (go_simp; done) | (go_simp; with_reducible rfl)
      try simp only [Act.put, List.setIfInBounds_toArray]
      refine wpAnyH_ready (rs := [8]) (by kernel_rfl) (by simp) ?_
      refine AllReadyH.cons (i := 8) (o := _) rfl (fun K hK => ?_) AllReadyH.nil
      go_simp
      go_at_call 81
      with_reducible refine CL.out.mono ?_
      rintro e w4 ⟨rfl, hb4⟩
      have hz4 : wr.heap.size ≤ w4.heap.size := hb4.size
      have HP4 := Lib.hid (show PBox w4 w.heap.size nm ra rn rc a n c from HPd.out.on hb4)
      have HV4 := Lib.hid (HVd.out.on hb4)
      have HO4 := Lib.hid (HOd.out.stay8 (fun b e => hb4.block b (World.ownsRow.lt HOd.out b e).2))
      have HB4 := Lib.hid (HBd.out.trans (hb4.mono (by have := hzd; omega)))
      clear hb4
      refine hK.out _ _ (HQ.out _ HP4.out HV4.out) (fun hHeld => ?_)
      clear hK K
      try simp only [Act.put, List.setIfInBounds_toArray]
      refine wpAnyH_ready (rs := [9]) (by kernel_rfl) (by simp) ?_
      refine AllReadyH.cons (i := 9) (o := _) rfl (fun K hK => ?_) AllReadyH.nil
      go_simp
      refine hK.out _ _ (HQ.out _ (HP4.out.on (tu1 _ _)) (HV4.out.on (tu1 _ _))) (fun hHeld => ?_)
      clear hK K
      try simp only [Act.put, List.setIfInBounds_toArray]
      refine wpAnyH_ready (rs := [10]) (by kernel_rfl) (by simp) ?_
      refine AllReadyH.cons (i := 10) (o := _) rfl (fun K hK => ?_) AllReadyH.nil
      refine step_append_bool8 w4 (by rfl) (.tmp 22) (.tmp 27) (by rfl) (w.heap.size + 3) (.slice la j lc) (marksP ps r.toList j) (lostP ps r.toList j) (by rfl) (by rfl) (by rfl) HO4.out (by omega) (by rw [marksP_len]; omega) ?_
      intro v5 w5 hown hgr
      obtain ⟨la5, lc5, hv5⟩ := hown.form8
      rw [List.length_append, List.length_singleton, marksP_len] at hv5
      subst hv5
      have hown7 : ∀ b, (Value.slice la j lc).ownBlock = some b → w.heap.size + 3 ≤ b := fun b e => (World.ownsRow.lt HO4.out b e).1
      have hk5 : ∀ b, b < w.heap.size + 3 → w5.heap[b]? = w4.heap[b]? := fun b hb => (hgr.block b (by simp; omega) (fun e => by have := hown7 b e.symm; omega)).trans ((tu1 w4 _).block b (by omega))
      have hz5 : w4.heap.size ≤ w5.heap.size := by have := hgr.size; simp at this; omega
      have HP5 := Lib.hid (show PBox w5 w.heap.size nm ra rn rc a n c from (hk5 _ (by omega)).trans HP4.out)
      have HV5 := Lib.hid (HV4.out.block (hk5 _ (by omega)))
      have HB5 := Lib.hid (HB4.out.trans ⟨hgr.os, hgr.tape, hgr.output, hz5, fun b hb => hk5 b (by omega)⟩)
      have HO5 := Lib.hid hown
      have uf4 := HV5.out.thaw 4
      clear hown hgr hown7 hk5
      refine hK.out _ _ (HQ.out _ HP5.out HV5.out) (fun hHeld => ?_)
      clear hK K
      try simp only [Act.put, List.setIfInBounds_toArray]
      refine' wpAnyH_take (i := 11) (v := _) rfl (by kernel_rfl) (by kernel_rfl) (by kernel_rfl) (fun _ _ _ h => h) (Or.inl ⟨by rfl, ?hy11⟩) (by assumption) ?rest11
      case hy11 =>
        intro W hSw
        (try dsimp only at hSw)
        first | (go_simp; done) | (go_simp; with_reducible rfl)
      try simp only [Act.put]
      refine' wpAnyH_take (i := 12) (v := _) rfl (by kernel_rfl) (by kernel_rfl) (by kernel_rfl) (fun _ _ _ h => h) (Or.inl ⟨by rfl, ?hy12⟩) (by assumption) ?rest12
      case hy12 =>
        intro W hSw
        (try dsimp only at hSw)
        first | (go_simp; done) | (go_simp; with_reducible rfl)
      try simp only [Act.put]
      refine wpAnyH_done (by kernel_rfl) ?_ _
      unfold LastPost
      obtain ⟨_, _, _, _, _, _, _⟩ := HV5.out.cells
      go_simp
      go_wp2_with fail
      go_roundw
      case rel =>
        have hbs := (Beside.refl (w.heap.size + 1 + 1) w5).setCell 4 (.slice la5 (j + 1) lc5)
        exact ⟨j + 1, la5, lc5, by omega, by go_num, Lib.hid HV5.out.setLost, Lib.hid (by rw [marksP_succ]; exact HO5.out.stay8 (fun b e => hbs.block b (World.ownsRow.lt HO5.out b e).2 (by have := (World.ownsRow.lt HO5.out b e).1; omega))), Lib.hid (HB5.out.trans (hbs.below (by omega) (by omega)))⟩
      case measure => simp [intOf]; omega
    · obtain rfl : j = n := by omega
      have d3 : decide ((j : Int) < (j : Int)) = false := decide_eq_false (by omega)
      go_wp2_with fail
      go_ret
      have hn0 : 0 < j := by have := HIN.out.pts.1; omega
      have hmk : ∀ i, i < j → (marksP ps r.toList j)[i]? = some (lostP ps r.toList i) := fun i hi => by
        unfold marksP
        rw [List.getElem?_map, List.getElem?_range hi]
        rfl
      have hBw : Below w.heap.size w wr := HB3.out.trans (HBr.out.mono (by omega))
      obtain ⟨lb, cap, e, h1, h2, _⟩ := HO.out.cell (hmk 0 hn0)
      have hla := (Value.slice.inj e).1
      refine ⟨⟨w.heap.size + 1 + 1, w.heap.size + 1, la, lc, rfl, HV.out, HIN.out.pts.below hBw, HIN.out.roles.below hBw, HIN.out.name, HOK.out.1, HOK.out.2, ⟨lb, hla, by omega, h2, by omega, by omega, fun i hi => ?_⟩, NOwn.zero _ _, HM3.out.block (HBr.out.block _ (by omega)), ⟨by omega, by omega, by omega, by omega, by omega, Nat.le_refl _⟩, by simp, by simp⟩, hBw⟩
      obtain ⟨lb2, cap2, e2, _, _, hc⟩ := HO.out.cell (hmk i hi)
      have h3 := hla.symm.trans (Value.slice.inj e2).1
      obtain rfl : lb = lb2 := by simpa using h3
      exact hc
end Go.Proofs.YtiofpeckcfdilaaGreatDoor

/- Contract of the program's Role. -/
namespace Go.Proofs.YtiofpeckcfdilaaGreatDoor
open Go.RowKit

theorem contains8_any (a : Option Addr) (n c : Nat) (ss : List Str) (x : ByteArray) (w : World) (bound : Nat) (h : Strs w bound a n ss) :
    Calls Tryz.prog 49 #[.slice a n c, .string x] w fun e w' => e = .returned (.bool (hasS ss x.toList)) ∧ Below w.heap.size w w' := by
  rcases Nat.eq_zero_or_pos n with h0 | h0
  · have hs : ss = [] := List.eq_nil_of_length_eq_zero (by rw [h.1, h0])
    subst h0 hs
    exact (Tryz.slices_Contains_string_empty a c x w).mono fun e w' k => (⟨k.1, by rw [k.2]; exact Below.refl _ _⟩ : _ ∧ _)
  · obtain ⟨b, off, rfl, _, hc⟩ := h.cells h0
    have hl : (ss.map baS).take n = ss.map baS := List.take_of_length_le (by simp [h.1])
    have HC := Tryz.slices_Contains_string b off n c (ss.map baS) x w (by simp [h.1]) (by have := h.2.1; omega) hc
    rw [hl, contains_eq] at HC
    exact HC.mono fun e w' k => (⟨k.1, by rw [k.2]; exact Below.refl _ _⟩ : _ ∧ _)
/-- What Role answers. -/
def RoleRet (w : World) (nm : ByteArray) (r : ByteArray) (x : Except Int (List TurnL)) (e : Ending) (w' : World) : Prop :=
  (match x with
  | .error er => e = .returned (.tuple #[.agg #[.string ⟨#[]⟩, .slice none 0 0], .int .i64 er])
  | .ok ts => ∃ (s : ByteArray) (a : Option Addr) (n c : Nat), e = .returned (.tuple #[.agg #[.string s, .slice a n c], .int .i64 0]) ∧ s.toList = nm.toList ++ 46 :: r.toList ∧ s.size ≤ maxLen ∧ ∃ base, w.heap.size ≤ base ∧ TOwn w' base (.slice a n c) ts) ∧ Below w.heap.size w w'
set_option maxHeartbeats 16000000 in
set_option maxRecDepth 20000 in
theorem role_any (nm : ByteArray) (ra : Option Addr) (rn rc : Nat) (rs : List Str) (a : Option Addr) (n c : Nat) (ps : List PointL) (r : ByteArray) (w : World) (hP : PIn w nm ra rn rs a n ps) :
    Calls Tryz.prog 20 #[.agg #[.string nm, .slice ra rn rc, .slice a n c], .string r] w fun e w' => RoleRet w nm r (roleQ nm.toList rs ps r.toList) e w' := by
  have HIN := Lib.hid hP
  obtain ⟨w1, hw1⟩ : ∃ w1, w1 = (w.alloc (.cells #[.string nm, .slice ra rn rc, .slice a n c] 37)).alloc (.cells #[.string ⟨#[]⟩, .slice none 0 0] 24) := ⟨_, rfl⟩
  have HP1 := Lib.hid (show PBox w1 w.heap.size nm ra rn rc a n c by rw [hw1]; exact (PBox.new w nm ra rn rc a n c).on (tu1 _ _))
  have HL1 := Lib.hid (show LB8 w1 (w.heap.size + 1) ⟨#[]⟩ none 0 0 by
    rw [hw1]
    have h1 := heap_alloc_new (w.alloc (.cells #[.string nm, .slice ra rn rc, .slice a n c] 37)) (.cells #[.string ⟨#[]⟩, .slice none 0 0] 24)
    rw [show (w.alloc (.cells #[.string nm, .slice ra rn rc, .slice a n c] 37)).heap.size = w.heap.size + 1 from by simp] at h1
    exact h1)
  have HB1 := Lib.hid (show Below w.heap.size w w1 by rw [hw1]; exact below_on (tu1 w _) (tu1 _ _))
  have hz1 : w.heap.size + 2 ≤ w1.heap.size := by rw [hw1]; simp
  have HW1 := Lib.hid hw1
  obtain ⟨c0, c1, c2⟩ := HP1.out.cells
  have CM := Lib.hid ((hP.on HB1.out).may (rc := rc) (c := c))
  obtain ⟨R, hR⟩ : ∃ R, R = roleQ nm.toList rs ps r.toList := ⟨_, rfl⟩
  rw [← hR]
  unfold roleQ at hR
  have HR := Lib.hid hR
  clear hP hw1 hR
  obtain ⟨d0, d1⟩ := HL1.out.cells
  have f0 := HL1.out.thaw 0
  have f1 := HL1.out.thaw 1
  cases hv : protB nm.toList rs ps
  · have HZ := Lib.hid (show R = .error 800 by rw [HR.out, hv]; rfl)
    rw [hv] at CM
    clear hv
    go_enter Tryz.func20, Tryz.ntmps20
    go_upto_region 1 with fail
    rw [← HW1.out]
    go_wp2_with (first
      | (go_at_call 19; (with_reducible refine CM.out.mono ?_)
         rintro e w2 ⟨rfl, hb2⟩
         have HB2 := Lib.hid hb2
         obtain ⟨d0, d1⟩ := (HL1.out.on hb2).cells
         have f0 := (HL1.out.on hb2).thaw 0
         have f1 := (HL1.out.on hb2).thaw 1
         clear hb2)
      | fail)
    refine bodyPost_ret (v := .tuple #[.agg #[.string ⟨#[]⟩, .slice none 0 0], .int .i64 800]) (by simp [results, go_sem, d0, d1]) rfl ?_
    rw [HZ.out]
    exact ⟨rfl, ((below_on HB1.out HB2.out).setCell (p := ⟨w.heap.size + 1, 0, none⟩) (Nat.le_succ _) _).setCell (p := ⟨w.heap.size + 1, 1, none⟩) (Nat.le_succ _) _⟩
  rw [hv] at CM
  have HVV := Lib.hid hv
  have CC := Lib.hid (fun (W : World) (hW : Below w1.heap.size w1 W) => contains8_any ra rn rc rs r W W.heap.size ((HIN.out.on HB1.out).on hW).roles)
  cases hh : hasS rs r.toList
  · have HZ := Lib.hid (show R = .error 800 by rw [HR.out, hv, hh]; rfl)
    rw [hh] at CC
    clear hv hh
    go_enter Tryz.func20, Tryz.ntmps20
    go_upto_region 1 with fail
    rw [← HW1.out]
    go_wp2_with (first
      | (go_at_call 19; (with_reducible refine CM.out.mono ?_)
         rintro e w2 ⟨rfl, hb2⟩
         have HB2 := Lib.hid hb2
         obtain ⟨c0, c1, c2⟩ := (HP1.out.on hb2).cells
         clear hb2)
      | (go_at_call 49; (with_reducible refine (CC.out _ HB2.out).mono ?_)
         rintro e w3 ⟨rfl, hb3⟩
         have HB3 := Lib.hid (below_on HB2.out hb3)
         obtain ⟨d0, d1⟩ := (HL1.out.on HB3.out).cells
         have f0 := (HL1.out.on HB3.out).thaw 0
         have f1 := (HL1.out.on HB3.out).thaw 1
         clear hb3)
      | fail)
    refine bodyPost_ret (v := .tuple #[.agg #[.string ⟨#[]⟩, .slice none 0 0], .int .i64 800]) (by simp [results, go_sem, d0, d1]) rfl ?_
    rw [HZ.out]
    exact ⟨rfl, ((below_on HB1.out HB3.out).setCell (p := ⟨w.heap.size + 1, 0, none⟩) (Nat.le_succ _) _).setCell (p := ⟨w.heap.size + 1, 1, none⟩) (Nat.le_succ _) _⟩
  rw [hh] at CC
  have HHH := Lib.hid hh
  have HRR := Lib.hid (show R = roleP ps r.toList by rw [HR.out, hv, hh]; rfl)
  clear hv hh HR
  go_enter Tryz.func20, Tryz.ntmps20
  go_upto_region 1 with fail
  rw [← HW1.out]
  go_upto_region 3 with (first
    | (go_at_call 19; (with_reducible refine CM.out.mono ?_)
       rintro e w2 ⟨rfl, hb2⟩
       have HB2 := Lib.hid hb2
       obtain ⟨c0, c1, c2⟩ := (HP1.out.on hb2).cells
       clear hb2)
    | (go_at_call 49; (with_reducible refine (CC.out _ HB2.out).mono ?_)
       rintro e w3 ⟨rfl, hb3⟩
       have HB3 := Lib.hid (below_on HB2.out hb3)
       clear hb3)
    | fail)
  have HBW3 := Lib.hid (below_on HB1.out HB3.out)
  have CV := Lib.hid (viewOf_any nm ra rn rc rs a n c ps r w3 (HIN.out.on HBW3.out) HVV.out HHH.out)
  obtain ⟨c0, c1, c2⟩ := (HP1.out.on HB3.out).cells
  have hz3 := HB3.out.size
  go_upto_region 4 with (first
    | (go_at_call 50; (with_reducible refine CV.out.mono ?_)
       rintro e w4 ⟨⟨g, mb, la, lc, rfl, hV⟩, hb4⟩
       have HV4 := Lib.hid hV
       have HB4 := Lib.hid hb4
       have hz4 := hb4.size
       clear hV hb4)
    | fail)
  obtain ⟨w5, hw5⟩ : ∃ w5, w5 = w4.alloc (.cells #[.int .i64 0] 3) := ⟨_, rfl⟩
  have HB5 := Lib.hid (show Below w4.heap.size w4 w5 by rw [hw5]; exact tu1 w4 _)
  have hN5 : Nums w5 w5.heap.size (some ⟨w4.heap.size, 0, none⟩) 1 (rowI [0]) := ⟨rfl, by omega, fun _ => ⟨w4.heap.size, 0, rfl, by rw [hw5]; simp, fun j x hx => by
    have hj : j = 0 := by
      rcases Nat.eq_zero_or_pos j with h | h
      · exact h
      · rw [List.getElem?_eq_none (by simp [rowI]; omega)] at hx; cases hx
    subst hj
    obtain rfl : (0 : Int) = x := by simpa [rowI] using hx
    rw [hw5, cell_of_row _ _ _ _ _ _ (heap_alloc_new w4 _)]
    rfl⟩⟩
  have hz5 := HB5.out.size
  have hpn : 1 ≤ n := by
    have h1 := (protB_all HVV.out).2.2.1
    have h2 := HIN.out.pts.1
    omega
  have CL := Lib.hid (look_any w3.heap.size w4.heap.size g mb ⟨nm, ra, rn, rc, a, n, c, r⟩ la none lc 0 0 rs ps [] [] (some ⟨w4.heap.size, 0, none⟩) 1 1 [0] w5 (HV4.out.on HB5.out) hN5 (fun x hx => by
    rw [List.mem_singleton.1 hx]
    exact hpn))
  have hrole : roleP ps r.toList = match lookP ps r.toList [] [0] with
    | .error e => .error e
    | .ok (_, ns) => turnsP ps r.toList 41 0 [] ns := rfl
  have hst := HRR.out
  rw [hrole] at hst
  have HW5 := Lib.hid hw5
  have HBW5 := Lib.hid (below_on (below_on HBW3.out HB4.out) HB5.out)
  have HL5 := Lib.hid (((HL1.out.on HB3.out).on HB4.out).on HB5.out)
  have HP5 := Lib.hid (((HP1.out.on HB3.out).on HB4.out).on HB5.out)
  clear hw5 hN5 hrole
  cases hlk : lookP ps r.toList [] [0] with
  | error er =>
    rw [hlk] at CL hst
    have HZ := Lib.hid hst
    have her : (er != 0) = true := by rcases lookP_err hlk with rfl | rfl <;> rfl
    clear hst hlk
    go_wp2_with (first
      | (go_at_call 51
         rw [← HW5.out]
         with_reducible refine CL.out.mono ?_
         rintro e w6 ⟨rfl, hb6⟩
         have HB6 := Lib.hid hb6
         obtain ⟨d0, d1⟩ := (HL5.out.on hb6).cells
         have f0 := (HL5.out.on hb6).thaw 0
         have f1 := (HL5.out.on hb6).thaw 1
         clear hb6)
      | fail)
    refine bodyPost_ret (v := .tuple #[.agg #[.string ⟨#[]⟩, .slice none 0 0], .int .i64 er]) (by simp [results, go_sem, d0, d1]) rfl ?_
    rw [HZ.out]
    exact ⟨rfl, ((below_on HBW5.out HB6.out).setCell (p := ⟨w.heap.size + 1, 0, none⟩) (Nat.le_succ _) _).setCell (p := ⟨w.heap.size + 1, 1, none⟩) (Nat.le_succ _) _⟩
  | ok p =>
    obtain ⟨j0, ns0⟩ := p
    rw [hlk] at CL hst
    have HZ := Lib.hid (show R = turnsP ps r.toList 41 0 [] ns0 from hst)
    have HNO := Lib.hid (lookP_near HVV.out HHH.out hlk (fun l hl => by cases hl))
    clear hst hlk
    go_upto_region 7 with (first
      | (go_at_call 51
         rw [← HW5.out]
         with_reducible refine CL.out.mono ?_
         rintro e w6 ⟨rfl, na6, nn6, nc6, U6, hv6, ha6, hu6⟩
         have HV6 := Lib.hid hv6
         have HB6 := Lib.hid ha6.bel
         have hz6 := ha6.bel.size
         obtain ⟨c0, c1, c2⟩ := (show PBox w6 w.heap.size nm ra rn rc a n c from (ha6.bel.block _ (by omega)).trans HP5.out).cells
         have HL6 := Lib.hid (HL5.out.block (ha6.bel.block _ (by omega)))
         clear hv6 ha6 hu6)
      | fail)
    have hn12 : nm.size ≤ 12 := by
      have h1 := (protB_all HVV.out).1
      unfold may at h1
      simp only [Bool.and_eq_true, decide_eq_true_eq] at h1
      have h2 := h1.1.1.1.2
      rw [ByteArray.toList_eq] at h2
      simpa using h2
    have hr12 : r.size ≤ 12 := by
      have h1 := (protB_all HVV.out).2.1
      unfold rolesB at h1
      have h3 := List.all_eq_true.1 (Bool.and_eq_true_iff.1 h1).2 r.toList ((hasS_iff _ _).1 HHH.out)
      unfold may at h3
      simp only [Bool.and_eq_true, decide_eq_true_eq] at h3
      have h2 := h3.1.1.1.2
      rw [ByteArray.toList_eq] at h2
      simpa using h2
    have hs1 : ¬ (9223372036854775807 < nm.size + 1) := by omega
    have hs2 : ¬ (9223372036854775807 < nm.size + 1 + r.size) := by omega
    go_upto_region 8 with fail
    obtain ⟨w7, hw7⟩ : ∃ w7, w7 = w6.alloc (.cells #[.string (nm ++ ⟨#[46]⟩ ++ r), .slice none 0 0] 24) := ⟨_, rfl⟩
    have hB7 : Below w6.heap.size w6 w7 := by rw [hw7]; exact tu1 w6 _
    have hz7 : w6.heap.size < w7.heap.size := by rw [hw7]; simp
    have hb67 : w3.heap.size ≤ w6.heap.size := by omega
    have HRS := Lib.hid (show RSt w3 w7 w3.heap.size w4.heap.size g mb ⟨nm, ra, rn, rc, a, n, c, r⟩ la lc na6 nn6 nc6 rs ps ns0 U6 w6.heap.size (nm ++ ⟨#[46]⟩ ++ r) none 0 0 w7.heap.size [] [] from by
      refine ⟨HV6.out.on hB7, ((HB4.out.trans (HB5.out.mono hz4)).trans HB6.out).trans (hB7.mono hb67), by rw [hw7]; exact heap_alloc_new w6 _, TwOwn.zero _ _, fun b hb => ?_, by omega⟩
      rcases hb with hb | hb | hb
      · subst hb
        exact ⟨by omega, hz7, fun hu => by have := HV6.out.nears.used _ hu; omega, fun e => by have := HV6.out.nears.lt _ e; omega⟩
      · cases hb
      · cases hb)
    have HL3 := Lib.hid (HL1.out.on HB3.out)
    have hx43 := HL3.out.lt
    rw [← hw7]
    clear hw7 hB7
    go_wp2_with fail
    go_loopw [10] (fun i wr => ∃ (j : Nat) (na : Option Addr) (nn nc : Nat) (ns : List (List Nat)) (U : List Nat) (ta : Option Addr) (tn tc : Nat) (ts : List TurnL) (A : List Nat), i = .int .i64 j ∧ j ≤ 40 ∧ Hid (RSt w3 wr w3.heap.size w4.heap.size g mb ⟨nm, ra, rn, rc, a, n, c, r⟩ la lc na nn nc rs ps ns U w6.heap.size (nm ++ ⟨#[46]⟩ ++ r) ta tn tc w7.heap.size ts A) ∧ Hid (R = turnsP ps r.toList (41 - j) j ts ns) ∧ Hid (ts.length = j ∧ True) ∧ Hid (NearOk ps ns)) (fun i _ => 41 - (intOf i).toNat)
    case atStart => exact ⟨0, na6, nn6, nc6, ns0, U6, none, 0, 0, [], [], rfl, by omega, HRS, HZ, Lib.hid ⟨rfl, trivial⟩, HNO⟩
    case round =>
      obtain ⟨j, na, nn, nc, ns, U, ta, tn, tc, ts, A, rfl, hj, HRT, HJ, HT, HNK⟩ := hrel
      obtain ⟨fu, hfu⟩ : ∃ fu, 41 - j = fu + 1 := ⟨40 - j, by omega⟩
      have hst := HJ.out
      rw [hfu] at hst
      obtain ⟨v0, v1, v2, v3, v4, v5, v6⟩ := HRT.out.view.box.cells
      have hnl := HRT.out.view.len
      have hfw := HRT.out.view.few
      by_cases hlt : j < nn
      · have j1 : (j : Int) < (nn : Int) := by omega
        have j2 : (0 : Int) ≤ (j : Int) := by omega
        obtain ⟨nb, cap, xa, xn, xc, near, hsl, hb1, hb2, hnear, hcell, hnum⟩ := HRT.out.view.nears.at_ (j := j) (by omega)
        obtain ⟨hna, _, _⟩ := Value.slice.inj hsl
        subst hna
        have hmem := List.mem_of_getElem? hnear
        have CT := Lib.hid (turn_any w3.heap.size w4.heap.size g mb ⟨nm, ra, rn, rc, a, n, c, r⟩ la (some ⟨nb, 0, none⟩) lc nn nc rs ps ns U xa xn xc near wr HRT.out.view hnum (HRT.out.view.small near hmem) (HNK.out near hmem).1 (HNK.out near hmem).2)
        have hst2 : R = match turnP ps r.toList near ns with
          | .error e => .error e
          | .ok (t, ns') => turnsP ps r.toList fu (j + 1) (ts ++ [t]) ns' := by
          rw [hst]
          conv => lhs; unfold turnsP
          rw [hnear]
          dsimp only
          cases turnP ps r.toList near ns <;> rfl
        clear hst hsl hnum hmem hnear
        cases htp : turnP ps r.toList near ns with
        | error er =>
          rw [htp] at CT hst2
          have HZ2 := Lib.hid hst2
          have her : (er != 0) = true := by simp [bne, beq_eq_false_iff_ne.2 (turnP_err htp)]
          clear hst2 htp hnl hfw
          go_upto_region 12 with (first
            | (go_at_call 52; (with_reducible refine CT.out.mono ?_)
               rintro e w8 ⟨⟨kd, s8, a8, n8, c8, rfl⟩, hb8⟩
               have HB8 := Lib.hid hb8
               clear hb8)
            | fail)
          obtain ⟨wx, hwx⟩ : ∃ wx, wx = w8.alloc (.cells #[.int .i64 kd, .string s8, .slice a8 n8 c8] 51) := ⟨_, rfl⟩
          have hzw := HRT.out.bel.size
          have hbx : Below w3.heap.size w3 wx := (HRT.out.bel.trans HB8.out).trans (by rw [hwx]; exact (tu1 w8 _).mono (by have := HB8.out.size; omega))
          have HBX := Lib.hid hbx
          rw [← hwx]
          have hLX : LB8 wx (w.heap.size + 1) ⟨#[]⟩ none 0 0 := HL3.out.block (hbx.block _ hx43)
          obtain ⟨d0, d1⟩ := hLX.cells
          have f0 := hLX.thaw 0
          have f1 := hLX.thaw 1
          clear hwx hbx hLX
          go_wp2_with fail
          refine bodyPost_ret (v := .tuple #[.agg #[.string ⟨#[]⟩, .slice none 0 0], .int .i64 er]) (by simp [results, go_sem, d0, d1]) rfl ?_
          rw [HZ2.out]
          exact ⟨rfl, ((HBW3.out.trans (HBX.out.mono (by omega))).setCell (p := ⟨w.heap.size + 1, 0, none⟩) (Nat.le_succ _) _).setCell (p := ⟨w.heap.size + 1, 1, none⟩) (Nat.le_succ _) _⟩
        | ok p =>
          obtain ⟨t, ns'⟩ := p
          rw [htp] at CT hst2
          have HZ2 := Lib.hid hst2
          have HNK2 := Lib.hid (turnP_near HVV.out HHH.out htp HNK.out)
          clear hst2 htp hnl hfw
          go_upto_region 12 with (first
            | (go_at_call 52; (with_reducible refine CT.out.mono ?_)
               rintro e w8 ⟨s8, a8, n8, c8, ⟨rfl, hs8, hs8m, hA8⟩, na8, nn8, nc8, U8, hv8, ha8, hu8, hbl8⟩
               have HR8 := Lib.hid (HRT.out.turn hv8 ha8 hu8)
               have HA8 := Lib.hid hA8
               have HS8 := Lib.hid (And.intro hs8 hs8m)
               have HBL := Lib.hid hbl8
               have hz8 := ha8.bel.size
               clear hv8 ha8 hu8 hA8 hs8 hs8m hbl8)
            | fail)
          obtain ⟨wx, hwx⟩ : ∃ wx, wx = w8.alloc (.cells #[.int .i64 t.kind, .string s8, .slice a8 n8 c8] 51) := ⟨_, rfl⟩
          have HBX := Lib.hid (show Below w8.heap.size w8 wx by rw [hwx]; exact tu1 w8 _)
          have HX := Lib.hid (show TB8 wx w8.heap.size t.kind s8 a8 n8 c8 by rw [hwx]; exact heap_alloc_new w8 _)
          have hzx : w8.heap.size < wx.heap.size := by rw [hwx]; simp
          rw [← hwx]
          have HRX := Lib.hid (HR8.out.on HBX.out)
          have HTI := Lib.hid (show TurnIn8 wx (blk a8) ⟨t.kind, s8, a8, n8, c8⟩ t from ⟨rfl, HS8.out.1, HS8.out.2, HA8.out.stay HBX.out.size (fun b off e => HBX.out.block b (HBL.out b (blk_some e)).2.1), fun b off e => blk_some e⟩)
          have HTB := Lib.hid (show ∀ u ∈ blk a8, w7.heap.size ≤ u ∧ u < wx.heap.size ∧ (Value.slice ta tn tc).ownBlock ≠ some u from fun u hu => by
            have h1 := HBL.out u hu
            have h2 := HRT.out.dist
            exact ⟨by omega, by omega, fun e => by have := HRT.out.own.lt _ e; omega⟩)
          obtain ⟨t0, t1⟩ := HRX.out.box9.cells
          obtain ⟨x0, x1, x2⟩ := HX.out.cells
          clear hwx
          go_wp2_with (first
            | (at_builtin
               refine wpList_append_turn8 rfl (.tmp 69) (.tmp 71) rfl w7.heap.size (.slice ta tn tc) ts A ⟨t.kind, s8, a8, n8, c8⟩ t rfl rfl rfl rfl HRX.out.own HTI.out HTB.out HRX.out.dist.2 (by rw [HT.out.1]; omega) ?_
               intro v9 w9 hA hgr ho
               obtain ⟨a9, c9, hv9, _⟩ := hA.towns.sees (by rw [List.length_append, HT.out.1]; simp; omega)
               rw [List.length_append, List.length_singleton] at hv9
               subst hv9
               have hL9 := HRX.out.box9.block ((hgr.block _ (by have := HRX.out.box9.lt; simp; omega) (fun e => by have := HRX.out.own.lt _ e.symm; have := HRX.out.dist; omega)).trans ((tu1 wx _).block _ HRX.out.box9.lt))
               have f1 := hL9.thaw 1
               have c1 := hL9.cells.2
               have HA9 := Lib.hid hA
               have HG9 := Lib.hid hgr
               have HO9 := Lib.hid ho
               clear hA hgr ho hL9)
            | fail)
          go_roundw
          case rel =>
            have h40 : j + 1 ≤ 40 := by
              have h1 := HRT.out.view.len
              have h2 := HRT.out.view.few
              omega
            have hfx : 41 - (j + 1) = fu := by omega
            exact ⟨j + 1, na8, nn8, nc8, ns', U8, a9, ts.length + 1, c9, ts ++ [t], A ++ blk a8, by go_num, h40, Lib.hid (HRX.out.push HA9.out HG9.out HO9.out (fun u hu => by
              have h1 := HBL.out u hu
              have h2 := HRT.out.view.low
              exact ⟨by omega, by omega, h1.2.2.1, h1.2.2.2⟩)), Lib.hid (by rw [hfx]; exact HZ2.out), Lib.hid ⟨by rw [List.length_append, HT.out.1]; rfl, trivial⟩, HNK2⟩
          case measure => simp [intOf]; omega
      · have hnone : ns[j]? = none := List.getElem?_eq_none (by omega)
        have HZ3 := Lib.hid (show R = .ok ts by rw [hst]; unfold turnsP; rw [hnone])
        have d3 : decide ((j : Int) < (nn : Int)) = false := decide_eq_false (by omega)
        obtain ⟨t0, t1⟩ := HRT.out.box9.cells
        have hLX : LB8 wr (w.heap.size + 1) ⟨#[]⟩ none 0 0 := HL3.out.block (HRT.out.bel.block _ hx43)
        obtain ⟨d0, d1⟩ := hLX.cells
        have f0 := hLX.thaw 0
        have f1 := hLX.thaw 1
        clear hst hnone hLX
        go_wp2_with fail
        refine bodyPost_ret (v := .tuple #[.agg #[.string (nm ++ ⟨#[46]⟩ ++ r), .slice ta tn tc], .int .i64 0]) (by simp [results, go_sem, d0, d1]) rfl ?_
        rw [HZ3.out]
        have hbs := ((Beside.refl (w.heap.size + 1) wr).setCell 0 (.string (nm ++ ⟨#[46]⟩ ++ r))).setCell 1 (.slice ta tn tc)
        have hzw := HRT.out.bel.size
        have hzd := HRT.out.dist
        refine ⟨⟨nm ++ ⟨#[46]⟩ ++ r, ta, tn, tc, rfl, ?_, ?_, w7.heap.size, by omega, (HRT.out.own.stay hbs.size (fun b e => hbs.block b (HRT.out.own.lt b e).2 (by have := HRT.out.own.lt b e; omega)) (fun u hu => hbs.block u (HRT.out.own.used u hu).2.1 (by have := HRT.out.own.used u hu; omega))).towns⟩, (HBW3.out.trans (HRT.out.bel.mono (by omega))).trans (hbs.below (by omega) (by omega))⟩
        · rw [ByteArray.toList_eq, ByteArray.toList_eq, ByteArray.toList_eq]
          simp [ByteArray.data_append]
        · have h1 : (nm ++ ⟨#[46]⟩ ++ r).size = nm.size + 1 + r.size := by rw [ByteArray.size_append, ByteArray.size_append]; rfl
          rw [h1]
          unfold maxLen
          omega
end Go.Proofs.YtiofpeckcfdilaaGreatDoor
