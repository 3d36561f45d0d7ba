/- Contract of the program's Vars. -/
import Derived.Test.YthbakfceaaaamaaTmVarP
import Derived.Test.YthbakfceaaaamaaTmMay
import Derived.Test.YthbakfceaaaamaaTmVal
import Derived.Deep.RegionHeld3
import Derived.Deep.RegionLaw
namespace Go.Proofs.Ythbakfceaaaamaa
open Go.RowKit

theorem Strs.setOther {w : World} {bound base : Nat} {a : Option Addr} {n : Nat} {l : List Str} (h : Strs w bound a n l) (hf : From base a n) (p : Addr) (x : Value) (hp : p.block < base) : Strs (w.setCell p x) bound a n l :=
  ⟨h.1, h.2.1, h.2.2.1, fun hn => by
    obtain ⟨b, off, e, hb, hc⟩ := h.2.2.2 hn
    obtain ⟨b', off', e', hbb⟩ := hf hn
    rw [e] at e'
    injection e' with e'
    injection e' with e1 e2 _
    refine ⟨b, off, e, hb, fun j y hj => ?_⟩
    rw [World.cell?_setCell_other _ _ _ _ (fun e3 => by rw [e3] at hp; dsimp only at hp; omega)]
    exact hc j y hj⟩
theorem own_from {w : World} {base : Nat} {e : TypeId} {v : Value} {n : Nat} {xs : List Value} (h : w.ownsRow base e 1 v n xs) {a : Option Addr} {m c : Nat} (hv : v = .slice a m c) : From base a n := by
  subst hv
  rcases h.2 with ⟨h0, h1⟩ | ⟨g, cap, cur, hv, hbase, _⟩
  · subst h1
    have h2 := h.1
    simp at h2
    subst h2
    exact From.zero _ _
  · injection hv with h1 h2 h3
    subst h1
    exact fun _ => ⟨g, 0, rfl, hbase⟩
/-- Block cv holds a slice of strings that the call made. -/
def VHas (W : World) (cv : Nat) (ss : List Str) : Prop :=
  cv < W.heap.size ∧ W.frozen? ⟨cv, 0, none⟩ = false ∧ ∃ a n c, W.cell? ⟨cv, 0, none⟩ = some (.slice a n c) ∧ Strs W W.heap.size a n ss ∧ From (cv + 1) a n
theorem VHas.below {W W' : World} {cv : Nat} {ss : List Str} (h : VHas W cv ss) (hb : Below W.heap.size W W') : VHas W' cv ss := by
  obtain ⟨h1, h2, a, n, c, h3, h4, h5⟩ := h
  exact ⟨Nat.lt_of_lt_of_le h1 hb.size, (hb.frozen (p := ⟨cv, 0, none⟩) h1).trans h2, a, n, c, (hb.cell (p := ⟨cv, 0, none⟩) h1).trans h3, (h4.below hb).more hb.size, h5⟩
/-- What gathering finds where it begins: the list, itself. -/
def VReady (W : World) (L : List Trm) (la : Option Addr) (ln lc bound cl cv cw : Nat) : Prop :=
  Trms W bound la ln L ∧ bound ≤ cv ∧ bound ≤ W.heap.size ∧ (cl < W.heap.size ∧ cl ≠ cv) ∧ (cw < W.heap.size ∧ cw ≠ cv) ∧
  W.cell? ⟨cl, 0, none⟩ = some (.slice la ln lc) ∧
  W.cell? ⟨cw, 0, none⟩ = some (.func (.func 24) #[] #[.pointer (some ⟨cl, 0, none⟩), .pointer (some ⟨cv, 0, none⟩), .pointer (some ⟨cw, 0, none⟩)])
theorem VReady.beside {W W' : World} {L : List Trm} {la : Option Addr} {ln lc bound cl cv cw : Nat} (h : VReady W L la ln lc bound cl cv cw) (hb : Beside cv W W') : VReady W' L la ln lc bound cl cv cw := by
  obtain ⟨h1, h2, h3, ⟨h4, h5⟩, ⟨h6, h7⟩, h8, h9⟩ := h
  have := hb.size
  exact ⟨h1.beside hb h2 h3, h2, by omega, ⟨by omega, h5⟩, ⟨by omega, h7⟩, (hb.cell (p := ⟨cl, 0, none⟩) h4 h5).trans h8, (hb.cell (p := ⟨cw, 0, none⟩) h6 h7).trans h9⟩
/-- What gathering leaves. -/
def VRet (w : World) (cv : Nat) (ss : List Str) (e : Ending) (w' : World) : Prop := e = .returned (.tuple #[]) ∧ Beside cv w w' ∧ VHas w' cv ss
theorem VHas.put {w w' : World} {cv : Nat} {ss : List Str} {v : Value} (h1 : cv < w.heap.size) (h2 : w.frozen? ⟨cv, 0, none⟩ = false) (hc : ∃ u, w.cell? ⟨cv, 0, none⟩ = some u)
    (ho : w'.ownsRow w.heap.size 9 1 v ss.length (ss.map encStr)) (hb : Below w.heap.size w w') (hn : ss.length ≤ 1000) (hm : ∀ s ∈ ss, s.length ≤ maxLen) :
    (∃ a n c, v = .slice a n c) ∧ VHas (w'.setCell ⟨cv, 0, none⟩ v) cv ss ∧ Beside cv w (w'.setCell ⟨cv, 0, none⟩ v) := by
  obtain ⟨a, c, hv, hs, _, _⟩ := Strs.of_own ho (by omega) hm
  have hf : From (cv + 1) a ss.length := (own_from ho hv).low (by omega)
  obtain ⟨u, hu⟩ := hc
  have hsz := hb.size
  refine ⟨⟨a, _, c, hv⟩, ⟨by simp; omega, ?_, a, ss.length, c, ?_, ?_, hf⟩, (Beside.of_below hb).setCell 0 v⟩
  · rw [World.frozen?_setCell]; exact (hb.frozen (p := ⟨cv, 0, none⟩) h1).trans h2
  · rw [World.cell?_setCell_same' _ _ _ (by rw [(hb.cell (p := ⟨cv, 0, none⟩) h1), hu]; rfl), hv]
  · have h := hs.setOther hf ⟨cv, 0, none⟩ v (by show cv < cv + 1; omega)
    simpa using h

set_option maxHeartbeats 4000000 in
theorem gather_leaf (L : List Trm) (la : Option Addr) (ln lc bound cl cv cw i : Nat) (t : Trm) (ss : List Str) (w : World) (hi : L[i]? = some t) (hk : t.kind = 0) (hlen : ss.length ≤ 999) (hR : VReady w L la ln lc bound cl cv cw) (hV : VHas w cv ss) :
    Calls Try.prog 24 #[.int .i64 i, .pointer (some ⟨cl, 0, none⟩), .pointer (some ⟨cv, 0, none⟩), .pointer (some ⟨cw, 0, none⟩)] w (VRet w cv (putS ss t.name)) := by
  have hin : i < ln := by
    obtain ⟨h1, _⟩ := List.getElem?_eq_some_iff.1 hi
    have := hR.1.1
    omega
  obtain ⟨b, off, t', ha, hbb, hget, _, hnl, htl, p0, p1, p2, p3, p4, p5⟩ := hR.1.at_ hin
  rw [hi] at hget
  obtain rfl := Option.some.inj hget
  subst ha
  obtain ⟨nm, hnm⟩ : ∃ nm, nm = lxS t.name := ⟨_, rfl⟩
  obtain ⟨tx, htx⟩ : ∃ tx, tx = lxS t.text := ⟨_, rfl⟩
  have hns : nm.size ≤ maxLen := by rw [hnm, lxS_size]; exact hnl
  have hnm2 : t.name = nm.toList := by rw [hnm, lxS_toList]
  have co := fun W => operands_any t.kind nm t.num tx t.l t.r W
  have hops : opsT (⟨t.kind, nm.toList, t.num, tx.toList, t.l, t.r⟩ : Trm) = [] := opsT0 (by show arT t.kind = 0; rw [hk]; rfl)
  rw [hops] at co
  rw [← hnm] at p1
  rw [← htx] at p3
  rw [hk] at p0 co
  rw [hnm2]
  obtain ⟨_, hbv, hbz, ⟨l1, l2⟩, ⟨x1, x2⟩, ccl, ccw⟩ := hR
  obtain ⟨v1, v2, va, vn, vc, ccv, hs, hf⟩ := hV
  have hvl : ss.length = vn := hs.1
  obtain ⟨tn, htn⟩ : ∃ tn, tn = t.num := ⟨_, rfl⟩
  obtain ⟨tl, htl2⟩ : ∃ tl, tl = t.l := ⟨_, rfl⟩
  obtain ⟨tr, htr⟩ : ∃ tr, tr = t.r := ⟨_, rfl⟩
  rw [← htn, ← htl2, ← htr] at co
  rw [← htn] at p2
  rw [← htl2] at p4
  rw [← htr] at p5
  have CO := Lib.hid co
  have hsd : Strs w.drew w.drew.heap.size va vn ss := hs.drew
  have CP := Lib.hid (fun (W : World) (h : Strs W W.heap.size va vn ss) => put_any va vn vc ss nm W (by omega) hns h)
  have HM := Lib.hid (show ∀ s ∈ putS ss nm.toList, s.length ≤ maxLen from fun s h => by
    rcases (mem_putS ss nm.toList s).1 h with h | rfl
    · exact hs.max s h
    · rw [ByteArray.toList_eq]; simpa using hns)
  have HL := Lib.hid (show (putS ss nm.toList).length ≤ 1000 by have := putS_len ss nm.toList; omega)
  have HS := Lib.hid hs
  have HC := Lib.hid ccv
  have HQ := Lib.hid (And.intro p0 (And.intro p1 (And.intro p2 (And.intro p3 (And.intro p4 p5)))))
  have hbw : b < w.heap.size := by omega
  have hbc : b ≠ cv := by omega
  clear hnm htx hnm2 co hops hs hf hvl hns hi hsd hget hnl htl hk htn htl2 htr
  go_enter Try.func24, Try.ntmps24
  go_wp2
  go_region_law (first
    | (go_simp; go_at_call 25; (with_reducible refine (CP.out _ ?_).mono ?_)
       · exact HS.out
       rintro e wn ⟨v', rfl, ho, hbn⟩
       obtain ⟨⟨a', n', c', hv'⟩, hvh, hbs⟩ := VHas.put (w := w) (w' := wn) v1 v2 ⟨_, HC.out⟩ ho ⟨hbn.os, hbn.tape, hbn.output, hbn.size, hbn.block⟩ HL.out HM.out
       subst hv'
       have HH := Lib.hid hvh
       have HB := Lib.hid hbs
       have g0 : wn.cell? ⟨cv, 0, none⟩ = some (.slice va vn vc) := (hbn.cell (p := ⟨cv, 0, none⟩) v1).trans HC.out
       have g1 : wn.frozen? ⟨cv, 0, none⟩ = false := (hbn.frozen (p := ⟨cv, 0, none⟩) v1).trans v2
       have kl : (wn.setCell ⟨cv, 0, none⟩ (.slice a' n' c')).cell? ⟨cl, 0, none⟩ = some (.slice (some ⟨b, off, none⟩) ln lc) := (HB.out.cell (p := ⟨cl, 0, none⟩) l1 l2).trans ccl
       have r0 := (HB.out.cell (p := ⟨b, off + i * 6, none⟩) hbw hbc).trans HQ.out.1
       have r1 := (HB.out.cell (p := ⟨b, off + i * 6 + 1, none⟩) hbw hbc).trans HQ.out.2.1
       have r2 := (HB.out.cell (p := ⟨b, off + i * 6 + 2, none⟩) hbw hbc).trans HQ.out.2.2.1
       have r3 := (HB.out.cell (p := ⟨b, off + i * 6 + 3, none⟩) hbw hbc).trans HQ.out.2.2.2.1
       have r4 := (HB.out.cell (p := ⟨b, off + i * 6 + 4, none⟩) hbw hbc).trans HQ.out.2.2.2.2.1
       have r5 := (HB.out.cell (p := ⟨b, off + i * 6 + 5, none⟩) hbw hbc).trans HQ.out.2.2.2.2.2
       clear ho hbn hvh hbs)
    | fail)
  all_goals
    go_wp2_with (first
      | (go_at_call 22; (with_reducible refine (CO.out _).mono ?_)
         rintro e w3 ⟨⟨ao, no, co, rfl, hnums, _⟩, hb3⟩
         have hno : no = 0 := by have := hnums.1; simpa using this.symm
         subst hno
         have HB3 := Lib.hid (HB.out.trans (Beside.of_below hb3))
         have HV3 := Lib.hid (HH.out.below hb3)
         clear hb3 hnums)
      | fail)
    refine wp_loop_rounds 1 ?_
    rw [rounds_succ]
    go_wp2
    go_end0
    exact ⟨rfl, HB3.out, HV3.out⟩

theorem gatherL_at {l : List Exp} {k : Nat} {o : Exp} (h : l[k]? = some o) (s : List Str) : gatherL (l.drop k) s = gatherL (l.drop (k + 1)) (gatherE o s) ∧ weightL (l.drop k) = o.places.length + weightL (l.drop (k + 1)) := by
  obtain ⟨h1, e⟩ := List.getElem?_eq_some_iff.1 h
  rw [List.drop_eq_getElem_cons h1, e]
  exact ⟨rfl, rfl⟩
set_option maxHeartbeats 4000000 in
theorem gather_any (L : List Trm) (la : Option Addr) (ln lc bound cl cv cw : Nat) : ∀ e : Exp, Fits L e → ∀ (ss : List Str) (w : World), ss.length + e.places.length ≤ 1000 → VReady w L la ln lc bound cl cv cw → VHas w cv ss →
    Calls Try.prog 24 #[.int .i64 e.at_, .pointer (some ⟨cl, 0, none⟩), .pointer (some ⟨cv, 0, none⟩), .pointer (some ⟨cw, 0, none⟩)] w (VRet w cv (gatherE e ss)) := by
  refine Exp.byKids ?_
  intro e ih hfit ss w hlen hR hV
  by_cases hk : e.term.kind = 0
  · cases e with
    | leaf i t =>
      simp only [Exp.term] at hk
      have h := gather_leaf L la ln lc bound cl cv cw i t ss w hfit.1 hk (by simp only [Exp.places, List.length_singleton] at hlen; omega) hR hV
      simp only [gatherE, Exp.at_]
      rw [if_pos hk]
      exact h
    | one i t a => have := hfit.2.2.1; simp only [Exp.term] at hk; rw [hk] at this; cases this
    | two i t a b => have := hfit.2.2.1; simp only [Exp.term] at hk; rw [hk] at this; cases this
  have hwk := weight_kids e
  have hin : e.at_ < ln := by have := hfit.lt; have := hR.1.1; omega
  obtain ⟨b, off, t', ha, hbb, hget, _, hnl, htl, p0, p1, p2, p3, p4, p5⟩ := hR.1.at_ hin
  rw [hfit.here.1] at hget
  obtain rfl := Option.some.inj hget
  have hops := hfit.ops
  have hkids := hfit.kids
  have HG := Lib.hid (gather_rest hk ss)
  generalize gatherE e ss = R at HG ⊢
  generalize e.kids = ks at hops hkids ih HG hwk
  generalize e.at_ = i at hin p0 p1 p2 p3 p4 p5 ⊢
  generalize e.places.length = pl at hlen hwk
  generalize e.term = t at hk hnl htl p0 p1 p2 p3 p4 p5 hops
  subst ha
  obtain ⟨nm, hnm⟩ : ∃ nm, nm = lxS t.name := ⟨_, rfl⟩
  obtain ⟨tx, htx⟩ : ∃ tx, tx = lxS t.text := ⟨_, rfl⟩
  have hT : (⟨t.kind, nm.toList, t.num, tx.toList, t.l, t.r⟩ : Trm) = t := by rw [hnm, htx, lxS_toList, lxS_toList]
  have co := fun W => operands_any t.kind nm t.num tx t.l t.r W
  rw [hT, hops] at co
  rw [← hnm] at p1
  rw [← htx] at p3
  have hk2 : (t.kind == 0) = false := by rw [beq_eq_false_iff_ne]; exact hk
  obtain ⟨tk, htk⟩ : ∃ tk, tk = t.kind := ⟨_, rfl⟩
  obtain ⟨tn, htn⟩ : ∃ tn, tn = t.num := ⟨_, rfl⟩
  obtain ⟨tl, htl2⟩ : ∃ tl, tl = t.l := ⟨_, rfl⟩
  obtain ⟨tr, htr⟩ : ∃ tr, tr = t.r := ⟨_, rfl⟩
  rw [← htk, ← htn, ← htl2, ← htr] at co
  rw [← htk] at p0 hk2
  rw [← htn] at p2
  rw [← htl2] at p4
  rw [← htr] at p5
  have CO := Lib.hid co
  have HR := Lib.hid hR
  have HV := Lib.hid hV
  have HF := Lib.hid hkids
  have IH := Lib.hid ih
  obtain ⟨_, hbv, hbz, ⟨l1, l2⟩, ⟨x1, x2⟩, ccl, ccw⟩ := hR
  have hbw : b < w.heap.size := by omega
  have hbc : b ≠ cv := by omega
  clear hnm htx hT co hops hkids ih hnl htl htk htn htl2 htr hV hk hfit
  go_enter Try.func24, Try.ntmps24
  go_wp2_with (first
    | (go_at_call 22; (with_reducible refine (CO.out _).mono ?_)
       rintro e w3 ⟨⟨ao, no, co, rfl, hnums, hfrom⟩, hb3⟩
       have hno : no = ks.length := by have := hnums.1; simpa using this.symm
       have HNO := Lib.hid hno
       have HFO := Lib.hid (fun h0 => (hfrom h0).imp fun b1 h => h.imp fun o1 h => And.intro h.1 h.2)
       have HB3 := Lib.hid (Beside.of_below (g := cv) hb3)
       have HR3 := Lib.hid (HR.out.beside HB3.out)
       have HV3 := Lib.hid (HV.out.below hb3)
       have HN3 := Lib.hid hnums
       have hnb := hnums.2.1
       have hcw : cv < w.heap.size := HV.out.1
       have hsz := hb3.size
       clear hb3 hnums hfrom p0 p1 p2 p3 p4 p5 hno)
    | fail)
  go_loopw [26, 6] (fun v _ wr => ∃ (j : Nat) (s' : List Str), j ≤ no ∧ v = .int .i64 j ∧ Hid (VReady wr L (some ⟨b, off, none⟩) ln lc bound cl cv cw) ∧ Hid (VHas wr cv s') ∧ Hid (Beside cv w3 wr) ∧ Hid (R = gatherL (ks.drop j) s' ∧ s'.length + weightL (ks.drop j) ≤ 1000)) (fun v _ _ => no - (intOf v).toNat)
  case atStart => exact ⟨0, ss, Nat.zero_le _, rfl, HR3, HV3, Lib.hid (Beside.refl _ _), Lib.hid ⟨by rw [HG.out]; rfl, by rw [List.drop_zero]; omega⟩⟩
  case round =>
    obtain ⟨j, s', hj, rfl, HRr, HVr, HBr, HFr⟩ := hrel
    by_cases hlt : j < no
    · obtain ⟨b1, o1, y, hao, hb1, hy, y0⟩ := HN3.out.at_ hlt
      obtain ⟨bf, of_, ef, hfg⟩ := HFO.out (by omega)
      have hb1g : b1 ≠ cv := by
        rw [hao] at ef
        injection ef with ef
        injection ef with ef _ _
        omega
      subst hao
      clear ef hfg
      rw [List.getElem?_map] at hy
      obtain ⟨k, hkk, rfl⟩ := Option.map_eq_some_iff.1 hy
      have hmem := List.mem_of_getElem? hkk
      obtain ⟨g1, g2⟩ := gatherL_at hkk s'
      have hf := HFr.out
      rw [g1, g2] at hf
      have hlk := gather_len k s'
      have CW := Lib.hid (fun W (h1 : VReady W L (some ⟨b, off, none⟩) ln lc bound cl cv cw) (h2 : VHas W cv s') => IH.out k hmem (HF.out k hmem) s' W (by omega) h1 h2)
      have HZ := Lib.hid (show R = gatherL (ks.drop (j + 1)) (gatherE k s') ∧ (gatherE k s').length + weightL (ks.drop (j + 1)) ≤ 1000 from ⟨hf.1, by omega⟩)
      have hyy : wr.cell? ⟨b1, o1 + j, none⟩ = some (.int .i64 k.at_) := (HBr.out.cell (p := ⟨b1, o1 + j, none⟩) hb1 hb1g).trans y0
      obtain ⟨_, _, _, _, _, _, ccw⟩ := HRr.out
      clear hf hlk g1 g2 hmem hkk hy y0
      generalize gatherE k s' = s2 at CW HZ
      generalize k.at_ = ka at CW hyy
      go_wp2_with (first
        | (go_at_call 24; (with_reducible refine (CW.out _ HRr.out HVr.out).mono ?_)
           rintro e w4 ⟨rfl, hb4, hs4⟩
           have HB4 := Lib.hid hb4
           have HS4 := Lib.hid hs4
           clear hb4 hs4)
        | fail)
      go_roundw
      case rel => exact ⟨j + 1, s2, by omega, by go_num, Lib.hid (HRr.out.beside HB4.out), HS4, Lib.hid (HBr.out.trans HB4.out), HZ⟩
      case measure => simp [intOf]; omega
    · have HZ := Lib.hid (show R = s' by
        have := HNO.out
        rw [HFr.out.1, List.drop_of_length_le (by omega), gatherL])
      go_wp2
      go_end0
      exact ⟨rfl, HB3.out.trans HBr.out, by rw [HZ.out]; exact HVr.out⟩
end Go.Proofs.Ythbakfceaaaamaa

/- Contract of the program's Vars: the names of the tree's variables, rising. -/
namespace Go.Proofs.Ythbakfceaaaamaa
open Go.RowKit

/-- The call hands back a slice that reads as these strings. -/
def VarsRet (w : World) (l : List Str) (e : Ending) (w' : World) : Prop := (∃ a n c, e = .returned (.slice a n c) ∧ Strs w' w'.heap.size a n l ∧ From w.heap.size a n) ∧ Below w.heap.size w w'
/-- The world in which Vars begins to gather. -/
def varsW (w1 : World) (cl : Nat) : World := (w1.alloc (.cells #[.slice none 0 0] 40)).alloc (.cells #[.func (.func 24) #[] #[.pointer (some ⟨cl, 0, none⟩), .pointer (some ⟨w1.heap.size, 0, none⟩), .pointer (some ⟨w1.heap.size + 1, 0, none⟩)]] 60)
theorem varsW_size (w1 : World) (cl : Nat) : (varsW w1 cl).heap.size = w1.heap.size + 1 + 1 := by simp [varsW]
theorem varsW_below (w1 : World) (cl : Nat) : Below w1.heap.size w1 (varsW w1 cl) := by
  refine Below.alloc (Below.alloc (Below.refl _ _) (Nat.le_refl _) _) ?_ _
  simp
theorem varsW_ready {w1 : World} {L : List Trm} {la : Option Addr} {ln lc bound cl : Nat} (h : Trms w1 bound la ln L) (hb : bound ≤ w1.heap.size) (hl : cl < w1.heap.size) (hc : w1.cell? ⟨cl, 0, none⟩ = some (.slice la ln lc)) :
    VReady (varsW w1 cl) L la ln lc bound cl w1.heap.size (w1.heap.size + 1) ∧ VHas (varsW w1 cl) w1.heap.size [] := by
  have hs := varsW_size w1 cl
  have hbl := varsW_below w1 cl
  refine ⟨⟨h.below (hbl.mono hb), hb, by omega, ⟨by omega, by omega⟩, ⟨by omega, by omega⟩, (hbl.cell (p := ⟨cl, 0, none⟩) hl).trans hc, ?_⟩, by omega, ?_, none, 0, 0, ?_, Strs.zero _ _ _, From.zero _ _⟩
  · unfold varsW
    rw [cell_top (by simp)]
    rfl
  · unfold varsW World.frozen?
    rw [show ((w1.alloc (.cells #[.slice none 0 0] 40)).alloc (.cells #[.func (.func 24) #[] #[.pointer (some ⟨cl, 0, none⟩), .pointer (some ⟨w1.heap.size, 0, none⟩), .pointer (some ⟨w1.heap.size + 1, 0, none⟩)]] 60)).heap[w1.heap.size]? = some (.cells #[.slice none 0 0] 40 (0, 0)) from
      (((Below.refl _ (w1.alloc (.cells #[.slice none 0 0] 40))).alloc (Nat.le_refl _) _).block w1.heap.size (by simp)).trans (heap_alloc_new w1 _)]
    rfl
  · unfold varsW
    rw [World.cell?_alloc_lt _ _ _ (by simp), cell_top rfl]
    rfl

set_option maxHeartbeats 4000000 in
theorem termVars_any (la : Option Addr) (ln lc : Nat) (L : List Trm) (root : Int) (w : World) (bound : Nat) (hb : bound ≤ w.heap.size) (h : Trms w bound la ln L) :
    Calls Try.prog 14 #[.slice la ln lc, .int .i64 root] w (VarsRet w (varsF L root)) := by
  have hmf : ∀ (fn : Fn) (first cap : Array Value) (w : World), (Instr.makeFunc fn first cap).run Try.prog w = .ok (.func fn first cap) w := fun _ _ _ _ => rfl
  have hb0 := (Below.refl w.heap.size w).alloc (Nat.le_refl _) (.cells #[.slice la ln lc] 22)
  have HB := Lib.hid hb0
  have cm := termMay_any la ln lc L root (w.alloc (.cells #[.slice la ln lc] 22)) bound (by simp; omega) (h.below (hb0.mono hb))
  have HT := Lib.hid h
  have HK := Lib.hid (show (w.alloc (.cells #[.slice la ln lc] 22)).cell? ⟨w.heap.size, 0, none⟩ = some (.slice la ln lc) by rw [cell_top rfl]; rfl)
  clear h hb0
  cases hm : mayF L root
  · rw [hm] at cm
    have HG := Lib.hid (varsF_none hm)
    generalize varsF L root = R at HG ⊢
    have CM := Lib.hid cm
    clear cm hm
    go_enter Try.func14, Try.ntmps14
    go_wp2_with (first
      | (go_at_call 16; (with_reducible refine CM.out.mono ?_)
         rintro e w1 ⟨rfl, hb1⟩
         have HB1 := Lib.hid (below_on HB.out hb1)
         clear hb1)
      | fail)
    go_ret
    exact ⟨⟨none, 0, 0, rfl, by rw [HG.out]; exact Strs.zero _ _ _, From.zero _ _⟩, HB1.out⟩
  · rw [hm] at cm
    obtain ⟨x, hx⟩ := (mayF_iff L root).1 hm
    obtain ⟨r, hr⟩ : ∃ r : Nat, root = (r : Int) := ⟨x.at_, hx.2.1.symm⟩
    subst hr
    have hxr : x.at_ = r := by have := hx.2.1; omega
    have HG := Lib.hid (varsF_good hx)
    have hfew := hx.few
    have cw := fun (cv cw : Nat) (W : World) (hR : VReady W L la ln lc bound w.heap.size cv cw) (hV : VHas W cv []) => gather_any L la ln lc bound w.heap.size cv cw x hx.2.2.1 [] W (by simp; omega) hR hV
    rw [hxr] at cw
    generalize varsF L (r : Int) = R at HG ⊢
    generalize gatherE x [] = q at HG cw
    have CW := Lib.hid cw
    have CM := Lib.hid cm
    clear cm hm hx hxr cw hfew
    go_enter Try.func14, Try.ntmps14
    go_wp2_with (first
      | (go_at_call 16; (with_reducible refine CM.out.mono ?_)
         rintro e w1 ⟨rfl, hb1⟩
         have HB1 := Lib.hid (below_on HB.out hb1)
         have hz1 := hb1.size
         have hrv := varsW_ready (w1 := w1) (L := L) (lc := lc) (bound := bound) (cl := w.heap.size) (HT.out.below (HB1.out.mono hb)) (by have := HB1.out.size; omega) (by simp at hz1; omega) ((hb1.cell (p := ⟨w.heap.size, 0, none⟩) (by simp)).trans HK.out)
         have HB2 := Lib.hid (varsW_below w1 w.heap.size)
         unfold varsW at hrv
         have HR2 := Lib.hid hrv
         clear hb1 hrv)
      | (go_at_call 24; (with_reducible refine (CW.out _ _ _ HR2.out.1 HR2.out.2).mono ?_)
         rintro e w3 ⟨rfl, hb3, hv3⟩
         obtain ⟨y1, y2, ya, yn, yc, yc0, ys, yf⟩ := hv3
         have HB3 := Lib.hid (show Below w1.heap.size (varsW w1 w.heap.size) w3 from hb3.below (Nat.le_refl _) (by simp; omega))
         have HS3 := Lib.hid ys
         have HF3 := Lib.hid yf
         clear hb3 ys yf)
      | fail)
    go_ret
    refine ⟨⟨_, _, _, rfl, by rw [HG.out]; exact HS3.out, HF3.out.low (by have := HB1.out.size; omega)⟩, HB1.out.trans ((HB2.out.trans HB3.out).mono (by have := HB1.out.size; omega))⟩
end Go.Proofs.Ythbakfceaaaamaa
