/- For reparteemake's rounds: arms that the call makes, an arm's Next that is stored into made points. -/
import Derived.Test.YtokgpdceckaddaaGreatDoorGlMakes
namespace Go.Proofs.YtokgpdceckaddaaGreatDoor
open Go.RowKit

theorem set_same {α : Type} {l : List α} {j : Nat} {v : α} (h : l[j]? = some v) : l.set j v = l := by
  refine List.ext_getElem? fun i => ?_
  by_cases e : j = i
  · subst e
    rw [List.getElem?_set_self (List.getElem?_eq_some_iff.1 h).1, h]
  · rw [List.getElem?_set_ne e]
theorem carriesB_data {k : Int} (h0 : 0 ≤ k) (h5 : k < 5) : carriesB k [] = true := by
  unfold carriesB
  rw [if_neg (by omega), decide_eq_true h0, decide_eq_true h5]
  rfl
theorem armB_data {N : Nat} {s : Str} {k x : Int} (hs : may s = true) (h0 : 0 ≤ k) (h5 : k < 5) (hx0 : 0 ≤ x) (hx : x < (N : Int)) : armB N ⟨s, k, [], x⟩ = true := by
  rw [armB_ways, hs, carriesB_data h0 h5, decide_eq_true hx0, decide_eq_true hx]
  rfl
theorem armsB_one {N : Nat} {a : ArmL} (h : armB N a = true) : armsB N [a] = true := by
  unfold armsB
  simp [h]
theorem armsB_two {N : Nat} {a b : ArmL} (h : armB N a = true) (h' : armB N b = true) (hne : a.label ≠ b.label) : armsB N [a, b] = true := by
  unfold armsB
  simp [h, h', hne]
theorem armsB_set {N : Nat} {l : List ArmL} {j : Nat} {a : ArmL} (h : armsB N l = true) (hj : l[j]? = some a) {z : Int} (h0 : 0 ≤ z) (h1 : z < (N : Int)) : armsB N (l.set j ⟨a.label, a.ck, a.cn, z⟩) = true := by
  obtain ⟨g1, g2, g3, g4⟩ := armsB_all h
  unfold armsB
  have hm : (l.set j ⟨a.label, a.ck, a.cn, z⟩).map ArmL.label = l.map ArmL.label := by
    rw [List.map_set]
    refine set_same ?_
    rw [List.getElem?_map, hj]
    rfl
  rw [hm, decide_eq_true g2, List.length_set, decide_eq_true g3, decide_eq_true g4, List.all_eq_true.2 (fun x hx => by
    rcases List.mem_or_eq_of_mem_set hx with hx | rfl
    · exact g1 x hx
    · obtain ⟨q1, q2, _, _⟩ := armB_all (g1 a (List.mem_of_getElem? hj))
      rw [armB_ways, q1, q2, decide_eq_true h0, decide_eq_true h1]
      rfl)]
  rfl
theorem pointB_made {many N a b : Nat} (ha : a < many) (hb : b < many) (hm : many ≤ 4) (hne : a ≠ b) {l : List ArmL} (h : armsB N l = true) : pointB (rolesL many) N ⟨(rolS a).toList, (rolS b).toList, l⟩ = true := by
  unfold pointB
  rw [decide_eq_true (rolS_ne (by omega) (by omega) hne), decide_eq_true (List.mem_of_getElem? (rolesL_at ha)), decide_eq_true (List.mem_of_getElem? (rolesL_at hb)), h]
  simp
theorem pointB_set {roles : List Str} {N : Nat} {x : PointL} {j : Nat} {a : ArmL} (h : pointB roles N x = true) (hj : x.arms[j]? = some a) {z : Int} (h0 : 0 ≤ z) (h1 : z < (N : Int)) : pointB roles N ⟨x.src, x.dst, x.arms.set j ⟨a.label, a.ck, a.cn, z⟩⟩ = true := by
  rcases pointB_ways h with he | ⟨_, h2, h3, h4, h5⟩
  · rw [(endB_iff.1 he).2.2] at hj
    cases hj
  · unfold pointB
    dsimp only
    rw [decide_eq_true h2, decide_eq_true h3, decide_eq_true h4, armsB_set h5 hj h0 h1]
    simp
theorem AOwn.made {W : World} {base : Nat} (hb : base ≤ W.heap.size) (ts : List AR) (cs : Array Value) (n : Nat) (hc : cs = (ts.flatMap encAR).toArray) (hn : ts.length = n) (hl : n ≤ 1000) (hok : ∀ t ∈ ts, okR t) :
    AOwn (W.alloc (.cells cs 45)) base (.slice (some ⟨W.heap.size, 0, none⟩) n n) (ts.map armR) := by
  subst hn hc
  have hlen : ∀ l : List AR, (l.flatMap encAR).length = l.length * 4 := fun l => by
    induction l with
    | nil => rfl
    | cons x l ih => rw [List.flatMap_cons, List.length_append, ih, List.length_cons]; show 4 + _ = _; omega
  refine ⟨ts, ⟨by rw [hlen, List.length_map], .inr ⟨W.heap.size, ts.length, _, by rw [List.length_map], hb, heap_alloc_new W _, by rw [List.length_map]; exact Nat.le_refl _, by unfold maxLen; omega, by rw [List.size_toArray, hlen], ?_⟩⟩, rfl, hok⟩
  rw [List.length_map]
  exact List.take_of_length_le (by rw [hlen]; exact Nat.le_refl _)
/-- Where a made point's arms lie, and what a store into one's Next makes. -/
theorem PRow.spot {w : World} {base S g n c : Nat} {f : List PointL} (h : PRow w base S (.slice (some ⟨g, 0, none⟩) n c) f) {k : Nat} {t : PointL} (hk : f[k]? = some t) (hl : 0 < t.arms.length) :
    ∃ ab ac, w.cell? ⟨g, k * 3 + 2, none⟩ = some (.slice (some ⟨ab, 0, none⟩) t.arms.length ac) ∧ base ≤ ab ∧ ab < w.heap.size ∧ ab ≠ g ∧ ∀ (j : Nat) (x : ArmL) (z : Int), t.arms[j]? = some x →
      PRow (w.setCell ⟨ab, j * 4 + 3, none⟩ (.int .i64 z)) base S (.slice (some ⟨g, 0, none⟩) n c) (f.set k ⟨t.src, t.dst, t.arms.set j ⟨x.label, x.ck, x.cn, z⟩⟩) ∧ w.frozen? ⟨ab, j * 4 + 3, none⟩ = false ∧ ∃ o, w.cell? ⟨ab, j * 4 + 3, none⟩ = some o := by
  obtain ⟨rs, h1, h2, h3, h4, h5, h6⟩ := h
  have hkl : k < f.length := (List.getElem?_eq_some_iff.1 hk).1
  have hr := List.getElem?_eq_getElem (l := rs) (i := k) (by omega)
  obtain ⟨e1, e2, e3, e4, e5⟩ := h3 k _ t hr hk
  obtain ⟨ab, ac, hva, hab1, hab2⟩ := e5.spot hl
  have hob : (rs[k]'(by omega)).arms.ownBlock = some ab := by rw [hva]; rfl
  have habg : ab ≠ g := fun e => (h4 k _ ab hr hob).1 (by rw [e]; rfl)
  have hnot : ∀ (j : Nat) (r : PR), j ≠ k → rs[j]? = some r → r.arms.ownBlock ≠ some ab := fun j r hj hjr e => by
    rcases Nat.lt_or_gt_of_ne hj with hlt | hgt
    · exact h5 j k r _ ab hlt hjr hr e hob
    · exact h5 k j _ r ab hgt hr hjr hob e
  refine ⟨ab, ac, ?_, hab1, hab2, habg, fun j x z hj => ?_⟩
  · rcases h1.2 with ⟨h0, _⟩ | ⟨g2, cap, cur, hv, _, hh, _, _, _, h9⟩
    · cases h0
    · obtain ⟨q1, _, _⟩ := Value.slice.inj hv
      obtain ⟨q2, _, _⟩ := Addr.mk.inj (Option.some.inj q1)
      subst q2
      have hx := flatP_at rs k _ hr 2 (by omega)
      rw [cell_of_row _ _ _ _ _ _ hh]
      rw [← h9, List.getElem?_take] at hx
      split at hx
      · rw [← Array.getElem?_toList, hx, ← hva]
        rfl
      · exact absurd hx (by simp [encPR])
  · have hst := (show AOwn w base (.slice (some ⟨ab, 0, none⟩) t.arms.length ac) t.arms from hva ▸ e5).stored rfl hj z
    have hjl := (List.getElem?_eq_some_iff.1 hj).1
    refine ⟨⟨rs, ?_, by rw [List.length_set]; exact h2, fun j2 r t2 hj2 ht2 => ?_, h4, h5, h6⟩, hst.2, ?_⟩
    · rw [List.length_set]
      exact ownsRow_setCell_other h1 (fun e => habg (Option.some.inj e).symm) _
    · by_cases hjk : j2 = k
      · subst hjk
        rw [List.getElem?_set_self (by omega)] at ht2
        obtain rfl := Option.some.inj ht2
        rw [hr] at hj2
        obtain rfl := Option.some.inj hj2
        exact ⟨e1, e2, e3, by rw [List.length_set]; exact e4, hva ▸ hst.1⟩
      · rw [List.getElem?_set_ne (fun e => hjk e.symm)] at ht2
        obtain ⟨a1, a2, a3, a4, ts, a5, a6⟩ := h3 j2 r t2 hj2 ht2
        exact ⟨a1, a2, a3, a4, ts, ownsRow_setCell_other a5 (fun e => hnot j2 r hjk hj2 e) _, a6⟩
    · obtain ⟨xa, xc, hv, har, _, _⟩ := (show AOwn w base (.slice (some ⟨ab, 0, none⟩) t.arms.length ac) t.arms from hva ▸ e5).sees (by omega)
      obtain ⟨q1, _, _⟩ := Value.slice.inj hv
      subst q1
      obtain ⟨b1, o1, s1, u1, ck, nx, hbe, _, _, ⟨_, _, _, y3⟩, _, _⟩ := har.at_ hjl
      obtain ⟨e4', e5', _⟩ := Addr.mk.inj (Option.some.inj hbe)
      subst e4' e5'
      rw [Nat.zero_add] at y3
      exact ⟨_, y3⟩
end Go.Proofs.YtokgpdceckaddaaGreatDoor
