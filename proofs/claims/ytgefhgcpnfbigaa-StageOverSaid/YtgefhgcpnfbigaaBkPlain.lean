/- Plain: books: valid nodes, equal nodes (bisimulation), classes, shrunk books. No program stands in this text. -/
import Derived.Test.YtgefhgcpnfbigaaPlain
namespace Go.Proofs.Ytgefhgcpnfbigaa
open Go.RowKit

structure EdgeL where
  label : Str
  sk : Int
  at_ : Int
  next : Int
structure NodeL where
  kind : Int
  peer : Str
  arms : List EdgeL
structure BookL where
  nodes : List NodeL
  names : List Str
  roots : List Int
/-- In ascending order, each once. -/
def upB (l : List Str) : Bool := decide (l.Pairwise (· < ·))
def inBk (n : Nat) (k : Int) : Bool := decide (0 ≤ k) && decide (k < (n : Int))
def sortB (n : Nat) (k a : Int) : Bool := if k = 5 then inBk n a else decide (0 ≤ k) && decide (k < 5) && decide (a = 0)
def edgeB (n : Nat) (e : EdgeL) : Bool := may e.label && sortB n e.sk e.at_ && inBk n e.next
def edgesB (n : Nat) (l : List EdgeL) : Bool := l.all (edgeB n) && upB (l.map EdgeL.label) && decide (1 ≤ l.length) && decide (l.length ≤ 6)
def nodeB (n : Nat) (t : NodeL) : Bool := if t.kind = 0 then t.peer.isEmpty && t.arms.isEmpty else if t.kind = 1 ∨ t.kind = 2 then may t.peer && edgesB n t.arms else false
def bookB (b : BookL) : Bool := decide (b.nodes.length ≤ 400) && decide (b.names.length = b.roots.length) && upB b.names && b.roots.all (inBk b.nodes.length) && b.nodes.all (nodeB b.nodes.length)

/-- Alike at once. -/
def Alike (x y : NodeL) : Prop := x.kind = y.kind ∧ x.peer = y.peer ∧ x.arms.map (fun e => (e.label, e.sk)) = y.arms.map (fun e => (e.label, e.sk))
def Onto (R : Nat → Nat → Prop) (x y : NodeL) : Prop := ∀ (j : Nat) (e f : EdgeL), x.arms[j]? = some e → y.arms[j]? = some f → R e.next.toNat f.next.toNat ∧ (e.sk = 5 → R e.at_.toNat f.at_.toNat)
def Bis (ns : List NodeL) (R : Nat → Nat → Prop) : Prop := ∀ x y, R x y → ∃ a b : NodeL, ns[x]? = some a ∧ ns[y]? = some b ∧ Alike a b ∧ Onto R a b
/-- Two nodes are equal. -/
def Eqv (ns : List NodeL) (x y : Nat) : Prop := ∃ R, Bis ns R ∧ R x y
/-- All that the nodes lead to are nodes. -/
def Closed (ns : List NodeL) : Prop := ∀ (x : Nat) (a : NodeL), ns[x]? = some a → ∀ e ∈ a.arms, e.next.toNat < ns.length ∧ e.at_.toNat < ns.length
theorem Alike.refl (x : NodeL) : Alike x x := ⟨rfl, rfl, rfl⟩
theorem Alike.symm {x y : NodeL} (h : Alike x y) : Alike y x := ⟨h.1.symm, h.2.1.symm, h.2.2.symm⟩
theorem Alike.trans {x y z : NodeL} (h : Alike x y) (k : Alike y z) : Alike x z := ⟨h.1.trans k.1, h.2.1.trans k.2.1, h.2.2.trans k.2.2⟩
theorem Alike.len {x y : NodeL} (h : Alike x y) : x.arms.length = y.arms.length := by
  have := congrArg List.length h.2.2
  simpa using this
theorem Alike.at_ {x y : NodeL} (h : Alike x y) {j : Nat} {e : EdgeL} (he : x.arms[j]? = some e) : ∃ f, y.arms[j]? = some f ∧ f.label = e.label ∧ f.sk = e.sk := by
  have h1 := congrArg (fun l => l[j]?) h.2.2
  simp only [List.getElem?_map, he, Option.map_some] at h1
  cases hf : y.arms[j]? with
  | none => rw [hf] at h1; cases h1
  | some f =>
    rw [hf] at h1
    injection h1 with h1
    injection h1 with h2 h3
    exact ⟨f, rfl, h2.symm, h3.symm⟩
theorem eqv_bis (ns : List NodeL) : Bis ns (Eqv ns) := by
  intro x y ⟨R, hR, hxy⟩
  obtain ⟨a, b, ha, hb, hab, ho⟩ := hR x y hxy
  exact ⟨a, b, ha, hb, hab, fun j e f he hf => ⟨⟨R, hR, (ho j e f he hf).1⟩, fun h5 => ⟨R, hR, (ho j e f he hf).2 h5⟩⟩⟩
theorem Eqv.lt {ns : List NodeL} {x y : Nat} (h : Eqv ns x y) : x < ns.length ∧ y < ns.length := by
  obtain ⟨a, b, ha, hb, _⟩ := eqv_bis ns x y h
  exact ⟨(List.getElem?_eq_some_iff.1 ha).1, (List.getElem?_eq_some_iff.1 hb).1⟩
theorem eqv_refl {ns : List NodeL} (hc : Closed ns) {x : Nat} (hx : x < ns.length) : Eqv ns x x := by
  refine ⟨fun i j => i = j ∧ i < ns.length, ?_, rfl, hx⟩
  rintro i _ ⟨rfl, hi⟩
  have ha := List.getElem?_eq_getElem hi
  refine ⟨_, _, ha, ha, Alike.refl _, fun j e f he hf => ?_⟩
  obtain rfl : e = f := Option.some.inj (he.symm.trans hf)
  have hm := hc i _ ha e (List.mem_of_getElem? he)
  exact ⟨⟨rfl, hm.1⟩, fun _ => ⟨rfl, hm.2⟩⟩
theorem Eqv.symm {ns : List NodeL} {x y : Nat} (h : Eqv ns x y) : Eqv ns y x := by
  refine ⟨fun i j => Eqv ns j i, ?_, h⟩
  intro i j hij
  obtain ⟨a, b, ha, hb, hab, ho⟩ := eqv_bis ns j i hij
  refine ⟨b, a, hb, ha, hab.symm, fun k e f he hf => ?_⟩
  have h1 := ho k f e hf he
  refine ⟨h1.1, fun h5 => h1.2 ?_⟩
  obtain ⟨f', hf', _, hs⟩ := hab.symm.at_ he
  obtain rfl : f = f' := Option.some.inj (hf.symm.trans hf')
  rw [hs]; exact h5
theorem Eqv.trans {ns : List NodeL} {x y z : Nat} (h : Eqv ns x y) (k : Eqv ns y z) : Eqv ns x z := by
  refine ⟨fun i j => ∃ m, Eqv ns i m ∧ Eqv ns m j, ?_, y, h, k⟩
  rintro i j ⟨m, him, hmj⟩
  obtain ⟨a, b, ha, hb, hab, ho⟩ := eqv_bis ns i m him
  obtain ⟨b', c, hb', hc, hbc, ho'⟩ := eqv_bis ns m j hmj
  obtain rfl : b = b' := Option.some.inj (hb.symm.trans hb')
  refine ⟨a, c, ha, hc, hab.trans hbc, fun t e f he hf => ?_⟩
  obtain ⟨g, hg, _, hs⟩ := hab.at_ he
  have h1 := ho t e g he hg
  have h2 := ho' t g f hg hf
  exact ⟨⟨_, h1.1, h2.1⟩, fun h5 => ⟨_, h1.2 h5, h2.2 (hs.trans h5)⟩⟩
/-- Each node's class is the least node that is equal to it. -/
def IsCl (ns : List NodeL) (cl : List Nat) : Prop := cl.length = ns.length ∧ ∀ i, i < ns.length → Eqv ns (cl.getD i 0) i ∧ ∀ k, Eqv ns k i → cl.getD i 0 ≤ k
section
variable {ns : List NodeL} {cl : List Nat}
theorem IsCl.le (h : IsCl ns cl) (hc : Closed ns) {i : Nat} (hi : i < ns.length) : cl.getD i 0 ≤ i := (h.2 i hi).2 i (eqv_refl hc hi)
theorem IsCl.iff (h : IsCl ns cl) {i j : Nat} (hi : i < ns.length) (hj : j < ns.length) : cl.getD i 0 = cl.getD j 0 ↔ Eqv ns i j := by
  constructor
  · intro e
    have h1 := (h.2 i hi).1
    rw [e] at h1
    exact h1.symm.trans (h.2 j hj).1
  · intro e
    have h1 := (h.2 i hi).2 _ ((h.2 j hj).1.trans e.symm)
    have h2 := (h.2 j hj).2 _ ((h.2 i hi).1.trans e)
    omega
theorem IsCl.idem (h : IsCl ns cl) {i : Nat} (hi : i < ns.length) : cl.getD (cl.getD i 0) 0 = cl.getD i 0 := (h.iff (h.2 i hi).1.lt.1 hi).2 (h.2 i hi).1
theorem IsCl.lt (h : IsCl ns cl) {i : Nat} (hi : i < ns.length) : cl.getD i 0 < ns.length := (h.2 i hi).1.lt.1
theorem getD_ext {a b : List Nat} (hl : a.length = b.length) (h : ∀ i, i < a.length → a.getD i 0 = b.getD i 0) : a = b := by
  refine List.ext_getElem hl fun i h1 h2 => ?_
  have := h i h1
  rwa [List.getD_eq_getElem?_getD, List.getD_eq_getElem?_getD, List.getElem?_eq_getElem h1, List.getElem?_eq_getElem h2] at this
theorem IsCl.only (h : IsCl ns cl) {cl' : List Nat} (h' : IsCl ns cl') : cl = cl' := by
  refine getD_ext (h.1.trans h'.1.symm) fun i hi => ?_
  rw [h.1] at hi
  have h1 := (h.2 i hi).2 _ (h'.2 i hi).1
  have h2 := (h'.2 i hi).2 _ (h.2 i hi).1
  omega
end
/-- A map of nodes that keeps what they do. -/
def Hom (c d : List NodeL) (f : Nat → Nat) : Prop := ∀ (x : Nat) (a : NodeL), c[x]? = some a → ∃ b : NodeL, d[f x]? = some b ∧ Alike a b ∧ ∀ (j : Nat) (e g : EdgeL), a.arms[j]? = some e → b.arms[j]? = some g → g.next.toNat = f e.next.toNat ∧ (e.sk = 5 → g.at_.toNat = f e.at_.toNat)
theorem Hom.eqv {c d : List NodeL} {f : Nat → Nat} (h : Hom c d f) (hc : Closed c) {x y : Nat} (hx : x < c.length) (hy : y < c.length) : Eqv c x y ↔ Eqv d (f x) (f y) := by
  constructor
  · intro e
    refine ⟨fun i j => ∃ x y, f x = i ∧ f y = j ∧ Eqv c x y, ?_, x, y, rfl, rfl, e⟩
    rintro _ _ ⟨p, q, rfl, rfl, hpq⟩
    obtain ⟨a, b, ha, hb, hab, ho⟩ := eqv_bis c p q hpq
    obtain ⟨a', ha', haa, hna⟩ := h p a ha
    obtain ⟨b', hb', hbb, hnb⟩ := h q b hb
    refine ⟨a', b', ha', hb', haa.symm.trans (hab.trans hbb), fun j e g he hg => ?_⟩
    obtain ⟨e0, he0, _, hs⟩ := haa.symm.at_ he
    obtain ⟨g0, hg0, _, _⟩ := hbb.symm.at_ hg
    obtain ⟨n1, t1⟩ := hna j e0 e he0 he
    obtain ⟨n2, t2⟩ := hnb j g0 g hg0 hg
    obtain ⟨o1, o2⟩ := ho j e0 g0 he0 hg0
    refine ⟨⟨_, _, n1.symm, n2.symm, o1⟩, fun h5 => ?_⟩
    have h50 : e0.sk = 5 := by rw [hs]; exact h5
    have h5g : g0.sk = 5 := by
      obtain ⟨g1, hg1, _, hs1⟩ := hab.at_ he0
      obtain rfl : g0 = g1 := Option.some.inj (hg0.symm.trans hg1)
      rw [hs1]; exact h50
    exact ⟨_, _, (t1 h50).symm, (t2 h5g).symm, o2 h50⟩
  · intro e
    refine ⟨fun i j => i < c.length ∧ j < c.length ∧ Eqv d (f i) (f j), ?_, hx, hy, e⟩
    rintro p q ⟨hp, hq, hpq⟩
    have ha := List.getElem?_eq_getElem hp
    have hb := List.getElem?_eq_getElem hq
    obtain ⟨a', ha', haa, hna⟩ := h p _ ha
    obtain ⟨b', hb', hbb, hnb⟩ := h q _ hb
    obtain ⟨a1, b1, ha1, hb1, hab, ho⟩ := eqv_bis d _ _ hpq
    obtain rfl : a' = a1 := Option.some.inj (ha'.symm.trans ha1)
    obtain rfl : b' = b1 := Option.some.inj (hb'.symm.trans hb1)
    refine ⟨_, _, ha, hb, haa.trans (hab.trans hbb.symm), fun j e g he hg => ?_⟩
    obtain ⟨e0, he0, _, hs⟩ := haa.at_ he
    obtain ⟨g0, hg0, _, hsg⟩ := hbb.at_ hg
    obtain ⟨n1, t1⟩ := hna j e e0 he he0
    obtain ⟨n2, t2⟩ := hnb j g g0 hg hg0
    obtain ⟨o1, o2⟩ := ho j e0 g0 he0 hg0
    have hce := hc p _ ha e (List.mem_of_getElem? he)
    have hcg := hc q _ hb g (List.mem_of_getElem? hg)
    refine ⟨⟨hce.1, hcg.1, by rw [← n1, ← n2]; exact o1⟩, fun h5 => ⟨hce.2, hcg.2, ?_⟩⟩
    have h5g : g.sk = 5 := by
      obtain ⟨g1, hg1, _, hs1⟩ := hab.at_ he0
      obtain rfl : g0 = g1 := Option.some.inj (hg0.symm.trans hg1)
      rw [← hsg, hs1, hs]; exact h5
    rw [← t1 h5, ← t2 h5g]
    exact o2 (by rw [hs]; exact h5)
theorem inBk_iff {n : Nat} {k : Int} : inBk n k = true ↔ 0 ≤ k ∧ k.toNat < n := by
  unfold inBk
  rw [Bool.and_eq_true, decide_eq_true_eq, decide_eq_true_eq]
  omega
theorem sortB_in {n : Nat} {k a : Int} (h : sortB n k a = true) (h0 : 0 < n) : (0 ≤ k ∧ k ≤ 5) ∧ 0 ≤ a ∧ a.toNat < n := by
  unfold sortB at h
  split at h
  · rename_i h5
    subst h5
    exact ⟨by omega, inBk_iff.1 h⟩
  · simp only [Bool.and_eq_true, decide_eq_true_eq] at h
    obtain ⟨⟨h1, h2⟩, rfl⟩ := h
    exact ⟨by omega, by omega, by simpa using h0⟩
theorem nodeB_arms {n : Nat} {t : NodeL} (h : nodeB n t = true) : t.arms = [] ∨ edgesB n t.arms = true := by
  unfold nodeB at h
  split at h
  · simp only [Bool.and_eq_true, List.isEmpty_iff] at h; exact .inl h.2
  · split at h
    · rw [Bool.and_eq_true] at h; exact .inr h.2
    · cases h
theorem nodeB_edge {n : Nat} {t : NodeL} (h : nodeB n t = true) {e : EdgeL} (he : e ∈ t.arms) : edgeB n e = true := by
  rcases nodeB_arms h with h0 | h1
  · rw [h0] at he; cases he
  · unfold edgesB at h1
    simp only [Bool.and_eq_true, List.all_eq_true] at h1
    exact h1.1.1.1 e he
theorem edgeB_in {n : Nat} {e : EdgeL} (h : edgeB n e = true) (h0 : 0 < n) : may e.label = true ∧ (0 ≤ e.sk ∧ e.sk ≤ 5) ∧ (0 ≤ e.at_ ∧ e.at_.toNat < n) ∧ 0 ≤ e.next ∧ e.next.toNat < n := by
  unfold edgeB at h
  simp only [Bool.and_eq_true] at h
  obtain ⟨⟨h1, h2⟩, h3⟩ := h
  exact ⟨h1, (sortB_in h2 h0).1, (sortB_in h2 h0).2, inBk_iff.1 h3⟩
/-- All nodes are valid, among so many. -/
def NodesOk (ns : List NodeL) : Prop := ns.length ≤ 400 ∧ ∀ (x : Nat) (a : NodeL), ns[x]? = some a → nodeB ns.length a = true
theorem NodesOk.edge {ns : List NodeL} (h : NodesOk ns) {x : Nat} {a : NodeL} (ha : ns[x]? = some a) {e : EdgeL} (he : e ∈ a.arms) : may e.label = true ∧ (0 ≤ e.sk ∧ e.sk ≤ 5) ∧ (0 ≤ e.at_ ∧ e.at_.toNat < ns.length) ∧ 0 ≤ e.next ∧ e.next.toNat < ns.length :=
  edgeB_in (nodeB_edge (h.2 x a ha) he) (by have := (List.getElem?_eq_some_iff.1 ha).1; omega)
theorem NodesOk.closed {ns : List NodeL} (h : NodesOk ns) : Closed ns := fun _ _ ha _ he => ⟨(h.edge ha he).2.2.2.2, (h.edge ha he).2.2.1.2⟩
theorem bookB_ok {b : BookL} (h : bookB b = true) : NodesOk b.nodes ∧ b.names.length = b.roots.length ∧ upB b.names = true ∧ ∀ r ∈ b.roots, 0 ≤ r ∧ r.toNat < b.nodes.length := by
  unfold bookB at h
  simp only [Bool.and_eq_true, decide_eq_true_eq, List.all_eq_true] at h
  obtain ⟨⟨⟨⟨h1, h2⟩, h3⟩, h4⟩, h5⟩ := h
  exact ⟨⟨h1, fun x a ha => h5 a (List.mem_of_getElem? ha)⟩, h2, h3, fun r hr => inBk_iff.1 (h4 r hr)⟩
end Go.Proofs.Ytgefhgcpnfbigaa
