/- Plain: the shrunk book; nodes written twice. No program stands in this text. -/
import Derived.Test.YtgefhgcpnfbigaaBkCls
namespace Go.Proofs.Ytgefhgcpnfbigaa
open Go.RowKit

def isRep (cl : List Nat) (k : Nat) : Bool := cl.getD k 0 == k
def keepP (cl : List Nat) (n : Nat) : List Nat := (List.range n).filter (isRep cl)
/-- How many are kept ahead of a node. -/
def rankP (cl : List Nat) (m : Nat) : Nat := (keepP cl m).length
def idxC (cl : List Nat) (i : Nat) : Nat := rankP cl (cl.getD i 0)
def movedE (cl : List Nat) (e : EdgeL) : EdgeL := ⟨e.label, e.sk, (idxC cl e.at_.toNat : Nat), (idxC cl e.next.toNat : Nat)⟩
def movedN (cl : List Nat) (x : NodeL) : NodeL := ⟨x.kind, x.peer, x.arms.map (movedE cl)⟩
def shrN (cl : List Nat) (ns : List NodeL) (n : Nat) : List NodeL := (keepP cl n).map fun k => movedN cl (ns.getD k noneN)
def shrB (cl : List Nat) (b : BookL) : BookL := ⟨shrN cl b.nodes b.nodes.length, b.names, b.roots.map fun r => (idxC cl r.toNat : Int)⟩
theorem keepP_succ (cl : List Nat) (n : Nat) : keepP cl (n + 1) = keepP cl n ++ if isRep cl n then [n] else [] := by
  unfold keepP
  rw [List.range_succ, List.filter_append]
  congr 1
  cases h : isRep cl n <;> simp [h]
theorem rankP_succ (cl : List Nat) (n : Nat) : rankP cl (n + 1) = rankP cl n + if isRep cl n then 1 else 0 := by
  unfold rankP
  rw [keepP_succ, List.length_append]
  cases isRep cl n <;> rfl
theorem rankP_le (cl : List Nat) (n : Nat) : rankP cl n ≤ n := by
  have := List.length_filter_le (isRep cl) (List.range n)
  unfold rankP keepP
  simpa using this
theorem rankP_mono (cl : List Nat) {m n : Nat} (h : m ≤ n) : rankP cl m ≤ rankP cl n := by
  induction n with
  | zero => rw [Nat.le_zero.1 h]; exact Nat.le_refl _
  | succ n ih =>
    rcases Nat.lt_or_ge n m with h1 | h1
    · rw [show m = n + 1 by omega]; exact Nat.le_refl _
    · rw [rankP_succ]; have := ih h1; omega
theorem keepP_at (cl : List Nat) {m n : Nat} (h : m < n) (hr : isRep cl m = true) : (keepP cl n)[rankP cl m]? = some m := by
  induction n with
  | zero => omega
  | succ n ih =>
    rw [keepP_succ]
    rcases Nat.lt_or_ge m n with h1 | h1
    · have h2 := ih h1
      rw [List.getElem?_append_left (List.getElem?_eq_some_iff.1 h2).1]
      exact h2
    · obtain rfl : m = n := by omega
      rw [List.getElem?_append_right (show (keepP cl m).length ≤ rankP cl m from Nat.le_refl _), hr]
      show ([m] : List Nat)[rankP cl m - rankP cl m]? = _
      rw [Nat.sub_self]
      rfl
theorem keepP_mem (cl : List Nat) (n k : Nat) : k ∈ keepP cl n ↔ k < n ∧ isRep cl k = true := by
  unfold keepP
  rw [List.mem_filter, List.mem_range]
/-- At a place of what is kept: the node, and how many are kept ahead of it. -/
theorem keepP_rank (cl : List Nat) : ∀ (n x k : Nat), (keepP cl n)[x]? = some k → k < n ∧ isRep cl k = true ∧ rankP cl k = x
  | 0, x, k, h => by simp [keepP] at h
  | n + 1, x, k, h => by
    rw [keepP_succ] at h
    rcases Nat.lt_or_ge x (keepP cl n).length with h1 | h1
    · rw [List.getElem?_append_left h1] at h
      obtain ⟨a, b, c⟩ := keepP_rank cl n x k h
      exact ⟨by omega, b, c⟩
    · rw [List.getElem?_append_right h1] at h
      cases hr : isRep cl n with
      | false => rw [hr] at h; simp at h
      | true =>
        rw [hr] at h
        have h2 := (List.getElem?_eq_some_iff.1 h).1
        simp at h2
        have h3 : x - (keepP cl n).length = 0 := by omega
        rw [h3] at h
        simp at h
        subst h
        exact ⟨by omega, hr, by unfold rankP; omega⟩
section
variable {ns : List NodeL} {cl : List Nat}
theorem isRep_iff {k : Nat} : isRep cl k = true ↔ cl.getD k 0 = k := by unfold isRep; rw [beq_iff_eq]
theorem IsCl.rep (h : IsCl ns cl) {i : Nat} (hi : i < ns.length) : isRep cl (cl.getD i 0) = true := isRep_iff.2 (h.idem hi)
theorem shrN_at (h : IsCl ns cl) {i : Nat} (hi : i < ns.length) : (shrN cl ns ns.length)[idxC cl i]? = some (movedN cl (ns.getD (cl.getD i 0) noneN)) := by
  unfold shrN
  rw [List.getElem?_map]
  unfold idxC
  rw [keepP_at cl (h.lt hi) (h.rep hi)]
  rfl
theorem idxC_eq (h : IsCl ns cl) {i j : Nat} (e : Eqv ns i j) : idxC cl i = idxC cl j := by
  unfold idxC
  rw [(h.iff e.lt.1 e.lt.2).2 e]
theorem movedN_alike (x : NodeL) : Alike x (movedN cl x) := ⟨rfl, rfl, by unfold movedN; rw [List.map_map]; rfl⟩
theorem shr_hom (h : IsCl ns cl) : Hom ns (shrN cl ns ns.length) (idxC cl) := by
  intro x a ha
  have hx := (List.getElem?_eq_some_iff.1 ha).1
  obtain ⟨c, a', hc, ha', hab, ho⟩ := eqv_bis ns _ _ (h.2 x hx).1
  obtain rfl : a = a' := Option.some.inj (ha.symm.trans ha')
  refine ⟨_, shrN_at h hx, ?_, fun j e g he hg => ?_⟩
  · rw [getN hc]; exact hab.symm.trans (movedN_alike c)
  · rw [getN hc] at hg
    obtain ⟨g0, hg0, rfl⟩ := List.getElem?_map (f := movedE cl) (l := c.arms) ▸ hg |> Option.map_eq_some_iff.1
    obtain ⟨o1, o2⟩ := ho j g0 e hg0 he
    refine ⟨?_, fun h5 => ?_⟩
    · show ((idxC cl g0.next.toNat : Nat) : Int).toNat = _
      rw [Int.toNat_natCast]
      exact idxC_eq h o1
    · show ((idxC cl g0.at_.toNat : Nat) : Int).toNat = _
      rw [Int.toNat_natCast]
      obtain ⟨e', he', _, hs⟩ := hab.at_ hg0
      obtain rfl : e = e' := Option.some.inj (he.symm.trans he')
      exact idxC_eq h (o2 (by rw [← hs]; exact h5))
theorem shrN_len : (shrN cl ns ns.length).length = rankP cl ns.length := by unfold shrN rankP; rw [List.length_map]
theorem idxC_lt (h : IsCl ns cl) {i : Nat} (hi : i < ns.length) : idxC cl i < (shrN cl ns ns.length).length := (List.getElem?_eq_some_iff.1 (shrN_at h hi)).1
/-- A place of the shrunk nodes is the new place of a node that stands for its class. -/
theorem shrN_from {x : Nat} {a : NodeL} (ha : (shrN cl ns ns.length)[x]? = some a) : ∃ k b, ns[k]? = some b ∧ cl.getD k 0 = k ∧ idxC cl k = x ∧ a = movedN cl b := by
  unfold shrN at ha
  rw [List.getElem?_map] at ha
  obtain ⟨k, hk, rfl⟩ := Option.map_eq_some_iff.1 ha
  obtain ⟨h1, h2, h3⟩ := keepP_rank cl _ x k hk
  have h4 := isRep_iff.1 h2
  exact ⟨k, _, hasN h1, h4, by unfold idxC; rw [h4, h3], rfl⟩
theorem movedE_labels (l : List EdgeL) : (l.map (movedE cl)).map EdgeL.label = l.map EdgeL.label := by rw [List.map_map]; rfl
theorem inBk_nat {n k : Nat} (h : k < n) : inBk n (k : Int) = true := inBk_iff.2 ⟨by omega, by simpa using h⟩
theorem moved_ok (h : IsCl ns cl) (hn : NodesOk ns) {k : Nat} {b : NodeL} (hb : ns[k]? = some b) : nodeB (shrN cl ns ns.length).length (movedN cl b) = true := by
  have h0 := hn.2 k b hb
  have hk := (List.getElem?_eq_some_iff.1 hb).1
  unfold nodeB at h0 ⊢
  show (if b.kind = 0 then b.peer.isEmpty && (b.arms.map (movedE cl)).isEmpty else if b.kind = 1 ∨ b.kind = 2 then may b.peer && edgesB (shrN cl ns ns.length).length (b.arms.map (movedE cl)) else false) = true
  by_cases k0 : b.kind = 0
  · rw [if_pos k0] at h0 ⊢
    simpa using h0
  rw [if_neg k0] at h0 ⊢
  by_cases k1 : b.kind = 1 ∨ b.kind = 2
  · rw [if_pos k1] at h0 ⊢
    rw [Bool.and_eq_true] at h0 ⊢
    refine ⟨h0.1, ?_⟩
    have h1 := h0.2
    unfold edgesB at h1 ⊢
    rw [movedE_labels, List.length_map]
    simp only [Bool.and_eq_true, List.all_eq_true] at h1 ⊢
    refine ⟨⟨⟨fun e he => ?_, h1.1.1.2⟩, h1.1.2⟩, h1.2⟩
    obtain ⟨e0, he0, rfl⟩ := List.mem_map.1 he
    have hE := hn.edge hb he0
    have hB := h1.1.1.1 e0 he0
    unfold edgeB at hB ⊢
    simp only [Bool.and_eq_true] at hB ⊢
    refine ⟨⟨hB.1.1, ?_⟩, inBk_nat (idxC_lt h hE.2.2.2.2)⟩
    have hS := hB.1.2
    unfold sortB at hS ⊢
    show (if e0.sk = 5 then inBk _ (idxC cl e0.at_.toNat : Nat) else decide (0 ≤ e0.sk) && decide (e0.sk < 5) && decide (((idxC cl e0.at_.toNat : Nat) : Int) = 0)) = true
    by_cases h5 : e0.sk = 5
    · rw [if_pos h5]; exact inBk_nat (idxC_lt h hE.2.2.1.2)
    · rw [if_neg h5] at hS ⊢
      simp only [Bool.and_eq_true, decide_eq_true_eq] at hS ⊢
      refine ⟨hS.1, ?_⟩
      rw [hS.2]
      have := h.le hn.closed (i := 0) (by omega)
      unfold idxC
      rw [show cl.getD (0 : Int).toNat 0 = 0 from Nat.le_zero.1 this]
      rfl
  · rw [if_neg k1] at h0; cases h0
theorem shr_ok (h : IsCl ns cl) (hn : NodesOk ns) : NodesOk (shrN cl ns ns.length) := by
  refine ⟨?_, fun x a ha => ?_⟩
  · rw [shrN_len]; have := rankP_le cl ns.length; have := hn.1; omega
  · obtain ⟨k, b, hb, _, _, rfl⟩ := shrN_from ha
    exact moved_ok h hn hb
theorem shrB_ok {b : BookL} (h : IsCl b.nodes cl) (hb : bookB b = true) : bookB (shrB cl b) = true := by
  obtain ⟨hn, h2, h3, h4⟩ := bookB_ok hb
  have hs := shr_ok h hn
  unfold bookB
  simp only [Bool.and_eq_true, decide_eq_true_eq, List.all_eq_true]
  refine ⟨⟨⟨⟨hs.1, ?_⟩, h3⟩, fun r hr => ?_⟩, fun a ha => ?_⟩
  · show b.names.length = (b.roots.map _).length
    rw [List.length_map]; exact h2
  · obtain ⟨r0, hr0, rfl⟩ := List.mem_map.1 hr
    exact inBk_nat (idxC_lt h (h4 r0 hr0).2)
  · obtain ⟨i, hi, rfl⟩ := List.mem_iff_getElem.1 ha
    exact hs.2 i _ (List.getElem?_eq_getElem hi)
/-- A shrunk book has no two equal nodes. -/
theorem shr_alone (h : IsCl ns cl) (hn : NodesOk ns) {x y : Nat} (e : Eqv (shrN cl ns ns.length) x y) : x = y := by
  obtain ⟨a, b, ha, hb, _⟩ := eqv_bis _ x y e
  obtain ⟨k, _, hk, ck, rfl, _⟩ := shrN_from ha
  obtain ⟨m, _, hm, cm, rfl, _⟩ := shrN_from hb
  have hkl := (List.getElem?_eq_some_iff.1 hk).1
  have hml := (List.getElem?_eq_some_iff.1 hm).1
  have e2 := ((shr_hom h).eqv hn.closed hkl hml).2 e
  rw [← ck, ← cm, (h.iff hkl hml).2 e2]
end
def idsP (n : Nat) : List Nat := List.range n
theorem idsP_at {n i : Nat} (h : i < n) : (idsP n).getD i 0 = i := by unfold idsP; rw [List.getD_eq_getElem?_getD, List.getElem?_range h]; rfl
/-- Where no two nodes are equal each one is its own class. -/
theorem isCl_ids {ns : List NodeL} (hc : Closed ns) (h : ∀ x y, Eqv ns x y → x = y) : IsCl ns (idsP ns.length) := by
  refine ⟨by unfold idsP; simp, fun i hi => ?_⟩
  rw [idsP_at hi]
  exact ⟨eqv_refl hc hi, fun k e => by rw [h k i e]; exact Nat.le_refl _⟩
theorem rank_ids {n : Nat} : ∀ m, m ≤ n → keepP (idsP n) m = List.range m
  | 0, _ => rfl
  | m + 1, h => by
    have hr : isRep (idsP n) m = true := isRep_iff.2 (idsP_at (by omega))
    rw [keepP_succ, rank_ids m (by omega), hr, List.range_succ]
    rfl
theorem idx_ids {n i : Nat} (h : i < n) : idxC (idsP n) i = i := by
  unfold idxC rankP
  rw [idsP_at h, rank_ids i (by omega), List.length_range]
theorem shrB_ids {b : BookL} (hb : bookB b = true) : shrB (idsP b.nodes.length) b = b := by
  obtain ⟨hn, h2, h3, h4⟩ := bookB_ok hb
  obtain ⟨ns, nm, rs⟩ := b
  have e1 : shrN (idsP ns.length) ns ns.length = ns := by
    unfold shrN
    rw [rank_ids _ (Nat.le_refl _)]
    refine List.ext_getElem? fun i => ?_
    rw [List.getElem?_map]
    rcases Nat.lt_or_ge i ns.length with hi | hi
    · rw [List.getElem?_range hi, hasN hi]
      show some (movedN _ _) = _
      congr 1
      have hx := hasN hi
      obtain ⟨x, hxe⟩ : ∃ x, x = ns.getD i noneN := ⟨_, rfl⟩
      rw [← hxe] at hx ⊢
      obtain ⟨k, p, l⟩ := x
      unfold movedN
      congr 1
      refine (List.map_congr_left fun e he => ?_).trans (List.map_id _)
      have hE := hn.edge hx he
      obtain ⟨lb, sk, at_, nx⟩ := e
      unfold movedE
      rw [idx_ids hE.2.2.1.2, idx_ids hE.2.2.2.2]
      have a1 : ((at_.toNat : Nat) : Int) = at_ := Int.toNat_of_nonneg hE.2.2.1.1
      have a2 : ((nx.toNat : Nat) : Int) = nx := Int.toNat_of_nonneg hE.2.2.2.1
      show (⟨lb, sk, ((at_.toNat : Nat) : Int), ((nx.toNat : Nat) : Int)⟩ : EdgeL) = _
      rw [a1, a2]
      rfl
    · rw [List.getElem?_eq_none (by simpa using hi), List.getElem?_eq_none hi]; rfl
  have e2 : rs.map (fun r => (idxC (idsP ns.length) r.toNat : Int)) = rs := by
    refine (List.map_congr_left fun r hr => ?_).trans (List.map_id _)
    rw [idx_ids (h4 r hr).2]
    exact Int.toNat_of_nonneg (h4 r hr).1
  unfold shrB
  show (⟨shrN _ ns ns.length, nm, rs.map _⟩ : BookL) = _
  rw [e1, e2]
/-- Nodes and a copy of each behind them. -/
def shiftE (n : Nat) (e : EdgeL) : EdgeL := ⟨e.label, e.sk, if e.sk = 5 then e.at_ + (n : Int) else e.at_, e.next + (n : Int)⟩
def shiftN (n : Nat) (x : NodeL) : NodeL := ⟨x.kind, x.peer, x.arms.map (shiftE n)⟩
def twoN (ns : List NodeL) : List NodeL := ns ++ ns.map (shiftN ns.length)
def halfP (n i : Nat) : Nat := if i < n then i else i - n
theorem shiftN_alike (n : Nat) (x : NodeL) : Alike x (shiftN n x) := ⟨rfl, rfl, by unfold shiftN; rw [List.map_map]; rfl⟩
theorem two_len (ns : List NodeL) : (twoN ns).length = ns.length + ns.length := by unfold twoN; rw [List.length_append, List.length_map]
theorem two_at {ns : List NodeL} {x : Nat} {a : NodeL} (h : (twoN ns)[x]? = some a) : (x < ns.length ∧ ns[x]? = some a) ∨ (ns.length ≤ x ∧ ∃ b, ns[x - ns.length]? = some b ∧ a = shiftN ns.length b) := by
  unfold twoN at h
  rcases Nat.lt_or_ge x ns.length with hx | hx
  · rw [List.getElem?_append_left hx] at h; exact .inl ⟨hx, h⟩
  · rw [List.getElem?_append_right hx, List.getElem?_map] at h
    obtain ⟨b, hb, rfl⟩ := Option.map_eq_some_iff.1 h
    exact .inr ⟨hx, b, hb, rfl⟩
theorem two_hom {ns : List NodeL} (hn : NodesOk ns) : Hom (twoN ns) ns (halfP ns.length) := by
  intro x a ha
  rcases two_at ha with ⟨hx, hb⟩ | ⟨hx, b, hb, rfl⟩
  · refine ⟨a, by unfold halfP; rw [if_pos hx]; exact hb, Alike.refl _, fun j e g he hg => ?_⟩
    obtain rfl : e = g := Option.some.inj (he.symm.trans hg)
    have hE := hn.edge hb (List.mem_of_getElem? he)
    exact ⟨by unfold halfP; rw [if_pos hE.2.2.2.2], fun _ => by unfold halfP; rw [if_pos hE.2.2.1.2]⟩
  · refine ⟨b, by unfold halfP; rw [if_neg (by omega)]; exact hb, (shiftN_alike _ b).symm, fun j e g he hg => ?_⟩
    have he' : (b.arms.map (shiftE ns.length))[j]? = some e := he
    rw [List.getElem?_map, hg] at he'
    obtain rfl := Option.some.inj he'
    have hE := hn.edge hb (List.mem_of_getElem? hg)
    refine ⟨?_, fun h5 => ?_⟩
    · show _ = halfP ns.length (g.next + (ns.length : Int)).toNat
      rw [show (g.next + (ns.length : Int)).toNat = g.next.toNat + ns.length by omega]
      unfold halfP
      rw [if_neg (by omega)]
      omega
    · have h5' : g.sk = 5 := h5
      show _ = halfP ns.length (if g.sk = 5 then g.at_ + (ns.length : Int) else g.at_).toNat
      rw [if_pos h5', show (g.at_ + (ns.length : Int)).toNat = g.at_.toNat + ns.length by omega]
      unfold halfP
      rw [if_neg (by omega)]
      omega
theorem nodeB_more {n m : Nat} (h : n ≤ m) {a : NodeL} (ha : nodeB n a = true) : nodeB m a = true := by
  unfold nodeB at ha ⊢
  by_cases k0 : a.kind = 0
  · rw [if_pos k0] at ha ⊢; exact ha
  rw [if_neg k0] at ha ⊢
  by_cases k1 : a.kind = 1 ∨ a.kind = 2
  · rw [if_pos k1, Bool.and_eq_true] at ha ⊢
    refine ⟨ha.1, ?_⟩
    have h1 := ha.2
    unfold edgesB at h1 ⊢
    simp only [Bool.and_eq_true, List.all_eq_true] at h1 ⊢
    refine ⟨⟨⟨fun e he => ?_, h1.1.1.2⟩, h1.1.2⟩, h1.2⟩
    have hB := h1.1.1.1 e he
    have hi : ∀ k, inBk n k = true → inBk m k = true := fun k hk => inBk_iff.2 ⟨(inBk_iff.1 hk).1, by have := (inBk_iff.1 hk).2; omega⟩
    unfold edgeB at hB ⊢
    simp only [Bool.and_eq_true] at hB ⊢
    refine ⟨⟨hB.1.1, ?_⟩, hi _ hB.2⟩
    have hS := hB.1.2
    unfold sortB at hS ⊢
    by_cases h5 : e.sk = 5
    · rw [if_pos h5] at hS ⊢; exact hi _ hS
    · rw [if_neg h5] at hS ⊢; exact hS
  · rw [if_neg k1] at ha; cases ha
theorem shift_ok {n : Nat} (h0 : 0 < n) {b : NodeL} (hb : nodeB n b = true) : nodeB (n + n) (shiftN n b) = true := by
  unfold nodeB at hb ⊢
  show (if b.kind = 0 then b.peer.isEmpty && (b.arms.map (shiftE n)).isEmpty else if b.kind = 1 ∨ b.kind = 2 then may b.peer && edgesB (n + n) (b.arms.map (shiftE n)) else false) = true
  by_cases k0 : b.kind = 0
  · rw [if_pos k0] at hb ⊢
    simpa using hb
  rw [if_neg k0] at hb ⊢
  by_cases k1 : b.kind = 1 ∨ b.kind = 2
  · rw [if_pos k1, Bool.and_eq_true] at hb ⊢
    refine ⟨hb.1, ?_⟩
    have h1 := hb.2
    unfold edgesB at h1 ⊢
    rw [List.map_map, List.length_map]
    simp only [Bool.and_eq_true, List.all_eq_true] at h1 ⊢
    refine ⟨⟨⟨fun e he => ?_, h1.1.1.2⟩, h1.1.2⟩, h1.2⟩
    obtain ⟨e0, he0, rfl⟩ := List.mem_map.1 he
    have hB := h1.1.1.1 e0 he0
    have hE := edgeB_in hB h0
    unfold edgeB at hB ⊢
    simp only [Bool.and_eq_true] at hB ⊢
    refine ⟨⟨hB.1.1, ?_⟩, inBk_iff.2 ?_⟩
    · have hS := hB.1.2
      unfold sortB at hS ⊢
      show (if e0.sk = 5 then inBk (n + n) (if e0.sk = 5 then e0.at_ + (n : Int) else e0.at_) else decide (0 ≤ e0.sk) && decide (e0.sk < 5) && decide ((if e0.sk = 5 then e0.at_ + (n : Int) else e0.at_) = 0)) = true
      by_cases h5 : e0.sk = 5
      · rw [if_pos h5, if_pos h5]
        refine inBk_iff.2 ?_
        omega
      · rw [if_neg h5] at hS
        rw [if_neg h5, if_neg h5]
        exact hS
    · show 0 ≤ e0.next + (n : Int) ∧ (e0.next + (n : Int)).toNat < n + n
      omega
  · rw [if_neg k1] at hb; cases hb
theorem two_ok {ns : List NodeL} (hn : NodesOk ns) (h : ns.length ≤ 200) : NodesOk (twoN ns) := by
  rw [NodesOk, two_len]
  refine ⟨by omega, fun x a ha => ?_⟩
  rcases two_at ha with ⟨_, hb⟩ | ⟨_, b, hb, rfl⟩
  · exact nodeB_more (by omega) (hn.2 x a hb)
  · exact shift_ok (by have := (List.getElem?_eq_some_iff.1 hb).1; omega) (hn.2 _ b hb)
theorem two_eqv {ns : List NodeL} (hn : NodesOk ns) (h : ns.length ≤ 200) {x y : Nat} (hx : x < ns.length + ns.length) (hy : y < ns.length + ns.length) : Eqv (twoN ns) x y ↔ Eqv ns (halfP ns.length x) (halfP ns.length y) :=
  (two_hom hn).eqv (two_ok hn h).closed (by rw [two_len]; exact hx) (by rw [two_len]; exact hy)
theorem two_rank {ns : List NodeL} (hn : NodesOk ns) (h : ns.length ≤ 200) {cl cl2 : List Nat} (hc : IsCl ns cl) (hc2 : IsCl (twoN ns) cl2) : rankP cl2 (twoN ns).length = rankP cl ns.length := by
  have e1 : ∀ i, i < ns.length → isRep cl2 i = isRep cl i := fun i hi => by
    rw [Bool.eq_iff_iff, isRep_iff, isRep_iff]
    have hl := hc2.le (two_ok hn h).closed (i := i) (by rw [two_len]; omega)
    have hm := hc.le hn.closed hi
    have a1 : Eqv ns (cl2.getD i 0) i := by
      have := (two_eqv hn h (x := cl2.getD i 0) (y := i) (by omega) (by omega)).1 (hc2.2 i (by rw [two_len]; omega)).1
      unfold halfP at this
      rwa [if_pos hi, if_pos (by omega)] at this
    have a2 : Eqv (twoN ns) (cl.getD i 0) i := (two_eqv hn h (by omega) (by omega)).2 (by unfold halfP; rw [if_pos hi, if_pos (by omega)]; exact (hc.2 i hi).1)
    have b1 := (hc.2 i hi).2 _ a1
    have b2 := (hc2.2 i (by rw [two_len]; omega)).2 _ a2
    omega
  have e2 : ∀ i, ns.length ≤ i → i < ns.length + ns.length → isRep cl2 i = false := fun i h1 h2 => by
    have a1 : Eqv (twoN ns) (i - ns.length) i := (two_eqv hn h (by omega) h2).2 (by
      unfold halfP; rw [if_pos (by omega), if_neg (by omega)]
      exact eqv_refl hn.closed (by omega))
    have b1 := (hc2.2 i (by rw [two_len]; omega)).2 _ a1
    cases hr : isRep cl2 i with
    | false => rfl
    | true => have := isRep_iff.1 hr; omega
  have r1 : ∀ m, m ≤ ns.length → rankP cl2 m = rankP cl m := fun m => by
    induction m with
    | zero => exact fun _ => rfl
    | succ m ih => intro hm; rw [rankP_succ, rankP_succ, ih (by omega), e1 m (by omega)]
  have r2 : ∀ m, m ≤ ns.length → rankP cl2 (ns.length + m) = rankP cl ns.length := fun m => by
    induction m with
    | zero => exact fun _ => r1 _ (Nat.le_refl _)
    | succ m ih =>
      intro hm
      rw [← Nat.add_assoc, rankP_succ, ih (by omega), e2 _ (by omega) (by omega)]
      rfl
  rw [two_len]
  exact r2 _ (Nat.le_refl _)
end Go.Proofs.Ytgefhgcpnfbigaa
