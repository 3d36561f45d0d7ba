/- Rows of nodes that the call appends, their edges wherever they lie; appends of many edges and nodes in a drawn region. -/
import Derived.Test.YtgefhgcpnfbigaaBkMake
import Derived.Test.YtgefhgcpnfbigaaRows
import Derived.Test.YtgefhgcpnfbigaaNmStrs
import Derived.Test.YtgefhgcpnfbigaaTmMems
import Derived.WalkKit
import Derived.ProofKit
import Derived.OpenShut
import Derived.ChangeOld
import Derived.ChangeSame
import Derived.SizedLaws
import Derived.SliceStrings
import Derived.Lib.SmallJoins
import Derived.Deep.Slices
import Derived.Deep.Strs
import Derived.Stop.Joined
import Derived.Test.YtgefhgcpnfbigaaStMids
import Derived.Deep.CutBlock
import Derived.Deep.DeepCutAuto
namespace Go.Proofs.Ytgefhgcpnfbigaa
open Go.RowKit Go.Sort

theorem EdOwn.other {w : World} {base : Nat} {v : Value} {l : List EdgeL} (h : EdOwn w base v l) {g : Nat} {cs : Array Value} {e : TypeId} {fr : Nat × Nat} (hg : w.heap[g]? = some (.cells cs e fr)) (he : e ≠ 82) : v.ownBlock ≠ some g := fun e1 => by
  obtain ⟨ts, h, _⟩ := h
  rcases h.2 with ⟨rfl, _⟩ | ⟨b, cap, cur, rfl, _, hh, _⟩
  · cases e1
  · obtain rfl := Option.some.inj e1
    rw [hh] at hg
    exact he (Obj.cells.inj (Option.some.inj hg)).2.1.symm
theorem step_append_edgesU {ops : Array Oper} {o : Oper} {a : Act} {K : Act → World → Prop} {Q : Exit → Act → World → Prop} {E : Prop} {w1 : World} (hgd : o.guard = none) (s x : Operand)
    (ho : o.op = .call { callee := .builtin .append, args := #[s, x], argTypes := #[60, 60] }) (base : Nat) (v : Value) (l : List EdgeL) (ad : Option Addr) (m c : Nat) (l2 : List EdgeL)
    (hs : a.eval s = v) (hx : a.eval x = .slice ad m c) (hB : EdOwn w1 base v l) (hr : EdRow w1 ad m l2) (hb : base ≤ w1.heap.size) (hlen : l.length + m ≤ 1000000)
    (h : ∀ v' w', EdOwn w' base v' (l ++ l2) → Below base w1 w' → Keeps v w1 w' → K (a.put o.dst v') w') : if Region.wanted o (yielded ops a.tmps) = true then Oper.wp Try.prog o a w1 K Q else E := by
  have hwant : Region.wanted o (yielded ops a.tmps) = true := by simp [Region.wanted, hgd]
  rw [if_pos hwant]
  obtain ⟨v', w', hrun, hown, hbel, hkp⟩ := hB.add hb c hr hlen o.type
  unfold Oper.wp execOp
  simp only [ho, resolve, invoke, builtin, Sem.run_bind, Sem.run_pure, Result.andThen_ok, List.map_toArray, List.map_cons, List.map_nil, hs, hx, hrun]
  exact h v' w' hown (hbel base (Nat.le_refl _) w1 (Below.refl _ _)) hkp
theorem Edges.takeU {w : World} {bound n : Nat} {a : Option Addr} {l : List EdgeL} (h : Edges w bound a n l) {k : Nat} (hk : k ≤ n) : Edges w bound a k (l.take k) := by
  refine ⟨by rw [List.length_take, h.1]; omega, by have := h.2.1; omega, fun h0 => ?_⟩
  obtain ⟨b, off, e, hb, hc⟩ := h.2.2 (by omega)
  refine ⟨b, off, e, hb, fun j x hj => hc j x ?_⟩
  rw [List.getElem?_take] at hj
  split at hj
  · exact hj
  · cases hj
theorem Edges.dropU {w : World} {bound n b off : Nat} {l : List EdgeL} (h : Edges w bound (some ⟨b, off, none⟩) n l) {k : Nat} (hk : k ≤ n) : Edges w bound (some ⟨b, off + k * 4, none⟩) (n - k) (l.drop k) := by
  refine ⟨by rw [List.length_drop, h.1], by have := h.2.1; omega, fun h0 => ?_⟩
  obtain ⟨b', off', e, hb, hc⟩ := h.2.2 (by omega)
  obtain ⟨rfl, rfl, _⟩ := Addr.mk.inj (Option.some.inj e)
  refine ⟨b, off + k * 4, rfl, hb, fun j x hj => ?_⟩
  rw [List.getElem?_drop] at hj
  obtain ⟨s, ⟨c0, c1, c2, c3⟩, h1⟩ := hc (k + j) x hj
  have e0 : off + (k + j) * 4 = off + k * 4 + j * 4 := by omega
  rw [e0] at c0 c1 c2 c3
  exact ⟨s, ⟨c0, c1, c2, c3⟩, h1⟩
/-- The slice v, which the call made, holds just these nodes as they are laid. -/
def NRaw (w : World) (base : Nat) (v : Value) (rs : List NR) : Prop := w.ownsRow base 62 3 v rs.length (rs.flatMap encNR)
/-- The slice at this address holds these nodes as they are laid. -/
def NRow (w : World) (ad : Option Addr) (m : Nat) (rs : List NR) : Prop := rs.length = m ∧ (0 < m → ∃ a', ad = some a' ∧ ∀ (j : Nat) (u : Value), (rs.flatMap encNR)[j]? = some u → w.cell? (a'.add j) = some u)
theorem encNRs_len (l : List NR) : (l.flatMap encNR).length = l.length * 3 := by
  induction l with
  | nil => rfl
  | cons t l ih => rw [List.flatMap_cons, List.length_append, ih, List.length_cons]; show 3 + _ = _; omega
theorem encNR_cell {u : Value} {l : List NR} (h : u ∈ l.flatMap encNR) : u.oneCell' = true := by
  obtain ⟨t, _, ht⟩ := List.mem_flatMap.1 h
  unfold encNR at ht
  simp only [List.mem_cons, List.not_mem_nil, or_false] at ht
  rcases ht with rfl | rfl | rfl <;> rfl
theorem NRaw.zero (w : World) (base : Nat) : NRaw w base (.slice none 0 0) [] := World.ownsRow_nil w base 62 3
theorem NRaw.stay {w w' : World} {base : Nat} {v : Value} {l : List NR} (h : NRaw w base v l) (hk : ∀ b, v.ownBlock = some b → w'.heap[b]? = w.heap[b]?) : NRaw w' base v l := by
  refine ⟨h.1, ?_⟩
  rcases h.2 with h0 | ⟨g, cap, cur, rfl, hbase, hh, h1, h2, h3, h4⟩
  · exact .inl h0
  · exact .inr ⟨g, cap, cur, rfl, hbase, (hk g rfl).trans hh, h1, h2, h3, h4⟩
theorem NRaw.kept {w w' : World} {base : Nat} {v : Value} {l : List NR} (h : NRaw w base v l) (hb : Below w.heap.size w w') : NRaw w' base v l := by
  have hlt := h.lt
  exact h.stay fun b e => hb.block b (hlt b e).2
theorem NRaw.other {w : World} {base : Nat} {v : Value} {l : List NR} (h : NRaw w base v l) {g : Nat} {cs : Array Value} {e : TypeId} {fr : Nat × Nat} (hg : w.heap[g]? = some (.cells cs e fr)) (he : e ≠ 62) : v.ownBlock ≠ some g := fun e1 => by
  rcases h.2 with ⟨rfl, _⟩ | ⟨b, cap, cur, rfl, _, hh, _⟩
  · cases e1
  · obtain rfl := Option.some.inj e1
    rw [hh] at hg
    exact he (Obj.cells.inj (Option.some.inj hg)).2.1.symm
theorem NRow.one {W : World} {g : Nat} {r : NR} (h : W.heap[g]? = some (.cells #[.int .i64 r.k, .string r.s, .slice r.a r.n r.c] 62 (0, 0))) : NRow W (some ⟨g, 0, none⟩) 1 [r] := by
  refine ⟨rfl, fun _ => ⟨_, rfl, fun j u hu => ?_⟩⟩
  rw [Go.WideShapes.add_plain, cell_of_row _ _ _ _ _ _ h, List.getElem?_toArray, Nat.zero_add]
  rw [show ([r].flatMap encNR) = encNR r by simp] at hu
  exact hu
/-- Nodes behind those that the call made. -/
theorem NRaw.add {w : World} {base : Nat} {v : Value} {l : List NR} (h : NRaw w base v l) (hb : base ≤ w.heap.size) {a : Option Addr} {m : Nat} (c : Nat) {l2 : List NR} (hr : NRow w a m l2) (hlen : l.length + m ≤ 1000000) (ty : Nat) :
    ∃ v' w', (Builtin.append_ #[22, 22] ty #[v, .slice a m c]).run Try.prog w = .ok v' w' ∧ NRaw w' base v' (l ++ l2) ∧ Below base w w' ∧ Keeps v w w' ∧ (v'.ownBlock = v.ownBlock ∨ v'.ownBlock = some w.heap.size) := by
  obtain ⟨i0, hi0, hzz⟩ := Option.map_eq_some_iff.1 info_node
  simp only [Prod.mk.injEq] at hzz
  obtain ⟨hz, hs1, hb1⟩ := hzz
  obtain ⟨hl2, hc⟩ := hr
  rcases a with _ | ad
  · have hm : m = 0 := by
      rcases Nat.eq_zero_or_pos m with h0 | h0
      · exact h0
      · obtain ⟨_, h, _⟩ := hc h0; cases h
    subst hm
    have hn : l2 = [] := List.eq_nil_of_length_eq_zero hl2
    subst hn
    refine ⟨v, w, ?_, by rw [List.append_nil]; exact h, Below.refl _ _, Keeps.refl _ _, .inl rfl⟩
    rcases h.2 with ⟨h0, _⟩ | ⟨g, cap, cur, rfl, _, hh, h1, h2, h3, h4⟩
    · rw [h0]; simp [Builtin.append_, run_underlying Try.underlying22, sizeOf, typeInfo, hi0, Builtin.lenOf, Builtin.firstCells]
    · simp [Builtin.append_, run_underlying Try.underlying22, sizeOf, typeInfo, hi0, Builtin.lenOf, Builtin.firstCells, storeCells]
      intro hx
      omega
  · have hcells : ∀ (j : Nat) (u : Value), (l2.flatMap encNR)[j]? = some u → w.cell? (ad.add j) = some u := fun j u hu => by
      rcases Nat.eq_zero_or_pos m with h0 | h0
      · rw [List.eq_nil_of_length_eq_zero (hl2.trans h0)] at hu; cases hu
      · obtain ⟨a', e, hcc⟩ := hc h0
        obtain rfl := Option.some.inj e
        exact hcc j u hu
    obtain ⟨v', w', hrun, hown, hgr, _, hat⟩ := run_append_own_at (P := Try.prog) w base 22 ty 62 i0 _ 3 48 Try.underlying22 hi0 hz hs1 hb1 rfl (by omega) v l.length (l.flatMap encNR) h ad m c (l2.flatMap encNR) (by rw [encNRs_len, hl2]) hcells
      (fun u hu => encNR_cell hu) (by unfold maxLen; omega) (by omega) hb
    have hlt := h.lt
    refine ⟨v', w', hrun, ?_, (Below.refl base w).grown hgr (by omega) (fun k hk => by have := hlt k hk; omega), ⟨hgr.size, fun b hb hne => hgr.block b hb (fun e => hne e.symm)⟩, hat⟩
    unfold NRaw
    rw [List.length_append, List.flatMap_append, hl2]
    exact hown
theorem step_append_nodesU {ops : Array Oper} {o : Oper} {a : Act} {K : Act → World → Prop} {Q : Exit → Act → World → Prop} {E : Prop} {w1 : World} (hgd : o.guard = none) (s x : Operand)
    (ho : o.op = .call { callee := .builtin .append, args := #[s, x], argTypes := #[22, 22] }) (base : Nat) (v : Value) (l : List NR) (ad : Option Addr) (m c : Nat) (l2 : List NR)
    (hs : a.eval s = v) (hx : a.eval x = .slice ad m c) (hB : NRaw w1 base v l) (hr : NRow w1 ad m l2) (hb : base ≤ w1.heap.size) (hlen : l.length + m ≤ 1000000)
    (h : ∀ v' w', NRaw w' base v' (l ++ l2) → Below base w1 w' → Keeps v w1 w' → K (a.put o.dst v') w') : if Region.wanted o (yielded ops a.tmps) = true then Oper.wp Try.prog o a w1 K Q else E := by
  have hwant : Region.wanted o (yielded ops a.tmps) = true := by simp [Region.wanted, hgd]
  rw [if_pos hwant]
  obtain ⟨v', w', hrun, hown, hbel, hkp, _⟩ := hB.add hb c hr hlen o.type
  unfold Oper.wp execOp
  simp only [ho, resolve, invoke, builtin, Sem.run_bind, Sem.run_pure, Result.andThen_ok, List.map_toArray, List.map_cons, List.map_nil, hs, hx, hrun]
  exact h v' w' hown hbel hkp
/-- Nodes that may be read are laid somehow. -/
theorem Nodes.rows {w : World} {bound : Nat} {a : Option Addr} {m : Nat} {l : List NodeL} (h : Nodes w bound a m l) : ∃ rs : List NR, NRow w a m rs ∧ rs.length = l.length ∧ ∀ (j : Nat) (r : NR) (t : NodeL), rs[j]? = some r → l[j]? = some t → r.k = t.kind ∧ r.s.toList = t.peer ∧ r.s.size ≤ maxLen ∧ Edges w bound r.a r.n t.arms := by
  have h1 := h.1
  rcases Nat.eq_zero_or_pos m with h0 | h0
  · subst h0
    have hn : l = [] := List.eq_nil_of_length_eq_zero h1
    subst hn
    exact ⟨[], ⟨rfl, fun h => absurd h (Nat.lt_irrefl 0)⟩, rfl, fun j r t h => by cases h⟩
  obtain ⟨b, off, rfl, _, _⟩ := h.2.2 h0
  have each : ∀ i, i < m → ∃ y : NR, (w.cell? ⟨b, off + i * 3, none⟩ = some (.int .i64 y.k) ∧ w.cell? ⟨b, off + i * 3 + 1, none⟩ = some (.string y.s) ∧ w.cell? ⟨b, off + i * 3 + 2, none⟩ = some (.slice y.a y.n y.c)) ∧ ∃ t, l[i]? = some t ∧ y.k = t.kind ∧ y.s.toList = t.peer ∧ y.s.size ≤ maxLen ∧ Edges w bound y.a y.n t.arms := fun i hi => by
    obtain ⟨b', off', kd, s, aa, an, ac, el, e, _, hx, hq, hs, hE⟩ := h.at_ hi
    obtain ⟨e1, e2, _⟩ := Addr.mk.inj (Option.some.inj e)
    subst e1 e2
    exact ⟨⟨kd, s, aa, an, ac⟩, hq, _, hx, rfl, rfl, hs, hE⟩
  haveI : Inhabited NR := ⟨⟨0, ⟨#[]⟩, none, 0, 0⟩⟩
  obtain ⟨f, hf⟩ := Go.Deep.choose_lt each
  refine ⟨(List.range m).map f, ⟨by simp, fun _ => ⟨_, rfl, fun j u hu => ?_⟩⟩, by simp [h1], fun j r t hr ht => ?_⟩
  · have hj : j < m * 3 := by
      obtain ⟨h2, _⟩ := List.getElem?_eq_some_iff.1 hu
      rw [encNRs_len] at h2
      simpa using h2
    have hjm : j / 3 < m := by omega
    have ht : ((List.range m).map f)[j / 3]? = some (f (j / 3)) := by rw [List.getElem?_map, List.getElem?_range hjm]; rfl
    have hu2 := flatNd_at _ (j / 3) _ ht (j % 3) (by omega)
    rw [show j / 3 * 3 + j % 3 = j by omega] at hu2
    have hu3 : (encNR (f (j / 3)))[j % 3]? = some u := hu2.symm.trans hu
    obtain ⟨⟨c0, c1, c2⟩, _⟩ := hf (j / 3) hjm
    rw [Go.WideShapes.add_plain]
    have hj3 : j % 3 = 0 ∨ j % 3 = 1 ∨ j % 3 = 2 := by omega
    rcases hj3 with e | e | e
    · rw [e] at hu3; rw [show off + j = off + j / 3 * 3 by omega, c0]; exact hu3
    · rw [e] at hu3; rw [show off + j = off + j / 3 * 3 + 1 by omega, c1]; exact hu3
    · rw [e] at hu3; rw [show off + j = off + j / 3 * 3 + 2 by omega, c2]; exact hu3
  · have hj : j < m := by have := (List.getElem?_eq_some_iff.1 hr).1; simpa using this
    rw [List.getElem?_map, List.getElem?_range hj] at hr
    obtain rfl := Option.some.inj hr
    obtain ⟨_, t', ht', h2⟩ := hf j hj
    obtain rfl := Option.some.inj (ht.symm.trans ht')
    exact h2
/-- Such a row reads as nodes. -/
theorem NRaw.sees {w : World} {base bound : Nat} {v : Value} {rs : List NR} {f : List NodeL} (h : NRaw w base v rs) (hl : f.length ≤ 1000000) (hrl : rs.length = f.length) (hb : bound ≤ w.heap.size) (hrd : ∀ (j : Nat) (r : NR) (t : NodeL), rs[j]? = some r → f[j]? = some t → r.k = t.kind ∧ r.s.toList = t.peer ∧ r.s.size ≤ maxLen ∧ Edges w bound r.a r.n t.arms) :
    ∃ a c, v = .slice a f.length c ∧ Nodes w w.heap.size a f.length f := by
  have hlt := h.lt
  rcases h.2 with ⟨h0, h1⟩ | ⟨g, cap, cur, rfl, hbase, hh, h1, h2, h3, h4⟩
  · have hz : f = [] := List.eq_nil_of_length_eq_zero (by omega)
    subst hz
    exact ⟨none, 0, h0, Nodes.zero _ _ _⟩
  · refine ⟨_, cap, by rw [hrl], rfl, by omega, fun _ => ⟨g, 0, rfl, (hlt g rfl).2, fun j t hj => ?_⟩⟩
    have hj' : j < f.length := (List.getElem?_eq_some_iff.1 hj).1
    have hr := List.getElem?_eq_getElem (l := rs) (i := j) (by omega)
    obtain ⟨e1, e2, e3, e4⟩ := hrd j _ t hr hj
    have hcell : ∀ i, i < 3 → w.cell? ⟨g, 0 + (j * 3 + i), none⟩ = (encNR (rs[j]'(by omega)))[i]? := fun i hi => by
      rw [cell_of_row w g _ cur 62 (0, 0) hh, Nat.zero_add, ← flatNd_at rs j _ hr i hi]
      have : (cur.toList.take (rs.length * 3))[j * 3 + i]? = (rs.flatMap encNR)[j * 3 + i]? := by rw [h4]
      rw [List.getElem?_take, if_pos (by omega)] at this
      rw [← Array.getElem?_toList, this]
    have c0 := hcell 0 (by omega)
    have c1 := hcell 1 (by omega)
    have c2 := hcell 2 (by omega)
    refine ⟨(rs[j]'(by omega)).s, (rs[j]'(by omega)).a, (rs[j]'(by omega)).n, (rs[j]'(by omega)).c, ⟨?_, ?_, ?_⟩, e2, e3, e4.more hb⟩
    · rw [show 0 + j * 3 = 0 + (j * 3 + 0) by omega, c0, ← e1]; rfl
    · rw [show 0 + j * 3 + 1 = 0 + (j * 3 + 1) by omega, c1]; rfl
    · rw [show 0 + j * 3 + 2 = 0 + (j * 3 + 2) by omega, c2]; rfl
theorem NRaw.form {W : World} {B : Nat} {v : Value} {rs : List NR} (h : NRaw W B v rs) : ∃ va vc, v = .slice va rs.length vc := by
  rcases h.2 with ⟨h0, h1⟩ | ⟨g, cap, cur, rfl, hbase, hh, h1, h2, h3, h4⟩
  · exact ⟨none, 0, by rw [h0, h1]⟩
  · exact ⟨_, _, rfl⟩
theorem NRow.on {w W : World} {bound m : Nat} {a : Option Addr} {rs : List NR} {l : List NodeL} (h : NRow w a m rs) (hN : Nodes w bound a m l) (hb : Below bound w W) : NRow W a m rs := by
  refine ⟨h.1, fun h0 => ?_⟩
  obtain ⟨a', e, hc⟩ := h.2 h0
  obtain ⟨b, off, e2, hlt, _⟩ := hN.2.2 h0
  obtain rfl := Option.some.inj (e.symm.trans e2)
  refine ⟨_, e, fun j u hj => ?_⟩
  have h1 := hc j u hj
  rw [Go.WideShapes.add_plain] at h1 ⊢
  exact (hb.cell (p := ⟨b, off + j, none⟩) hlt).trans h1
theorem NBox.thawV {W : World} {g : Nat} {kd : Int} {s : ByteArray} {aa : Option Addr} {an ac : Nat} (h : NBox W g kd s aa an ac) (j : Nat) : W.frozen? ⟨g, j, none⟩ = false := by
  unfold World.frozen?
  rw [show W.heap[g]? = _ from h]
  simp
theorem NBox.putsV {W : World} {g : Nat} {kd kd' : Int} {s s' : ByteArray} {aa aa' : Option Addr} {an ac an' ac' : Nat} (h : NBox W g kd s aa an ac) : NBox (((W.setCell ⟨g, 0, none⟩ (.int .i64 kd')).setCell ⟨g, 1, none⟩ (.string s')).setCell ⟨g, 2, none⟩ (.slice aa' an' ac')) g kd' s' aa' an' ac' := by
  have h0 : (W.setCell ⟨g, 0, none⟩ (.int .i64 kd')).heap[g]? = some (.cells #[.int .i64 kd', .string s, .slice aa an ac] 62 (0, 0)) := by rw [heap_setCell_same W g 0 _ _ _ h]; rfl
  have h1 : ((W.setCell ⟨g, 0, none⟩ (.int .i64 kd')).setCell ⟨g, 1, none⟩ (.string s')).heap[g]? = some (.cells #[.int .i64 kd', .string s', .slice aa an ac] 62 (0, 0)) := by rw [heap_setCell_same _ g 1 _ _ _ h0]; rfl
  unfold NBox
  rw [heap_setCell_same _ g 2 _ _ _ h1]
  rfl
/-- A node with edges of the call's own is stored in a box. -/
theorem fewer_node {w7 W : World} {g B : Nat} {v : Value} {l : List EdgeL} (k : Int) (s : ByteArray) (ho : EdOwn W B v l) (hg : NBox W g 0 ⟨#[]⟩ none 0 0) (hbel : Below w7.heap.size w7 W) (hB : w7.heap.size ≤ g) (hl : l.length ≤ 1000) :
    ∃ va vc, v = .slice va l.length vc ∧ NBox (((W.setCell ⟨g, 0, none⟩ (.int .i64 k)).setCell ⟨g, 1, none⟩ (.string s)).setCell ⟨g, 2, none⟩ (.slice va l.length vc)) g k s va l.length vc ∧
      Edges (((W.setCell ⟨g, 0, none⟩ (.int .i64 k)).setCell ⟨g, 1, none⟩ (.string s)).setCell ⟨g, 2, none⟩ (.slice va l.length vc)) (((W.setCell ⟨g, 0, none⟩ (.int .i64 k)).setCell ⟨g, 1, none⟩ (.string s)).setCell ⟨g, 2, none⟩ (.slice va l.length vc)).heap.size va l.length l ∧
      Below w7.heap.size w7 (((W.setCell ⟨g, 0, none⟩ (.int .i64 k)).setCell ⟨g, 1, none⟩ (.string s)).setCell ⟨g, 2, none⟩ (.slice va l.length vc)) := by
  have hne := ho.other (cs := #[.int .i64 0, .string ⟨#[]⟩, .slice none 0 0]) (e := 62) (fr := (0, 0)) hg (by decide)
  obtain ⟨ts, h1, _⟩ := ho
  have hlt := h1.lt
  obtain ⟨va, vc, rfl, hed, _, _⟩ := EdOwn.sees ⟨ts, h1, by assumption⟩ (by omega)
  have hset : Beside g W (((W.setCell ⟨g, 0, none⟩ (.int .i64 k)).setCell ⟨g, 1, none⟩ (.string s)).setCell ⟨g, 2, none⟩ (.slice va l.length vc)) := (((Beside.refl _ W).setCell 0 _).setCell 1 _).setCell 2 _
  refine ⟨va, vc, rfl, hg.putsV, hed.stay hset.size (fun b off e => hset.block b ?_ ?_), hbel.trans (hset.below hB hbel.size)⟩
  · subst e; exact (hlt b rfl).2
  · subst e; intro e2; exact hne (by rw [← e2]; rfl)
theorem BBox.putsV {W : World} {g : Nat} (h : BBox W g none 0 0 none 0 0 none 0 0) (va : Option Addr) (n vc : Nat) : BBox (((W.setCell ⟨g, 0, none⟩ (.slice va n vc)).setCell ⟨g, 1, none⟩ (.slice none 0 0)).setCell ⟨g, 2, none⟩ (.slice none 0 0)) g va n vc none 0 0 none 0 0 :=
  ((h.set0 va n vc).set1 none 0 0).set2 none 0 0
/-- A book of nodes of the call's own is stored in a box. -/
theorem fewer_end {w8 W : World} {g B : Nat} {v : Value} {rs : List NR} {r : NR} {ns : List NodeL} {t0 : NodeL} (hraw : NRaw W B v (rs ++ [r])) (hg : BBox W g none 0 0 none 0 0 none 0 0) (hbel : Below w8.heap.size w8 W) (hB : w8.heap.size ≤ g) (hrl : rs.length = ns.length) (hl : ns.length ≤ 1000)
    (hrd : ∀ (j : Nat) (r : NR) (t : NodeL), rs[j]? = some r → ns[j]? = some t → r.k = t.kind ∧ r.s.toList = t.peer ∧ r.s.size ≤ maxLen ∧ Edges w8 w8.heap.size r.a r.n t.arms) (hlast : r.k = t0.kind ∧ r.s.toList = t0.peer ∧ r.s.size ≤ maxLen ∧ Edges w8 w8.heap.size r.a r.n t0.arms) :
    ∃ va vc, v = .slice va (ns ++ [t0]).length vc ∧ BBox (((W.setCell ⟨g, 0, none⟩ (.slice va (ns ++ [t0]).length vc)).setCell ⟨g, 1, none⟩ (.slice none 0 0)).setCell ⟨g, 2, none⟩ (.slice none 0 0)) g va (ns ++ [t0]).length vc none 0 0 none 0 0 ∧
      Nodes (((W.setCell ⟨g, 0, none⟩ (.slice va (ns ++ [t0]).length vc)).setCell ⟨g, 1, none⟩ (.slice none 0 0)).setCell ⟨g, 2, none⟩ (.slice none 0 0)) (((W.setCell ⟨g, 0, none⟩ (.slice va (ns ++ [t0]).length vc)).setCell ⟨g, 1, none⟩ (.slice none 0 0)).setCell ⟨g, 2, none⟩ (.slice none 0 0)).heap.size va (ns ++ [t0]).length (ns ++ [t0]) ∧
      Below w8.heap.size w8 (((W.setCell ⟨g, 0, none⟩ (.slice va (ns ++ [t0]).length vc)).setCell ⟨g, 1, none⟩ (.slice none 0 0)).setCell ⟨g, 2, none⟩ (.slice none 0 0)) := by
  have hne := hraw.other (cs := #[.slice none 0 0, .slice none 0 0, .slice none 0 0]) (e := 26) (fr := (0, 0)) hg (by decide)
  have hall : ∀ (j : Nat) (r' : NR) (t : NodeL), (rs ++ [r])[j]? = some r' → (ns ++ [t0])[j]? = some t → r'.k = t.kind ∧ r'.s.toList = t.peer ∧ r'.s.size ≤ maxLen ∧ Edges w8 w8.heap.size r'.a r'.n t.arms := fun j r' t hr ht => by
    rcases Nat.lt_or_ge j rs.length with hlt | hge
    · rw [List.getElem?_append_left hlt] at hr
      rw [List.getElem?_append_left (by omega)] at ht
      exact hrd j r' t hr ht
    · rw [List.getElem?_append_right hge] at hr
      rw [List.getElem?_append_right (by omega), ← hrl] at ht
      have h0 : j - rs.length = 0 := by
        obtain ⟨h1, _⟩ := List.getElem?_eq_some_iff.1 hr
        simpa using h1
      rw [h0] at hr ht
      obtain rfl : r = r' := by simpa using hr
      obtain rfl : t0 = t := by simpa using ht
      exact hlast
  have hex : ∀ va n vc, Beside g W (((W.setCell ⟨g, 0, none⟩ (.slice va n vc)).setCell ⟨g, 1, none⟩ (.slice none 0 0)).setCell ⟨g, 2, none⟩ (.slice none 0 0)) := fun va n vc => (((Beside.refl _ W).setCell 0 _).setCell 1 _).setCell 2 _
  have hlt := hraw.lt
  obtain ⟨va, vc, hv, _⟩ := hraw.sees (f := ns ++ [t0]) (bound := w8.heap.size) (by simp; omega) (by simp [hrl]) hbel.size (fun j r' t hr ht => by
    obtain ⟨h1, h2, h3, h4⟩ := hall j r' t hr ht
    exact ⟨h1, h2, h3, h4.below hbel⟩)
  have hset := hex va (ns ++ [t0]).length vc
  have hbe2 := hbel.trans (hset.below hB hbel.size)
  have hraw2 := hraw.stay (w' := (((W.setCell ⟨g, 0, none⟩ (.slice va (ns ++ [t0]).length vc)).setCell ⟨g, 1, none⟩ (.slice none 0 0)).setCell ⟨g, 2, none⟩ (.slice none 0 0))) (fun b e => hset.block b (hlt b e).2 (fun e2 => hne (by rw [e, e2])))
  obtain ⟨va', vc', hv', hn'⟩ := hraw2.sees (f := ns ++ [t0]) (bound := w8.heap.size) (by simp; omega) (by simp [hrl]) hbe2.size (fun j r' t hr ht => by
    obtain ⟨h1, h2, h3, h4⟩ := hall j r' t hr ht
    exact ⟨h1, h2, h3, h4.below hbe2⟩)
  obtain ⟨e1, _, e3⟩ := Value.slice.inj (hv.symm.trans hv')
  subst e1 e3
  exact ⟨va, vc, hv, hg.putsV va _ vc, hn', hbe2⟩
end Go.Proofs.Ytgefhgcpnfbigaa

/- What every row of this seat needs: numbers and strings that came in, opened. -/
namespace Go.Proofs.Ytgefhgcpnfbigaa
open Go.ChangeShapes Go.WideShapes Go.ChangeAt Go.RowKit Go.Deep Go.Sort

theorem seatOwn : ownKnob Try.prog.godebug = none := by kernel_rfl
theorem seatLaidOut : laidOutB Try.prog = true := by kernel_rfl
theorem seatCells9 : Try.prog.cellsOf 9 = 1 := by kernel_rfl
theorem seatBytes9 : Try.prog.bytesOf 9 = 16 := by kernel_rfl
theorem seatCells2 : Try.prog.cellsOf 3 = 1 := by kernel_rfl
theorem seatBytes2 : Try.prog.bytesOf 3 = 8 := by kernel_rfl
theorem cell_lt2 {w : World} {a : Addr} {v : Value} (h : w.cell? a = some v) : a.block < w.heap.size := by
  rcases Nat.lt_or_ge a.block w.heap.size with hlt | hge
  · exact hlt
  · unfold World.cell? at h
    rw [Array.getElem?_eq_none hge] at h
    cases h
theorem i64_wf {n : Int} (h : (Lit.int .i64 n).wf = true) : inI64 n := by
  simp only [Lit.wf, Bool.and_eq_true, decide_eq_true_eq] at h
  have h1 : IntKind.i64.min = -9223372036854775808 := by decide
  have h2 : IntKind.i64.max = 9223372036854775807 := by decide
  rw [h1, h2] at h
  unfold inI64
  omega
theorem list1 {α : Type _} : ∀ {l : List α}, l.length = 1 → ∃ a, l = [a]
  | [a], _ => ⟨a, rfl⟩
  | [], h => by simp at h
  | _ :: _ :: _, h => by simp at h
theorem open_ints {H : Type} {enc : TypeId × Value → H} {W : World} {fuel : Nat} {v : Value} {x : DataW H × List MemPlace}
    (hf : DataW.trod enc Try.prog W 0 (fun _ => true) true fuel 24 [v] = some x)
    (hsz : ∀ elems spare, x.1 = .slice elems spare → (elems.length + spare.length) * 8 ≤ reachBytes) :
    ∃ (a : Option Addr) (n c : Nat) (l : List Int), v = .slice a n c ∧ Nums W W.heap.size a n l ∧ (∀ y ∈ l, inI64 y) ∧ n ≤ c ∧ c ≤ maxLen ∧ n * 8 ≤ 140737488351232 := by
  rcases open_slice Try.underlying24 hf with ⟨hcs, hx⟩ | ⟨a, len, cap, m, n, D, Pl, hcs, _, hl, hm, hmm, hx, hel⟩
  · injection hcs with hcs _
    subst hcs
    exact ⟨none, 0, 0, [], rfl, Nums.zero _ _ _, (fun y hy => by cases hy), Nat.le_refl _, Nat.zero_le _, by omega⟩
  · injection hcs with hcs _
    subst hcs
    simp only [if_true] at hmm
    have each : ∀ i, i < len → ∃ y : Int, W.cell? (a.add i) = some (.int .i64 y) ∧ inI64 y := by
      intro i hi
      obtain ⟨cs', h1, h2⟩ := hel i (by omega)
      rw [seatCells2] at h1
      obtain ⟨_, hlen, hcell⟩ := World.cells?_some h1
      obtain ⟨u, rfl⟩ := list1 hlen
      obtain ⟨y, e0, _, hw⟩ := DataW.trod_int Try.underlying3 h2
      injection e0 with e0 _
      subst e0
      have e1 := hcell 0 (by omega)
      rw [Nat.mul_one, add_add, Nat.add_zero] at e1
      exact ⟨y, by simpa using e1, i64_wf hw⟩
    obtain ⟨f, hfn⟩ := choose_lt each
    refine ⟨some a, len, cap, (List.range len).map f, rfl, ⟨by simp, by unfold maxLen at hm; omega, fun hpos => ?_⟩, fun y hy => ?_, hl, hm, ?_⟩
    · obtain ⟨b, off, spot⟩ := a
      have hspot : spot = none := by
        have := (hfn 0 hpos).1
        simpa [Addr.add] using World.cell?_spot this
      subst hspot
      refine ⟨b, off, rfl, ?_, fun j t hj => ?_⟩
      · have := (hfn 0 hpos).1
        rw [add_plain] at this
        exact cell_lt2 this
      · rw [List.getElem?_map] at hj
        obtain ⟨i, hi, rfl⟩ := Option.map_eq_some_iff.1 hj
        have hj' : j < len := by
          rcases Nat.lt_or_ge j len with h | h
          · exact h
          · rw [List.getElem?_eq_none (by simpa using h)] at hi; cases hi
        rw [List.getElem?_range hj'] at hi
        injection hi with hi
        subst hi
        have := (hfn j hj').1
        rwa [add_plain] at this
    · obtain ⟨i, hi, rfl⟩ := List.mem_map.1 hy
      exact (hfn i (List.mem_range.1 hi)).2
    · have := hsz _ _ (by rw [hx])
      simp only [List.length_map, List.length_range, reachBytes] at this
      omega
/-- A slice of strings that came in reads as some strings. -/
theorem open_strs {H : Type} {enc : TypeId × Value → H} {W : World} {a0 : Option Addr} {len cap : Nat} {d0 : DataW H} {p : List MemPlace}
    (h0 : DataW.Trod enc Try.prog W 0 (fun _ => true) true 23 (.slice a0 len cap) d0 p)
    (hsz : ∀ elems spare, d0 = .slice elems spare → (elems.length + spare.length) * 16 ≤ reachBytes) : ∃ ss, Strs W W.heap.size a0 len ss ∧ len ≤ cap := by
  obtain ⟨fuel, hf⟩ := h0
  rcases open_strings Try.underlying23 Try.underlying9 seatCells9 hf with ⟨hcs, hx⟩ | ⟨a, len', cap', zs, hcs, _, hl, hm, hz, hx, hcell, hwz⟩
  · simp [Value.cells] at hcs
    obtain ⟨rfl, rfl, rfl⟩ := hcs
    exact ⟨[], Strs.zero _ _ _, Nat.le_refl 0⟩
  · simp [Value.cells] at hcs
    obtain ⟨rfl, rfl, rfl⟩ := hcs
    simp only [Prod.mk.injEq] at hx
    obtain ⟨hd, _⟩ := hx
    simp only [if_true] at hz
    have hreach : len * 16 ≤ 140737488351232 := by
      have := hsz _ _ hd
      simp only [strs, List.length_map, List.length_take, List.length_drop, reachBytes] at this
      omega
    refine ⟨(zs.take len).map (·.toList), ⟨by simp; omega, hreach, ?_, fun hpos => ?_⟩, hl⟩
    · intro s hs
      obtain ⟨x, hx, rfl⟩ := List.mem_map.1 hs
      have : x.toList.length = x.size := by rw [ByteArray.toList_eq]; simp
      rw [this]
      exact hwz x (List.mem_of_mem_take hx)
    · obtain ⟨b, off, spot⟩ := a
      have hspot : spot = none := by simpa [Addr.add] using World.cell?_spot (hcell 0 (by omega))
      subst hspot
      refine ⟨b, off, rfl, ?_, fun j s hj => ?_⟩
      · have := hcell 0 (by omega)
        rw [add_plain] at this
        exact cell_lt2 this
      · rw [List.getElem?_map] at hj
        obtain ⟨x, hx, rfl⟩ := Option.map_eq_some_iff.1 hj
        have hjz : zs[j]? = some x := by
          rw [List.getElem?_take] at hx
          split at hx
          · exact hx
          · cases hx
        have hjl : j < zs.length := by
          rcases Nat.lt_or_ge j zs.length with h | h
          · exact h
          · rw [List.getElem?_eq_none h] at hjz; cases hjz
        have := hcell j hjl
        rw [add_plain] at this
        rw [this]
        have hxe : zs.getD j ByteArray.empty = x := by rw [List.getD_eq_getElem?_getD, hjz]; rfl
        rw [hxe]
        show some (Value.string x) = some (Value.string ⟨x.toList.toArray⟩)
        rw [ByteArray.toList_eq]
theorem args_below {H : Type} {enc : TypeId × Value → H} {W : World} {v : Value} {d : DataW H} {p : List MemPlace} {t : TypeId} (h : DataW.Trod enc Try.prog W 0 (fun _ => true) true t v d p) : ∀ x ∈ p, x.block < W.heap.size := by
  obtain ⟨m, hm⟩ := h
  exact DataW.trod_lt m _ _ _ hm
end Go.Proofs.Ytgefhgcpnfbigaa

/- Contract of layer 13's first. (Printed by gen/genSt4.py.) -/
namespace Go.Proofs.Ytgefhgcpnfbigaa
open Go.RowKit Go.Sort

theorem stageIn13 {w : World} {na sa ra pa a ma : Option Addr} {nn sn rn pn n mn : Nat} {b : BookL} {rs : List Str} {s : StgL} (h1 : BkIn w w.heap.size na nn sa sn ra rn b) (h2 : Strs w w.heap.size pa pn rs) (h3 : StIn w w.heap.size a n ma mn s) : StArg w na nn sa sn ra rn pa pn a n ma mn b rs s := ⟨h1, h2, h3⟩
theorem Movs.on13 {W W' : World} {a : Option Addr} {n : Nat} {l : List MoveL} (h : Movs W W.heap.size a n l) (hb : Below W.heap.size W W') : Movs W' W'.heap.size a n l := h.on hb
theorem ints01 {W : World} {g : Nat} {x y : Int} (h : W.heap[g]? = some (.cells #[.int .i64 x, .int .i64 y] 3 (0, 0))) : Nums W W.heap.size (some ⟨g, 0, none⟩) 2 [x, y] := by
  refine ⟨rfl, by omega, fun _ => ⟨g, 0, rfl, (Array.getElem?_eq_some_iff.1 h).1, fun j z hj => ?_⟩⟩
  match j, hj with
  | 0, hj =>
    obtain rfl := Option.some.inj hj
    rw [cell_of_row _ _ _ _ _ _ h]; rfl
  | 1, hj =>
    obtain rfl := Option.some.inj hj
    rw [cell_of_row _ _ _ _ _ _ h]; rfl
  | j + 2, hj => simp at hj
theorem oneMove13 {W : World} {g : Nat} {k r : Int} {s : ByteArray} (h : W.heap[g]? = some (.cells #[.int .i64 k, .int .i64 r, .string s] 40 (0, 0))) (hs : s.size ≤ maxLen) : Movs W W.heap.size (some ⟨g, 0, none⟩) 1 [⟨k, r, s.toList⟩] := by
  refine ⟨rfl, by omega, fun _ => ⟨g, 0, rfl, (Array.getElem?_eq_some_iff.1 h).1, fun j z hj => ?_⟩⟩
  match j, hj with
  | 0, hj =>
    obtain rfl := Option.some.inj hj
    refine ⟨⟨k, r, s⟩, fun i hi => ?_, rfl, hs⟩
    rw [cell_of_row _ _ _ _ _ _ h]
    match i, hi with
    | 0, _ => rfl
    | 1, _ => rfl
    | 2, _ => rfl
  | j + 1, hj => simp at hj
set_option maxHeartbeats 32000000 in
set_option maxRecDepth 20000 in
theorem first13_any (w : World) : Calls Try.prog 20 #[] w fun e w' => e = .returned (.bool true) ∧ Below w.heap.size w w' := by
  have CG := Lib.hid (given13_any w)
  go_enter Try.func20, Try.ntmps20
  go_upto_region 2 with (first
    | (go_at_call 58; (with_reducible refine CG.out.mono ?_)
       rintro e w0 ⟨⟨na, nc, rfl, hin⟩, hb0⟩
       have HB0 := Lib.hid hb0
       have HIN := Lib.hid hin
       clear hin hb0)
    | fail)
  have HBK := Lib.hid (HIN.out.on13 (tu1 w0 (.cells #[.slice na 3 nc, .slice none 0 0, .slice none 0 0] 26)))
  have HBX := Lib.hid (show BBox (w0.alloc (.cells #[.slice na 3 nc, .slice none 0 0, .slice none 0 0] 26)) w0.heap.size na 3 nc none 0 0 none 0 0 from heap_alloc_new w0 _)
  have HBW := Lib.hid (below_on HB0.out (tu1 w0 (.cells #[.slice na 3 nc, .slice none 0 0, .slice none 0 0] 26)))
  generalize w0.heap.size = g1 at HBX ⊢
  generalize w0.alloc (.cells #[.slice na 3 nc, .slice none 0 0, .slice none 0 0] 26) = w1 at HBK HBX HBW ⊢
  clear HIN HB0 CG
  have HF := Lib.hid (fun (W : World) (hW : Below w1.heap.size w1 W) => show BkIn W W.heap.size na 3 none 0 none 0 exB13 ∧ BBox W g1 na 3 nc none 0 0 none 0 0 from ⟨HBK.out.on13 hW, HBX.out.on hW HBX.out.lt⟩)
  have HS := Lib.hid (fun (W : World) (hW : Below w1.heap.size w1 W) => show W.cell? ⟨g1, 0, none⟩ = some (.slice na 3 nc) ∧ W.cell? ⟨g1, 1, none⟩ = some (.slice none 0 0) ∧ W.cell? ⟨g1, 2, none⟩ = some (.slice none 0 0) from (HF.out W hW).2.cells)
  go_cut [2, 3] (fun v er wx => ∃ (g2 : Nat) (a : Option Addr) (n c : Nat) (ma : Option Addr) (mn mc lo hi : Nat), v = .pointer (some ⟨g2, 0, none⟩) ∧ er = .int .i64 0 ∧ Hid (Below w1.heap.size w1 wx) ∧ Hid (SBox wx g2 a n c ma mn mc) ∧ Hid (Kp13 wx lo hi a n ma mn exS13) ∧ (g2 < lo ∨ hi ≤ g2))
  case first =>
    have HBd := Lib.hid (show Below w1.heap.size w1 w1.drew from bel_drewN (Below.refl _ _) 1)
    obtain ⟨wd, hwd⟩ : ∃ wd : World, wd = w1.drew := ⟨_, rfl⟩
    rw [← hwd] at HBd
    refine wp_region_held_drew (S := fun W => W.cell? ⟨g1, 0, none⟩ = some (.slice na 3 nc) ∧ W.cell? ⟨g1, 1, none⟩ = some (.slice none 0 0) ∧ W.cell? ⟨g1, 2, none⟩ = some (.slice none 0 0)) (by kernel_rfl) (by rw [← hwd]; exact HS.out _ HBd.out) (fun hHeld => ?_)
    rw [← hwd]
    rw [← hwd] at hHeld
    clear hwd
    try simp only [Act.put, List.setIfInBounds_toArray]
    refine' wpAnyH_take (i := 0) (v := _) rfl (by kernel_rfl) (by kernel_rfl) (by kernel_rfl) (fun _ _ _ h => h) (Or.inl ⟨by kernel_rfl, ?hya0⟩) (by assumption) ?resta0
    case hya0 => intro W hSw; (try dsimp only at hSw); first | (go_simp; done) | (go_simp; with_reducible rfl)
    try simp only [Act.put, List.getElem_toArray, List.getElem_cons_zero, List.setIfInBounds_toArray, List.set_cons_succ, List.set_cons_zero]
    refine wpAnyH_ready (rs := [1, 2, 7]) (by kernel_rfl) (by simp) ?_
    refine (AllReadyH.cons (i := 1) (o := _) rfl (fun K hK => ?bra1) (AllReadyH.cons (i := 2) (o := _) rfl (fun K hK => ?bra2) (AllReadyH.cons (i := 7) (o := _) rfl (fun K hK => ?bra7) AllReadyH.nil)))
    case bra1 =>
     go_simp
     go_at_call 38
     with_reducible refine (ab_any wd).mono ?_
     rintro e wa1 ⟨⟨ga, rfl, hswa1⟩, hbwa1⟩
     have HBwa1 := Lib.hid (HBd.out.trans ((hbwa1).mono HBd.out.size))
     have HRwa1n := Lib.hid hswa1
     clear hswa1 hbwa1
     refine hK.out _ _ (HS.out _ HBwa1.out) (fun hHeld => ?_)
     clear hK K
     try simp only [Act.put, List.getElem_toArray, List.getElem_cons_succ, List.getElem_cons_zero, List.setIfInBounds_toArray, List.set_cons_succ, List.set_cons_zero]
     refine wpAnyH_ready (rs := [2, 7]) (by kernel_rfl) (by simp) ?_
     refine (AllReadyH.cons (i := 2) (o := _) rfl (fun K hK => ?brax12) (AllReadyH.cons (i := 7) (o := _) rfl (fun K hK => ?brax17) AllReadyH.nil))
     case brax12 =>
      go_simp
      obtain ⟨wax12, hwax12⟩ : ∃ W : World, W = wa1.alloc (.cells #[.int .i64 0, .int .i64 1] 3) := ⟨_, rfl⟩
      have htwax12 : Below wa1.heap.size wa1 wax12 := by rw [hwax12]; exact tu1 wa1 _
      have HBwax12 := Lib.hid (HBwa1.out.trans ((htwax12).mono HBwa1.out.size))
      have HRwax12 := Lib.hid (HRwa1n.out.on13 htwax12)
      have HIwax12n := Lib.hid (show Nums wax12 wax12.heap.size (some ⟨wa1.heap.size, 0, none⟩) 2 [0, 1] by rw [hwax12]; exact ints01 (heap_alloc_new wa1 _))
      rw [← hwax12]
      clear hwax12 htwax12
      refine hK.out _ _ (HS.out _ HBwax12.out) (fun hHeld => ?_)
      clear hK K
      try simp only [Act.put, List.getElem_toArray, List.getElem_cons_succ, List.getElem_cons_zero, List.setIfInBounds_toArray, List.set_cons_succ, List.set_cons_zero]
      refine wpAnyH_ready (rs := [3, 7]) (by kernel_rfl) (by simp) ?_
      refine (AllReadyH.cons (i := 3) (o := _) rfl (fun K hK => ?brax1x23) (AllReadyH.cons (i := 7) (o := _) rfl (fun K hK => ?brax1x27) AllReadyH.nil))
      case brax1x23 =>
       go_simp
       go_at_call 24
       with_reducible refine (stBegin_any na 3 nc none 0 0 none 0 0 (some ⟨ga, 0, none⟩) 2 2 (some ⟨wa1.heap.size, 0, none⟩) 2 2 exB13 abS [0, 1] wax12 (Nat.le_refl _) (by omega) (HF.out _ HBwax12.out).1 HRwax12.out HIwax12n.out).mono ?_
       rintro e wax1x23 ⟨hstwax1x23, hbwax1x23⟩
       obtain ⟨a, n, c, ma, mn, mc, rfl, hkpwax1x23⟩ := hstwax1x23.kp hbwax1x23
       rw [exBegin13] at hkpwax1x23 ⊢
       have HBwax1x23 := Lib.hid (HBwax12.out.trans ((hbwax1x23).mono HBwax12.out.size))
       have HKwax1x23n := Lib.hid hkpwax1x23
       clear hkpwax1x23 hstwax1x23 hbwax1x23
       refine hK.out _ _ (HS.out _ HBwax1x23.out) (fun hHeld => ?_)
       clear hK K
       refine' wpAnyH_take (i := 4) (v := _) rfl (by kernel_rfl) (by kernel_rfl) (by kernel_rfl) (fun _ _ _ h => h) (Or.inl ⟨by kernel_rfl, ?hyax1x2x34⟩) (by assumption) ?restax1x2x34
       case hyax1x2x34 => intro W hSw; (try dsimp only at hSw); first | (go_simp; done) | (go_simp; with_reducible rfl)
       try simp only [Act.put]
       refine' wpAnyH_take (i := 5) (v := _) rfl (by kernel_rfl) (by kernel_rfl) (by kernel_rfl) (fun _ _ _ h => h) (Or.inl ⟨by kernel_rfl, ?hyax1x2x35⟩) (by assumption) ?restax1x2x35
       case hyax1x2x35 => intro W hSw; (try dsimp only at hSw); first | (go_simp; done) | (go_simp; with_reducible rfl)
       try simp only [Act.put, List.getElem_toArray, List.getElem_cons_succ, List.getElem_cons_zero, List.setIfInBounds_toArray, List.set_cons_succ, List.set_cons_zero]
       refine' wpAnyH_take (i := 6) (v := _) rfl (by kernel_rfl) (by kernel_rfl) (by kernel_rfl) (fun _ _ _ h => h) (Or.inl ⟨by kernel_rfl, ?hyax1x2x36⟩) (by assumption) ?restax1x2x36
       case hyax1x2x36 => intro W hSw; (try dsimp only at hSw); first | (go_simp; done) | (go_simp; with_reducible rfl)
       try simp only [Act.put, List.getElem_toArray, List.getElem_cons_succ, List.getElem_cons_zero, List.setIfInBounds_toArray, List.set_cons_succ, List.set_cons_zero]
       refine wpAnyH_ready (rs := [7]) (by kernel_rfl) (by simp) ?_
       refine AllReadyH.cons (i := 7) (o := _) rfl (fun K hK => ?_) AllReadyH.nil
       go_simp
       obtain ⟨wax1x2x37, hwax1x2x37⟩ : ∃ W : World, W = wax1x23.alloc (.cells #[.slice none 0 0, .slice none 0 0] 38) := ⟨_, rfl⟩
       have htwax1x2x37 : Below wax1x23.heap.size wax1x23 wax1x2x37 := by rw [hwax1x2x37]; exact tu1 wax1x23 _
       have HBwax1x2x37 := Lib.hid (HBwax1x23.out.trans ((htwax1x2x37).mono HBwax1x23.out.size))
       have HKwax1x2x37 := Lib.hid (HKwax1x23n.out.on13 htwax1x2x37)
       have HXwax1x2x37n := Lib.hid (show SBox wax1x2x37 wax1x23.heap.size none 0 0 none 0 0 by rw [hwax1x2x37]; exact heap_alloc_new wax1x23 _)
       have hgewax1x2x37 : w1.heap.size ≤ wax1x23.heap.size := HBwax1x23.out.size
       rw [← hwax1x2x37]
       have hglwax1x2x37 : wax1x23.heap.size < wax1x2x37.heap.size := HXwax1x2x37n.out.lt
       clear hwax1x2x37 htwax1x2x37
       have hap : wax1x23.heap.size < wax12.heap.size ∨ wax1x23.heap.size ≤ wax1x23.heap.size := .inr (by have := HKwax1x23n.out.le; omega)
       refine hK.out _ _ (HS.out _ HBwax1x2x37.out) (fun hHeld => ?_)
       clear hK K
       try simp only [Act.put, List.getElem_toArray, List.getElem_cons_succ, List.getElem_cons_zero, List.setIfInBounds_toArray, List.set_cons_succ, List.set_cons_zero]
       refine wpAnyH_ready (rs := [8]) (by kernel_rfl) (by simp) ?_
       refine AllReadyH.cons (i := 8) (o := _) rfl (fun K hK => ?_) AllReadyH.nil
       obtain ⟨y0, y1⟩ := HXwax1x2x37n.out.cells
       have f0 := HXwax1x2x37n.out.thaw 0
       have f1 := HXwax1x2x37n.out.thaw 1
       go_simp
       have hset := set13 wax1x2x37 wax1x23.heap.size (.slice a n c) (.slice ma mn mc)
       have HBs := Lib.hid (HBwax1x2x37.out.trans (hset.below hgewax1x2x37 HBwax1x2x37.out.size))
       have HKs := Lib.hid (HKwax1x2x37.out.aside hset hap)
       have HXs := Lib.hid (SBox.fill (a' := a) (n' := n) (c' := c) (ma' := ma) (mn' := mn) (mc' := mc) HXwax1x2x37n.out)
       clear hset y0 y1 f0 f1
       refine hK.out _ _ (HS.out _ HBs.out) (fun hHeld => ?_)
       clear hK K
       try simp only [Act.put, List.setIfInBounds_toArray]
       refine' wpAnyH_take (i := 9) (v := _) rfl (by kernel_rfl) (by kernel_rfl) (by kernel_rfl) (fun _ _ _ h => h) (Or.inl ⟨by kernel_rfl, ?hyax1x2x39⟩) (by assumption) ?restax1x2x39
       case hyax1x2x39 => intro W hSw; (try dsimp only at hSw); first | (go_simp; done) | (go_simp; with_reducible rfl)
       try simp only [Act.put, List.getElem_toArray, List.getElem_cons_succ, List.getElem_cons_zero, List.setIfInBounds_toArray, List.set_cons_succ, List.set_cons_zero]
       refine wpAnyH_done (by kernel_rfl) ?_ _
       try simp only [Act.put, List.getElem_toArray, List.getElem_cons_succ, List.getElem_cons_zero, List.setIfInBounds_toArray, List.set_cons_succ, List.set_cons_zero]
       go_wp2_with fail
       all_goals
        go_meet
        case rel => exact ⟨_, a, n, c, ma, mn, mc, _, _, rfl, rfl, HBs, HXs, HKs, hap⟩
      case brax1x27 =>
       go_simp
       obtain ⟨wax1x27, hwax1x27⟩ : ∃ W : World, W = wax12.alloc (.cells #[.slice none 0 0, .slice none 0 0] 38) := ⟨_, rfl⟩
       have htwax1x27 : Below wax12.heap.size wax12 wax1x27 := by rw [hwax1x27]; exact tu1 wax12 _
       have HBwax1x27 := Lib.hid (HBwax12.out.trans ((htwax1x27).mono HBwax12.out.size))
       have HRwax1x27 := Lib.hid (HRwax12.out.on13 htwax1x27)
       have HIwax1x27 := Lib.hid (HIwax12n.out.on13 htwax1x27)
       have HXwax1x27n := Lib.hid (show SBox wax1x27 wax12.heap.size none 0 0 none 0 0 by rw [hwax1x27]; exact heap_alloc_new wax12 _)
       have hgewax1x27 : w1.heap.size ≤ wax12.heap.size := HBwax12.out.size
       rw [← hwax1x27]
       have hglwax1x27 : wax12.heap.size < wax1x27.heap.size := HXwax1x27n.out.lt
       clear hwax1x27 htwax1x27
       refine hK.out _ _ (HS.out _ HBwax1x27.out) (fun hHeld => ?_)
       clear hK K
       try simp only [Act.put, List.getElem_toArray, List.getElem_cons_succ, List.getElem_cons_zero, List.setIfInBounds_toArray, List.set_cons_succ, List.set_cons_zero]
       refine wpAnyH_ready (rs := [3]) (by kernel_rfl) (by simp) ?_
       refine AllReadyH.cons (i := 3) (o := _) rfl (fun K hK => ?_) AllReadyH.nil
       go_simp
       go_at_call 24
       with_reducible refine (stBegin_any na 3 nc none 0 0 none 0 0 (some ⟨ga, 0, none⟩) 2 2 (some ⟨wa1.heap.size, 0, none⟩) 2 2 exB13 abS [0, 1] wax1x27 (Nat.le_refl _) (by omega) (HF.out _ HBwax1x27.out).1 HRwax1x27.out HIwax1x27.out).mono ?_
       rintro e wax1x2x73 ⟨hstwax1x2x73, hbwax1x2x73⟩
       obtain ⟨a, n, c, ma, mn, mc, rfl, hkpwax1x2x73⟩ := hstwax1x2x73.kp hbwax1x2x73
       rw [exBegin13] at hkpwax1x2x73 ⊢
       have HBwax1x2x73 := Lib.hid (HBwax1x27.out.trans ((hbwax1x2x73).mono HBwax1x27.out.size))
       have HXwax1x2x73 := Lib.hid (HXwax1x27n.out.on13 hbwax1x2x73)
       have HKwax1x2x73n := Lib.hid hkpwax1x2x73
       have hap : wax12.heap.size < wax1x27.heap.size ∨ wax1x2x73.heap.size ≤ wax12.heap.size := .inl HXwax1x27n.out.lt
       clear hkpwax1x2x73 hstwax1x2x73 hbwax1x2x73
       refine hK.out _ _ (HS.out _ HBwax1x2x73.out) (fun hHeld => ?_)
       clear hK K
       refine' wpAnyH_take (i := 4) (v := _) rfl (by kernel_rfl) (by kernel_rfl) (by kernel_rfl) (fun _ _ _ h => h) (Or.inl ⟨by kernel_rfl, ?hyax1x2x74⟩) (by assumption) ?restax1x2x74
       case hyax1x2x74 => intro W hSw; (try dsimp only at hSw); first | (go_simp; done) | (go_simp; with_reducible rfl)
       try simp only [Act.put]
       refine' wpAnyH_take (i := 5) (v := _) rfl (by kernel_rfl) (by kernel_rfl) (by kernel_rfl) (fun _ _ _ h => h) (Or.inl ⟨by kernel_rfl, ?hyax1x2x75⟩) (by assumption) ?restax1x2x75
       case hyax1x2x75 => intro W hSw; (try dsimp only at hSw); first | (go_simp; done) | (go_simp; with_reducible rfl)
       try simp only [Act.put, List.getElem_toArray, List.getElem_cons_succ, List.getElem_cons_zero, List.setIfInBounds_toArray, List.set_cons_succ, List.set_cons_zero]
       refine' wpAnyH_take (i := 6) (v := _) rfl (by kernel_rfl) (by kernel_rfl) (by kernel_rfl) (fun _ _ _ h => h) (Or.inl ⟨by kernel_rfl, ?hyax1x2x76⟩) (by assumption) ?restax1x2x76
       case hyax1x2x76 => intro W hSw; (try dsimp only at hSw); first | (go_simp; done) | (go_simp; with_reducible rfl)
       try simp only [Act.put, List.getElem_toArray, List.getElem_cons_succ, List.getElem_cons_zero, List.setIfInBounds_toArray, List.set_cons_succ, List.set_cons_zero]
       refine wpAnyH_ready (rs := [8]) (by kernel_rfl) (by simp) ?_
       refine AllReadyH.cons (i := 8) (o := _) rfl (fun K hK => ?_) AllReadyH.nil
       obtain ⟨y0, y1⟩ := HXwax1x2x73.out.cells
       have f0 := HXwax1x2x73.out.thaw 0
       have f1 := HXwax1x2x73.out.thaw 1
       go_simp
       have hset := set13 wax1x2x73 wax12.heap.size (.slice a n c) (.slice ma mn mc)
       have HBs := Lib.hid (HBwax1x2x73.out.trans (hset.below hgewax1x27 HBwax1x2x73.out.size))
       have HKs := Lib.hid (HKwax1x2x73n.out.aside hset hap)
       have HXs := Lib.hid (SBox.fill (a' := a) (n' := n) (c' := c) (ma' := ma) (mn' := mn) (mc' := mc) HXwax1x2x73.out)
       clear hset y0 y1 f0 f1
       refine hK.out _ _ (HS.out _ HBs.out) (fun hHeld => ?_)
       clear hK K
       try simp only [Act.put, List.setIfInBounds_toArray]
       refine' wpAnyH_take (i := 9) (v := _) rfl (by kernel_rfl) (by kernel_rfl) (by kernel_rfl) (fun _ _ _ h => h) (Or.inl ⟨by kernel_rfl, ?hyax1x2x79⟩) (by assumption) ?restax1x2x79
       case hyax1x2x79 => intro W hSw; (try dsimp only at hSw); first | (go_simp; done) | (go_simp; with_reducible rfl)
       try simp only [Act.put, List.getElem_toArray, List.getElem_cons_succ, List.getElem_cons_zero, List.setIfInBounds_toArray, List.set_cons_succ, List.set_cons_zero]
       refine wpAnyH_done (by kernel_rfl) ?_ _
       try simp only [Act.put, List.getElem_toArray, List.getElem_cons_succ, List.getElem_cons_zero, List.setIfInBounds_toArray, List.set_cons_succ, List.set_cons_zero]
       go_wp2_with fail
       all_goals
        go_meet
        case rel => exact ⟨_, a, n, c, ma, mn, mc, _, _, rfl, rfl, HBs, HXs, HKs, hap⟩
     case brax17 =>
      go_simp
      obtain ⟨wax17, hwax17⟩ : ∃ W : World, W = wa1.alloc (.cells #[.slice none 0 0, .slice none 0 0] 38) := ⟨_, rfl⟩
      have htwax17 : Below wa1.heap.size wa1 wax17 := by rw [hwax17]; exact tu1 wa1 _
      have HBwax17 := Lib.hid (HBwa1.out.trans ((htwax17).mono HBwa1.out.size))
      have HRwax17 := Lib.hid (HRwa1n.out.on13 htwax17)
      have HXwax17n := Lib.hid (show SBox wax17 wa1.heap.size none 0 0 none 0 0 by rw [hwax17]; exact heap_alloc_new wa1 _)
      have hgewax17 : w1.heap.size ≤ wa1.heap.size := HBwa1.out.size
      rw [← hwax17]
      have hglwax17 : wa1.heap.size < wax17.heap.size := HXwax17n.out.lt
      clear hwax17 htwax17
      refine hK.out _ _ (HS.out _ HBwax17.out) (fun hHeld => ?_)
      clear hK K
      try simp only [Act.put, List.getElem_toArray, List.getElem_cons_succ, List.getElem_cons_zero, List.setIfInBounds_toArray, List.set_cons_succ, List.set_cons_zero]
      refine wpAnyH_ready (rs := [2]) (by kernel_rfl) (by simp) ?_
      refine AllReadyH.cons (i := 2) (o := _) rfl (fun K hK => ?_) AllReadyH.nil
      go_simp
      obtain ⟨wax1x72, hwax1x72⟩ : ∃ W : World, W = wax17.alloc (.cells #[.int .i64 0, .int .i64 1] 3) := ⟨_, rfl⟩
      have htwax1x72 : Below wax17.heap.size wax17 wax1x72 := by rw [hwax1x72]; exact tu1 wax17 _
      have HBwax1x72 := Lib.hid (HBwax17.out.trans ((htwax1x72).mono HBwax17.out.size))
      have HRwax1x72 := Lib.hid (HRwax17.out.on13 htwax1x72)
      have HXwax1x72 := Lib.hid (HXwax17n.out.on13 htwax1x72)
      have HIwax1x72n := Lib.hid (show Nums wax1x72 wax1x72.heap.size (some ⟨wax17.heap.size, 0, none⟩) 2 [0, 1] by rw [hwax1x72]; exact ints01 (heap_alloc_new wax17 _))
      rw [← hwax1x72]
      clear hwax1x72 htwax1x72
      refine hK.out _ _ (HS.out _ HBwax1x72.out) (fun hHeld => ?_)
      clear hK K
      try simp only [Act.put, List.getElem_toArray, List.getElem_cons_succ, List.getElem_cons_zero, List.setIfInBounds_toArray, List.set_cons_succ, List.set_cons_zero]
      refine wpAnyH_ready (rs := [3]) (by kernel_rfl) (by simp) ?_
      refine AllReadyH.cons (i := 3) (o := _) rfl (fun K hK => ?_) AllReadyH.nil
      go_simp
      go_at_call 24
      with_reducible refine (stBegin_any na 3 nc none 0 0 none 0 0 (some ⟨ga, 0, none⟩) 2 2 (some ⟨wax17.heap.size, 0, none⟩) 2 2 exB13 abS [0, 1] wax1x72 (Nat.le_refl _) (by omega) (HF.out _ HBwax1x72.out).1 HRwax1x72.out HIwax1x72n.out).mono ?_
      rintro e wax1x73 ⟨hstwax1x73, hbwax1x73⟩
      obtain ⟨a, n, c, ma, mn, mc, rfl, hkpwax1x73⟩ := hstwax1x73.kp hbwax1x73
      rw [exBegin13] at hkpwax1x73 ⊢
      have HBwax1x73 := Lib.hid (HBwax1x72.out.trans ((hbwax1x73).mono HBwax1x72.out.size))
      have HXwax1x73 := Lib.hid (HXwax1x72.out.on13 hbwax1x73)
      have HKwax1x73n := Lib.hid hkpwax1x73
      have hap : wa1.heap.size < wax1x72.heap.size ∨ wax1x73.heap.size ≤ wa1.heap.size := .inl HXwax1x72.out.lt
      clear hkpwax1x73 hstwax1x73 hbwax1x73
      refine hK.out _ _ (HS.out _ HBwax1x73.out) (fun hHeld => ?_)
      clear hK K
      refine' wpAnyH_take (i := 4) (v := _) rfl (by kernel_rfl) (by kernel_rfl) (by kernel_rfl) (fun _ _ _ h => h) (Or.inl ⟨by kernel_rfl, ?hyax1x74⟩) (by assumption) ?restax1x74
      case hyax1x74 => intro W hSw; (try dsimp only at hSw); first | (go_simp; done) | (go_simp; with_reducible rfl)
      try simp only [Act.put]
      refine' wpAnyH_take (i := 5) (v := _) rfl (by kernel_rfl) (by kernel_rfl) (by kernel_rfl) (fun _ _ _ h => h) (Or.inl ⟨by kernel_rfl, ?hyax1x75⟩) (by assumption) ?restax1x75
      case hyax1x75 => intro W hSw; (try dsimp only at hSw); first | (go_simp; done) | (go_simp; with_reducible rfl)
      try simp only [Act.put, List.getElem_toArray, List.getElem_cons_succ, List.getElem_cons_zero, List.setIfInBounds_toArray, List.set_cons_succ, List.set_cons_zero]
      refine' wpAnyH_take (i := 6) (v := _) rfl (by kernel_rfl) (by kernel_rfl) (by kernel_rfl) (fun _ _ _ h => h) (Or.inl ⟨by kernel_rfl, ?hyax1x76⟩) (by assumption) ?restax1x76
      case hyax1x76 => intro W hSw; (try dsimp only at hSw); first | (go_simp; done) | (go_simp; with_reducible rfl)
      try simp only [Act.put, List.getElem_toArray, List.getElem_cons_succ, List.getElem_cons_zero, List.setIfInBounds_toArray, List.set_cons_succ, List.set_cons_zero]
      refine wpAnyH_ready (rs := [8]) (by kernel_rfl) (by simp) ?_
      refine AllReadyH.cons (i := 8) (o := _) rfl (fun K hK => ?_) AllReadyH.nil
      obtain ⟨y0, y1⟩ := HXwax1x73.out.cells
      have f0 := HXwax1x73.out.thaw 0
      have f1 := HXwax1x73.out.thaw 1
      go_simp
      have hset := set13 wax1x73 wa1.heap.size (.slice a n c) (.slice ma mn mc)
      have HBs := Lib.hid (HBwax1x73.out.trans (hset.below hgewax17 HBwax1x73.out.size))
      have HKs := Lib.hid (HKwax1x73n.out.aside hset hap)
      have HXs := Lib.hid (SBox.fill (a' := a) (n' := n) (c' := c) (ma' := ma) (mn' := mn) (mc' := mc) HXwax1x73.out)
      clear hset y0 y1 f0 f1
      refine hK.out _ _ (HS.out _ HBs.out) (fun hHeld => ?_)
      clear hK K
      try simp only [Act.put, List.setIfInBounds_toArray]
      refine' wpAnyH_take (i := 9) (v := _) rfl (by kernel_rfl) (by kernel_rfl) (by kernel_rfl) (fun _ _ _ h => h) (Or.inl ⟨by kernel_rfl, ?hyax1x79⟩) (by assumption) ?restax1x79
      case hyax1x79 => intro W hSw; (try dsimp only at hSw); first | (go_simp; done) | (go_simp; with_reducible rfl)
      try simp only [Act.put, List.getElem_toArray, List.getElem_cons_succ, List.getElem_cons_zero, List.setIfInBounds_toArray, List.set_cons_succ, List.set_cons_zero]
      refine wpAnyH_done (by kernel_rfl) ?_ _
      try simp only [Act.put, List.getElem_toArray, List.getElem_cons_succ, List.getElem_cons_zero, List.setIfInBounds_toArray, List.set_cons_succ, List.set_cons_zero]
      go_wp2_with fail
      all_goals
       go_meet
       case rel => exact ⟨_, a, n, c, ma, mn, mc, _, _, rfl, rfl, HBs, HXs, HKs, hap⟩
    case bra2 =>
     go_simp
     obtain ⟨wa2, hwa2⟩ : ∃ W : World, W = wd.alloc (.cells #[.int .i64 0, .int .i64 1] 3) := ⟨_, rfl⟩
     have htwa2 : Below wd.heap.size wd wa2 := by rw [hwa2]; exact tu1 wd _
     have HBwa2 := Lib.hid (HBd.out.trans ((htwa2).mono HBd.out.size))
     have HIwa2n := Lib.hid (show Nums wa2 wa2.heap.size (some ⟨wd.heap.size, 0, none⟩) 2 [0, 1] by rw [hwa2]; exact ints01 (heap_alloc_new wd _))
     rw [← hwa2]
     clear hwa2 htwa2
     refine hK.out _ _ (HS.out _ HBwa2.out) (fun hHeld => ?_)
     clear hK K
     try simp only [Act.put, List.getElem_toArray, List.getElem_cons_succ, List.getElem_cons_zero, List.setIfInBounds_toArray, List.set_cons_succ, List.set_cons_zero]
     refine wpAnyH_ready (rs := [1, 7]) (by kernel_rfl) (by simp) ?_
     refine (AllReadyH.cons (i := 1) (o := _) rfl (fun K hK => ?brax21) (AllReadyH.cons (i := 7) (o := _) rfl (fun K hK => ?brax27) AllReadyH.nil))
     case brax21 =>
      go_simp
      go_at_call 38
      with_reducible refine (ab_any wa2).mono ?_
      rintro e wax21 ⟨⟨ga, rfl, hswax21⟩, hbwax21⟩
      have HBwax21 := Lib.hid (HBwa2.out.trans ((hbwax21).mono HBwa2.out.size))
      have HIwax21 := Lib.hid (HIwa2n.out.on13 hbwax21)
      have HRwax21n := Lib.hid hswax21
      clear hswax21 hbwax21
      refine hK.out _ _ (HS.out _ HBwax21.out) (fun hHeld => ?_)
      clear hK K
      try simp only [Act.put, List.getElem_toArray, List.getElem_cons_succ, List.getElem_cons_zero, List.setIfInBounds_toArray, List.set_cons_succ, List.set_cons_zero]
      refine wpAnyH_ready (rs := [3, 7]) (by kernel_rfl) (by simp) ?_
      refine (AllReadyH.cons (i := 3) (o := _) rfl (fun K hK => ?brax2x13) (AllReadyH.cons (i := 7) (o := _) rfl (fun K hK => ?brax2x17) AllReadyH.nil))
      case brax2x13 =>
       go_simp
       go_at_call 24
       with_reducible refine (stBegin_any na 3 nc none 0 0 none 0 0 (some ⟨ga, 0, none⟩) 2 2 (some ⟨wd.heap.size, 0, none⟩) 2 2 exB13 abS [0, 1] wax21 (Nat.le_refl _) (by omega) (HF.out _ HBwax21.out).1 HRwax21n.out HIwax21.out).mono ?_
       rintro e wax2x13 ⟨hstwax2x13, hbwax2x13⟩
       obtain ⟨a, n, c, ma, mn, mc, rfl, hkpwax2x13⟩ := hstwax2x13.kp hbwax2x13
       rw [exBegin13] at hkpwax2x13 ⊢
       have HBwax2x13 := Lib.hid (HBwax21.out.trans ((hbwax2x13).mono HBwax21.out.size))
       have HKwax2x13n := Lib.hid hkpwax2x13
       clear hkpwax2x13 hstwax2x13 hbwax2x13
       refine hK.out _ _ (HS.out _ HBwax2x13.out) (fun hHeld => ?_)
       clear hK K
       refine' wpAnyH_take (i := 4) (v := _) rfl (by kernel_rfl) (by kernel_rfl) (by kernel_rfl) (fun _ _ _ h => h) (Or.inl ⟨by kernel_rfl, ?hyax2x1x34⟩) (by assumption) ?restax2x1x34
       case hyax2x1x34 => intro W hSw; (try dsimp only at hSw); first | (go_simp; done) | (go_simp; with_reducible rfl)
       try simp only [Act.put]
       refine' wpAnyH_take (i := 5) (v := _) rfl (by kernel_rfl) (by kernel_rfl) (by kernel_rfl) (fun _ _ _ h => h) (Or.inl ⟨by kernel_rfl, ?hyax2x1x35⟩) (by assumption) ?restax2x1x35
       case hyax2x1x35 => intro W hSw; (try dsimp only at hSw); first | (go_simp; done) | (go_simp; with_reducible rfl)
       try simp only [Act.put, List.getElem_toArray, List.getElem_cons_succ, List.getElem_cons_zero, List.setIfInBounds_toArray, List.set_cons_succ, List.set_cons_zero]
       refine' wpAnyH_take (i := 6) (v := _) rfl (by kernel_rfl) (by kernel_rfl) (by kernel_rfl) (fun _ _ _ h => h) (Or.inl ⟨by kernel_rfl, ?hyax2x1x36⟩) (by assumption) ?restax2x1x36
       case hyax2x1x36 => intro W hSw; (try dsimp only at hSw); first | (go_simp; done) | (go_simp; with_reducible rfl)
       try simp only [Act.put, List.getElem_toArray, List.getElem_cons_succ, List.getElem_cons_zero, List.setIfInBounds_toArray, List.set_cons_succ, List.set_cons_zero]
       refine wpAnyH_ready (rs := [7]) (by kernel_rfl) (by simp) ?_
       refine AllReadyH.cons (i := 7) (o := _) rfl (fun K hK => ?_) AllReadyH.nil
       go_simp
       obtain ⟨wax2x1x37, hwax2x1x37⟩ : ∃ W : World, W = wax2x13.alloc (.cells #[.slice none 0 0, .slice none 0 0] 38) := ⟨_, rfl⟩
       have htwax2x1x37 : Below wax2x13.heap.size wax2x13 wax2x1x37 := by rw [hwax2x1x37]; exact tu1 wax2x13 _
       have HBwax2x1x37 := Lib.hid (HBwax2x13.out.trans ((htwax2x1x37).mono HBwax2x13.out.size))
       have HKwax2x1x37 := Lib.hid (HKwax2x13n.out.on13 htwax2x1x37)
       have HXwax2x1x37n := Lib.hid (show SBox wax2x1x37 wax2x13.heap.size none 0 0 none 0 0 by rw [hwax2x1x37]; exact heap_alloc_new wax2x13 _)
       have hgewax2x1x37 : w1.heap.size ≤ wax2x13.heap.size := HBwax2x13.out.size
       rw [← hwax2x1x37]
       have hglwax2x1x37 : wax2x13.heap.size < wax2x1x37.heap.size := HXwax2x1x37n.out.lt
       clear hwax2x1x37 htwax2x1x37
       have hap : wax2x13.heap.size < wax21.heap.size ∨ wax2x13.heap.size ≤ wax2x13.heap.size := .inr (by have := HKwax2x13n.out.le; omega)
       refine hK.out _ _ (HS.out _ HBwax2x1x37.out) (fun hHeld => ?_)
       clear hK K
       try simp only [Act.put, List.getElem_toArray, List.getElem_cons_succ, List.getElem_cons_zero, List.setIfInBounds_toArray, List.set_cons_succ, List.set_cons_zero]
       refine wpAnyH_ready (rs := [8]) (by kernel_rfl) (by simp) ?_
       refine AllReadyH.cons (i := 8) (o := _) rfl (fun K hK => ?_) AllReadyH.nil
       obtain ⟨y0, y1⟩ := HXwax2x1x37n.out.cells
       have f0 := HXwax2x1x37n.out.thaw 0
       have f1 := HXwax2x1x37n.out.thaw 1
       go_simp
       have hset := set13 wax2x1x37 wax2x13.heap.size (.slice a n c) (.slice ma mn mc)
       have HBs := Lib.hid (HBwax2x1x37.out.trans (hset.below hgewax2x1x37 HBwax2x1x37.out.size))
       have HKs := Lib.hid (HKwax2x1x37.out.aside hset hap)
       have HXs := Lib.hid (SBox.fill (a' := a) (n' := n) (c' := c) (ma' := ma) (mn' := mn) (mc' := mc) HXwax2x1x37n.out)
       clear hset y0 y1 f0 f1
       refine hK.out _ _ (HS.out _ HBs.out) (fun hHeld => ?_)
       clear hK K
       try simp only [Act.put, List.setIfInBounds_toArray]
       refine' wpAnyH_take (i := 9) (v := _) rfl (by kernel_rfl) (by kernel_rfl) (by kernel_rfl) (fun _ _ _ h => h) (Or.inl ⟨by kernel_rfl, ?hyax2x1x39⟩) (by assumption) ?restax2x1x39
       case hyax2x1x39 => intro W hSw; (try dsimp only at hSw); first | (go_simp; done) | (go_simp; with_reducible rfl)
       try simp only [Act.put, List.getElem_toArray, List.getElem_cons_succ, List.getElem_cons_zero, List.setIfInBounds_toArray, List.set_cons_succ, List.set_cons_zero]
       refine wpAnyH_done (by kernel_rfl) ?_ _
       try simp only [Act.put, List.getElem_toArray, List.getElem_cons_succ, List.getElem_cons_zero, List.setIfInBounds_toArray, List.set_cons_succ, List.set_cons_zero]
       go_wp2_with fail
       all_goals
        go_meet
        case rel => exact ⟨_, a, n, c, ma, mn, mc, _, _, rfl, rfl, HBs, HXs, HKs, hap⟩
      case brax2x17 =>
       go_simp
       obtain ⟨wax2x17, hwax2x17⟩ : ∃ W : World, W = wax21.alloc (.cells #[.slice none 0 0, .slice none 0 0] 38) := ⟨_, rfl⟩
       have htwax2x17 : Below wax21.heap.size wax21 wax2x17 := by rw [hwax2x17]; exact tu1 wax21 _
       have HBwax2x17 := Lib.hid (HBwax21.out.trans ((htwax2x17).mono HBwax21.out.size))
       have HIwax2x17 := Lib.hid (HIwax21.out.on13 htwax2x17)
       have HRwax2x17 := Lib.hid (HRwax21n.out.on13 htwax2x17)
       have HXwax2x17n := Lib.hid (show SBox wax2x17 wax21.heap.size none 0 0 none 0 0 by rw [hwax2x17]; exact heap_alloc_new wax21 _)
       have hgewax2x17 : w1.heap.size ≤ wax21.heap.size := HBwax21.out.size
       rw [← hwax2x17]
       have hglwax2x17 : wax21.heap.size < wax2x17.heap.size := HXwax2x17n.out.lt
       clear hwax2x17 htwax2x17
       refine hK.out _ _ (HS.out _ HBwax2x17.out) (fun hHeld => ?_)
       clear hK K
       try simp only [Act.put, List.getElem_toArray, List.getElem_cons_succ, List.getElem_cons_zero, List.setIfInBounds_toArray, List.set_cons_succ, List.set_cons_zero]
       refine wpAnyH_ready (rs := [3]) (by kernel_rfl) (by simp) ?_
       refine AllReadyH.cons (i := 3) (o := _) rfl (fun K hK => ?_) AllReadyH.nil
       go_simp
       go_at_call 24
       with_reducible refine (stBegin_any na 3 nc none 0 0 none 0 0 (some ⟨ga, 0, none⟩) 2 2 (some ⟨wd.heap.size, 0, none⟩) 2 2 exB13 abS [0, 1] wax2x17 (Nat.le_refl _) (by omega) (HF.out _ HBwax2x17.out).1 HRwax2x17.out HIwax2x17.out).mono ?_
       rintro e wax2x1x73 ⟨hstwax2x1x73, hbwax2x1x73⟩
       obtain ⟨a, n, c, ma, mn, mc, rfl, hkpwax2x1x73⟩ := hstwax2x1x73.kp hbwax2x1x73
       rw [exBegin13] at hkpwax2x1x73 ⊢
       have HBwax2x1x73 := Lib.hid (HBwax2x17.out.trans ((hbwax2x1x73).mono HBwax2x17.out.size))
       have HXwax2x1x73 := Lib.hid (HXwax2x17n.out.on13 hbwax2x1x73)
       have HKwax2x1x73n := Lib.hid hkpwax2x1x73
       have hap : wax21.heap.size < wax2x17.heap.size ∨ wax2x1x73.heap.size ≤ wax21.heap.size := .inl HXwax2x17n.out.lt
       clear hkpwax2x1x73 hstwax2x1x73 hbwax2x1x73
       refine hK.out _ _ (HS.out _ HBwax2x1x73.out) (fun hHeld => ?_)
       clear hK K
       refine' wpAnyH_take (i := 4) (v := _) rfl (by kernel_rfl) (by kernel_rfl) (by kernel_rfl) (fun _ _ _ h => h) (Or.inl ⟨by kernel_rfl, ?hyax2x1x74⟩) (by assumption) ?restax2x1x74
       case hyax2x1x74 => intro W hSw; (try dsimp only at hSw); first | (go_simp; done) | (go_simp; with_reducible rfl)
       try simp only [Act.put]
       refine' wpAnyH_take (i := 5) (v := _) rfl (by kernel_rfl) (by kernel_rfl) (by kernel_rfl) (fun _ _ _ h => h) (Or.inl ⟨by kernel_rfl, ?hyax2x1x75⟩) (by assumption) ?restax2x1x75
       case hyax2x1x75 => intro W hSw; (try dsimp only at hSw); first | (go_simp; done) | (go_simp; with_reducible rfl)
       try simp only [Act.put, List.getElem_toArray, List.getElem_cons_succ, List.getElem_cons_zero, List.setIfInBounds_toArray, List.set_cons_succ, List.set_cons_zero]
       refine' wpAnyH_take (i := 6) (v := _) rfl (by kernel_rfl) (by kernel_rfl) (by kernel_rfl) (fun _ _ _ h => h) (Or.inl ⟨by kernel_rfl, ?hyax2x1x76⟩) (by assumption) ?restax2x1x76
       case hyax2x1x76 => intro W hSw; (try dsimp only at hSw); first | (go_simp; done) | (go_simp; with_reducible rfl)
       try simp only [Act.put, List.getElem_toArray, List.getElem_cons_succ, List.getElem_cons_zero, List.setIfInBounds_toArray, List.set_cons_succ, List.set_cons_zero]
       refine wpAnyH_ready (rs := [8]) (by kernel_rfl) (by simp) ?_
       refine AllReadyH.cons (i := 8) (o := _) rfl (fun K hK => ?_) AllReadyH.nil
       obtain ⟨y0, y1⟩ := HXwax2x1x73.out.cells
       have f0 := HXwax2x1x73.out.thaw 0
       have f1 := HXwax2x1x73.out.thaw 1
       go_simp
       have hset := set13 wax2x1x73 wax21.heap.size (.slice a n c) (.slice ma mn mc)
       have HBs := Lib.hid (HBwax2x1x73.out.trans (hset.below hgewax2x17 HBwax2x1x73.out.size))
       have HKs := Lib.hid (HKwax2x1x73n.out.aside hset hap)
       have HXs := Lib.hid (SBox.fill (a' := a) (n' := n) (c' := c) (ma' := ma) (mn' := mn) (mc' := mc) HXwax2x1x73.out)
       clear hset y0 y1 f0 f1
       refine hK.out _ _ (HS.out _ HBs.out) (fun hHeld => ?_)
       clear hK K
       try simp only [Act.put, List.setIfInBounds_toArray]
       refine' wpAnyH_take (i := 9) (v := _) rfl (by kernel_rfl) (by kernel_rfl) (by kernel_rfl) (fun _ _ _ h => h) (Or.inl ⟨by kernel_rfl, ?hyax2x1x79⟩) (by assumption) ?restax2x1x79
       case hyax2x1x79 => intro W hSw; (try dsimp only at hSw); first | (go_simp; done) | (go_simp; with_reducible rfl)
       try simp only [Act.put, List.getElem_toArray, List.getElem_cons_succ, List.getElem_cons_zero, List.setIfInBounds_toArray, List.set_cons_succ, List.set_cons_zero]
       refine wpAnyH_done (by kernel_rfl) ?_ _
       try simp only [Act.put, List.getElem_toArray, List.getElem_cons_succ, List.getElem_cons_zero, List.setIfInBounds_toArray, List.set_cons_succ, List.set_cons_zero]
       go_wp2_with fail
       all_goals
        go_meet
        case rel => exact ⟨_, a, n, c, ma, mn, mc, _, _, rfl, rfl, HBs, HXs, HKs, hap⟩
     case brax27 =>
      go_simp
      obtain ⟨wax27, hwax27⟩ : ∃ W : World, W = wa2.alloc (.cells #[.slice none 0 0, .slice none 0 0] 38) := ⟨_, rfl⟩
      have htwax27 : Below wa2.heap.size wa2 wax27 := by rw [hwax27]; exact tu1 wa2 _
      have HBwax27 := Lib.hid (HBwa2.out.trans ((htwax27).mono HBwa2.out.size))
      have HIwax27 := Lib.hid (HIwa2n.out.on13 htwax27)
      have HXwax27n := Lib.hid (show SBox wax27 wa2.heap.size none 0 0 none 0 0 by rw [hwax27]; exact heap_alloc_new wa2 _)
      have hgewax27 : w1.heap.size ≤ wa2.heap.size := HBwa2.out.size
      rw [← hwax27]
      have hglwax27 : wa2.heap.size < wax27.heap.size := HXwax27n.out.lt
      clear hwax27 htwax27
      refine hK.out _ _ (HS.out _ HBwax27.out) (fun hHeld => ?_)
      clear hK K
      try simp only [Act.put, List.getElem_toArray, List.getElem_cons_succ, List.getElem_cons_zero, List.setIfInBounds_toArray, List.set_cons_succ, List.set_cons_zero]
      refine wpAnyH_ready (rs := [1]) (by kernel_rfl) (by simp) ?_
      refine AllReadyH.cons (i := 1) (o := _) rfl (fun K hK => ?_) AllReadyH.nil
      go_simp
      go_at_call 38
      with_reducible refine (ab_any wax27).mono ?_
      rintro e wax2x71 ⟨⟨ga, rfl, hswax2x71⟩, hbwax2x71⟩
      have HBwax2x71 := Lib.hid (HBwax27.out.trans ((hbwax2x71).mono HBwax27.out.size))
      have HIwax2x71 := Lib.hid (HIwax27.out.on13 hbwax2x71)
      have HXwax2x71 := Lib.hid (HXwax27n.out.on13 hbwax2x71)
      have HRwax2x71n := Lib.hid hswax2x71
      clear hswax2x71 hbwax2x71
      refine hK.out _ _ (HS.out _ HBwax2x71.out) (fun hHeld => ?_)
      clear hK K
      try simp only [Act.put, List.getElem_toArray, List.getElem_cons_succ, List.getElem_cons_zero, List.setIfInBounds_toArray, List.set_cons_succ, List.set_cons_zero]
      refine wpAnyH_ready (rs := [3]) (by kernel_rfl) (by simp) ?_
      refine AllReadyH.cons (i := 3) (o := _) rfl (fun K hK => ?_) AllReadyH.nil
      go_simp
      go_at_call 24
      with_reducible refine (stBegin_any na 3 nc none 0 0 none 0 0 (some ⟨ga, 0, none⟩) 2 2 (some ⟨wd.heap.size, 0, none⟩) 2 2 exB13 abS [0, 1] wax2x71 (Nat.le_refl _) (by omega) (HF.out _ HBwax2x71.out).1 HRwax2x71n.out HIwax2x71.out).mono ?_
      rintro e wax2x73 ⟨hstwax2x73, hbwax2x73⟩
      obtain ⟨a, n, c, ma, mn, mc, rfl, hkpwax2x73⟩ := hstwax2x73.kp hbwax2x73
      rw [exBegin13] at hkpwax2x73 ⊢
      have HBwax2x73 := Lib.hid (HBwax2x71.out.trans ((hbwax2x73).mono HBwax2x71.out.size))
      have HXwax2x73 := Lib.hid (HXwax2x71.out.on13 hbwax2x73)
      have HKwax2x73n := Lib.hid hkpwax2x73
      have hap : wa2.heap.size < wax2x71.heap.size ∨ wax2x73.heap.size ≤ wa2.heap.size := .inl HXwax2x71.out.lt
      clear hkpwax2x73 hstwax2x73 hbwax2x73
      refine hK.out _ _ (HS.out _ HBwax2x73.out) (fun hHeld => ?_)
      clear hK K
      refine' wpAnyH_take (i := 4) (v := _) rfl (by kernel_rfl) (by kernel_rfl) (by kernel_rfl) (fun _ _ _ h => h) (Or.inl ⟨by kernel_rfl, ?hyax2x74⟩) (by assumption) ?restax2x74
      case hyax2x74 => intro W hSw; (try dsimp only at hSw); first | (go_simp; done) | (go_simp; with_reducible rfl)
      try simp only [Act.put]
      refine' wpAnyH_take (i := 5) (v := _) rfl (by kernel_rfl) (by kernel_rfl) (by kernel_rfl) (fun _ _ _ h => h) (Or.inl ⟨by kernel_rfl, ?hyax2x75⟩) (by assumption) ?restax2x75
      case hyax2x75 => intro W hSw; (try dsimp only at hSw); first | (go_simp; done) | (go_simp; with_reducible rfl)
      try simp only [Act.put, List.getElem_toArray, List.getElem_cons_succ, List.getElem_cons_zero, List.setIfInBounds_toArray, List.set_cons_succ, List.set_cons_zero]
      refine' wpAnyH_take (i := 6) (v := _) rfl (by kernel_rfl) (by kernel_rfl) (by kernel_rfl) (fun _ _ _ h => h) (Or.inl ⟨by kernel_rfl, ?hyax2x76⟩) (by assumption) ?restax2x76
      case hyax2x76 => intro W hSw; (try dsimp only at hSw); first | (go_simp; done) | (go_simp; with_reducible rfl)
      try simp only [Act.put, List.getElem_toArray, List.getElem_cons_succ, List.getElem_cons_zero, List.setIfInBounds_toArray, List.set_cons_succ, List.set_cons_zero]
      refine wpAnyH_ready (rs := [8]) (by kernel_rfl) (by simp) ?_
      refine AllReadyH.cons (i := 8) (o := _) rfl (fun K hK => ?_) AllReadyH.nil
      obtain ⟨y0, y1⟩ := HXwax2x73.out.cells
      have f0 := HXwax2x73.out.thaw 0
      have f1 := HXwax2x73.out.thaw 1
      go_simp
      have hset := set13 wax2x73 wa2.heap.size (.slice a n c) (.slice ma mn mc)
      have HBs := Lib.hid (HBwax2x73.out.trans (hset.below hgewax27 HBwax2x73.out.size))
      have HKs := Lib.hid (HKwax2x73n.out.aside hset hap)
      have HXs := Lib.hid (SBox.fill (a' := a) (n' := n) (c' := c) (ma' := ma) (mn' := mn) (mc' := mc) HXwax2x73.out)
      clear hset y0 y1 f0 f1
      refine hK.out _ _ (HS.out _ HBs.out) (fun hHeld => ?_)
      clear hK K
      try simp only [Act.put, List.setIfInBounds_toArray]
      refine' wpAnyH_take (i := 9) (v := _) rfl (by kernel_rfl) (by kernel_rfl) (by kernel_rfl) (fun _ _ _ h => h) (Or.inl ⟨by kernel_rfl, ?hyax2x79⟩) (by assumption) ?restax2x79
      case hyax2x79 => intro W hSw; (try dsimp only at hSw); first | (go_simp; done) | (go_simp; with_reducible rfl)
      try simp only [Act.put, List.getElem_toArray, List.getElem_cons_succ, List.getElem_cons_zero, List.setIfInBounds_toArray, List.set_cons_succ, List.set_cons_zero]
      refine wpAnyH_done (by kernel_rfl) ?_ _
      try simp only [Act.put, List.getElem_toArray, List.getElem_cons_succ, List.getElem_cons_zero, List.setIfInBounds_toArray, List.set_cons_succ, List.set_cons_zero]
      go_wp2_with fail
      all_goals
       go_meet
       case rel => exact ⟨_, a, n, c, ma, mn, mc, _, _, rfl, rfl, HBs, HXs, HKs, hap⟩
    case bra7 =>
     go_simp
     obtain ⟨wa7, hwa7⟩ : ∃ W : World, W = wd.alloc (.cells #[.slice none 0 0, .slice none 0 0] 38) := ⟨_, rfl⟩
     have htwa7 : Below wd.heap.size wd wa7 := by rw [hwa7]; exact tu1 wd _
     have HBwa7 := Lib.hid (HBd.out.trans ((htwa7).mono HBd.out.size))
     have HXwa7n := Lib.hid (show SBox wa7 wd.heap.size none 0 0 none 0 0 by rw [hwa7]; exact heap_alloc_new wd _)
     have hgewa7 : w1.heap.size ≤ wd.heap.size := HBd.out.size
     rw [← hwa7]
     have hglwa7 : wd.heap.size < wa7.heap.size := HXwa7n.out.lt
     clear hwa7 htwa7
     refine hK.out _ _ (HS.out _ HBwa7.out) (fun hHeld => ?_)
     clear hK K
     try simp only [Act.put, List.getElem_toArray, List.getElem_cons_succ, List.getElem_cons_zero, List.setIfInBounds_toArray, List.set_cons_succ, List.set_cons_zero]
     refine wpAnyH_ready (rs := [1, 2]) (by kernel_rfl) (by simp) ?_
     refine (AllReadyH.cons (i := 1) (o := _) rfl (fun K hK => ?brax71) (AllReadyH.cons (i := 2) (o := _) rfl (fun K hK => ?brax72) AllReadyH.nil))
     case brax71 =>
      go_simp
      go_at_call 38
      with_reducible refine (ab_any wa7).mono ?_
      rintro e wax71 ⟨⟨ga, rfl, hswax71⟩, hbwax71⟩
      have HBwax71 := Lib.hid (HBwa7.out.trans ((hbwax71).mono HBwa7.out.size))
      have HXwax71 := Lib.hid (HXwa7n.out.on13 hbwax71)
      have HRwax71n := Lib.hid hswax71
      clear hswax71 hbwax71
      refine hK.out _ _ (HS.out _ HBwax71.out) (fun hHeld => ?_)
      clear hK K
      try simp only [Act.put, List.getElem_toArray, List.getElem_cons_succ, List.getElem_cons_zero, List.setIfInBounds_toArray, List.set_cons_succ, List.set_cons_zero]
      refine wpAnyH_ready (rs := [2]) (by kernel_rfl) (by simp) ?_
      refine AllReadyH.cons (i := 2) (o := _) rfl (fun K hK => ?_) AllReadyH.nil
      go_simp
      obtain ⟨wax7x12, hwax7x12⟩ : ∃ W : World, W = wax71.alloc (.cells #[.int .i64 0, .int .i64 1] 3) := ⟨_, rfl⟩
      have htwax7x12 : Below wax71.heap.size wax71 wax7x12 := by rw [hwax7x12]; exact tu1 wax71 _
      have HBwax7x12 := Lib.hid (HBwax71.out.trans ((htwax7x12).mono HBwax71.out.size))
      have HXwax7x12 := Lib.hid (HXwax71.out.on13 htwax7x12)
      have HRwax7x12 := Lib.hid (HRwax71n.out.on13 htwax7x12)
      have HIwax7x12n := Lib.hid (show Nums wax7x12 wax7x12.heap.size (some ⟨wax71.heap.size, 0, none⟩) 2 [0, 1] by rw [hwax7x12]; exact ints01 (heap_alloc_new wax71 _))
      rw [← hwax7x12]
      clear hwax7x12 htwax7x12
      refine hK.out _ _ (HS.out _ HBwax7x12.out) (fun hHeld => ?_)
      clear hK K
      try simp only [Act.put, List.getElem_toArray, List.getElem_cons_succ, List.getElem_cons_zero, List.setIfInBounds_toArray, List.set_cons_succ, List.set_cons_zero]
      refine wpAnyH_ready (rs := [3]) (by kernel_rfl) (by simp) ?_
      refine AllReadyH.cons (i := 3) (o := _) rfl (fun K hK => ?_) AllReadyH.nil
      go_simp
      go_at_call 24
      with_reducible refine (stBegin_any na 3 nc none 0 0 none 0 0 (some ⟨ga, 0, none⟩) 2 2 (some ⟨wax71.heap.size, 0, none⟩) 2 2 exB13 abS [0, 1] wax7x12 (Nat.le_refl _) (by omega) (HF.out _ HBwax7x12.out).1 HRwax7x12.out HIwax7x12n.out).mono ?_
      rintro e wax7x13 ⟨hstwax7x13, hbwax7x13⟩
      obtain ⟨a, n, c, ma, mn, mc, rfl, hkpwax7x13⟩ := hstwax7x13.kp hbwax7x13
      rw [exBegin13] at hkpwax7x13 ⊢
      have HBwax7x13 := Lib.hid (HBwax7x12.out.trans ((hbwax7x13).mono HBwax7x12.out.size))
      have HXwax7x13 := Lib.hid (HXwax7x12.out.on13 hbwax7x13)
      have HKwax7x13n := Lib.hid hkpwax7x13
      have hap : wd.heap.size < wax7x12.heap.size ∨ wax7x13.heap.size ≤ wd.heap.size := .inl HXwax7x12.out.lt
      clear hkpwax7x13 hstwax7x13 hbwax7x13
      refine hK.out _ _ (HS.out _ HBwax7x13.out) (fun hHeld => ?_)
      clear hK K
      refine' wpAnyH_take (i := 4) (v := _) rfl (by kernel_rfl) (by kernel_rfl) (by kernel_rfl) (fun _ _ _ h => h) (Or.inl ⟨by kernel_rfl, ?hyax7x14⟩) (by assumption) ?restax7x14
      case hyax7x14 => intro W hSw; (try dsimp only at hSw); first | (go_simp; done) | (go_simp; with_reducible rfl)
      try simp only [Act.put]
      refine' wpAnyH_take (i := 5) (v := _) rfl (by kernel_rfl) (by kernel_rfl) (by kernel_rfl) (fun _ _ _ h => h) (Or.inl ⟨by kernel_rfl, ?hyax7x15⟩) (by assumption) ?restax7x15
      case hyax7x15 => intro W hSw; (try dsimp only at hSw); first | (go_simp; done) | (go_simp; with_reducible rfl)
      try simp only [Act.put, List.getElem_toArray, List.getElem_cons_succ, List.getElem_cons_zero, List.setIfInBounds_toArray, List.set_cons_succ, List.set_cons_zero]
      refine' wpAnyH_take (i := 6) (v := _) rfl (by kernel_rfl) (by kernel_rfl) (by kernel_rfl) (fun _ _ _ h => h) (Or.inl ⟨by kernel_rfl, ?hyax7x16⟩) (by assumption) ?restax7x16
      case hyax7x16 => intro W hSw; (try dsimp only at hSw); first | (go_simp; done) | (go_simp; with_reducible rfl)
      try simp only [Act.put, List.getElem_toArray, List.getElem_cons_succ, List.getElem_cons_zero, List.setIfInBounds_toArray, List.set_cons_succ, List.set_cons_zero]
      refine wpAnyH_ready (rs := [8]) (by kernel_rfl) (by simp) ?_
      refine AllReadyH.cons (i := 8) (o := _) rfl (fun K hK => ?_) AllReadyH.nil
      obtain ⟨y0, y1⟩ := HXwax7x13.out.cells
      have f0 := HXwax7x13.out.thaw 0
      have f1 := HXwax7x13.out.thaw 1
      go_simp
      have hset := set13 wax7x13 wd.heap.size (.slice a n c) (.slice ma mn mc)
      have HBs := Lib.hid (HBwax7x13.out.trans (hset.below hgewa7 HBwax7x13.out.size))
      have HKs := Lib.hid (HKwax7x13n.out.aside hset hap)
      have HXs := Lib.hid (SBox.fill (a' := a) (n' := n) (c' := c) (ma' := ma) (mn' := mn) (mc' := mc) HXwax7x13.out)
      clear hset y0 y1 f0 f1
      refine hK.out _ _ (HS.out _ HBs.out) (fun hHeld => ?_)
      clear hK K
      try simp only [Act.put, List.setIfInBounds_toArray]
      refine' wpAnyH_take (i := 9) (v := _) rfl (by kernel_rfl) (by kernel_rfl) (by kernel_rfl) (fun _ _ _ h => h) (Or.inl ⟨by kernel_rfl, ?hyax7x19⟩) (by assumption) ?restax7x19
      case hyax7x19 => intro W hSw; (try dsimp only at hSw); first | (go_simp; done) | (go_simp; with_reducible rfl)
      try simp only [Act.put, List.getElem_toArray, List.getElem_cons_succ, List.getElem_cons_zero, List.setIfInBounds_toArray, List.set_cons_succ, List.set_cons_zero]
      refine wpAnyH_done (by kernel_rfl) ?_ _
      try simp only [Act.put, List.getElem_toArray, List.getElem_cons_succ, List.getElem_cons_zero, List.setIfInBounds_toArray, List.set_cons_succ, List.set_cons_zero]
      go_wp2_with fail
      all_goals
       go_meet
       case rel => exact ⟨_, a, n, c, ma, mn, mc, _, _, rfl, rfl, HBs, HXs, HKs, hap⟩
     case brax72 =>
      go_simp
      obtain ⟨wax72, hwax72⟩ : ∃ W : World, W = wa7.alloc (.cells #[.int .i64 0, .int .i64 1] 3) := ⟨_, rfl⟩
      have htwax72 : Below wa7.heap.size wa7 wax72 := by rw [hwax72]; exact tu1 wa7 _
      have HBwax72 := Lib.hid (HBwa7.out.trans ((htwax72).mono HBwa7.out.size))
      have HXwax72 := Lib.hid (HXwa7n.out.on13 htwax72)
      have HIwax72n := Lib.hid (show Nums wax72 wax72.heap.size (some ⟨wa7.heap.size, 0, none⟩) 2 [0, 1] by rw [hwax72]; exact ints01 (heap_alloc_new wa7 _))
      rw [← hwax72]
      clear hwax72 htwax72
      refine hK.out _ _ (HS.out _ HBwax72.out) (fun hHeld => ?_)
      clear hK K
      try simp only [Act.put, List.getElem_toArray, List.getElem_cons_succ, List.getElem_cons_zero, List.setIfInBounds_toArray, List.set_cons_succ, List.set_cons_zero]
      refine wpAnyH_ready (rs := [1]) (by kernel_rfl) (by simp) ?_
      refine AllReadyH.cons (i := 1) (o := _) rfl (fun K hK => ?_) AllReadyH.nil
      go_simp
      go_at_call 38
      with_reducible refine (ab_any wax72).mono ?_
      rintro e wax7x21 ⟨⟨ga, rfl, hswax7x21⟩, hbwax7x21⟩
      have HBwax7x21 := Lib.hid (HBwax72.out.trans ((hbwax7x21).mono HBwax72.out.size))
      have HXwax7x21 := Lib.hid (HXwax72.out.on13 hbwax7x21)
      have HIwax7x21 := Lib.hid (HIwax72n.out.on13 hbwax7x21)
      have HRwax7x21n := Lib.hid hswax7x21
      clear hswax7x21 hbwax7x21
      refine hK.out _ _ (HS.out _ HBwax7x21.out) (fun hHeld => ?_)
      clear hK K
      try simp only [Act.put, List.getElem_toArray, List.getElem_cons_succ, List.getElem_cons_zero, List.setIfInBounds_toArray, List.set_cons_succ, List.set_cons_zero]
      refine wpAnyH_ready (rs := [3]) (by kernel_rfl) (by simp) ?_
      refine AllReadyH.cons (i := 3) (o := _) rfl (fun K hK => ?_) AllReadyH.nil
      go_simp
      go_at_call 24
      with_reducible refine (stBegin_any na 3 nc none 0 0 none 0 0 (some ⟨ga, 0, none⟩) 2 2 (some ⟨wa7.heap.size, 0, none⟩) 2 2 exB13 abS [0, 1] wax7x21 (Nat.le_refl _) (by omega) (HF.out _ HBwax7x21.out).1 HRwax7x21n.out HIwax7x21.out).mono ?_
      rintro e wax7x23 ⟨hstwax7x23, hbwax7x23⟩
      obtain ⟨a, n, c, ma, mn, mc, rfl, hkpwax7x23⟩ := hstwax7x23.kp hbwax7x23
      rw [exBegin13] at hkpwax7x23 ⊢
      have HBwax7x23 := Lib.hid (HBwax7x21.out.trans ((hbwax7x23).mono HBwax7x21.out.size))
      have HXwax7x23 := Lib.hid (HXwax7x21.out.on13 hbwax7x23)
      have HKwax7x23n := Lib.hid hkpwax7x23
      have hap : wd.heap.size < wax7x21.heap.size ∨ wax7x23.heap.size ≤ wd.heap.size := .inl HXwax7x21.out.lt
      clear hkpwax7x23 hstwax7x23 hbwax7x23
      refine hK.out _ _ (HS.out _ HBwax7x23.out) (fun hHeld => ?_)
      clear hK K
      refine' wpAnyH_take (i := 4) (v := _) rfl (by kernel_rfl) (by kernel_rfl) (by kernel_rfl) (fun _ _ _ h => h) (Or.inl ⟨by kernel_rfl, ?hyax7x24⟩) (by assumption) ?restax7x24
      case hyax7x24 => intro W hSw; (try dsimp only at hSw); first | (go_simp; done) | (go_simp; with_reducible rfl)
      try simp only [Act.put]
      refine' wpAnyH_take (i := 5) (v := _) rfl (by kernel_rfl) (by kernel_rfl) (by kernel_rfl) (fun _ _ _ h => h) (Or.inl ⟨by kernel_rfl, ?hyax7x25⟩) (by assumption) ?restax7x25
      case hyax7x25 => intro W hSw; (try dsimp only at hSw); first | (go_simp; done) | (go_simp; with_reducible rfl)
      try simp only [Act.put, List.getElem_toArray, List.getElem_cons_succ, List.getElem_cons_zero, List.setIfInBounds_toArray, List.set_cons_succ, List.set_cons_zero]
      refine' wpAnyH_take (i := 6) (v := _) rfl (by kernel_rfl) (by kernel_rfl) (by kernel_rfl) (fun _ _ _ h => h) (Or.inl ⟨by kernel_rfl, ?hyax7x26⟩) (by assumption) ?restax7x26
      case hyax7x26 => intro W hSw; (try dsimp only at hSw); first | (go_simp; done) | (go_simp; with_reducible rfl)
      try simp only [Act.put, List.getElem_toArray, List.getElem_cons_succ, List.getElem_cons_zero, List.setIfInBounds_toArray, List.set_cons_succ, List.set_cons_zero]
      refine wpAnyH_ready (rs := [8]) (by kernel_rfl) (by simp) ?_
      refine AllReadyH.cons (i := 8) (o := _) rfl (fun K hK => ?_) AllReadyH.nil
      obtain ⟨y0, y1⟩ := HXwax7x23.out.cells
      have f0 := HXwax7x23.out.thaw 0
      have f1 := HXwax7x23.out.thaw 1
      go_simp
      have hset := set13 wax7x23 wd.heap.size (.slice a n c) (.slice ma mn mc)
      have HBs := Lib.hid (HBwax7x23.out.trans (hset.below hgewa7 HBwax7x23.out.size))
      have HKs := Lib.hid (HKwax7x23n.out.aside hset hap)
      have HXs := Lib.hid (SBox.fill (a' := a) (n' := n) (c' := c) (ma' := ma) (mn' := mn) (mc' := mc) HXwax7x23.out)
      clear hset y0 y1 f0 f1
      refine hK.out _ _ (HS.out _ HBs.out) (fun hHeld => ?_)
      clear hK K
      try simp only [Act.put, List.setIfInBounds_toArray]
      refine' wpAnyH_take (i := 9) (v := _) rfl (by kernel_rfl) (by kernel_rfl) (by kernel_rfl) (fun _ _ _ h => h) (Or.inl ⟨by kernel_rfl, ?hyax7x29⟩) (by assumption) ?restax7x29
      case hyax7x29 => intro W hSw; (try dsimp only at hSw); first | (go_simp; done) | (go_simp; with_reducible rfl)
      try simp only [Act.put, List.getElem_toArray, List.getElem_cons_succ, List.getElem_cons_zero, List.setIfInBounds_toArray, List.set_cons_succ, List.set_cons_zero]
      refine wpAnyH_done (by kernel_rfl) ?_ _
      try simp only [Act.put, List.getElem_toArray, List.getElem_cons_succ, List.getElem_cons_zero, List.setIfInBounds_toArray, List.set_cons_succ, List.set_cons_zero]
      go_wp2_with fail
      all_goals
       go_meet
       case rel => exact ⟨_, a, n, c, ma, mn, mc, _, _, rfl, rfl, HBs, HXs, HKs, hap⟩
  case rest =>
    obtain ⟨g2, a, n, c, ma, mn, mc, lo2, hi2, e2, e3, HBr, HX2, HK2, hap2⟩ := hcut
    subst e2 e3
    have HS2 := Lib.hid (fun (W : World) (hW : Below w1.heap.size w1 W) (hx : SBox W g2 a n c ma mn mc) => show (W.cell? ⟨g1, 0, none⟩ = some (.slice na 3 nc) ∧ W.cell? ⟨g1, 1, none⟩ = some (.slice none 0 0) ∧ W.cell? ⟨g1, 2, none⟩ = some (.slice none 0 0)) ∧ W.cell? ⟨g2, 0, none⟩ = some (.slice a n c) ∧ W.cell? ⟨g2, 1, none⟩ = some (.slice ma mn mc) from ⟨HS.out W hW, hx.cells⟩)
    obtain ⟨w2, hw2⟩ : ∃ w2 : World, w2 = wc := ⟨_, rfl⟩
    subst hw2
    go_upto_region 3 with fail
    go_cut [4] (fun v wx => ∃ (xa : Option Addr) (xc : Nat), v = .slice xa 1 xc ∧ Hid (Below w1.heap.size w1 wx) ∧ Hid (SBox wx g2 a n c ma mn mc) ∧ Hid (Kp13 wx lo2 hi2 a n ma mn exS13) ∧ Hid (Movs wx wx.heap.size xa 1 [⟨1, 0, [120]⟩]))
    case first =>
      have hbd : Below w2.heap.size w2 w2.drew := bel_drewN (Below.refl _ _) 1
      have HBd := Lib.hid (HBr.out.trans (hbd.mono HBr.out.size))
      have HXd := Lib.hid (HX2.out.on13 hbd)
      have HKd := Lib.hid (HK2.out.on13 hbd)
      clear hbd
      obtain ⟨wd, hwd⟩ : ∃ wd : World, wd = w2.drew := ⟨_, rfl⟩
      rw [← hwd] at HBd HXd HKd
      refine wp_region_held_drew (S := fun W => (W.cell? ⟨g1, 0, none⟩ = some (.slice na 3 nc) ∧ W.cell? ⟨g1, 1, none⟩ = some (.slice none 0 0) ∧ W.cell? ⟨g1, 2, none⟩ = some (.slice none 0 0)) ∧ W.cell? ⟨g2, 0, none⟩ = some (.slice a n c) ∧ W.cell? ⟨g2, 1, none⟩ = some (.slice ma mn mc)) (by kernel_rfl) (by rw [← hwd]; exact HS2.out _ HBd.out HXd.out) (fun hHeld => ?_)
      rw [← hwd]
      rw [← hwd] at hHeld
      clear hwd
      try simp only [Act.put, List.setIfInBounds_toArray]
      refine' wpAnyH_take (i := 0) (v := _) rfl (by kernel_rfl) (by kernel_rfl) (by kernel_rfl) (fun _ _ _ h => h) (Or.inl ⟨by kernel_rfl, ?hyb0⟩) (by assumption) ?restb0
      case hyb0 => intro W hSw; (try dsimp only at hSw); first | (go_simp; done) | (go_simp; with_reducible rfl)
      try simp only [Act.put]
      refine' wpAnyH_take (i := 2) (v := _) rfl (by kernel_rfl) (by kernel_rfl) (by kernel_rfl) (fun _ _ _ h => h) (Or.inl ⟨by kernel_rfl, ?hyb2⟩) (by assumption) ?restb2
      case hyb2 => intro W hSw; (try dsimp only at hSw); first | (go_simp; done) | (go_simp; with_reducible rfl)
      try simp only [Act.put, List.getElem_toArray, List.getElem_cons_succ, List.getElem_cons_zero, List.setIfInBounds_toArray, List.set_cons_succ, List.set_cons_zero]
      refine wpAnyH_ready (rs := [1]) (by kernel_rfl) (by simp) ?_
      refine AllReadyH.cons (i := 1) (o := _) rfl (fun K hK => ?_) AllReadyH.nil
      go_simp
      go_at_call 38
      with_reducible refine (ab_any wd).mono ?_
      rintro e wb1 ⟨⟨gwb1, rfl, hswb1⟩, hbwb1⟩
      have HBwb1 := Lib.hid (HBd.out.trans ((hbwb1).mono HBd.out.size))
      have HXwb1 := Lib.hid (HXd.out.on13 hbwb1)
      have HKwb1 := Lib.hid (HKd.out.on13 hbwb1)
      have HRwb1 := Lib.hid hswb1
      clear hswb1 hbwb1
      refine hK.out _ _ (HS2.out _ HBwb1.out HXwb1.out) (fun hHeld => ?_)
      clear hK K
      try simp only [Act.put, List.getElem_toArray, List.getElem_cons_succ, List.getElem_cons_zero, List.setIfInBounds_toArray, List.set_cons_succ, List.set_cons_zero]
      refine wpAnyH_ready (rs := [3]) (by kernel_rfl) (by simp) ?_
      refine AllReadyH.cons (i := 3) (o := _) rfl (fun K hK => ?_) AllReadyH.nil
      go_simp
      go_at_call 32
      with_reducible refine (stMoves_any na 3 nc none 0 0 none 0 0 (some ⟨gwb1, 0, none⟩) 2 2 a n c ma mn mc exB13 abS exS13 wb1 (Nat.le_refl _) (stageIn13 (HF.out _ HBwb1.out).1 HRwb1.out HKwb1.out.now)).mono ?_
      rintro e wb3 ⟨⟨vwb3, rfl, howb3⟩, hbwb3⟩
      rw [exMoves13] at howb3
      obtain ⟨xa, xc, hvwb3, hmwb3, _, _⟩ := howb3.sees (by simp)
      replace hvwb3 : vwb3 = .slice xa 1 xc := hvwb3
      subst hvwb3
      have HBwb3 := Lib.hid (HBwb1.out.trans ((hbwb3).mono HBwb1.out.size))
      have HXwb3 := Lib.hid (HXwb1.out.on13 hbwb3)
      have HKwb3 := Lib.hid (HKwb1.out.on13 hbwb3)
      have HM := Lib.hid (show Movs wb3 wb3.heap.size xa 1 [⟨1, 0, [120]⟩] from hmwb3)
      clear hmwb3 howb3 hbwb3
      refine hK.out _ _ (HS2.out _ HBwb3.out HXwb3.out) (fun hHeld => ?_)
      clear hK K
      try simp only [Act.put, List.setIfInBounds_toArray]
      refine' wpAnyH_take (i := 4) (v := _) rfl (by kernel_rfl) (by kernel_rfl) (by kernel_rfl) (fun _ _ _ h => h) (Or.inl ⟨by kernel_rfl, ?hyb4⟩) (by assumption) ?restb4
      case hyb4 => intro W hSw; (try dsimp only at hSw); first | (go_simp; done) | (go_simp; with_reducible rfl)
      try simp only [Act.put, List.getElem_toArray, List.getElem_cons_succ, List.getElem_cons_zero, List.setIfInBounds_toArray, List.set_cons_succ, List.set_cons_zero]
      refine wpAnyH_done (by kernel_rfl) ?_ _
      try simp only [Act.put, List.getElem_toArray, List.getElem_cons_succ, List.getElem_cons_zero, List.setIfInBounds_toArray, List.set_cons_succ, List.set_cons_zero]
      go_wp2_with fail
      all_goals
       go_meet
       case rel => exact ⟨xa, xc, rfl, HBwb3, HXwb3, HKwb3, HM⟩
    case rest =>
      obtain ⟨xa, xc, e4, HB3, HX3, HK3, HM3⟩ := hcut
      subst e4
      have HM4 := Lib.hid (oneMove13 (s := ⟨#[120]⟩) (heap_alloc_new wc (.cells #[.int .i64 1, .int .i64 0, .string ⟨#[120]⟩] 40)) (by unfold maxLen; decide))
      have hb4 := tu1 wc (.cells #[.int .i64 1, .int .i64 0, .string ⟨#[120]⟩] 40)
      have CS4 := sameMoves_any xa (some ⟨wc.heap.size, 0, none⟩) 1 1 xc 1 _ _ (wc.alloc (.cells #[.int .i64 1, .int .i64 0, .string ⟨#[120]⟩] 40)) _ ((HM3.out.on hb4)) HM4.out
      rw [show (⟨#[120]⟩ : ByteArray).toList = [120] by rw [ByteArray.toList_eq], decide_eq_true rfl] at CS4
      have HS4 := Lib.hid CS4
      have HB4 := Lib.hid hb4
      clear CS4 hb4
      go_upto_region 6 with (first
        | (go_at_call 31; (with_reducible refine HS4.out.mono ?_)
           rintro e w5 ⟨rfl, q5, hw5⟩
           have hb5 : Below wc.heap.size wc w5 := by rw [hw5]; exact bel_drewN HB4.out q5
           have HB5 := Lib.hid (HB3.out.trans (hb5.mono HB3.out.size))
           have HX5 := Lib.hid (HX3.out.on13 hb5)
           have HK5 := Lib.hid (HK3.out.on13 hb5)
           have HM5 := Lib.hid (HM3.out.on hb5)
           clear hb5 hw5)
        | fail)
      obtain ⟨mb, mo, t, rfl, hmb, hmt, hmc, hms⟩ := HM5.out.at_ (k := 0) (by omega)
      obtain ⟨hq0, hq1, hq2⟩ := MvR_cells hmc
      rw [Nat.zero_mul, Nat.add_zero] at hq0 hq1 hq2
      have HTE := Lib.hid (show (⟨t.k, t.r, t.s.toList⟩ : MoveL) = ⟨1, 0, [120]⟩ from (Option.some.inj hmt).symm)
      clear hmt hmc hms
      have HQ := Lib.hid (And.intro hq0 (And.intro hq1 hq2))
      obtain ⟨tk, tr, ts⟩ := t
      dsimp only at hq0 hq1 hq2 HTE HQ
      have i1 : (0 : Int) < 1 := by decide
      have HS6 := Lib.hid (fun (W : World) (hW : Below w1.heap.size w1 W) (hx : SBox W g2 a n c ma mn mc) (hm : Below w5.heap.size w5 W) => show ((W.cell? ⟨g1, 0, none⟩ = some (.slice na 3 nc) ∧ W.cell? ⟨g1, 1, none⟩ = some (.slice none 0 0) ∧ W.cell? ⟨g1, 2, none⟩ = some (.slice none 0 0)) ∧ W.cell? ⟨g2, 0, none⟩ = some (.slice a n c) ∧ W.cell? ⟨g2, 1, none⟩ = some (.slice ma mn mc)) ∧ W.cell? ⟨mb, mo, none⟩ = some (.int .i64 tk) ∧ W.cell? ⟨mb, mo + 1, none⟩ = some (.int .i64 tr) ∧ W.cell? ⟨mb, mo + 2, none⟩ = some (.string ts) from ⟨HS2.out W hW hx, (hm.cell (p := ⟨mb, mo, none⟩) hmb).trans HQ.out.1, (hm.cell (p := ⟨mb, mo + 1, none⟩) hmb).trans HQ.out.2.1, (hm.cell (p := ⟨mb, mo + 2, none⟩) hmb).trans HQ.out.2.2⟩)
      clear hq0 hq1 hq2 HS4 HB4 HM4 HM3 HK3 HX3 HB3
      go_cut [5, 6] (fun v er wx => ∃ (g5 : Nat) (a5 : Option Addr) (n5 c5 : Nat) (ma5 : Option Addr) (mn5 mc5 lo5 hi5 : Nat), v = .pointer (some ⟨g5, 0, none⟩) ∧ er = .int .i64 0 ∧ Hid (Below w1.heap.size w1 wx) ∧ Hid (SBox wx g2 a n c ma mn mc) ∧ Hid (Kp13 wx lo2 hi2 a n ma mn exS13) ∧ Hid (SBox wx g5 a5 n5 c5 ma5 mn5 mc5) ∧ Hid (Kp13 wx lo5 hi5 a5 n5 ma5 mn5 exT13))
      case first =>
        have hbd : Below w5.heap.size w5 w5.drew := bel_drewN (Below.refl _ _) 1
        have HBd := Lib.hid (HB5.out.trans (hbd.mono HB5.out.size))
        have HXd := Lib.hid (HX5.out.on13 hbd)
        have HKd := Lib.hid (HK5.out.on13 hbd)
        have HW5 := Lib.hid hbd
        clear hbd
        obtain ⟨wd, hwd⟩ : ∃ wd : World, wd = w5.drew := ⟨_, rfl⟩
        rw [← hwd] at HBd HXd HKd HW5
        refine wp_region_held_drew (S := fun W => ((W.cell? ⟨g1, 0, none⟩ = some (.slice na 3 nc) ∧ W.cell? ⟨g1, 1, none⟩ = some (.slice none 0 0) ∧ W.cell? ⟨g1, 2, none⟩ = some (.slice none 0 0)) ∧ W.cell? ⟨g2, 0, none⟩ = some (.slice a n c) ∧ W.cell? ⟨g2, 1, none⟩ = some (.slice ma mn mc)) ∧ W.cell? ⟨mb, mo, none⟩ = some (.int .i64 tk) ∧ W.cell? ⟨mb, mo + 1, none⟩ = some (.int .i64 tr) ∧ W.cell? ⟨mb, mo + 2, none⟩ = some (.string ts)) (by kernel_rfl) (by rw [← hwd]; exact HS6.out _ HBd.out HXd.out HW5.out) (fun hHeld => ?_)
        rw [← hwd]
        rw [← hwd] at hHeld
        clear hwd
        try simp only [Act.put, List.setIfInBounds_toArray]
        refine' wpAnyH_take (i := 0) (v := _) rfl (by kernel_rfl) (by kernel_rfl) (by kernel_rfl) (fun _ _ _ h => h) (Or.inl ⟨by kernel_rfl, ?hyc0⟩) (by assumption) ?restc0
        case hyc0 => intro W hSw; (try dsimp only at hSw); first | (go_simp; done) | (go_simp; with_reducible rfl)
        try simp only [Act.put]
        refine' wpAnyH_take (i := 2) (v := _) rfl (by kernel_rfl) (by kernel_rfl) (by kernel_rfl) (fun _ _ _ h => h) (Or.inl ⟨by kernel_rfl, ?hyc2⟩) (by assumption) ?restc2
        case hyc2 => intro W hSw; (try dsimp only at hSw); first | (go_simp; done) | (go_simp; with_reducible rfl)
        try simp only [Act.put, List.getElem_toArray, List.getElem_cons_succ, List.getElem_cons_zero, List.setIfInBounds_toArray, List.set_cons_succ, List.set_cons_zero]
        refine' wpAnyH_take (i := 3) (v := _) rfl (by kernel_rfl) (by kernel_rfl) (by kernel_rfl) (fun _ _ _ h => h) (Or.inl ⟨by kernel_rfl, ?hyc3⟩) (by assumption) ?restc3
        case hyc3 => intro W hSw; (try dsimp only at hSw); first | (go_simp; done) | (go_simp; with_reducible rfl)
        try simp only [Act.put]
        refine' wpAnyH_take (i := 4) (v := _) rfl (by kernel_rfl) (by kernel_rfl) (by kernel_rfl) (fun _ _ _ h => h) (Or.inl ⟨by kernel_rfl, ?hyc4⟩) (by assumption) ?restc4
        case hyc4 => intro W hSw; (try dsimp only at hSw); first | (go_simp; done) | (go_simp; with_reducible rfl)
        try simp only [Act.put]
        refine' wpAnyH_take (i := 5) (v := _) rfl (by kernel_rfl) (by kernel_rfl) (by kernel_rfl) (fun _ _ _ h => h) (Or.inl ⟨by kernel_rfl, ?hyc5⟩) (by assumption) ?restc5
        case hyc5 => intro W hSw; (try dsimp only at hSw); first | (go_simp; done) | (go_simp; with_reducible rfl)
        try simp only [Act.put, List.getElem_toArray, List.getElem_cons_succ, List.getElem_cons_zero, List.setIfInBounds_toArray, List.set_cons_succ, List.set_cons_zero]
        refine wpAnyH_ready (rs := [1, 10]) (by kernel_rfl) (by simp) ?_
        refine (AllReadyH.cons (i := 1) (o := _) rfl (fun K hK => ?brc1) (AllReadyH.cons (i := 10) (o := _) rfl (fun K hK => ?brc10) AllReadyH.nil))
        case brc1 =>
         go_simp
         go_at_call 38
         with_reducible refine (ab_any wd).mono ?_
         rintro e wc1 ⟨⟨gwc1, rfl, hswc1⟩, hbwc1⟩
         have HBwc1 := Lib.hid (HBd.out.trans ((hbwc1).mono HBd.out.size))
         have HXwc1 := Lib.hid (HXd.out.on13 hbwc1)
         have HKwc1 := Lib.hid (HKd.out.on13 hbwc1)
         have HTwc1 := Lib.hid (HW5.out.trans ((hbwc1).mono HW5.out.size))
         have HRwc1n := Lib.hid hswc1
         clear hswc1 hbwc1
         refine hK.out _ _ (HS6.out _ HBwc1.out HXwc1.out HTwc1.out) (fun hHeld => ?_)
         clear hK K
         try simp only [Act.put, List.getElem_toArray, List.getElem_cons_succ, List.getElem_cons_zero, List.setIfInBounds_toArray, List.set_cons_succ, List.set_cons_zero]
         refine wpAnyH_ready (rs := [6, 10]) (by kernel_rfl) (by simp) ?_
         refine (AllReadyH.cons (i := 6) (o := _) rfl (fun K hK => ?brcx16) (AllReadyH.cons (i := 10) (o := _) rfl (fun K hK => ?brcx110) AllReadyH.nil))
         case brcx16 =>
          go_simp
          go_at_call 26
          with_reducible refine (stDo_any na 3 nc none 0 0 none 0 0 (some ⟨gwc1, 0, none⟩) 2 2 a n c ma mn mc exB13 abS exS13 tk tr ts wc1 (Nat.le_refl _) (stageIn13 (HF.out _ HBwc1.out).1 HRwc1n.out HKwc1.out.now)).mono ?_
          rintro e wcx16 ⟨hstwcx16, hbwcx16⟩
          obtain ⟨a5, n5, c5, ma5, mn5, mc5, rfl, hkpwcx16⟩ := hstwcx16.kp hbwcx16
          rw [HTE.out, exDo13] at hkpwcx16 ⊢
          have HBwcx16 := Lib.hid (HBwc1.out.trans ((hbwcx16).mono HBwc1.out.size))
          have HXwcx16 := Lib.hid (HXwc1.out.on13 hbwcx16)
          have HKwcx16 := Lib.hid (HKwc1.out.on13 hbwcx16)
          have HTwcx16 := Lib.hid (HTwc1.out.trans ((hbwcx16).mono HTwc1.out.size))
          have HNwcx16n := Lib.hid hkpwcx16
          clear hkpwcx16 hstwcx16 hbwcx16
          refine hK.out _ _ (HS6.out _ HBwcx16.out HXwcx16.out HTwcx16.out) (fun hHeld => ?_)
          clear hK K
          refine' wpAnyH_take (i := 7) (v := _) rfl (by kernel_rfl) (by kernel_rfl) (by kernel_rfl) (fun _ _ _ h => h) (Or.inl ⟨by kernel_rfl, ?hycx1x67⟩) (by assumption) ?restcx1x67
          case hycx1x67 => intro W hSw; (try dsimp only at hSw); first | (go_simp; done) | (go_simp; with_reducible rfl)
          try simp only [Act.put]
          refine' wpAnyH_take (i := 8) (v := _) rfl (by kernel_rfl) (by kernel_rfl) (by kernel_rfl) (fun _ _ _ h => h) (Or.inl ⟨by kernel_rfl, ?hycx1x68⟩) (by assumption) ?restcx1x68
          case hycx1x68 => intro W hSw; (try dsimp only at hSw); first | (go_simp; done) | (go_simp; with_reducible rfl)
          try simp only [Act.put, List.getElem_toArray, List.getElem_cons_succ, List.getElem_cons_zero, List.setIfInBounds_toArray, List.set_cons_succ, List.set_cons_zero]
          refine' wpAnyH_take (i := 9) (v := _) rfl (by kernel_rfl) (by kernel_rfl) (by kernel_rfl) (fun _ _ _ h => h) (Or.inl ⟨by kernel_rfl, ?hycx1x69⟩) (by assumption) ?restcx1x69
          case hycx1x69 => intro W hSw; (try dsimp only at hSw); first | (go_simp; done) | (go_simp; with_reducible rfl)
          try simp only [Act.put, List.getElem_toArray, List.getElem_cons_succ, List.getElem_cons_zero, List.setIfInBounds_toArray, List.set_cons_succ, List.set_cons_zero]
          refine wpAnyH_ready (rs := [10]) (by kernel_rfl) (by simp) ?_
          refine AllReadyH.cons (i := 10) (o := _) rfl (fun K hK => ?_) AllReadyH.nil
          go_simp
          obtain ⟨wcx1x610, hwcx1x610⟩ : ∃ W : World, W = wcx16.alloc (.cells #[.slice none 0 0, .slice none 0 0] 38) := ⟨_, rfl⟩
          have htwcx1x610 : Below wcx16.heap.size wcx16 wcx1x610 := by rw [hwcx1x610]; exact tu1 wcx16 _
          have HBwcx1x610 := Lib.hid (HBwcx16.out.trans ((htwcx1x610).mono HBwcx16.out.size))
          have HXwcx1x610 := Lib.hid (HXwcx16.out.on13 htwcx1x610)
          have HKwcx1x610 := Lib.hid (HKwcx16.out.on13 htwcx1x610)
          have HNwcx1x610 := Lib.hid (HNwcx16n.out.on13 htwcx1x610)
          have HTwcx1x610 := Lib.hid (HTwcx16.out.trans ((htwcx1x610).mono HTwcx16.out.size))
          have HYwcx1x610n := Lib.hid (show SBox wcx1x610 wcx16.heap.size none 0 0 none 0 0 by rw [hwcx1x610]; exact heap_alloc_new wcx16 _)
          have hgewcx1x610 : w5.heap.size ≤ wcx16.heap.size := HTwcx16.out.size
          rw [← hwcx1x610]
          clear hwcx1x610 htwcx1x610
          have hap : wcx16.heap.size < wc1.heap.size ∨ wcx16.heap.size ≤ wcx16.heap.size := .inr (by have := HNwcx16n.out.le; omega)
          refine hK.out _ _ (HS6.out _ HBwcx1x610.out HXwcx1x610.out HTwcx1x610.out) (fun hHeld => ?_)
          clear hK K
          try simp only [Act.put, List.getElem_toArray, List.getElem_cons_succ, List.getElem_cons_zero, List.setIfInBounds_toArray, List.set_cons_succ, List.set_cons_zero]
          refine wpAnyH_ready (rs := [11]) (by kernel_rfl) (by simp) ?_
          refine AllReadyH.cons (i := 11) (o := _) rfl (fun K hK => ?_) AllReadyH.nil
          obtain ⟨y0, y1⟩ := HYwcx1x610n.out.cells
          have f0 := HYwcx1x610n.out.thaw 0
          have f1 := HYwcx1x610n.out.thaw 1
          go_simp
          have hset := set13 wcx1x610 wcx16.heap.size (.slice a5 n5 c5) (.slice ma5 mn5 mc5)
          have hgb : w1.heap.size ≤ wcx16.heap.size := Nat.le_trans HB5.out.size hgewcx1x610
          have HBs := Lib.hid (HBwcx1x610.out.trans (hset.below hgb HBwcx1x610.out.size))
          have HTs := Lib.hid (HTwcx1x610.out.trans (hset.below hgewcx1x610 HTwcx1x610.out.size))
          have HNs := Lib.hid (HNwcx1x610.out.aside hset hap)
          have HKs := Lib.hid (HKwcx1x610.out.aside hset (.inr (by have := HK5.out.le; omega)))
          have HXs := Lib.hid (HXwcx1x610.out.stay (hset.block g2 HXwcx1x610.out.lt (by have := HX5.out.lt; omega)))
          have HYs := Lib.hid (SBox.fill (a' := a5) (n' := n5) (c' := c5) (ma' := ma5) (mn' := mn5) (mc' := mc5) HYwcx1x610n.out)
          clear hset y0 y1 f0 f1
          refine hK.out _ _ (HS6.out _ HBs.out HXs.out HTs.out) (fun hHeld => ?_)
          clear hK K
          try simp only [Act.put, List.setIfInBounds_toArray]
          refine' wpAnyH_take (i := 12) (v := _) rfl (by kernel_rfl) (by kernel_rfl) (by kernel_rfl) (fun _ _ _ h => h) (Or.inl ⟨by kernel_rfl, ?hycx1x612⟩) (by assumption) ?restcx1x612
          case hycx1x612 => intro W hSw; (try dsimp only at hSw); first | (go_simp; done) | (go_simp; with_reducible rfl)
          try simp only [Act.put, List.getElem_toArray, List.getElem_cons_succ, List.getElem_cons_zero, List.setIfInBounds_toArray, List.set_cons_succ, List.set_cons_zero]
          refine wpAnyH_done (by kernel_rfl) ?_ _
          try simp only [Act.put, List.getElem_toArray, List.getElem_cons_succ, List.getElem_cons_zero, List.setIfInBounds_toArray, List.set_cons_succ, List.set_cons_zero]
          go_wp2_with fail
          all_goals
           go_meet
           case rel => exact ⟨_, a5, n5, c5, ma5, mn5, mc5, _, _, rfl, rfl, HBs, HXs, HKs, HYs, HNs⟩
         case brcx110 =>
          go_simp
          obtain ⟨wcx110, hwcx110⟩ : ∃ W : World, W = wc1.alloc (.cells #[.slice none 0 0, .slice none 0 0] 38) := ⟨_, rfl⟩
          have htwcx110 : Below wc1.heap.size wc1 wcx110 := by rw [hwcx110]; exact tu1 wc1 _
          have HBwcx110 := Lib.hid (HBwc1.out.trans ((htwcx110).mono HBwc1.out.size))
          have HXwcx110 := Lib.hid (HXwc1.out.on13 htwcx110)
          have HKwcx110 := Lib.hid (HKwc1.out.on13 htwcx110)
          have HRwcx110 := Lib.hid (HRwc1n.out.on13 htwcx110)
          have HTwcx110 := Lib.hid (HTwc1.out.trans ((htwcx110).mono HTwc1.out.size))
          have HYwcx110n := Lib.hid (show SBox wcx110 wc1.heap.size none 0 0 none 0 0 by rw [hwcx110]; exact heap_alloc_new wc1 _)
          have hgewcx110 : w5.heap.size ≤ wc1.heap.size := HTwc1.out.size
          rw [← hwcx110]
          clear hwcx110 htwcx110
          refine hK.out _ _ (HS6.out _ HBwcx110.out HXwcx110.out HTwcx110.out) (fun hHeld => ?_)
          clear hK K
          try simp only [Act.put, List.getElem_toArray, List.getElem_cons_succ, List.getElem_cons_zero, List.setIfInBounds_toArray, List.set_cons_succ, List.set_cons_zero]
          refine wpAnyH_ready (rs := [6]) (by kernel_rfl) (by simp) ?_
          refine AllReadyH.cons (i := 6) (o := _) rfl (fun K hK => ?_) AllReadyH.nil
          go_simp
          go_at_call 26
          with_reducible refine (stDo_any na 3 nc none 0 0 none 0 0 (some ⟨gwc1, 0, none⟩) 2 2 a n c ma mn mc exB13 abS exS13 tk tr ts wcx110 (Nat.le_refl _) (stageIn13 (HF.out _ HBwcx110.out).1 HRwcx110.out HKwcx110.out.now)).mono ?_
          rintro e wcx1x106 ⟨hstwcx1x106, hbwcx1x106⟩
          obtain ⟨a5, n5, c5, ma5, mn5, mc5, rfl, hkpwcx1x106⟩ := hstwcx1x106.kp hbwcx1x106
          rw [HTE.out, exDo13] at hkpwcx1x106 ⊢
          have HBwcx1x106 := Lib.hid (HBwcx110.out.trans ((hbwcx1x106).mono HBwcx110.out.size))
          have HXwcx1x106 := Lib.hid (HXwcx110.out.on13 hbwcx1x106)
          have HKwcx1x106 := Lib.hid (HKwcx110.out.on13 hbwcx1x106)
          have HYwcx1x106 := Lib.hid (HYwcx110n.out.on13 hbwcx1x106)
          have HTwcx1x106 := Lib.hid (HTwcx110.out.trans ((hbwcx1x106).mono HTwcx110.out.size))
          have HNwcx1x106n := Lib.hid hkpwcx1x106
          have hap : wc1.heap.size < wcx110.heap.size ∨ wcx1x106.heap.size ≤ wc1.heap.size := .inl HYwcx110n.out.lt
          clear hkpwcx1x106 hstwcx1x106 hbwcx1x106
          refine hK.out _ _ (HS6.out _ HBwcx1x106.out HXwcx1x106.out HTwcx1x106.out) (fun hHeld => ?_)
          clear hK K
          refine' wpAnyH_take (i := 7) (v := _) rfl (by kernel_rfl) (by kernel_rfl) (by kernel_rfl) (fun _ _ _ h => h) (Or.inl ⟨by kernel_rfl, ?hycx1x107⟩) (by assumption) ?restcx1x107
          case hycx1x107 => intro W hSw; (try dsimp only at hSw); first | (go_simp; done) | (go_simp; with_reducible rfl)
          try simp only [Act.put]
          refine' wpAnyH_take (i := 8) (v := _) rfl (by kernel_rfl) (by kernel_rfl) (by kernel_rfl) (fun _ _ _ h => h) (Or.inl ⟨by kernel_rfl, ?hycx1x108⟩) (by assumption) ?restcx1x108
          case hycx1x108 => intro W hSw; (try dsimp only at hSw); first | (go_simp; done) | (go_simp; with_reducible rfl)
          try simp only [Act.put, List.getElem_toArray, List.getElem_cons_succ, List.getElem_cons_zero, List.setIfInBounds_toArray, List.set_cons_succ, List.set_cons_zero]
          refine' wpAnyH_take (i := 9) (v := _) rfl (by kernel_rfl) (by kernel_rfl) (by kernel_rfl) (fun _ _ _ h => h) (Or.inl ⟨by kernel_rfl, ?hycx1x109⟩) (by assumption) ?restcx1x109
          case hycx1x109 => intro W hSw; (try dsimp only at hSw); first | (go_simp; done) | (go_simp; with_reducible rfl)
          try simp only [Act.put, List.getElem_toArray, List.getElem_cons_succ, List.getElem_cons_zero, List.setIfInBounds_toArray, List.set_cons_succ, List.set_cons_zero]
          refine wpAnyH_ready (rs := [11]) (by kernel_rfl) (by simp) ?_
          refine AllReadyH.cons (i := 11) (o := _) rfl (fun K hK => ?_) AllReadyH.nil
          obtain ⟨y0, y1⟩ := HYwcx1x106.out.cells
          have f0 := HYwcx1x106.out.thaw 0
          have f1 := HYwcx1x106.out.thaw 1
          go_simp
          have hset := set13 wcx1x106 wc1.heap.size (.slice a5 n5 c5) (.slice ma5 mn5 mc5)
          have hgb : w1.heap.size ≤ wc1.heap.size := Nat.le_trans HB5.out.size hgewcx110
          have HBs := Lib.hid (HBwcx1x106.out.trans (hset.below hgb HBwcx1x106.out.size))
          have HTs := Lib.hid (HTwcx1x106.out.trans (hset.below hgewcx110 HTwcx1x106.out.size))
          have HNs := Lib.hid (HNwcx1x106n.out.aside hset hap)
          have HKs := Lib.hid (HKwcx1x106.out.aside hset (.inr (by have := HK5.out.le; omega)))
          have HXs := Lib.hid (HXwcx1x106.out.stay (hset.block g2 HXwcx1x106.out.lt (by have := HX5.out.lt; omega)))
          have HYs := Lib.hid (SBox.fill (a' := a5) (n' := n5) (c' := c5) (ma' := ma5) (mn' := mn5) (mc' := mc5) HYwcx1x106.out)
          clear hset y0 y1 f0 f1
          refine hK.out _ _ (HS6.out _ HBs.out HXs.out HTs.out) (fun hHeld => ?_)
          clear hK K
          try simp only [Act.put, List.setIfInBounds_toArray]
          refine' wpAnyH_take (i := 12) (v := _) rfl (by kernel_rfl) (by kernel_rfl) (by kernel_rfl) (fun _ _ _ h => h) (Or.inl ⟨by kernel_rfl, ?hycx1x1012⟩) (by assumption) ?restcx1x1012
          case hycx1x1012 => intro W hSw; (try dsimp only at hSw); first | (go_simp; done) | (go_simp; with_reducible rfl)
          try simp only [Act.put, List.getElem_toArray, List.getElem_cons_succ, List.getElem_cons_zero, List.setIfInBounds_toArray, List.set_cons_succ, List.set_cons_zero]
          refine wpAnyH_done (by kernel_rfl) ?_ _
          try simp only [Act.put, List.getElem_toArray, List.getElem_cons_succ, List.getElem_cons_zero, List.setIfInBounds_toArray, List.set_cons_succ, List.set_cons_zero]
          go_wp2_with fail
          all_goals
           go_meet
           case rel => exact ⟨_, a5, n5, c5, ma5, mn5, mc5, _, _, rfl, rfl, HBs, HXs, HKs, HYs, HNs⟩
        case brc10 =>
         go_simp
         obtain ⟨wc10, hwc10⟩ : ∃ W : World, W = wd.alloc (.cells #[.slice none 0 0, .slice none 0 0] 38) := ⟨_, rfl⟩
         have htwc10 : Below wd.heap.size wd wc10 := by rw [hwc10]; exact tu1 wd _
         have HBwc10 := Lib.hid (HBd.out.trans ((htwc10).mono HBd.out.size))
         have HXwc10 := Lib.hid (HXd.out.on13 htwc10)
         have HKwc10 := Lib.hid (HKd.out.on13 htwc10)
         have HTwc10 := Lib.hid (HW5.out.trans ((htwc10).mono HW5.out.size))
         have HYwc10n := Lib.hid (show SBox wc10 wd.heap.size none 0 0 none 0 0 by rw [hwc10]; exact heap_alloc_new wd _)
         have hgewc10 : w5.heap.size ≤ wd.heap.size := HW5.out.size
         rw [← hwc10]
         clear hwc10 htwc10
         refine hK.out _ _ (HS6.out _ HBwc10.out HXwc10.out HTwc10.out) (fun hHeld => ?_)
         clear hK K
         try simp only [Act.put, List.getElem_toArray, List.getElem_cons_succ, List.getElem_cons_zero, List.setIfInBounds_toArray, List.set_cons_succ, List.set_cons_zero]
         refine wpAnyH_ready (rs := [1]) (by kernel_rfl) (by simp) ?_
         refine AllReadyH.cons (i := 1) (o := _) rfl (fun K hK => ?_) AllReadyH.nil
         go_simp
         go_at_call 38
         with_reducible refine (ab_any wc10).mono ?_
         rintro e wcx101 ⟨⟨gwcx101, rfl, hswcx101⟩, hbwcx101⟩
         have HBwcx101 := Lib.hid (HBwc10.out.trans ((hbwcx101).mono HBwc10.out.size))
         have HXwcx101 := Lib.hid (HXwc10.out.on13 hbwcx101)
         have HKwcx101 := Lib.hid (HKwc10.out.on13 hbwcx101)
         have HYwcx101 := Lib.hid (HYwc10n.out.on13 hbwcx101)
         have HTwcx101 := Lib.hid (HTwc10.out.trans ((hbwcx101).mono HTwc10.out.size))
         have HRwcx101n := Lib.hid hswcx101
         clear hswcx101 hbwcx101
         refine hK.out _ _ (HS6.out _ HBwcx101.out HXwcx101.out HTwcx101.out) (fun hHeld => ?_)
         clear hK K
         try simp only [Act.put, List.getElem_toArray, List.getElem_cons_succ, List.getElem_cons_zero, List.setIfInBounds_toArray, List.set_cons_succ, List.set_cons_zero]
         refine wpAnyH_ready (rs := [6]) (by kernel_rfl) (by simp) ?_
         refine AllReadyH.cons (i := 6) (o := _) rfl (fun K hK => ?_) AllReadyH.nil
         go_simp
         go_at_call 26
         with_reducible refine (stDo_any na 3 nc none 0 0 none 0 0 (some ⟨gwcx101, 0, none⟩) 2 2 a n c ma mn mc exB13 abS exS13 tk tr ts wcx101 (Nat.le_refl _) (stageIn13 (HF.out _ HBwcx101.out).1 HRwcx101n.out HKwcx101.out.now)).mono ?_
         rintro e wcx106 ⟨hstwcx106, hbwcx106⟩
         obtain ⟨a5, n5, c5, ma5, mn5, mc5, rfl, hkpwcx106⟩ := hstwcx106.kp hbwcx106
         rw [HTE.out, exDo13] at hkpwcx106 ⊢
         have HBwcx106 := Lib.hid (HBwcx101.out.trans ((hbwcx106).mono HBwcx101.out.size))
         have HXwcx106 := Lib.hid (HXwcx101.out.on13 hbwcx106)
         have HKwcx106 := Lib.hid (HKwcx101.out.on13 hbwcx106)
         have HYwcx106 := Lib.hid (HYwcx101.out.on13 hbwcx106)
         have HTwcx106 := Lib.hid (HTwcx101.out.trans ((hbwcx106).mono HTwcx101.out.size))
         have HNwcx106n := Lib.hid hkpwcx106
         have hap : wd.heap.size < wcx101.heap.size ∨ wcx106.heap.size ≤ wd.heap.size := .inl HYwcx101.out.lt
         clear hkpwcx106 hstwcx106 hbwcx106
         refine hK.out _ _ (HS6.out _ HBwcx106.out HXwcx106.out HTwcx106.out) (fun hHeld => ?_)
         clear hK K
         refine' wpAnyH_take (i := 7) (v := _) rfl (by kernel_rfl) (by kernel_rfl) (by kernel_rfl) (fun _ _ _ h => h) (Or.inl ⟨by kernel_rfl, ?hycx107⟩) (by assumption) ?restcx107
         case hycx107 => intro W hSw; (try dsimp only at hSw); first | (go_simp; done) | (go_simp; with_reducible rfl)
         try simp only [Act.put]
         refine' wpAnyH_take (i := 8) (v := _) rfl (by kernel_rfl) (by kernel_rfl) (by kernel_rfl) (fun _ _ _ h => h) (Or.inl ⟨by kernel_rfl, ?hycx108⟩) (by assumption) ?restcx108
         case hycx108 => intro W hSw; (try dsimp only at hSw); first | (go_simp; done) | (go_simp; with_reducible rfl)
         try simp only [Act.put, List.getElem_toArray, List.getElem_cons_succ, List.getElem_cons_zero, List.setIfInBounds_toArray, List.set_cons_succ, List.set_cons_zero]
         refine' wpAnyH_take (i := 9) (v := _) rfl (by kernel_rfl) (by kernel_rfl) (by kernel_rfl) (fun _ _ _ h => h) (Or.inl ⟨by kernel_rfl, ?hycx109⟩) (by assumption) ?restcx109
         case hycx109 => intro W hSw; (try dsimp only at hSw); first | (go_simp; done) | (go_simp; with_reducible rfl)
         try simp only [Act.put, List.getElem_toArray, List.getElem_cons_succ, List.getElem_cons_zero, List.setIfInBounds_toArray, List.set_cons_succ, List.set_cons_zero]
         refine wpAnyH_ready (rs := [11]) (by kernel_rfl) (by simp) ?_
         refine AllReadyH.cons (i := 11) (o := _) rfl (fun K hK => ?_) AllReadyH.nil
         obtain ⟨y0, y1⟩ := HYwcx106.out.cells
         have f0 := HYwcx106.out.thaw 0
         have f1 := HYwcx106.out.thaw 1
         go_simp
         have hset := set13 wcx106 wd.heap.size (.slice a5 n5 c5) (.slice ma5 mn5 mc5)
         have hgb : w1.heap.size ≤ wd.heap.size := Nat.le_trans HB5.out.size hgewc10
         have HBs := Lib.hid (HBwcx106.out.trans (hset.below hgb HBwcx106.out.size))
         have HTs := Lib.hid (HTwcx106.out.trans (hset.below hgewc10 HTwcx106.out.size))
         have HNs := Lib.hid (HNwcx106n.out.aside hset hap)
         have HKs := Lib.hid (HKwcx106.out.aside hset (.inr (by have := HK5.out.le; omega)))
         have HXs := Lib.hid (HXwcx106.out.stay (hset.block g2 HXwcx106.out.lt (by have := HX5.out.lt; omega)))
         have HYs := Lib.hid (SBox.fill (a' := a5) (n' := n5) (c' := c5) (ma' := ma5) (mn' := mn5) (mc' := mc5) HYwcx106.out)
         clear hset y0 y1 f0 f1
         refine hK.out _ _ (HS6.out _ HBs.out HXs.out HTs.out) (fun hHeld => ?_)
         clear hK K
         try simp only [Act.put, List.setIfInBounds_toArray]
         refine' wpAnyH_take (i := 12) (v := _) rfl (by kernel_rfl) (by kernel_rfl) (by kernel_rfl) (fun _ _ _ h => h) (Or.inl ⟨by kernel_rfl, ?hycx1012⟩) (by assumption) ?restcx1012
         case hycx1012 => intro W hSw; (try dsimp only at hSw); first | (go_simp; done) | (go_simp; with_reducible rfl)
         try simp only [Act.put, List.getElem_toArray, List.getElem_cons_succ, List.getElem_cons_zero, List.setIfInBounds_toArray, List.set_cons_succ, List.set_cons_zero]
         refine wpAnyH_done (by kernel_rfl) ?_ _
         try simp only [Act.put, List.getElem_toArray, List.getElem_cons_succ, List.getElem_cons_zero, List.setIfInBounds_toArray, List.set_cons_succ, List.set_cons_zero]
         go_wp2_with fail
         all_goals
          go_meet
          case rel => exact ⟨_, a5, n5, c5, ma5, mn5, mc5, _, _, rfl, rfl, HBs, HXs, HKs, HYs, HNs⟩
      case rest =>
        obtain ⟨g5, a5, n5, c5, ma5, mn5, mc5, lo5, hi5, e5, e6, HB6, HX6, HK6, HY6, HN6⟩ := hcut
        subst e5 e6
        have HS7 := Lib.hid (fun (W : World) (hW : Below w1.heap.size w1 W) (hx : SBox W g2 a n c ma mn mc) (hy : SBox W g5 a5 n5 c5 ma5 mn5 mc5) => show ((W.cell? ⟨g1, 0, none⟩ = some (.slice na 3 nc) ∧ W.cell? ⟨g1, 1, none⟩ = some (.slice none 0 0) ∧ W.cell? ⟨g1, 2, none⟩ = some (.slice none 0 0)) ∧ W.cell? ⟨g2, 0, none⟩ = some (.slice a n c) ∧ W.cell? ⟨g2, 1, none⟩ = some (.slice ma mn mc)) ∧ W.cell? ⟨g5, 0, none⟩ = some (.slice a5 n5 c5) ∧ W.cell? ⟨g5, 1, none⟩ = some (.slice ma5 mn5 mc5) from ⟨HS2.out W hW hx, hy.cells⟩)
        obtain ⟨w6, hw6⟩ : ∃ w6 : World, w6 = wc := ⟨_, rfl⟩
        subst hw6
        have hbd : Below w6.heap.size w6 w6.drew := bel_drewN (Below.refl _ _) 1
        have HBd := Lib.hid (HB6.out.trans (hbd.mono HB6.out.size))
        have HXd := Lib.hid (HX6.out.on13 hbd)
        have HKd := Lib.hid (HK6.out.on13 hbd)
        have HYd := Lib.hid (HY6.out.on13 hbd)
        have HNd := Lib.hid (HN6.out.on13 hbd)
        clear hbd
        go_wp2_with fail
        obtain ⟨wd, hwd⟩ : ∃ wd : World, wd = w6.drew := ⟨_, rfl⟩
        rw [← hwd] at HBd HXd HKd HYd HNd
        refine wp_region_held_drew (S := fun W => ((W.cell? ⟨g1, 0, none⟩ = some (.slice na 3 nc) ∧ W.cell? ⟨g1, 1, none⟩ = some (.slice none 0 0) ∧ W.cell? ⟨g1, 2, none⟩ = some (.slice none 0 0)) ∧ W.cell? ⟨g2, 0, none⟩ = some (.slice a n c) ∧ W.cell? ⟨g2, 1, none⟩ = some (.slice ma mn mc)) ∧ W.cell? ⟨g5, 0, none⟩ = some (.slice a5 n5 c5) ∧ W.cell? ⟨g5, 1, none⟩ = some (.slice ma5 mn5 mc5)) (by kernel_rfl) (by rw [← hwd]; exact HS7.out _ HBd.out HXd.out HYd.out) (fun hHeld => ?_)
        rw [← hwd]
        rw [← hwd] at hHeld
        clear hwd
        try simp only [Act.put, List.setIfInBounds_toArray]
        refine' wpAnyH_take (i := 0) (v := _) rfl (by kernel_rfl) (by kernel_rfl) (by kernel_rfl) (fun _ _ _ h => h) (Or.inl ⟨by kernel_rfl, ?hyd0⟩) (by assumption) ?restd0
        case hyd0 => intro W hSw; (try dsimp only at hSw); first | (go_simp; done) | (go_simp; with_reducible rfl)
        try simp only [Act.put]
        refine' wpAnyH_take (i := 1) (v := _) rfl (by kernel_rfl) (by kernel_rfl) (by kernel_rfl) (fun _ _ _ h => h) (Or.inl ⟨by kernel_rfl, ?hyd1⟩) (by assumption) ?restd1
        case hyd1 => intro W hSw; (try dsimp only at hSw); first | (go_simp; done) | (go_simp; with_reducible rfl)
        try simp only [Act.put, List.getElem_toArray, List.getElem_cons_succ, List.getElem_cons_zero, List.setIfInBounds_toArray, List.set_cons_succ, List.set_cons_zero]
        refine' wpAnyH_take (i := 2) (v := _) rfl (by kernel_rfl) (by kernel_rfl) (by kernel_rfl) (fun _ _ _ h => h) (Or.inl ⟨by kernel_rfl, ?hyd2⟩) (by assumption) ?restd2
        case hyd2 => intro W hSw; (try dsimp only at hSw); first | (go_simp; done) | (go_simp; with_reducible rfl)
        try simp only [Act.put]
        refine' wpAnyH_take (i := 3) (v := _) rfl (by kernel_rfl) (by kernel_rfl) (by kernel_rfl) (fun _ _ _ h => h) (Or.inl ⟨by kernel_rfl, ?hyd3⟩) (by assumption) ?restd3
        case hyd3 => intro W hSw; (try dsimp only at hSw); first | (go_simp; done) | (go_simp; with_reducible rfl)
        try simp only [Act.put]
        refine' wpAnyH_take (i := 5) (v := _) rfl (by kernel_rfl) (by kernel_rfl) (by kernel_rfl) (fun _ _ _ h => h) (Or.inl ⟨by kernel_rfl, ?hyd5⟩) (by assumption) ?restd5
        case hyd5 => intro W hSw; (try dsimp only at hSw); first | (go_simp; done) | (go_simp; with_reducible rfl)
        try simp only [Act.put, List.getElem_toArray, List.getElem_cons_succ, List.getElem_cons_zero, List.setIfInBounds_toArray, List.set_cons_succ, List.set_cons_zero]
        refine' wpAnyH_take (i := 7) (v := _) rfl (by kernel_rfl) (by kernel_rfl) (by kernel_rfl) (fun _ _ _ h => h) (Or.inl ⟨by kernel_rfl, ?hyd7⟩) (by assumption) ?restd7
        case hyd7 => intro W hSw; (try dsimp only at hSw); first | (go_simp; done) | (go_simp; with_reducible rfl)
        try simp only [Act.put, List.getElem_toArray, List.getElem_cons_succ, List.getElem_cons_zero, List.setIfInBounds_toArray, List.set_cons_succ, List.set_cons_zero]
        refine wpAnyH_ready (rs := [4, 8]) (by kernel_rfl) (by simp) ?_
        refine (AllReadyH.cons (i := 4) (o := _) rfl (fun K hK => ?brd4) (AllReadyH.cons (i := 8) (o := _) rfl (fun K hK => ?brd8) AllReadyH.nil))
        case brd4 =>
         go_simp
         go_at_call 38
         with_reducible refine (ab_any wd).mono ?_
         rintro e wd4 ⟨⟨gwd4, rfl, hswd4⟩, hbwd4⟩
         have HBwd4 := Lib.hid (HBd.out.trans ((hbwd4).mono HBd.out.size))
         have HXwd4 := Lib.hid (HXd.out.on13 hbwd4)
         have HKwd4 := Lib.hid (HKd.out.on13 hbwd4)
         have HYwd4 := Lib.hid (HYd.out.on13 hbwd4)
         have HNwd4 := Lib.hid (HNd.out.on13 hbwd4)
         have HRwd4n := Lib.hid hswd4
         clear hswd4 hbwd4
         refine hK.out _ _ (HS7.out _ HBwd4.out HXwd4.out HYwd4.out) (fun hHeld => ?_)
         clear hK K
         try simp only [Act.put, List.getElem_toArray, List.getElem_cons_succ, List.getElem_cons_zero, List.setIfInBounds_toArray, List.set_cons_succ, List.set_cons_zero]
         refine wpAnyH_ready (rs := [6, 8]) (by kernel_rfl) (by simp) ?_
         refine (AllReadyH.cons (i := 6) (o := _) rfl (fun K hK => ?brdx46) (AllReadyH.cons (i := 8) (o := _) rfl (fun K hK => ?brdx48) AllReadyH.nil))
         case brdx46 =>
          go_simp
          go_at_call 32
          with_reducible refine (stMoves_any na 3 nc none 0 0 none 0 0 (some ⟨gwd4, 0, none⟩) 2 2 a5 n5 c5 ma5 mn5 mc5 exB13 abS exT13 wd4 (Nat.le_refl _) (stageIn13 (HF.out _ HBwd4.out).1 HRwd4n.out HNwd4.out.now)).mono ?_
          rintro e wdx46 ⟨⟨vwdx46, rfl, howdx46⟩, hbwdx46⟩
          rw [exMoves13b] at howdx46
          obtain ⟨xa7, xc7, hvwdx46, hmwdx46, _, _⟩ := howdx46.sees (by simp)
          replace hvwdx46 : vwdx46 = .slice xa7 1 xc7 := hvwdx46
          subst hvwdx46
          have HBwdx46 := Lib.hid (HBwd4.out.trans ((hbwdx46).mono HBwd4.out.size))
          have HXwdx46 := Lib.hid (HXwd4.out.on13 hbwdx46)
          have HKwdx46 := Lib.hid (HKwd4.out.on13 hbwdx46)
          have HYwdx46 := Lib.hid (HYwd4.out.on13 hbwdx46)
          have HNwdx46 := Lib.hid (HNwd4.out.on13 hbwdx46)
          have HMwdx46n := Lib.hid (show Movs wdx46 wdx46.heap.size xa7 1 [⟨2, 1, [120]⟩] from hmwdx46)
          clear hmwdx46 howdx46 hbwdx46
          refine hK.out _ _ (HS7.out _ HBwdx46.out HXwdx46.out HYwdx46.out) (fun hHeld => ?_)
          clear hK K
          try simp only [Act.put, List.getElem_toArray, List.getElem_cons_succ, List.getElem_cons_zero, List.setIfInBounds_toArray, List.set_cons_succ, List.set_cons_zero]
          refine wpAnyH_ready (rs := [8]) (by kernel_rfl) (by simp) ?_
          refine AllReadyH.cons (i := 8) (o := _) rfl (fun K hK => ?_) AllReadyH.nil
          go_simp
          obtain ⟨wdx4x68, hwdx4x68⟩ : ∃ W : World, W = wdx46.alloc (.cells #[.int .i64 2, .int .i64 1, .string ⟨#[120]⟩] 40) := ⟨_, rfl⟩
          have htwdx4x68 : Below wdx46.heap.size wdx46 wdx4x68 := by rw [hwdx4x68]; exact tu1 wdx46 _
          have HBwdx4x68 := Lib.hid (HBwdx46.out.trans ((htwdx4x68).mono HBwdx46.out.size))
          have HXwdx4x68 := Lib.hid (HXwdx46.out.on13 htwdx4x68)
          have HKwdx4x68 := Lib.hid (HKwdx46.out.on13 htwdx4x68)
          have HYwdx4x68 := Lib.hid (HYwdx46.out.on13 htwdx4x68)
          have HNwdx4x68 := Lib.hid (HNwdx46.out.on13 htwdx4x68)
          have HMwdx4x68 := Lib.hid (HMwdx46n.out.on13 htwdx4x68)
          have HOwdx4x68n := Lib.hid (show Movs wdx4x68 wdx4x68.heap.size (some ⟨wdx46.heap.size, 0, none⟩) 1 [⟨2, 1, (⟨#[120]⟩ : ByteArray).toList⟩] by rw [hwdx4x68]; exact oneMove13 (heap_alloc_new wdx46 _) (by unfold maxLen; decide))
          rw [← hwdx4x68]
          clear hwdx4x68 htwdx4x68
          refine hK.out _ _ (HS7.out _ HBwdx4x68.out HXwdx4x68.out HYwdx4x68.out) (fun hHeld => ?_)
          clear hK K
          try simp only [Act.put, List.getElem_toArray, List.getElem_cons_succ, List.getElem_cons_zero, List.setIfInBounds_toArray, List.set_cons_succ, List.set_cons_zero]
          refine wpAnyH_ready (rs := [9]) (by kernel_rfl) (by simp) ?_
          refine AllReadyH.cons (i := 9) (o := _) rfl (fun K hK => ?_) AllReadyH.nil
          go_simp
          go_at_call 31
          have cs := sameMoves_any xa7 (some ⟨wdx46.heap.size, 0, none⟩) 1 1 xc7 1 _ _ wdx4x68 _ HMwdx4x68.out HOwdx4x68n.out
          rw [show (⟨#[120]⟩ : ByteArray).toList = [120] by rw [ByteArray.toList_eq], decide_eq_true rfl] at cs
          with_reducible refine cs.mono ?_
          clear cs
          rintro e wdx4x69 ⟨rfl, qwdx4x69, hqwdx4x69⟩
          have hbwdx4x69 : Below wdx4x68.heap.size wdx4x68 wdx4x69 := by rw [hqwdx4x69]; exact bel_drewN (Below.refl _ _) _
          have HBwdx4x69 := Lib.hid (HBwdx4x68.out.trans ((hbwdx4x69).mono HBwdx4x68.out.size))
          have HXwdx4x69 := Lib.hid (HXwdx4x68.out.on13 hbwdx4x69)
          have HKwdx4x69 := Lib.hid (HKwdx4x68.out.on13 hbwdx4x69)
          have HYwdx4x69 := Lib.hid (HYwdx4x68.out.on13 hbwdx4x69)
          have HNwdx4x69 := Lib.hid (HNwdx4x68.out.on13 hbwdx4x69)
          clear hqwdx4x69 hbwdx4x69
          refine hK.out _ _ (HS7.out _ HBwdx4x69.out HXwdx4x69.out HYwdx4x69.out) (fun hHeld => ?_)
          clear hK K
          try simp only [Act.put, List.setIfInBounds_toArray]
          refine' wpAnyH_take (i := 10) (v := _) rfl (by kernel_rfl) (by kernel_rfl) (by kernel_rfl) (fun _ _ _ h => h) (Or.inl ⟨by kernel_rfl, ?hydx4x610⟩) (by assumption) ?restdx4x610
          case hydx4x610 => intro W hSw; (try dsimp only at hSw); first | (go_simp; done) | (go_simp; with_reducible rfl)
          try simp only [Act.put]
          refine' wpAnyH_take (i := 11) (v := _) rfl (by kernel_rfl) (by kernel_rfl) (by kernel_rfl) (fun _ _ _ h => h) (Or.inl ⟨by kernel_rfl, ?hydx4x611⟩) (by assumption) ?restdx4x611
          case hydx4x611 => intro W hSw; (try dsimp only at hSw); first | (go_simp; done) | (go_simp; with_reducible rfl)
          try simp only [Act.put, List.getElem_toArray, List.getElem_cons_succ, List.getElem_cons_zero, List.setIfInBounds_toArray, List.set_cons_succ, List.set_cons_zero]
          refine' wpAnyH_take (i := 12) (v := _) rfl (by kernel_rfl) (by kernel_rfl) (by kernel_rfl) (fun _ _ _ h => h) (Or.inl ⟨by kernel_rfl, ?hydx4x612⟩) (by assumption) ?restdx4x612
          case hydx4x612 => intro W hSw; (try dsimp only at hSw); first | (go_simp; done) | (go_simp; with_reducible rfl)
          try simp only [Act.put]
          refine' wpAnyH_take (i := 14) (v := _) rfl (by kernel_rfl) (by kernel_rfl) (by kernel_rfl) (fun _ _ _ h => h) (Or.inl ⟨by kernel_rfl, ?hydx4x614⟩) (by assumption) ?restdx4x614
          case hydx4x614 => intro W hSw; (try dsimp only at hSw); first | (go_simp; done) | (go_simp; with_reducible rfl)
          try simp only [Act.put, List.getElem_toArray, List.getElem_cons_succ, List.getElem_cons_zero, List.setIfInBounds_toArray, List.set_cons_succ, List.set_cons_zero]
          refine wpAnyH_ready (rs := [13]) (by kernel_rfl) (by simp) ?_
          refine AllReadyH.cons (i := 13) (o := _) rfl (fun K hK => ?_) AllReadyH.nil
          go_simp
          go_at_call 38
          with_reducible refine (ab_any wdx4x69).mono ?_
          rintro e wdx4x613 ⟨⟨gwdx4x613, rfl, hswdx4x613⟩, hbwdx4x613⟩
          have HBwdx4x613 := Lib.hid (HBwdx4x69.out.trans ((hbwdx4x613).mono HBwdx4x69.out.size))
          have HXwdx4x613 := Lib.hid (HXwdx4x69.out.on13 hbwdx4x613)
          have HKwdx4x613 := Lib.hid (HKwdx4x69.out.on13 hbwdx4x613)
          have HYwdx4x613 := Lib.hid (HYwdx4x69.out.on13 hbwdx4x613)
          have HNwdx4x613 := Lib.hid (HNwdx4x69.out.on13 hbwdx4x613)
          have HRwdx4x613n := Lib.hid hswdx4x613
          clear hswdx4x613 hbwdx4x613
          refine hK.out _ _ (HS7.out _ HBwdx4x613.out HXwdx4x613.out HYwdx4x613.out) (fun hHeld => ?_)
          clear hK K
          try simp only [Act.put, List.getElem_toArray, List.getElem_cons_succ, List.getElem_cons_zero, List.setIfInBounds_toArray, List.set_cons_succ, List.set_cons_zero]
          refine wpAnyH_ready (rs := [15]) (by kernel_rfl) (by simp) ?_
          refine AllReadyH.cons (i := 15) (o := _) rfl (fun K hK => ?_) AllReadyH.nil
          go_simp
          go_at_call 34
          with_reducible refine (stOver_any na 3 nc none 0 0 none 0 0 (some ⟨gwdx4x613, 0, none⟩) 2 2 a5 n5 c5 ma5 mn5 mc5 exB13 abS exT13 wdx4x613 (Nat.le_refl _) (stageIn13 (HF.out _ HBwdx4x613.out).1 HRwdx4x613n.out HNwdx4x613.out.now)).mono ?_
          rintro e wdx4x615 ⟨rfl, hbwdx4x615⟩
          rw [exOver13]
          have HBwdx4x615 := Lib.hid (HBwdx4x613.out.trans ((hbwdx4x615).mono HBwdx4x613.out.size))
          have HXwdx4x615 := Lib.hid (HXwdx4x613.out.on13 hbwdx4x615)
          have HKwdx4x615 := Lib.hid (HKwdx4x613.out.on13 hbwdx4x615)
          have HYwdx4x615 := Lib.hid (HYwdx4x613.out.on13 hbwdx4x615)
          have HNwdx4x615 := Lib.hid (HNwdx4x613.out.on13 hbwdx4x615)
          clear hbwdx4x615
          refine hK.out _ _ (HS7.out _ HBwdx4x615.out HXwdx4x615.out HYwdx4x615.out) (fun hHeld => ?_)
          clear hK K
          try simp only [Act.put, List.setIfInBounds_toArray]
          refine' wpAnyH_take (i := 16) (v := _) rfl (by kernel_rfl) (by kernel_rfl) (by kernel_rfl) (fun _ _ _ h => h) (Or.inl ⟨by kernel_rfl, ?hydx4x616⟩) (by assumption) ?restdx4x616
          case hydx4x616 => intro W hSw; (try dsimp only at hSw); first | (go_simp; done) | (go_simp; with_reducible rfl)
          try simp only [Act.put]
          refine' wpAnyH_take (i := 17) (v := _) rfl (by kernel_rfl) (by kernel_rfl) (by kernel_rfl) (fun _ _ _ h => h) (Or.inl ⟨by kernel_rfl, ?hydx4x617⟩) (by assumption) ?restdx4x617
          case hydx4x617 => intro W hSw; (try dsimp only at hSw); first | (go_simp; done) | (go_simp; with_reducible rfl)
          try simp only [Act.put, List.getElem_toArray, List.getElem_cons_succ, List.getElem_cons_zero, List.setIfInBounds_toArray, List.set_cons_succ, List.set_cons_zero]
          refine' wpAnyH_take (i := 18) (v := _) rfl (by kernel_rfl) (by kernel_rfl) (by kernel_rfl) (fun _ _ _ h => h) (Or.inl ⟨by kernel_rfl, ?hydx4x618⟩) (by assumption) ?restdx4x618
          case hydx4x618 => intro W hSw; (try dsimp only at hSw); first | (go_simp; done) | (go_simp; with_reducible rfl)
          try simp only [Act.put]
          refine' wpAnyH_take (i := 19) (v := _) rfl (by kernel_rfl) (by kernel_rfl) (by kernel_rfl) (fun _ _ _ h => h) (Or.inl ⟨by kernel_rfl, ?hydx4x619⟩) (by assumption) ?restdx4x619
          case hydx4x619 => intro W hSw; (try dsimp only at hSw); first | (go_simp; done) | (go_simp; with_reducible rfl)
          try simp only [Act.put]
          refine' wpAnyH_take (i := 20) (v := _) rfl (by kernel_rfl) (by kernel_rfl) (by kernel_rfl) (fun _ _ _ h => h) (Or.inl ⟨by kernel_rfl, ?hydx4x620⟩) (by assumption) ?restdx4x620
          case hydx4x620 => intro W hSw; (try dsimp only at hSw); first | (go_simp; done) | (go_simp; with_reducible rfl)
          try simp only [Act.put, List.getElem_toArray, List.getElem_cons_succ, List.getElem_cons_zero, List.setIfInBounds_toArray, List.set_cons_succ, List.set_cons_zero]
          refine wpAnyH_ready (rs := [21]) (by kernel_rfl) (by simp) ?_
          refine AllReadyH.cons (i := 21) (o := _) rfl (fun K hK => ?_) AllReadyH.nil
          go_simp
          go_at_call 36
          with_reducible refine (stSame_any a5 n5 c5 ma5 mn5 mc5 a5 n5 c5 ma5 mn5 mc5 exT13 exT13 wdx4x615 HNwdx4x615.out.now HNwdx4x615.out.now (by decide) (by decide)).mono ?_
          rintro e wdx4x621 ⟨rfl, hbwdx4x621⟩
          rw [exSame13]
          have HBwdx4x621 := Lib.hid (HBwdx4x615.out.trans ((hbwdx4x621).mono HBwdx4x615.out.size))
          have HXwdx4x621 := Lib.hid (HXwdx4x615.out.on13 hbwdx4x621)
          have HKwdx4x621 := Lib.hid (HKwdx4x615.out.on13 hbwdx4x621)
          have HYwdx4x621 := Lib.hid (HYwdx4x615.out.on13 hbwdx4x621)
          have HNwdx4x621 := Lib.hid (HNwdx4x615.out.on13 hbwdx4x621)
          clear hbwdx4x621
          refine hK.out _ _ (HS7.out _ HBwdx4x621.out HXwdx4x621.out HYwdx4x621.out) (fun hHeld => ?_)
          clear hK K
          try simp only [Act.put, List.setIfInBounds_toArray]
          refine' wpAnyH_take (i := 22) (v := _) rfl (by kernel_rfl) (by kernel_rfl) (by kernel_rfl) (fun _ _ _ h => h) (Or.inl ⟨by kernel_rfl, ?hydx4x622⟩) (by assumption) ?restdx4x622
          case hydx4x622 => intro W hSw; (try dsimp only at hSw); first | (go_simp; done) | (go_simp; with_reducible rfl)
          try simp only [Act.put]
          refine' wpAnyH_take (i := 23) (v := _) rfl (by kernel_rfl) (by kernel_rfl) (by kernel_rfl) (fun _ _ _ h => h) (Or.inl ⟨by kernel_rfl, ?hydx4x623⟩) (by assumption) ?restdx4x623
          case hydx4x623 => intro W hSw; (try dsimp only at hSw); first | (go_simp; done) | (go_simp; with_reducible rfl)
          try simp only [Act.put, List.getElem_toArray, List.getElem_cons_succ, List.getElem_cons_zero, List.setIfInBounds_toArray, List.set_cons_succ, List.set_cons_zero]
          refine' wpAnyH_take (i := 24) (v := _) rfl (by kernel_rfl) (by kernel_rfl) (by kernel_rfl) (fun _ _ _ h => h) (Or.inl ⟨by kernel_rfl, ?hydx4x624⟩) (by assumption) ?restdx4x624
          case hydx4x624 => intro W hSw; (try dsimp only at hSw); first | (go_simp; done) | (go_simp; with_reducible rfl)
          try simp only [Act.put]
          refine' wpAnyH_take (i := 25) (v := _) rfl (by kernel_rfl) (by kernel_rfl) (by kernel_rfl) (fun _ _ _ h => h) (Or.inl ⟨by kernel_rfl, ?hydx4x625⟩) (by assumption) ?restdx4x625
          case hydx4x625 => intro W hSw; (try dsimp only at hSw); first | (go_simp; done) | (go_simp; with_reducible rfl)
          try simp only [Act.put, List.getElem_toArray, List.getElem_cons_succ, List.getElem_cons_zero, List.setIfInBounds_toArray, List.set_cons_succ, List.set_cons_zero]
          refine wpAnyH_ready (rs := [26]) (by kernel_rfl) (by simp) ?_
          refine AllReadyH.cons (i := 26) (o := _) rfl (fun K hK => ?_) AllReadyH.nil
          go_simp
          go_at_call 36
          with_reducible refine (stSame_any a n c ma mn mc a5 n5 c5 ma5 mn5 mc5 exS13 exT13 wdx4x621 HKwdx4x621.out.now HNwdx4x621.out.now (by decide) (by decide)).mono ?_
          rintro e wdx4x626 ⟨rfl, hbwdx4x626⟩
          rw [exSame13b]
          have HBwdx4x626 := Lib.hid (HBwdx4x621.out.trans ((hbwdx4x626).mono HBwdx4x621.out.size))
          have HXwdx4x626 := Lib.hid (HXwdx4x621.out.on13 hbwdx4x626)
          have HKwdx4x626 := Lib.hid (HKwdx4x621.out.on13 hbwdx4x626)
          have HYwdx4x626 := Lib.hid (HYwdx4x621.out.on13 hbwdx4x626)
          have HNwdx4x626 := Lib.hid (HNwdx4x621.out.on13 hbwdx4x626)
          clear hbwdx4x626
          refine hK.out _ _ (HS7.out _ HBwdx4x626.out HXwdx4x626.out HYwdx4x626.out) (fun hHeld => ?_)
          clear hK K
          try simp only [Act.put, List.setIfInBounds_toArray]
          refine' wpAnyH_take (i := 27) (v := _) rfl (by kernel_rfl) (by kernel_rfl) (by kernel_rfl) (fun _ _ _ h => h) (Or.inl ⟨by kernel_rfl, ?hydx4x627⟩) (by assumption) ?restdx4x627
          case hydx4x627 => intro W hSw; (try dsimp only at hSw); first | (go_simp; done) | (go_simp; with_reducible rfl)
          try simp only [Act.put]
          refine' wpAnyH_take (i := 28) (v := _) rfl (by kernel_rfl) (by kernel_rfl) (by kernel_rfl) (fun _ _ _ h => h) (Or.inl ⟨by kernel_rfl, ?hydx4x628⟩) (by assumption) ?restdx4x628
          case hydx4x628 => intro W hSw; (try dsimp only at hSw); first | (go_simp; done) | (go_simp; with_reducible rfl)
          try simp only [Act.put, List.getElem_toArray, List.getElem_cons_succ, List.getElem_cons_zero, List.setIfInBounds_toArray, List.set_cons_succ, List.set_cons_zero]
          refine' wpAnyH_take (i := 29) (v := _) rfl (by kernel_rfl) (by kernel_rfl) (by kernel_rfl) (fun _ _ _ h => h) (Or.inl ⟨by kernel_rfl, ?hydx4x629⟩) (by assumption) ?restdx4x629
          case hydx4x629 => intro W hSw; (try dsimp only at hSw); first | (go_simp; done) | (go_simp; with_reducible rfl)
          try simp only [Act.put, List.getElem_toArray, List.getElem_cons_succ, List.getElem_cons_zero, List.setIfInBounds_toArray, List.set_cons_zero]
          refine wpAnyH_done (by kernel_rfl) ?_ _
          try simp only [Act.put, List.getElem_toArray, List.getElem_cons_succ, List.getElem_cons_zero, List.setIfInBounds_toArray, List.set_cons_succ, List.set_cons_zero]
          go_wp2_with fail
          go_ret
          exact ⟨rfl, HBW.out.trans (HBwdx4x626.out.mono HBW.out.size)⟩
         case brdx48 =>
          go_simp
          obtain ⟨wdx48, hwdx48⟩ : ∃ W : World, W = wd4.alloc (.cells #[.int .i64 2, .int .i64 1, .string ⟨#[120]⟩] 40) := ⟨_, rfl⟩
          have htwdx48 : Below wd4.heap.size wd4 wdx48 := by rw [hwdx48]; exact tu1 wd4 _
          have HBwdx48 := Lib.hid (HBwd4.out.trans ((htwdx48).mono HBwd4.out.size))
          have HXwdx48 := Lib.hid (HXwd4.out.on13 htwdx48)
          have HKwdx48 := Lib.hid (HKwd4.out.on13 htwdx48)
          have HYwdx48 := Lib.hid (HYwd4.out.on13 htwdx48)
          have HNwdx48 := Lib.hid (HNwd4.out.on13 htwdx48)
          have HRwdx48 := Lib.hid (HRwd4n.out.on13 htwdx48)
          have HOwdx48n := Lib.hid (show Movs wdx48 wdx48.heap.size (some ⟨wd4.heap.size, 0, none⟩) 1 [⟨2, 1, (⟨#[120]⟩ : ByteArray).toList⟩] by rw [hwdx48]; exact oneMove13 (heap_alloc_new wd4 _) (by unfold maxLen; decide))
          rw [← hwdx48]
          clear hwdx48 htwdx48
          refine hK.out _ _ (HS7.out _ HBwdx48.out HXwdx48.out HYwdx48.out) (fun hHeld => ?_)
          clear hK K
          try simp only [Act.put, List.getElem_toArray, List.getElem_cons_succ, List.getElem_cons_zero, List.setIfInBounds_toArray, List.set_cons_succ, List.set_cons_zero]
          refine wpAnyH_ready (rs := [6]) (by kernel_rfl) (by simp) ?_
          refine AllReadyH.cons (i := 6) (o := _) rfl (fun K hK => ?_) AllReadyH.nil
          go_simp
          go_at_call 32
          with_reducible refine (stMoves_any na 3 nc none 0 0 none 0 0 (some ⟨gwd4, 0, none⟩) 2 2 a5 n5 c5 ma5 mn5 mc5 exB13 abS exT13 wdx48 (Nat.le_refl _) (stageIn13 (HF.out _ HBwdx48.out).1 HRwdx48.out HNwdx48.out.now)).mono ?_
          rintro e wdx4x86 ⟨⟨vwdx4x86, rfl, howdx4x86⟩, hbwdx4x86⟩
          rw [exMoves13b] at howdx4x86
          obtain ⟨xa7, xc7, hvwdx4x86, hmwdx4x86, _, _⟩ := howdx4x86.sees (by simp)
          replace hvwdx4x86 : vwdx4x86 = .slice xa7 1 xc7 := hvwdx4x86
          subst hvwdx4x86
          have HBwdx4x86 := Lib.hid (HBwdx48.out.trans ((hbwdx4x86).mono HBwdx48.out.size))
          have HXwdx4x86 := Lib.hid (HXwdx48.out.on13 hbwdx4x86)
          have HKwdx4x86 := Lib.hid (HKwdx48.out.on13 hbwdx4x86)
          have HYwdx4x86 := Lib.hid (HYwdx48.out.on13 hbwdx4x86)
          have HNwdx4x86 := Lib.hid (HNwdx48.out.on13 hbwdx4x86)
          have HOwdx4x86 := Lib.hid (HOwdx48n.out.on13 hbwdx4x86)
          have HMwdx4x86n := Lib.hid (show Movs wdx4x86 wdx4x86.heap.size xa7 1 [⟨2, 1, [120]⟩] from hmwdx4x86)
          clear hmwdx4x86 howdx4x86 hbwdx4x86
          refine hK.out _ _ (HS7.out _ HBwdx4x86.out HXwdx4x86.out HYwdx4x86.out) (fun hHeld => ?_)
          clear hK K
          try simp only [Act.put, List.getElem_toArray, List.getElem_cons_succ, List.getElem_cons_zero, List.setIfInBounds_toArray, List.set_cons_succ, List.set_cons_zero]
          refine wpAnyH_ready (rs := [9]) (by kernel_rfl) (by simp) ?_
          refine AllReadyH.cons (i := 9) (o := _) rfl (fun K hK => ?_) AllReadyH.nil
          go_simp
          go_at_call 31
          have cs := sameMoves_any xa7 (some ⟨wd4.heap.size, 0, none⟩) 1 1 xc7 1 _ _ wdx4x86 _ HMwdx4x86n.out HOwdx4x86.out
          rw [show (⟨#[120]⟩ : ByteArray).toList = [120] by rw [ByteArray.toList_eq], decide_eq_true rfl] at cs
          with_reducible refine cs.mono ?_
          clear cs
          rintro e wdx4x89 ⟨rfl, qwdx4x89, hqwdx4x89⟩
          have hbwdx4x89 : Below wdx4x86.heap.size wdx4x86 wdx4x89 := by rw [hqwdx4x89]; exact bel_drewN (Below.refl _ _) _
          have HBwdx4x89 := Lib.hid (HBwdx4x86.out.trans ((hbwdx4x89).mono HBwdx4x86.out.size))
          have HXwdx4x89 := Lib.hid (HXwdx4x86.out.on13 hbwdx4x89)
          have HKwdx4x89 := Lib.hid (HKwdx4x86.out.on13 hbwdx4x89)
          have HYwdx4x89 := Lib.hid (HYwdx4x86.out.on13 hbwdx4x89)
          have HNwdx4x89 := Lib.hid (HNwdx4x86.out.on13 hbwdx4x89)
          clear hqwdx4x89 hbwdx4x89
          refine hK.out _ _ (HS7.out _ HBwdx4x89.out HXwdx4x89.out HYwdx4x89.out) (fun hHeld => ?_)
          clear hK K
          try simp only [Act.put, List.setIfInBounds_toArray]
          refine' wpAnyH_take (i := 10) (v := _) rfl (by kernel_rfl) (by kernel_rfl) (by kernel_rfl) (fun _ _ _ h => h) (Or.inl ⟨by kernel_rfl, ?hydx4x810⟩) (by assumption) ?restdx4x810
          case hydx4x810 => intro W hSw; (try dsimp only at hSw); first | (go_simp; done) | (go_simp; with_reducible rfl)
          try simp only [Act.put]
          refine' wpAnyH_take (i := 11) (v := _) rfl (by kernel_rfl) (by kernel_rfl) (by kernel_rfl) (fun _ _ _ h => h) (Or.inl ⟨by kernel_rfl, ?hydx4x811⟩) (by assumption) ?restdx4x811
          case hydx4x811 => intro W hSw; (try dsimp only at hSw); first | (go_simp; done) | (go_simp; with_reducible rfl)
          try simp only [Act.put, List.getElem_toArray, List.getElem_cons_succ, List.getElem_cons_zero, List.setIfInBounds_toArray, List.set_cons_succ, List.set_cons_zero]
          refine' wpAnyH_take (i := 12) (v := _) rfl (by kernel_rfl) (by kernel_rfl) (by kernel_rfl) (fun _ _ _ h => h) (Or.inl ⟨by kernel_rfl, ?hydx4x812⟩) (by assumption) ?restdx4x812
          case hydx4x812 => intro W hSw; (try dsimp only at hSw); first | (go_simp; done) | (go_simp; with_reducible rfl)
          try simp only [Act.put]
          refine' wpAnyH_take (i := 14) (v := _) rfl (by kernel_rfl) (by kernel_rfl) (by kernel_rfl) (fun _ _ _ h => h) (Or.inl ⟨by kernel_rfl, ?hydx4x814⟩) (by assumption) ?restdx4x814
          case hydx4x814 => intro W hSw; (try dsimp only at hSw); first | (go_simp; done) | (go_simp; with_reducible rfl)
          try simp only [Act.put, List.getElem_toArray, List.getElem_cons_succ, List.getElem_cons_zero, List.setIfInBounds_toArray, List.set_cons_succ, List.set_cons_zero]
          refine wpAnyH_ready (rs := [13]) (by kernel_rfl) (by simp) ?_
          refine AllReadyH.cons (i := 13) (o := _) rfl (fun K hK => ?_) AllReadyH.nil
          go_simp
          go_at_call 38
          with_reducible refine (ab_any wdx4x89).mono ?_
          rintro e wdx4x813 ⟨⟨gwdx4x813, rfl, hswdx4x813⟩, hbwdx4x813⟩
          have HBwdx4x813 := Lib.hid (HBwdx4x89.out.trans ((hbwdx4x813).mono HBwdx4x89.out.size))
          have HXwdx4x813 := Lib.hid (HXwdx4x89.out.on13 hbwdx4x813)
          have HKwdx4x813 := Lib.hid (HKwdx4x89.out.on13 hbwdx4x813)
          have HYwdx4x813 := Lib.hid (HYwdx4x89.out.on13 hbwdx4x813)
          have HNwdx4x813 := Lib.hid (HNwdx4x89.out.on13 hbwdx4x813)
          have HRwdx4x813n := Lib.hid hswdx4x813
          clear hswdx4x813 hbwdx4x813
          refine hK.out _ _ (HS7.out _ HBwdx4x813.out HXwdx4x813.out HYwdx4x813.out) (fun hHeld => ?_)
          clear hK K
          try simp only [Act.put, List.getElem_toArray, List.getElem_cons_succ, List.getElem_cons_zero, List.setIfInBounds_toArray, List.set_cons_succ, List.set_cons_zero]
          refine wpAnyH_ready (rs := [15]) (by kernel_rfl) (by simp) ?_
          refine AllReadyH.cons (i := 15) (o := _) rfl (fun K hK => ?_) AllReadyH.nil
          go_simp
          go_at_call 34
          with_reducible refine (stOver_any na 3 nc none 0 0 none 0 0 (some ⟨gwdx4x813, 0, none⟩) 2 2 a5 n5 c5 ma5 mn5 mc5 exB13 abS exT13 wdx4x813 (Nat.le_refl _) (stageIn13 (HF.out _ HBwdx4x813.out).1 HRwdx4x813n.out HNwdx4x813.out.now)).mono ?_
          rintro e wdx4x815 ⟨rfl, hbwdx4x815⟩
          rw [exOver13]
          have HBwdx4x815 := Lib.hid (HBwdx4x813.out.trans ((hbwdx4x815).mono HBwdx4x813.out.size))
          have HXwdx4x815 := Lib.hid (HXwdx4x813.out.on13 hbwdx4x815)
          have HKwdx4x815 := Lib.hid (HKwdx4x813.out.on13 hbwdx4x815)
          have HYwdx4x815 := Lib.hid (HYwdx4x813.out.on13 hbwdx4x815)
          have HNwdx4x815 := Lib.hid (HNwdx4x813.out.on13 hbwdx4x815)
          clear hbwdx4x815
          refine hK.out _ _ (HS7.out _ HBwdx4x815.out HXwdx4x815.out HYwdx4x815.out) (fun hHeld => ?_)
          clear hK K
          try simp only [Act.put, List.setIfInBounds_toArray]
          refine' wpAnyH_take (i := 16) (v := _) rfl (by kernel_rfl) (by kernel_rfl) (by kernel_rfl) (fun _ _ _ h => h) (Or.inl ⟨by kernel_rfl, ?hydx4x816⟩) (by assumption) ?restdx4x816
          case hydx4x816 => intro W hSw; (try dsimp only at hSw); first | (go_simp; done) | (go_simp; with_reducible rfl)
          try simp only [Act.put]
          refine' wpAnyH_take (i := 17) (v := _) rfl (by kernel_rfl) (by kernel_rfl) (by kernel_rfl) (fun _ _ _ h => h) (Or.inl ⟨by kernel_rfl, ?hydx4x817⟩) (by assumption) ?restdx4x817
          case hydx4x817 => intro W hSw; (try dsimp only at hSw); first | (go_simp; done) | (go_simp; with_reducible rfl)
          try simp only [Act.put, List.getElem_toArray, List.getElem_cons_succ, List.getElem_cons_zero, List.setIfInBounds_toArray, List.set_cons_succ, List.set_cons_zero]
          refine' wpAnyH_take (i := 18) (v := _) rfl (by kernel_rfl) (by kernel_rfl) (by kernel_rfl) (fun _ _ _ h => h) (Or.inl ⟨by kernel_rfl, ?hydx4x818⟩) (by assumption) ?restdx4x818
          case hydx4x818 => intro W hSw; (try dsimp only at hSw); first | (go_simp; done) | (go_simp; with_reducible rfl)
          try simp only [Act.put]
          refine' wpAnyH_take (i := 19) (v := _) rfl (by kernel_rfl) (by kernel_rfl) (by kernel_rfl) (fun _ _ _ h => h) (Or.inl ⟨by kernel_rfl, ?hydx4x819⟩) (by assumption) ?restdx4x819
          case hydx4x819 => intro W hSw; (try dsimp only at hSw); first | (go_simp; done) | (go_simp; with_reducible rfl)
          try simp only [Act.put]
          refine' wpAnyH_take (i := 20) (v := _) rfl (by kernel_rfl) (by kernel_rfl) (by kernel_rfl) (fun _ _ _ h => h) (Or.inl ⟨by kernel_rfl, ?hydx4x820⟩) (by assumption) ?restdx4x820
          case hydx4x820 => intro W hSw; (try dsimp only at hSw); first | (go_simp; done) | (go_simp; with_reducible rfl)
          try simp only [Act.put, List.getElem_toArray, List.getElem_cons_succ, List.getElem_cons_zero, List.setIfInBounds_toArray, List.set_cons_succ, List.set_cons_zero]
          refine wpAnyH_ready (rs := [21]) (by kernel_rfl) (by simp) ?_
          refine AllReadyH.cons (i := 21) (o := _) rfl (fun K hK => ?_) AllReadyH.nil
          go_simp
          go_at_call 36
          with_reducible refine (stSame_any a5 n5 c5 ma5 mn5 mc5 a5 n5 c5 ma5 mn5 mc5 exT13 exT13 wdx4x815 HNwdx4x815.out.now HNwdx4x815.out.now (by decide) (by decide)).mono ?_
          rintro e wdx4x821 ⟨rfl, hbwdx4x821⟩
          rw [exSame13]
          have HBwdx4x821 := Lib.hid (HBwdx4x815.out.trans ((hbwdx4x821).mono HBwdx4x815.out.size))
          have HXwdx4x821 := Lib.hid (HXwdx4x815.out.on13 hbwdx4x821)
          have HKwdx4x821 := Lib.hid (HKwdx4x815.out.on13 hbwdx4x821)
          have HYwdx4x821 := Lib.hid (HYwdx4x815.out.on13 hbwdx4x821)
          have HNwdx4x821 := Lib.hid (HNwdx4x815.out.on13 hbwdx4x821)
          clear hbwdx4x821
          refine hK.out _ _ (HS7.out _ HBwdx4x821.out HXwdx4x821.out HYwdx4x821.out) (fun hHeld => ?_)
          clear hK K
          try simp only [Act.put, List.setIfInBounds_toArray]
          refine' wpAnyH_take (i := 22) (v := _) rfl (by kernel_rfl) (by kernel_rfl) (by kernel_rfl) (fun _ _ _ h => h) (Or.inl ⟨by kernel_rfl, ?hydx4x822⟩) (by assumption) ?restdx4x822
          case hydx4x822 => intro W hSw; (try dsimp only at hSw); first | (go_simp; done) | (go_simp; with_reducible rfl)
          try simp only [Act.put]
          refine' wpAnyH_take (i := 23) (v := _) rfl (by kernel_rfl) (by kernel_rfl) (by kernel_rfl) (fun _ _ _ h => h) (Or.inl ⟨by kernel_rfl, ?hydx4x823⟩) (by assumption) ?restdx4x823
          case hydx4x823 => intro W hSw; (try dsimp only at hSw); first | (go_simp; done) | (go_simp; with_reducible rfl)
          try simp only [Act.put, List.getElem_toArray, List.getElem_cons_succ, List.getElem_cons_zero, List.setIfInBounds_toArray, List.set_cons_succ, List.set_cons_zero]
          refine' wpAnyH_take (i := 24) (v := _) rfl (by kernel_rfl) (by kernel_rfl) (by kernel_rfl) (fun _ _ _ h => h) (Or.inl ⟨by kernel_rfl, ?hydx4x824⟩) (by assumption) ?restdx4x824
          case hydx4x824 => intro W hSw; (try dsimp only at hSw); first | (go_simp; done) | (go_simp; with_reducible rfl)
          try simp only [Act.put]
          refine' wpAnyH_take (i := 25) (v := _) rfl (by kernel_rfl) (by kernel_rfl) (by kernel_rfl) (fun _ _ _ h => h) (Or.inl ⟨by kernel_rfl, ?hydx4x825⟩) (by assumption) ?restdx4x825
          case hydx4x825 => intro W hSw; (try dsimp only at hSw); first | (go_simp; done) | (go_simp; with_reducible rfl)
          try simp only [Act.put, List.getElem_toArray, List.getElem_cons_succ, List.getElem_cons_zero, List.setIfInBounds_toArray, List.set_cons_succ, List.set_cons_zero]
          refine wpAnyH_ready (rs := [26]) (by kernel_rfl) (by simp) ?_
          refine AllReadyH.cons (i := 26) (o := _) rfl (fun K hK => ?_) AllReadyH.nil
          go_simp
          go_at_call 36
          with_reducible refine (stSame_any a n c ma mn mc a5 n5 c5 ma5 mn5 mc5 exS13 exT13 wdx4x821 HKwdx4x821.out.now HNwdx4x821.out.now (by decide) (by decide)).mono ?_
          rintro e wdx4x826 ⟨rfl, hbwdx4x826⟩
          rw [exSame13b]
          have HBwdx4x826 := Lib.hid (HBwdx4x821.out.trans ((hbwdx4x826).mono HBwdx4x821.out.size))
          have HXwdx4x826 := Lib.hid (HXwdx4x821.out.on13 hbwdx4x826)
          have HKwdx4x826 := Lib.hid (HKwdx4x821.out.on13 hbwdx4x826)
          have HYwdx4x826 := Lib.hid (HYwdx4x821.out.on13 hbwdx4x826)
          have HNwdx4x826 := Lib.hid (HNwdx4x821.out.on13 hbwdx4x826)
          clear hbwdx4x826
          refine hK.out _ _ (HS7.out _ HBwdx4x826.out HXwdx4x826.out HYwdx4x826.out) (fun hHeld => ?_)
          clear hK K
          try simp only [Act.put, List.setIfInBounds_toArray]
          refine' wpAnyH_take (i := 27) (v := _) rfl (by kernel_rfl) (by kernel_rfl) (by kernel_rfl) (fun _ _ _ h => h) (Or.inl ⟨by kernel_rfl, ?hydx4x827⟩) (by assumption) ?restdx4x827
          case hydx4x827 => intro W hSw; (try dsimp only at hSw); first | (go_simp; done) | (go_simp; with_reducible rfl)
          try simp only [Act.put]
          refine' wpAnyH_take (i := 28) (v := _) rfl (by kernel_rfl) (by kernel_rfl) (by kernel_rfl) (fun _ _ _ h => h) (Or.inl ⟨by kernel_rfl, ?hydx4x828⟩) (by assumption) ?restdx4x828
          case hydx4x828 => intro W hSw; (try dsimp only at hSw); first | (go_simp; done) | (go_simp; with_reducible rfl)
          try simp only [Act.put, List.getElem_toArray, List.getElem_cons_succ, List.getElem_cons_zero, List.setIfInBounds_toArray, List.set_cons_succ, List.set_cons_zero]
          refine' wpAnyH_take (i := 29) (v := _) rfl (by kernel_rfl) (by kernel_rfl) (by kernel_rfl) (fun _ _ _ h => h) (Or.inl ⟨by kernel_rfl, ?hydx4x829⟩) (by assumption) ?restdx4x829
          case hydx4x829 => intro W hSw; (try dsimp only at hSw); first | (go_simp; done) | (go_simp; with_reducible rfl)
          try simp only [Act.put, List.getElem_toArray, List.getElem_cons_succ, List.getElem_cons_zero, List.setIfInBounds_toArray, List.set_cons_zero]
          refine wpAnyH_done (by kernel_rfl) ?_ _
          try simp only [Act.put, List.getElem_toArray, List.getElem_cons_succ, List.getElem_cons_zero, List.setIfInBounds_toArray, List.set_cons_succ, List.set_cons_zero]
          go_wp2_with fail
          go_ret
          exact ⟨rfl, HBW.out.trans (HBwdx4x826.out.mono HBW.out.size)⟩
        case brd8 =>
         go_simp
         obtain ⟨wd8, hwd8⟩ : ∃ W : World, W = wd.alloc (.cells #[.int .i64 2, .int .i64 1, .string ⟨#[120]⟩] 40) := ⟨_, rfl⟩
         have htwd8 : Below wd.heap.size wd wd8 := by rw [hwd8]; exact tu1 wd _
         have HBwd8 := Lib.hid (HBd.out.trans ((htwd8).mono HBd.out.size))
         have HXwd8 := Lib.hid (HXd.out.on13 htwd8)
         have HKwd8 := Lib.hid (HKd.out.on13 htwd8)
         have HYwd8 := Lib.hid (HYd.out.on13 htwd8)
         have HNwd8 := Lib.hid (HNd.out.on13 htwd8)
         have HOwd8n := Lib.hid (show Movs wd8 wd8.heap.size (some ⟨wd.heap.size, 0, none⟩) 1 [⟨2, 1, (⟨#[120]⟩ : ByteArray).toList⟩] by rw [hwd8]; exact oneMove13 (heap_alloc_new wd _) (by unfold maxLen; decide))
         rw [← hwd8]
         clear hwd8 htwd8
         refine hK.out _ _ (HS7.out _ HBwd8.out HXwd8.out HYwd8.out) (fun hHeld => ?_)
         clear hK K
         try simp only [Act.put, List.getElem_toArray, List.getElem_cons_succ, List.getElem_cons_zero, List.setIfInBounds_toArray, List.set_cons_succ, List.set_cons_zero]
         refine wpAnyH_ready (rs := [4]) (by kernel_rfl) (by simp) ?_
         refine AllReadyH.cons (i := 4) (o := _) rfl (fun K hK => ?_) AllReadyH.nil
         go_simp
         go_at_call 38
         with_reducible refine (ab_any wd8).mono ?_
         rintro e wdx84 ⟨⟨gwdx84, rfl, hswdx84⟩, hbwdx84⟩
         have HBwdx84 := Lib.hid (HBwd8.out.trans ((hbwdx84).mono HBwd8.out.size))
         have HXwdx84 := Lib.hid (HXwd8.out.on13 hbwdx84)
         have HKwdx84 := Lib.hid (HKwd8.out.on13 hbwdx84)
         have HYwdx84 := Lib.hid (HYwd8.out.on13 hbwdx84)
         have HNwdx84 := Lib.hid (HNwd8.out.on13 hbwdx84)
         have HOwdx84 := Lib.hid (HOwd8n.out.on13 hbwdx84)
         have HRwdx84n := Lib.hid hswdx84
         clear hswdx84 hbwdx84
         refine hK.out _ _ (HS7.out _ HBwdx84.out HXwdx84.out HYwdx84.out) (fun hHeld => ?_)
         clear hK K
         try simp only [Act.put, List.getElem_toArray, List.getElem_cons_succ, List.getElem_cons_zero, List.setIfInBounds_toArray, List.set_cons_succ, List.set_cons_zero]
         refine wpAnyH_ready (rs := [6]) (by kernel_rfl) (by simp) ?_
         refine AllReadyH.cons (i := 6) (o := _) rfl (fun K hK => ?_) AllReadyH.nil
         go_simp
         go_at_call 32
         with_reducible refine (stMoves_any na 3 nc none 0 0 none 0 0 (some ⟨gwdx84, 0, none⟩) 2 2 a5 n5 c5 ma5 mn5 mc5 exB13 abS exT13 wdx84 (Nat.le_refl _) (stageIn13 (HF.out _ HBwdx84.out).1 HRwdx84n.out HNwdx84.out.now)).mono ?_
         rintro e wdx86 ⟨⟨vwdx86, rfl, howdx86⟩, hbwdx86⟩
         rw [exMoves13b] at howdx86
         obtain ⟨xa7, xc7, hvwdx86, hmwdx86, _, _⟩ := howdx86.sees (by simp)
         replace hvwdx86 : vwdx86 = .slice xa7 1 xc7 := hvwdx86
         subst hvwdx86
         have HBwdx86 := Lib.hid (HBwdx84.out.trans ((hbwdx86).mono HBwdx84.out.size))
         have HXwdx86 := Lib.hid (HXwdx84.out.on13 hbwdx86)
         have HKwdx86 := Lib.hid (HKwdx84.out.on13 hbwdx86)
         have HYwdx86 := Lib.hid (HYwdx84.out.on13 hbwdx86)
         have HNwdx86 := Lib.hid (HNwdx84.out.on13 hbwdx86)
         have HOwdx86 := Lib.hid (HOwdx84.out.on13 hbwdx86)
         have HMwdx86n := Lib.hid (show Movs wdx86 wdx86.heap.size xa7 1 [⟨2, 1, [120]⟩] from hmwdx86)
         clear hmwdx86 howdx86 hbwdx86
         refine hK.out _ _ (HS7.out _ HBwdx86.out HXwdx86.out HYwdx86.out) (fun hHeld => ?_)
         clear hK K
         try simp only [Act.put, List.getElem_toArray, List.getElem_cons_succ, List.getElem_cons_zero, List.setIfInBounds_toArray, List.set_cons_succ, List.set_cons_zero]
         refine wpAnyH_ready (rs := [9]) (by kernel_rfl) (by simp) ?_
         refine AllReadyH.cons (i := 9) (o := _) rfl (fun K hK => ?_) AllReadyH.nil
         go_simp
         go_at_call 31
         have cs := sameMoves_any xa7 (some ⟨wd.heap.size, 0, none⟩) 1 1 xc7 1 _ _ wdx86 _ HMwdx86n.out HOwdx86.out
         rw [show (⟨#[120]⟩ : ByteArray).toList = [120] by rw [ByteArray.toList_eq], decide_eq_true rfl] at cs
         with_reducible refine cs.mono ?_
         clear cs
         rintro e wdx89 ⟨rfl, qwdx89, hqwdx89⟩
         have hbwdx89 : Below wdx86.heap.size wdx86 wdx89 := by rw [hqwdx89]; exact bel_drewN (Below.refl _ _) _
         have HBwdx89 := Lib.hid (HBwdx86.out.trans ((hbwdx89).mono HBwdx86.out.size))
         have HXwdx89 := Lib.hid (HXwdx86.out.on13 hbwdx89)
         have HKwdx89 := Lib.hid (HKwdx86.out.on13 hbwdx89)
         have HYwdx89 := Lib.hid (HYwdx86.out.on13 hbwdx89)
         have HNwdx89 := Lib.hid (HNwdx86.out.on13 hbwdx89)
         clear hqwdx89 hbwdx89
         refine hK.out _ _ (HS7.out _ HBwdx89.out HXwdx89.out HYwdx89.out) (fun hHeld => ?_)
         clear hK K
         try simp only [Act.put, List.setIfInBounds_toArray]
         refine' wpAnyH_take (i := 10) (v := _) rfl (by kernel_rfl) (by kernel_rfl) (by kernel_rfl) (fun _ _ _ h => h) (Or.inl ⟨by kernel_rfl, ?hydx810⟩) (by assumption) ?restdx810
         case hydx810 => intro W hSw; (try dsimp only at hSw); first | (go_simp; done) | (go_simp; with_reducible rfl)
         try simp only [Act.put]
         refine' wpAnyH_take (i := 11) (v := _) rfl (by kernel_rfl) (by kernel_rfl) (by kernel_rfl) (fun _ _ _ h => h) (Or.inl ⟨by kernel_rfl, ?hydx811⟩) (by assumption) ?restdx811
         case hydx811 => intro W hSw; (try dsimp only at hSw); first | (go_simp; done) | (go_simp; with_reducible rfl)
         try simp only [Act.put, List.getElem_toArray, List.getElem_cons_succ, List.getElem_cons_zero, List.setIfInBounds_toArray, List.set_cons_succ, List.set_cons_zero]
         refine' wpAnyH_take (i := 12) (v := _) rfl (by kernel_rfl) (by kernel_rfl) (by kernel_rfl) (fun _ _ _ h => h) (Or.inl ⟨by kernel_rfl, ?hydx812⟩) (by assumption) ?restdx812
         case hydx812 => intro W hSw; (try dsimp only at hSw); first | (go_simp; done) | (go_simp; with_reducible rfl)
         try simp only [Act.put]
         refine' wpAnyH_take (i := 14) (v := _) rfl (by kernel_rfl) (by kernel_rfl) (by kernel_rfl) (fun _ _ _ h => h) (Or.inl ⟨by kernel_rfl, ?hydx814⟩) (by assumption) ?restdx814
         case hydx814 => intro W hSw; (try dsimp only at hSw); first | (go_simp; done) | (go_simp; with_reducible rfl)
         try simp only [Act.put, List.getElem_toArray, List.getElem_cons_succ, List.getElem_cons_zero, List.setIfInBounds_toArray, List.set_cons_succ, List.set_cons_zero]
         refine wpAnyH_ready (rs := [13]) (by kernel_rfl) (by simp) ?_
         refine AllReadyH.cons (i := 13) (o := _) rfl (fun K hK => ?_) AllReadyH.nil
         go_simp
         go_at_call 38
         with_reducible refine (ab_any wdx89).mono ?_
         rintro e wdx813 ⟨⟨gwdx813, rfl, hswdx813⟩, hbwdx813⟩
         have HBwdx813 := Lib.hid (HBwdx89.out.trans ((hbwdx813).mono HBwdx89.out.size))
         have HXwdx813 := Lib.hid (HXwdx89.out.on13 hbwdx813)
         have HKwdx813 := Lib.hid (HKwdx89.out.on13 hbwdx813)
         have HYwdx813 := Lib.hid (HYwdx89.out.on13 hbwdx813)
         have HNwdx813 := Lib.hid (HNwdx89.out.on13 hbwdx813)
         have HRwdx813n := Lib.hid hswdx813
         clear hswdx813 hbwdx813
         refine hK.out _ _ (HS7.out _ HBwdx813.out HXwdx813.out HYwdx813.out) (fun hHeld => ?_)
         clear hK K
         try simp only [Act.put, List.getElem_toArray, List.getElem_cons_succ, List.getElem_cons_zero, List.setIfInBounds_toArray, List.set_cons_succ, List.set_cons_zero]
         refine wpAnyH_ready (rs := [15]) (by kernel_rfl) (by simp) ?_
         refine AllReadyH.cons (i := 15) (o := _) rfl (fun K hK => ?_) AllReadyH.nil
         go_simp
         go_at_call 34
         with_reducible refine (stOver_any na 3 nc none 0 0 none 0 0 (some ⟨gwdx813, 0, none⟩) 2 2 a5 n5 c5 ma5 mn5 mc5 exB13 abS exT13 wdx813 (Nat.le_refl _) (stageIn13 (HF.out _ HBwdx813.out).1 HRwdx813n.out HNwdx813.out.now)).mono ?_
         rintro e wdx815 ⟨rfl, hbwdx815⟩
         rw [exOver13]
         have HBwdx815 := Lib.hid (HBwdx813.out.trans ((hbwdx815).mono HBwdx813.out.size))
         have HXwdx815 := Lib.hid (HXwdx813.out.on13 hbwdx815)
         have HKwdx815 := Lib.hid (HKwdx813.out.on13 hbwdx815)
         have HYwdx815 := Lib.hid (HYwdx813.out.on13 hbwdx815)
         have HNwdx815 := Lib.hid (HNwdx813.out.on13 hbwdx815)
         clear hbwdx815
         refine hK.out _ _ (HS7.out _ HBwdx815.out HXwdx815.out HYwdx815.out) (fun hHeld => ?_)
         clear hK K
         try simp only [Act.put, List.setIfInBounds_toArray]
         refine' wpAnyH_take (i := 16) (v := _) rfl (by kernel_rfl) (by kernel_rfl) (by kernel_rfl) (fun _ _ _ h => h) (Or.inl ⟨by kernel_rfl, ?hydx816⟩) (by assumption) ?restdx816
         case hydx816 => intro W hSw; (try dsimp only at hSw); first | (go_simp; done) | (go_simp; with_reducible rfl)
         try simp only [Act.put]
         refine' wpAnyH_take (i := 17) (v := _) rfl (by kernel_rfl) (by kernel_rfl) (by kernel_rfl) (fun _ _ _ h => h) (Or.inl ⟨by kernel_rfl, ?hydx817⟩) (by assumption) ?restdx817
         case hydx817 => intro W hSw; (try dsimp only at hSw); first | (go_simp; done) | (go_simp; with_reducible rfl)
         try simp only [Act.put, List.getElem_toArray, List.getElem_cons_succ, List.getElem_cons_zero, List.setIfInBounds_toArray, List.set_cons_succ, List.set_cons_zero]
         refine' wpAnyH_take (i := 18) (v := _) rfl (by kernel_rfl) (by kernel_rfl) (by kernel_rfl) (fun _ _ _ h => h) (Or.inl ⟨by kernel_rfl, ?hydx818⟩) (by assumption) ?restdx818
         case hydx818 => intro W hSw; (try dsimp only at hSw); first | (go_simp; done) | (go_simp; with_reducible rfl)
         try simp only [Act.put]
         refine' wpAnyH_take (i := 19) (v := _) rfl (by kernel_rfl) (by kernel_rfl) (by kernel_rfl) (fun _ _ _ h => h) (Or.inl ⟨by kernel_rfl, ?hydx819⟩) (by assumption) ?restdx819
         case hydx819 => intro W hSw; (try dsimp only at hSw); first | (go_simp; done) | (go_simp; with_reducible rfl)
         try simp only [Act.put]
         refine' wpAnyH_take (i := 20) (v := _) rfl (by kernel_rfl) (by kernel_rfl) (by kernel_rfl) (fun _ _ _ h => h) (Or.inl ⟨by kernel_rfl, ?hydx820⟩) (by assumption) ?restdx820
         case hydx820 => intro W hSw; (try dsimp only at hSw); first | (go_simp; done) | (go_simp; with_reducible rfl)
         try simp only [Act.put, List.getElem_toArray, List.getElem_cons_succ, List.getElem_cons_zero, List.setIfInBounds_toArray, List.set_cons_succ, List.set_cons_zero]
         refine wpAnyH_ready (rs := [21]) (by kernel_rfl) (by simp) ?_
         refine AllReadyH.cons (i := 21) (o := _) rfl (fun K hK => ?_) AllReadyH.nil
         go_simp
         go_at_call 36
         with_reducible refine (stSame_any a5 n5 c5 ma5 mn5 mc5 a5 n5 c5 ma5 mn5 mc5 exT13 exT13 wdx815 HNwdx815.out.now HNwdx815.out.now (by decide) (by decide)).mono ?_
         rintro e wdx821 ⟨rfl, hbwdx821⟩
         rw [exSame13]
         have HBwdx821 := Lib.hid (HBwdx815.out.trans ((hbwdx821).mono HBwdx815.out.size))
         have HXwdx821 := Lib.hid (HXwdx815.out.on13 hbwdx821)
         have HKwdx821 := Lib.hid (HKwdx815.out.on13 hbwdx821)
         have HYwdx821 := Lib.hid (HYwdx815.out.on13 hbwdx821)
         have HNwdx821 := Lib.hid (HNwdx815.out.on13 hbwdx821)
         clear hbwdx821
         refine hK.out _ _ (HS7.out _ HBwdx821.out HXwdx821.out HYwdx821.out) (fun hHeld => ?_)
         clear hK K
         try simp only [Act.put, List.setIfInBounds_toArray]
         refine' wpAnyH_take (i := 22) (v := _) rfl (by kernel_rfl) (by kernel_rfl) (by kernel_rfl) (fun _ _ _ h => h) (Or.inl ⟨by kernel_rfl, ?hydx822⟩) (by assumption) ?restdx822
         case hydx822 => intro W hSw; (try dsimp only at hSw); first | (go_simp; done) | (go_simp; with_reducible rfl)
         try simp only [Act.put]
         refine' wpAnyH_take (i := 23) (v := _) rfl (by kernel_rfl) (by kernel_rfl) (by kernel_rfl) (fun _ _ _ h => h) (Or.inl ⟨by kernel_rfl, ?hydx823⟩) (by assumption) ?restdx823
         case hydx823 => intro W hSw; (try dsimp only at hSw); first | (go_simp; done) | (go_simp; with_reducible rfl)
         try simp only [Act.put, List.getElem_toArray, List.getElem_cons_succ, List.getElem_cons_zero, List.setIfInBounds_toArray, List.set_cons_succ, List.set_cons_zero]
         refine' wpAnyH_take (i := 24) (v := _) rfl (by kernel_rfl) (by kernel_rfl) (by kernel_rfl) (fun _ _ _ h => h) (Or.inl ⟨by kernel_rfl, ?hydx824⟩) (by assumption) ?restdx824
         case hydx824 => intro W hSw; (try dsimp only at hSw); first | (go_simp; done) | (go_simp; with_reducible rfl)
         try simp only [Act.put]
         refine' wpAnyH_take (i := 25) (v := _) rfl (by kernel_rfl) (by kernel_rfl) (by kernel_rfl) (fun _ _ _ h => h) (Or.inl ⟨by kernel_rfl, ?hydx825⟩) (by assumption) ?restdx825
         case hydx825 => intro W hSw; (try dsimp only at hSw); first | (go_simp; done) | (go_simp; with_reducible rfl)
         try simp only [Act.put, List.getElem_toArray, List.getElem_cons_succ, List.getElem_cons_zero, List.setIfInBounds_toArray, List.set_cons_succ, List.set_cons_zero]
         refine wpAnyH_ready (rs := [26]) (by kernel_rfl) (by simp) ?_
         refine AllReadyH.cons (i := 26) (o := _) rfl (fun K hK => ?_) AllReadyH.nil
         go_simp
         go_at_call 36
         with_reducible refine (stSame_any a n c ma mn mc a5 n5 c5 ma5 mn5 mc5 exS13 exT13 wdx821 HKwdx821.out.now HNwdx821.out.now (by decide) (by decide)).mono ?_
         rintro e wdx826 ⟨rfl, hbwdx826⟩
         rw [exSame13b]
         have HBwdx826 := Lib.hid (HBwdx821.out.trans ((hbwdx826).mono HBwdx821.out.size))
         have HXwdx826 := Lib.hid (HXwdx821.out.on13 hbwdx826)
         have HKwdx826 := Lib.hid (HKwdx821.out.on13 hbwdx826)
         have HYwdx826 := Lib.hid (HYwdx821.out.on13 hbwdx826)
         have HNwdx826 := Lib.hid (HNwdx821.out.on13 hbwdx826)
         clear hbwdx826
         refine hK.out _ _ (HS7.out _ HBwdx826.out HXwdx826.out HYwdx826.out) (fun hHeld => ?_)
         clear hK K
         try simp only [Act.put, List.setIfInBounds_toArray]
         refine' wpAnyH_take (i := 27) (v := _) rfl (by kernel_rfl) (by kernel_rfl) (by kernel_rfl) (fun _ _ _ h => h) (Or.inl ⟨by kernel_rfl, ?hydx827⟩) (by assumption) ?restdx827
         case hydx827 => intro W hSw; (try dsimp only at hSw); first | (go_simp; done) | (go_simp; with_reducible rfl)
         try simp only [Act.put]
         refine' wpAnyH_take (i := 28) (v := _) rfl (by kernel_rfl) (by kernel_rfl) (by kernel_rfl) (fun _ _ _ h => h) (Or.inl ⟨by kernel_rfl, ?hydx828⟩) (by assumption) ?restdx828
         case hydx828 => intro W hSw; (try dsimp only at hSw); first | (go_simp; done) | (go_simp; with_reducible rfl)
         try simp only [Act.put, List.getElem_toArray, List.getElem_cons_succ, List.getElem_cons_zero, List.setIfInBounds_toArray, List.set_cons_succ, List.set_cons_zero]
         refine' wpAnyH_take (i := 29) (v := _) rfl (by kernel_rfl) (by kernel_rfl) (by kernel_rfl) (fun _ _ _ h => h) (Or.inl ⟨by kernel_rfl, ?hydx829⟩) (by assumption) ?restdx829
         case hydx829 => intro W hSw; (try dsimp only at hSw); first | (go_simp; done) | (go_simp; with_reducible rfl)
         try simp only [Act.put, List.getElem_toArray, List.getElem_cons_succ, List.getElem_cons_zero, List.setIfInBounds_toArray, List.set_cons_zero]
         refine wpAnyH_done (by kernel_rfl) ?_ _
         try simp only [Act.put, List.getElem_toArray, List.getElem_cons_succ, List.getElem_cons_zero, List.setIfInBounds_toArray, List.set_cons_succ, List.set_cons_zero]
         go_wp2_with fail
         go_ret
         exact ⟨rfl, HBW.out.trans (HBwdx826.out.mono HBW.out.size)⟩
end Go.Proofs.Ytgefhgcpnfbigaa
