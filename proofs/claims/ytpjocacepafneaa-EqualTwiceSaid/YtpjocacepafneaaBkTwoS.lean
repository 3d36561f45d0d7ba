/- Rows of nodes that the call appends, their edges wherever they lie; appends of many edges and nodes in a drawn region. -/
import Derived.Test.YtpjocacepafneaaBkMake
import Derived.Test.YtpjocacepafneaaBkShr
import Derived.Deep.RegionHeld3
import Derived.Deep.DeepCutAuto
import Derived.Deep.CutBlock
import Derived.Test.YtpjocacepafneaaTuLast
import Derived.Test.YtpjocacepafneaaTuSeat
import Derived.ShutString
namespace Go.Proofs.Ytpjocacepafneaa
open Go.RowKit Go.Sort

theorem EdOwn.other {w : World} {base : Nat} {v : Value} {l : List EdgeL} (h : EdOwn w base v l) {g : Nat} {cs : Array Value} {e : TypeId} {fr : Nat × Nat} (hg : w.heap[g]? = some (.cells cs e fr)) (he : e ≠ 43) : v.ownBlock ≠ some g := fun e1 => by
  obtain ⟨ts, h, _⟩ := h
  rcases h.2 with ⟨rfl, _⟩ | ⟨b, cap, cur, rfl, _, hh, _⟩
  · cases e1
  · obtain rfl := Option.some.inj e1
    rw [hh] at hg
    exact he (Obj.cells.inj (Option.some.inj hg)).2.1.symm
theorem step_append_edgesU {ops : Array Oper} {o : Oper} {a : Act} {K : Act → World → Prop} {Q : Exit → Act → World → Prop} {E : Prop} {w1 : World} (hgd : o.guard = none) (s x : Operand)
    (ho : o.op = .call { callee := .builtin .append, args := #[s, x], argTypes := #[37, 37] }) (base : Nat) (v : Value) (l : List EdgeL) (ad : Option Addr) (m c : Nat) (l2 : List EdgeL)
    (hs : a.eval s = v) (hx : a.eval x = .slice ad m c) (hB : EdOwn w1 base v l) (hr : EdRow w1 ad m l2) (hb : base ≤ w1.heap.size) (hlen : l.length + m ≤ 1000000)
    (h : ∀ v' w', EdOwn w' base v' (l ++ l2) → Below base w1 w' → Keeps v w1 w' → K (a.put o.dst v') w') : if Region.wanted o (yielded ops a.tmps) = true then Oper.wp Try.prog o a w1 K Q else E := by
  have hwant : Region.wanted o (yielded ops a.tmps) = true := by simp [Region.wanted, hgd]
  rw [if_pos hwant]
  obtain ⟨v', w', hrun, hown, hbel, hkp⟩ := hB.add hb c hr hlen o.type
  unfold Oper.wp execOp
  simp only [ho, resolve, invoke, builtin, Sem.run_bind, Sem.run_pure, Result.andThen_ok, List.map_toArray, List.map_cons, List.map_nil, hs, hx, hrun]
  exact h v' w' hown (hbel base (Nat.le_refl _) w1 (Below.refl _ _)) hkp
theorem Edges.takeU {w : World} {bound n : Nat} {a : Option Addr} {l : List EdgeL} (h : Edges w bound a n l) {k : Nat} (hk : k ≤ n) : Edges w bound a k (l.take k) := by
  refine ⟨by rw [List.length_take, h.1]; omega, by have := h.2.1; omega, fun h0 => ?_⟩
  obtain ⟨b, off, e, hb, hc⟩ := h.2.2 (by omega)
  refine ⟨b, off, e, hb, fun j x hj => hc j x ?_⟩
  rw [List.getElem?_take] at hj
  split at hj
  · exact hj
  · cases hj
theorem Edges.dropU {w : World} {bound n b off : Nat} {l : List EdgeL} (h : Edges w bound (some ⟨b, off, none⟩) n l) {k : Nat} (hk : k ≤ n) : Edges w bound (some ⟨b, off + k * 4, none⟩) (n - k) (l.drop k) := by
  refine ⟨by rw [List.length_drop, h.1], by have := h.2.1; omega, fun h0 => ?_⟩
  obtain ⟨b', off', e, hb, hc⟩ := h.2.2 (by omega)
  obtain ⟨rfl, rfl, _⟩ := Addr.mk.inj (Option.some.inj e)
  refine ⟨b, off + k * 4, rfl, hb, fun j x hj => ?_⟩
  rw [List.getElem?_drop] at hj
  obtain ⟨s, ⟨c0, c1, c2, c3⟩, h1⟩ := hc (k + j) x hj
  have e0 : off + (k + j) * 4 = off + k * 4 + j * 4 := by omega
  rw [e0] at c0 c1 c2 c3
  exact ⟨s, ⟨c0, c1, c2, c3⟩, h1⟩
/-- The slice v, which the call made, holds just these nodes as they are laid. -/
def NRaw (w : World) (base : Nat) (v : Value) (rs : List NR) : Prop := w.ownsRow base 39 3 v rs.length (rs.flatMap encNR)
/-- The slice at this address holds these nodes as they are laid. -/
def NRow (w : World) (ad : Option Addr) (m : Nat) (rs : List NR) : Prop := rs.length = m ∧ (0 < m → ∃ a', ad = some a' ∧ ∀ (j : Nat) (u : Value), (rs.flatMap encNR)[j]? = some u → w.cell? (a'.add j) = some u)
theorem encNRs_len (l : List NR) : (l.flatMap encNR).length = l.length * 3 := by
  induction l with
  | nil => rfl
  | cons t l ih => rw [List.flatMap_cons, List.length_append, ih, List.length_cons]; show 3 + _ = _; omega
theorem encNR_cell {u : Value} {l : List NR} (h : u ∈ l.flatMap encNR) : u.oneCell' = true := by
  obtain ⟨t, _, ht⟩ := List.mem_flatMap.1 h
  unfold encNR at ht
  simp only [List.mem_cons, List.not_mem_nil, or_false] at ht
  rcases ht with rfl | rfl | rfl <;> rfl
theorem NRaw.zero (w : World) (base : Nat) : NRaw w base (.slice none 0 0) [] := World.ownsRow_nil w base 39 3
theorem NRaw.stay {w w' : World} {base : Nat} {v : Value} {l : List NR} (h : NRaw w base v l) (hk : ∀ b, v.ownBlock = some b → w'.heap[b]? = w.heap[b]?) : NRaw w' base v l := by
  refine ⟨h.1, ?_⟩
  rcases h.2 with h0 | ⟨g, cap, cur, rfl, hbase, hh, h1, h2, h3, h4⟩
  · exact .inl h0
  · exact .inr ⟨g, cap, cur, rfl, hbase, (hk g rfl).trans hh, h1, h2, h3, h4⟩
theorem NRaw.kept {w w' : World} {base : Nat} {v : Value} {l : List NR} (h : NRaw w base v l) (hb : Below w.heap.size w w') : NRaw w' base v l := by
  have hlt := h.lt
  exact h.stay fun b e => hb.block b (hlt b e).2
theorem NRaw.other {w : World} {base : Nat} {v : Value} {l : List NR} (h : NRaw w base v l) {g : Nat} {cs : Array Value} {e : TypeId} {fr : Nat × Nat} (hg : w.heap[g]? = some (.cells cs e fr)) (he : e ≠ 39) : v.ownBlock ≠ some g := fun e1 => by
  rcases h.2 with ⟨rfl, _⟩ | ⟨b, cap, cur, rfl, _, hh, _⟩
  · cases e1
  · obtain rfl := Option.some.inj e1
    rw [hh] at hg
    exact he (Obj.cells.inj (Option.some.inj hg)).2.1.symm
theorem NRow.one {W : World} {g : Nat} {r : NR} (h : W.heap[g]? = some (.cells #[.int .i64 r.k, .string r.s, .slice r.a r.n r.c] 39 (0, 0))) : NRow W (some ⟨g, 0, none⟩) 1 [r] := by
  refine ⟨rfl, fun _ => ⟨_, rfl, fun j u hu => ?_⟩⟩
  rw [Go.WideShapes.add_plain, cell_of_row _ _ _ _ _ _ h, List.getElem?_toArray, Nat.zero_add]
  rw [show ([r].flatMap encNR) = encNR r by simp] at hu
  exact hu
/-- Nodes behind those that the call made. -/
theorem NRaw.add {w : World} {base : Nat} {v : Value} {l : List NR} (h : NRaw w base v l) (hb : base ≤ w.heap.size) {a : Option Addr} {m : Nat} (c : Nat) {l2 : List NR} (hr : NRow w a m l2) (hlen : l.length + m ≤ 1000000) (ty : Nat) :
    ∃ v' w', (Builtin.append_ #[22, 22] ty #[v, .slice a m c]).run Try.prog w = .ok v' w' ∧ NRaw w' base v' (l ++ l2) ∧ Below base w w' ∧ Keeps v w w' ∧ (v'.ownBlock = v.ownBlock ∨ v'.ownBlock = some w.heap.size) := by
  obtain ⟨i0, hi0, hzz⟩ := Option.map_eq_some_iff.1 info_node
  simp only [Prod.mk.injEq] at hzz
  obtain ⟨hz, hs1, hb1⟩ := hzz
  obtain ⟨hl2, hc⟩ := hr
  rcases a with _ | ad
  · have hm : m = 0 := by
      rcases Nat.eq_zero_or_pos m with h0 | h0
      · exact h0
      · obtain ⟨_, h, _⟩ := hc h0; cases h
    subst hm
    have hn : l2 = [] := List.eq_nil_of_length_eq_zero hl2
    subst hn
    refine ⟨v, w, ?_, by rw [List.append_nil]; exact h, Below.refl _ _, Keeps.refl _ _, .inl rfl⟩
    rcases h.2 with ⟨h0, _⟩ | ⟨g, cap, cur, rfl, _, hh, h1, h2, h3, h4⟩
    · rw [h0]; simp [Builtin.append_, run_underlying Try.underlying22, sizeOf, typeInfo, hi0, Builtin.lenOf, Builtin.firstCells]
    · simp [Builtin.append_, run_underlying Try.underlying22, sizeOf, typeInfo, hi0, Builtin.lenOf, Builtin.firstCells, storeCells]
      intro hx
      omega
  · have hcells : ∀ (j : Nat) (u : Value), (l2.flatMap encNR)[j]? = some u → w.cell? (ad.add j) = some u := fun j u hu => by
      rcases Nat.eq_zero_or_pos m with h0 | h0
      · rw [List.eq_nil_of_length_eq_zero (hl2.trans h0)] at hu; cases hu
      · obtain ⟨a', e, hcc⟩ := hc h0
        obtain rfl := Option.some.inj e
        exact hcc j u hu
    obtain ⟨v', w', hrun, hown, hgr, _, hat⟩ := run_append_own_at (P := Try.prog) w base 22 ty 39 i0 _ 3 48 Try.underlying22 hi0 hz hs1 hb1 rfl (by omega) v l.length (l.flatMap encNR) h ad m c (l2.flatMap encNR) (by rw [encNRs_len, hl2]) hcells
      (fun u hu => encNR_cell hu) (by unfold maxLen; omega) (by omega) hb
    have hlt := h.lt
    refine ⟨v', w', hrun, ?_, (Below.refl base w).grown hgr (by omega) (fun k hk => by have := hlt k hk; omega), ⟨hgr.size, fun b hb hne => hgr.block b hb (fun e => hne e.symm)⟩, hat⟩
    unfold NRaw
    rw [List.length_append, List.flatMap_append, hl2]
    exact hown
theorem step_append_nodesU {ops : Array Oper} {o : Oper} {a : Act} {K : Act → World → Prop} {Q : Exit → Act → World → Prop} {E : Prop} {w1 : World} (hgd : o.guard = none) (s x : Operand)
    (ho : o.op = .call { callee := .builtin .append, args := #[s, x], argTypes := #[22, 22] }) (base : Nat) (v : Value) (l : List NR) (ad : Option Addr) (m c : Nat) (l2 : List NR)
    (hs : a.eval s = v) (hx : a.eval x = .slice ad m c) (hB : NRaw w1 base v l) (hr : NRow w1 ad m l2) (hb : base ≤ w1.heap.size) (hlen : l.length + m ≤ 1000000)
    (h : ∀ v' w', NRaw w' base v' (l ++ l2) → Below base w1 w' → Keeps v w1 w' → K (a.put o.dst v') w') : if Region.wanted o (yielded ops a.tmps) = true then Oper.wp Try.prog o a w1 K Q else E := by
  have hwant : Region.wanted o (yielded ops a.tmps) = true := by simp [Region.wanted, hgd]
  rw [if_pos hwant]
  obtain ⟨v', w', hrun, hown, hbel, hkp, _⟩ := hB.add hb c hr hlen o.type
  unfold Oper.wp execOp
  simp only [ho, resolve, invoke, builtin, Sem.run_bind, Sem.run_pure, Result.andThen_ok, List.map_toArray, List.map_cons, List.map_nil, hs, hx, hrun]
  exact h v' w' hown hbel hkp
/-- Nodes that may be read are laid somehow. -/
theorem Nodes.rows {w : World} {bound : Nat} {a : Option Addr} {m : Nat} {l : List NodeL} (h : Nodes w bound a m l) : ∃ rs : List NR, NRow w a m rs ∧ rs.length = l.length ∧ ∀ (j : Nat) (r : NR) (t : NodeL), rs[j]? = some r → l[j]? = some t → r.k = t.kind ∧ r.s.toList = t.peer ∧ r.s.size ≤ maxLen ∧ Edges w bound r.a r.n t.arms := by
  have h1 := h.1
  rcases Nat.eq_zero_or_pos m with h0 | h0
  · subst h0
    have hn : l = [] := List.eq_nil_of_length_eq_zero h1
    subst hn
    exact ⟨[], ⟨rfl, fun h => absurd h (Nat.lt_irrefl 0)⟩, rfl, fun j r t h => by cases h⟩
  obtain ⟨b, off, rfl, _, _⟩ := h.2.2 h0
  have each : ∀ i, i < m → ∃ y : NR, (w.cell? ⟨b, off + i * 3, none⟩ = some (.int .i64 y.k) ∧ w.cell? ⟨b, off + i * 3 + 1, none⟩ = some (.string y.s) ∧ w.cell? ⟨b, off + i * 3 + 2, none⟩ = some (.slice y.a y.n y.c)) ∧ ∃ t, l[i]? = some t ∧ y.k = t.kind ∧ y.s.toList = t.peer ∧ y.s.size ≤ maxLen ∧ Edges w bound y.a y.n t.arms := fun i hi => by
    obtain ⟨b', off', kd, s, aa, an, ac, el, e, _, hx, hq, hs, hE⟩ := h.at_ hi
    obtain ⟨e1, e2, _⟩ := Addr.mk.inj (Option.some.inj e)
    subst e1 e2
    exact ⟨⟨kd, s, aa, an, ac⟩, hq, _, hx, rfl, rfl, hs, hE⟩
  haveI : Inhabited NR := ⟨⟨0, ⟨#[]⟩, none, 0, 0⟩⟩
  obtain ⟨f, hf⟩ := Go.Deep.choose_lt each
  refine ⟨(List.range m).map f, ⟨by simp, fun _ => ⟨_, rfl, fun j u hu => ?_⟩⟩, by simp [h1], fun j r t hr ht => ?_⟩
  · have hj : j < m * 3 := by
      obtain ⟨h2, _⟩ := List.getElem?_eq_some_iff.1 hu
      rw [encNRs_len] at h2
      simpa using h2
    have hjm : j / 3 < m := by omega
    have ht : ((List.range m).map f)[j / 3]? = some (f (j / 3)) := by rw [List.getElem?_map, List.getElem?_range hjm]; rfl
    have hu2 := flatNd_at _ (j / 3) _ ht (j % 3) (by omega)
    rw [show j / 3 * 3 + j % 3 = j by omega] at hu2
    have hu3 : (encNR (f (j / 3)))[j % 3]? = some u := hu2.symm.trans hu
    obtain ⟨⟨c0, c1, c2⟩, _⟩ := hf (j / 3) hjm
    rw [Go.WideShapes.add_plain]
    have hj3 : j % 3 = 0 ∨ j % 3 = 1 ∨ j % 3 = 2 := by omega
    rcases hj3 with e | e | e
    · rw [e] at hu3; rw [show off + j = off + j / 3 * 3 by omega, c0]; exact hu3
    · rw [e] at hu3; rw [show off + j = off + j / 3 * 3 + 1 by omega, c1]; exact hu3
    · rw [e] at hu3; rw [show off + j = off + j / 3 * 3 + 2 by omega, c2]; exact hu3
  · have hj : j < m := by have := (List.getElem?_eq_some_iff.1 hr).1; simpa using this
    rw [List.getElem?_map, List.getElem?_range hj] at hr
    obtain rfl := Option.some.inj hr
    obtain ⟨_, t', ht', h2⟩ := hf j hj
    obtain rfl := Option.some.inj (ht.symm.trans ht')
    exact h2
/-- Such a row reads as nodes. -/
theorem NRaw.sees {w : World} {base bound : Nat} {v : Value} {rs : List NR} {f : List NodeL} (h : NRaw w base v rs) (hl : f.length ≤ 1000000) (hrl : rs.length = f.length) (hb : bound ≤ w.heap.size) (hrd : ∀ (j : Nat) (r : NR) (t : NodeL), rs[j]? = some r → f[j]? = some t → r.k = t.kind ∧ r.s.toList = t.peer ∧ r.s.size ≤ maxLen ∧ Edges w bound r.a r.n t.arms) :
    ∃ a c, v = .slice a f.length c ∧ Nodes w w.heap.size a f.length f := by
  have hlt := h.lt
  rcases h.2 with ⟨h0, h1⟩ | ⟨g, cap, cur, rfl, hbase, hh, h1, h2, h3, h4⟩
  · have hz : f = [] := List.eq_nil_of_length_eq_zero (by omega)
    subst hz
    exact ⟨none, 0, h0, Nodes.zero _ _ _⟩
  · refine ⟨_, cap, by rw [hrl], rfl, by omega, fun _ => ⟨g, 0, rfl, (hlt g rfl).2, fun j t hj => ?_⟩⟩
    have hj' : j < f.length := (List.getElem?_eq_some_iff.1 hj).1
    have hr := List.getElem?_eq_getElem (l := rs) (i := j) (by omega)
    obtain ⟨e1, e2, e3, e4⟩ := hrd j _ t hr hj
    have hcell : ∀ i, i < 3 → w.cell? ⟨g, 0 + (j * 3 + i), none⟩ = (encNR (rs[j]'(by omega)))[i]? := fun i hi => by
      rw [cell_of_row w g _ cur 39 (0, 0) hh, Nat.zero_add, ← flatNd_at rs j _ hr i hi]
      have : (cur.toList.take (rs.length * 3))[j * 3 + i]? = (rs.flatMap encNR)[j * 3 + i]? := by rw [h4]
      rw [List.getElem?_take, if_pos (by omega)] at this
      rw [← Array.getElem?_toList, this]
    have c0 := hcell 0 (by omega)
    have c1 := hcell 1 (by omega)
    have c2 := hcell 2 (by omega)
    refine ⟨(rs[j]'(by omega)).s, (rs[j]'(by omega)).a, (rs[j]'(by omega)).n, (rs[j]'(by omega)).c, ⟨?_, ?_, ?_⟩, e2, e3, e4.more hb⟩
    · rw [show 0 + j * 3 = 0 + (j * 3 + 0) by omega, c0, ← e1]; rfl
    · rw [show 0 + j * 3 + 1 = 0 + (j * 3 + 1) by omega, c1]; rfl
    · rw [show 0 + j * 3 + 2 = 0 + (j * 3 + 2) by omega, c2]; rfl
theorem NRaw.form {W : World} {B : Nat} {v : Value} {rs : List NR} (h : NRaw W B v rs) : ∃ va vc, v = .slice va rs.length vc := by
  rcases h.2 with ⟨h0, h1⟩ | ⟨g, cap, cur, rfl, hbase, hh, h1, h2, h3, h4⟩
  · exact ⟨none, 0, by rw [h0, h1]⟩
  · exact ⟨_, _, rfl⟩
theorem NRow.on {w W : World} {bound m : Nat} {a : Option Addr} {rs : List NR} {l : List NodeL} (h : NRow w a m rs) (hN : Nodes w bound a m l) (hb : Below bound w W) : NRow W a m rs := by
  refine ⟨h.1, fun h0 => ?_⟩
  obtain ⟨a', e, hc⟩ := h.2 h0
  obtain ⟨b, off, e2, hlt, _⟩ := hN.2.2 h0
  obtain rfl := Option.some.inj (e.symm.trans e2)
  refine ⟨_, e, fun j u hj => ?_⟩
  have h1 := hc j u hj
  rw [Go.WideShapes.add_plain] at h1 ⊢
  exact (hb.cell (p := ⟨b, off + j, none⟩) hlt).trans h1
theorem NBox.thawV {W : World} {g : Nat} {kd : Int} {s : ByteArray} {aa : Option Addr} {an ac : Nat} (h : NBox W g kd s aa an ac) (j : Nat) : W.frozen? ⟨g, j, none⟩ = false := by
  unfold World.frozen?
  rw [show W.heap[g]? = _ from h]
  simp
theorem NBox.putsV {W : World} {g : Nat} {kd kd' : Int} {s s' : ByteArray} {aa aa' : Option Addr} {an ac an' ac' : Nat} (h : NBox W g kd s aa an ac) : NBox (((W.setCell ⟨g, 0, none⟩ (.int .i64 kd')).setCell ⟨g, 1, none⟩ (.string s')).setCell ⟨g, 2, none⟩ (.slice aa' an' ac')) g kd' s' aa' an' ac' := by
  have h0 : (W.setCell ⟨g, 0, none⟩ (.int .i64 kd')).heap[g]? = some (.cells #[.int .i64 kd', .string s, .slice aa an ac] 39 (0, 0)) := by rw [heap_setCell_same W g 0 _ _ _ h]; rfl
  have h1 : ((W.setCell ⟨g, 0, none⟩ (.int .i64 kd')).setCell ⟨g, 1, none⟩ (.string s')).heap[g]? = some (.cells #[.int .i64 kd', .string s', .slice aa an ac] 39 (0, 0)) := by rw [heap_setCell_same _ g 1 _ _ _ h0]; rfl
  unfold NBox
  rw [heap_setCell_same _ g 2 _ _ _ h1]
  rfl
/-- A node with edges of the call's own is stored in a box. -/
theorem fewer_node {w7 W : World} {g B : Nat} {v : Value} {l : List EdgeL} (k : Int) (s : ByteArray) (ho : EdOwn W B v l) (hg : NBox W g 0 ⟨#[]⟩ none 0 0) (hbel : Below w7.heap.size w7 W) (hB : w7.heap.size ≤ g) (hl : l.length ≤ 1000) :
    ∃ va vc, v = .slice va l.length vc ∧ NBox (((W.setCell ⟨g, 0, none⟩ (.int .i64 k)).setCell ⟨g, 1, none⟩ (.string s)).setCell ⟨g, 2, none⟩ (.slice va l.length vc)) g k s va l.length vc ∧
      Edges (((W.setCell ⟨g, 0, none⟩ (.int .i64 k)).setCell ⟨g, 1, none⟩ (.string s)).setCell ⟨g, 2, none⟩ (.slice va l.length vc)) (((W.setCell ⟨g, 0, none⟩ (.int .i64 k)).setCell ⟨g, 1, none⟩ (.string s)).setCell ⟨g, 2, none⟩ (.slice va l.length vc)).heap.size va l.length l ∧
      Below w7.heap.size w7 (((W.setCell ⟨g, 0, none⟩ (.int .i64 k)).setCell ⟨g, 1, none⟩ (.string s)).setCell ⟨g, 2, none⟩ (.slice va l.length vc)) := by
  have hne := ho.other (cs := #[.int .i64 0, .string ⟨#[]⟩, .slice none 0 0]) (e := 39) (fr := (0, 0)) hg (by decide)
  obtain ⟨ts, h1, _⟩ := ho
  have hlt := h1.lt
  obtain ⟨va, vc, rfl, hed, _, _⟩ := EdOwn.sees ⟨ts, h1, by assumption⟩ (by omega)
  have hset : Beside g W (((W.setCell ⟨g, 0, none⟩ (.int .i64 k)).setCell ⟨g, 1, none⟩ (.string s)).setCell ⟨g, 2, none⟩ (.slice va l.length vc)) := (((Beside.refl _ W).setCell 0 _).setCell 1 _).setCell 2 _
  refine ⟨va, vc, rfl, hg.putsV, hed.stay hset.size (fun b off e => hset.block b ?_ ?_), hbel.trans (hset.below hB hbel.size)⟩
  · subst e; exact (hlt b rfl).2
  · subst e; intro e2; exact hne (by rw [← e2]; rfl)
theorem BBox.putsV {W : World} {g : Nat} (h : BBox W g none 0 0 none 0 0 none 0 0) (va : Option Addr) (n vc : Nat) : BBox (((W.setCell ⟨g, 0, none⟩ (.slice va n vc)).setCell ⟨g, 1, none⟩ (.slice none 0 0)).setCell ⟨g, 2, none⟩ (.slice none 0 0)) g va n vc none 0 0 none 0 0 :=
  ((h.set0 va n vc).set1 none 0 0).set2 none 0 0
/-- A book of nodes of the call's own is stored in a box. -/
theorem fewer_end {w8 W : World} {g B : Nat} {v : Value} {rs : List NR} {r : NR} {ns : List NodeL} {t0 : NodeL} (hraw : NRaw W B v (rs ++ [r])) (hg : BBox W g none 0 0 none 0 0 none 0 0) (hbel : Below w8.heap.size w8 W) (hB : w8.heap.size ≤ g) (hrl : rs.length = ns.length) (hl : ns.length ≤ 1000)
    (hrd : ∀ (j : Nat) (r : NR) (t : NodeL), rs[j]? = some r → ns[j]? = some t → r.k = t.kind ∧ r.s.toList = t.peer ∧ r.s.size ≤ maxLen ∧ Edges w8 w8.heap.size r.a r.n t.arms) (hlast : r.k = t0.kind ∧ r.s.toList = t0.peer ∧ r.s.size ≤ maxLen ∧ Edges w8 w8.heap.size r.a r.n t0.arms) :
    ∃ va vc, v = .slice va (ns ++ [t0]).length vc ∧ BBox (((W.setCell ⟨g, 0, none⟩ (.slice va (ns ++ [t0]).length vc)).setCell ⟨g, 1, none⟩ (.slice none 0 0)).setCell ⟨g, 2, none⟩ (.slice none 0 0)) g va (ns ++ [t0]).length vc none 0 0 none 0 0 ∧
      Nodes (((W.setCell ⟨g, 0, none⟩ (.slice va (ns ++ [t0]).length vc)).setCell ⟨g, 1, none⟩ (.slice none 0 0)).setCell ⟨g, 2, none⟩ (.slice none 0 0)) (((W.setCell ⟨g, 0, none⟩ (.slice va (ns ++ [t0]).length vc)).setCell ⟨g, 1, none⟩ (.slice none 0 0)).setCell ⟨g, 2, none⟩ (.slice none 0 0)).heap.size va (ns ++ [t0]).length (ns ++ [t0]) ∧
      Below w8.heap.size w8 (((W.setCell ⟨g, 0, none⟩ (.slice va (ns ++ [t0]).length vc)).setCell ⟨g, 1, none⟩ (.slice none 0 0)).setCell ⟨g, 2, none⟩ (.slice none 0 0)) := by
  have hne := hraw.other (cs := #[.slice none 0 0, .slice none 0 0, .slice none 0 0]) (e := 26) (fr := (0, 0)) hg (by decide)
  have hall : ∀ (j : Nat) (r' : NR) (t : NodeL), (rs ++ [r])[j]? = some r' → (ns ++ [t0])[j]? = some t → r'.k = t.kind ∧ r'.s.toList = t.peer ∧ r'.s.size ≤ maxLen ∧ Edges w8 w8.heap.size r'.a r'.n t.arms := fun j r' t hr ht => by
    rcases Nat.lt_or_ge j rs.length with hlt | hge
    · rw [List.getElem?_append_left hlt] at hr
      rw [List.getElem?_append_left (by omega)] at ht
      exact hrd j r' t hr ht
    · rw [List.getElem?_append_right hge] at hr
      rw [List.getElem?_append_right (by omega), ← hrl] at ht
      have h0 : j - rs.length = 0 := by
        obtain ⟨h1, _⟩ := List.getElem?_eq_some_iff.1 hr
        simpa using h1
      rw [h0] at hr ht
      obtain rfl : r = r' := by simpa using hr
      obtain rfl : t0 = t := by simpa using ht
      exact hlast
  have hex : ∀ va n vc, Beside g W (((W.setCell ⟨g, 0, none⟩ (.slice va n vc)).setCell ⟨g, 1, none⟩ (.slice none 0 0)).setCell ⟨g, 2, none⟩ (.slice none 0 0)) := fun va n vc => (((Beside.refl _ W).setCell 0 _).setCell 1 _).setCell 2 _
  have hlt := hraw.lt
  obtain ⟨va, vc, hv, _⟩ := hraw.sees (f := ns ++ [t0]) (bound := w8.heap.size) (by simp; omega) (by simp [hrl]) hbel.size (fun j r' t hr ht => by
    obtain ⟨h1, h2, h3, h4⟩ := hall j r' t hr ht
    exact ⟨h1, h2, h3, h4.below hbel⟩)
  have hset := hex va (ns ++ [t0]).length vc
  have hbe2 := hbel.trans (hset.below hB hbel.size)
  have hraw2 := hraw.stay (w' := (((W.setCell ⟨g, 0, none⟩ (.slice va (ns ++ [t0]).length vc)).setCell ⟨g, 1, none⟩ (.slice none 0 0)).setCell ⟨g, 2, none⟩ (.slice none 0 0))) (fun b e => hset.block b (hlt b e).2 (fun e2 => hne (by rw [e, e2])))
  obtain ⟨va', vc', hv', hn'⟩ := hraw2.sees (f := ns ++ [t0]) (bound := w8.heap.size) (by simp; omega) (by simp [hrl]) hbe2.size (fun j r' t hr ht => by
    obtain ⟨h1, h2, h3, h4⟩ := hall j r' t hr ht
    exact ⟨h1, h2, h3, h4.below hbe2⟩)
  obtain ⟨e1, _, e3⟩ := Value.slice.inj (hv.symm.trans hv')
  subst e1 e3
  exact ⟨va, vc, hv, hg.putsV va _ vc, hn', hbe2⟩
end Go.Proofs.Ytpjocacepafneaa

/- Nodes and a copy of each behind them, while the law makes them. -/
namespace Go.Proofs.Ytpjocacepafneaa
open Go.RowKit Go.Sort

theorem Edges.stayU {w w' : World} {bound bound' : Nat} {a : Option Addr} {n : Nat} {l : List EdgeL} (h : Edges w bound a n l) (hb : bound ≤ bound') (hk : ∀ b off, a = some ⟨b, off, none⟩ → 0 < n → w'.heap[b]? = w.heap[b]?) : Edges w' bound' a n l :=
  ⟨h.1, h.2.1, fun hn => by
    obtain ⟨b, off, e, hlt, hc⟩ := h.2.2 hn
    refine ⟨b, off, e, by omega, fun j x hj => ?_⟩
    obtain ⟨s, ⟨c0, c1, c2, c3⟩, h1⟩ := hc j x hj
    have hq : ∀ o, w'.cell? ⟨b, o, none⟩ = w.cell? ⟨b, o, none⟩ := fun o => World.cell?_of_block (hk b off e hn)
    exact ⟨s, ⟨(hq _).trans c0, (hq _).trans c1, (hq _).trans c2, (hq _).trans c3⟩, h1⟩⟩
theorem Edges.room {w : World} {bound : Nat} {a : Option Addr} {n : Nat} {l : List EdgeL} (h : Edges w bound a n l) {b off : Nat} (e : a = some ⟨b, off, none⟩) (hn : 0 < n) : b < bound := by
  obtain ⟨b', off', e', hlt, _⟩ := h.2.2 hn
  obtain ⟨e1, _, _⟩ := Addr.mk.inj (Option.some.inj (e.symm.trans e'))
  omega
/-- What is laid reads as this node; its edges lie beside the slice v and the box g. -/
def TNode (W : World) (v : Value) (g : Nat) (r : NR) (t : NodeL) : Prop :=
  r.k = t.kind ∧ r.s.toList = t.peer ∧ r.s.size ≤ maxLen ∧ Edges W W.heap.size r.a r.n t.arms ∧ ∀ b off, r.a = some ⟨b, off, none⟩ → 0 < r.n → v.ownBlock ≠ some b ∧ b ≠ g
/-- The nodes so far, in a box of the call's own. -/
structure TSt (w5 W : World) (g9 : Nat) (va : Option Addr) (m vc : Nat) (sa : Option Addr) (sc : Nat) (ra : Option Addr) (rc : Nat) (f : List NodeL) : Prop where
  raw : ∃ rs, NRaw W w5.heap.size (.slice va m vc) rs ∧ rs.length = f.length ∧ f.length = m ∧ ∀ (j : Nat) (r : NR) (t : NodeL), rs[j]? = some r → f[j]? = some t → TNode W (.slice va m vc) g9 r t
  box : BBox W g9 va m vc sa 2 sc ra 2 rc
  low : w5.heap.size ≤ g9
  bel : Below w5.heap.size w5 W
theorem TSt.on {w5 W W' : World} {g9 m vc sc rc : Nat} {va sa ra : Option Addr} {f : List NodeL} (h : TSt w5 W g9 va m vc sa sc ra rc f) (hb : Below W.heap.size W W') : TSt w5 W' g9 va m vc sa sc ra rc f := by
  obtain ⟨⟨rs, h1, h2, h3, h4⟩, h5, h6, h7⟩ := h
  refine ⟨⟨rs, h1.kept hb, h2, h3, fun j r t hr ht => ?_⟩, h5.stay (hb.block _ h5.lt), h6, below_on h7 hb⟩
  obtain ⟨e1, e2, e3, e4, e5⟩ := h4 j r t hr ht
  exact ⟨e1, e2, e3, e4.on hb, e5⟩
theorem BBox.putsT {W : World} {g : Nat} (h : BBox W g none 0 0 none 0 0 none 0 0) (va : Option Addr) (n vc : Nat) (sa : Option Addr) (sn sc : Nat) (ra : Option Addr) (rn rc : Nat) : BBox (((W.setCell ⟨g, 0, none⟩ (.slice va n vc)).setCell ⟨g, 1, none⟩ (.slice sa sn sc)).setCell ⟨g, 2, none⟩ (.slice ra rn rc)) g va n vc sa sn sc ra rn rc :=
  ((h.set0 va n vc).set1 sa sn sc).set2 ra rn rc
/-- The copy of the nodes is stored in a box. -/
theorem two_start {w5 W : World} {g sc rc : Nat} {sa ra : Option Addr} {v : Value} {rs : List NR} {ns : List NodeL} (hraw : NRaw W w5.heap.size v rs) (hg : BBox W g none 0 0 none 0 0 none 0 0) (hbel : Below w5.heap.size w5 W) (hB : w5.heap.size ≤ g) (hrl : rs.length = ns.length)
    (hrd : ∀ (j : Nat) (r : NR) (t : NodeL), rs[j]? = some r → ns[j]? = some t → r.k = t.kind ∧ r.s.toList = t.peer ∧ r.s.size ≤ maxLen ∧ Edges w5 w5.heap.size r.a r.n t.arms) :
    ∃ va vc, v = .slice va ns.length vc ∧ TSt w5 (((W.setCell ⟨g, 0, none⟩ (.slice va ns.length vc)).setCell ⟨g, 1, none⟩ (.slice sa 2 sc)).setCell ⟨g, 2, none⟩ (.slice ra 2 rc)) g va ns.length vc sa sc ra rc ns := by
  have hne := hraw.other (cs := #[.slice none 0 0, .slice none 0 0, .slice none 0 0]) (e := 26) (fr := (0, 0)) hg (by decide)
  have hlt := hraw.lt
  obtain ⟨va, vc, hv⟩ := hraw.form
  rw [hrl] at hv
  have hset : Beside g W (((W.setCell ⟨g, 0, none⟩ (.slice va ns.length vc)).setCell ⟨g, 1, none⟩ (.slice sa 2 sc)).setCell ⟨g, 2, none⟩ (.slice ra 2 rc)) := (((Beside.refl _ W).setCell 0 _).setCell 1 _).setCell 2 _
  have hbe2 := hbel.trans (hset.below hB hbel.size)
  have hraw2 := hraw.stay (w' := (((W.setCell ⟨g, 0, none⟩ (.slice va ns.length vc)).setCell ⟨g, 1, none⟩ (.slice sa 2 sc)).setCell ⟨g, 2, none⟩ (.slice ra 2 rc))) (fun b e => hset.block b (hlt b e).2 (fun e2 => hne (by rw [e, e2])))
  rw [hv] at hraw2 hlt
  refine ⟨va, vc, hv, ⟨rs, hraw2, hrl, rfl, fun j r t hr ht => ?_⟩, hg.putsT .., hB, hbe2⟩
  obtain ⟨e1, e2, e3, e4⟩ := hrd j r t hr ht
  refine ⟨e1, e2, e3, (e4.below hbe2).more hbe2.size, fun b off e hn => ?_⟩
  have hb := e4.room e hn
  exact ⟨fun e5 => by have := (hlt b e5).1; omega, by omega⟩
/-- A node is put behind them. -/
theorem wpList_push_two {ops : Array Oper} {rest : List Oper} {o : Oper} {a : Act} {Q : Exit → Act → World → Prop} {w5 W : World} {g9 m vc sc rc : Nat} {va sa ra : Option Addr} {f : List NodeL} {cells : Array Value} (hgd : o.guard = none) (s x : Operand)
    (ho : o.op = .call { callee := .builtin .append, args := #[s, x], argTypes := #[22, 22] }) (hT : TSt w5 W g9 va m vc sa sc ra rc f) (r : NR) (t : NodeL) (hc : cells = #[.int .i64 r.k, .string r.s, .slice r.a r.n r.c])
    (hA : TNode W (.slice va m vc) g9 r t) (hs : a.eval s = .slice va m vc) {g : Nat} (hx : a.eval x = .slice (some ⟨g, 0, none⟩) 1 1) (hg : g = W.heap.size) (hm : m ≤ 1000)
    (h : ∀ va' vc' w', BBox w' g9 va m vc sa 2 sc ra 2 rc → TSt w5 (w'.setCell ⟨g9, 0, none⟩ (.slice va' (m + 1) vc')) g9 va' (m + 1) vc' sa sc ra rc (f ++ [t]) → wpList Try.prog ops Q rest (a.put o.dst (.slice va' (m + 1) vc')) w') : wpList Try.prog ops Q (o :: rest) a (W.alloc (.cells cells 39)) := by
  subst hc hg
  obtain ⟨⟨rs, hraw, hrl, hfl, hrd⟩, hbox, hlow, hbel⟩ := hT
  have hB : w5.heap.size ≤ W.heap.size := hbel.size
  have hlt := hraw.lt
  have hne0 := hraw.other (cs := #[.slice va m vc, .slice sa 2 sc, .slice ra 2 rc]) (e := 26) (fr := (0, 0)) hbox (by decide)
  obtain ⟨v', w', hrun, hraw', hb', hkp, hat⟩ := (hraw.kept (tu1 W (.cells #[.int .i64 r.k, .string r.s, .slice r.a r.n r.c] 39))).add (by simp; omega) 1 (NRow.one (r := r) (heap_alloc_new W _)) (by omega) o.type
  obtain ⟨va', vc', hv'⟩ := hraw'.form
  have hl1 : (rs ++ [r]).length = m + 1 := by rw [List.length_append, hrl, hfl]; rfl
  rw [hl1] at hv'
  have hkb : ∀ b, b < W.heap.size → (Value.slice va m vc).ownBlock ≠ some b → w'.heap[b]? = W.heap[b]? := fun b hb hn => (hkp.2 b (by simp; omega) hn).trans ((tu1 W _).block b hb)
  have hbox' : BBox w' g9 va m vc sa 2 sc ra 2 rc := hbox.stay (hkb g9 hbox.lt hne0)
  have hne := hraw'.other (cs := #[.slice va m vc, .slice sa 2 sc, .slice ra 2 rc]) (e := 26) (fr := (0, 0)) hbox' (by decide)
  have hlt' := hraw'.lt
  have hset : Beside g9 w' (w'.setCell ⟨g9, 0, none⟩ (.slice va' (m + 1) vc')) := (Beside.refl _ w').setCell 0 _
  have hbe1 : Below w5.heap.size w5 w' := (hbel.alloc hB _).trans hb'
  have hbe2 := hbe1.trans (hset.below hlow hbe1.size)
  have hz : W.heap.size ≤ w'.heap.size := by have := hkp.1; simp at this; omega
  have hat' : ∀ b, b < W.heap.size → (Value.slice va m vc).ownBlock ≠ some b → (Value.slice va' (m + 1) vc').ownBlock ≠ some b := fun b hb hn => by
    rw [← hv']
    rcases hat with e | e
    · rw [e]; exact hn
    · rw [e]
      intro e2
      have := Option.some.inj e2
      simp at this
      omega
  have hmove : ∀ (r : NR) (t : NodeL), TNode W (.slice va m vc) g9 r t → TNode (w'.setCell ⟨g9, 0, none⟩ (.slice va' (m + 1) vc')) (.slice va' (m + 1) vc') g9 r t := fun r t ⟨e1, e2, e3, e4, e5⟩ =>
    ⟨e1, e2, e3, e4.stayU (Nat.le_trans hz hset.size) (fun b off e hn => by
      have hb := e4.room e hn
      obtain ⟨n1, n2⟩ := e5 b off e hn
      exact (hset.block b (by omega) n2).trans (hkb b hb n1)), fun b off e hn => ⟨hat' b (e4.room e hn) (e5 b off e hn).1, (e5 b off e hn).2⟩⟩
  have hraw2 := hraw'.stay (w' := w'.setCell ⟨g9, 0, none⟩ (.slice va' (m + 1) vc')) (fun b e => hset.block b (hlt' b e).2 (fun e2 => hne (by rw [e, e2])))
  refine wpList_append_lx hgd s x _ ho _ _ _ hs hx hrun ?_
  rw [hv'] at hraw2 ⊢
  refine h va' vc' w' hbox' ⟨⟨rs ++ [r], hraw2, by rw [List.length_append, List.length_append, hrl]; rfl, by rw [List.length_append, hfl]; rfl, fun j r2 t2 hr ht => ?_⟩, hbox'.set0 va' (m + 1) vc', hlow, hbe2⟩
  rcases Nat.lt_or_ge j rs.length with hj | hj
  · rw [List.getElem?_append_left hj] at hr
    rw [List.getElem?_append_left (by omega)] at ht
    exact hmove _ _ (hrd j r2 t2 hr ht)
  · rw [List.getElem?_append_right hj] at hr
    rw [List.getElem?_append_right (by omega), ← hrl] at ht
    have h0 : j - rs.length = 0 := by
      obtain ⟨h1, _⟩ := List.getElem?_eq_some_iff.1 hr
      simpa using h1
    rw [h0] at hr ht
    obtain rfl : r = r2 := by simpa using hr
    obtain rfl : t = t2 := by simpa using ht
    exact hmove _ _ hA
/-- They read as a book. -/
theorem TSt.book {w5 W : World} {g9 m vc sc rc : Nat} {va sa ra : Option Addr} {f : List NodeL} (h : TSt w5 W g9 va m vc sa sc ra rc f) (hm : m ≤ 1000) {bd : Nat} (hbd : bd ≤ w5.heap.size) {na : Option Addr} {nn : Nat} {b : BookL} (hb : BkIn w5 bd na nn sa 2 ra 2 b) : BkIn W W.heap.size va m sa 2 ra 2 ⟨f, b.names, b.roots⟩ := by
  obtain ⟨⟨rs, hraw, hrl, hfl, hrd⟩, _, _, hbel⟩ := h
  obtain ⟨va', vc', hv, hn⟩ := hraw.sees (f := f) (bound := W.heap.size) (by omega) hrl (Nat.le_refl _) (fun j r t hr ht => by
    obtain ⟨e1, e2, e3, e4, _⟩ := hrd j r t hr ht
    exact ⟨e1, e2, e3, e4⟩)
  obtain ⟨e1, e2, _⟩ := Value.slice.inj hv
  rw [← e1, ← e2] at hn
  have hb2 := (hb.below (hbel.mono hbd)).more (Nat.le_trans hbd hbel.size)
  exact ⟨hn, hb2.names, hb2.roots⟩
theorem two_book {b : BookL} (hb : bookB b = true) (h : b.nodes.length ≤ 200) : bookB ⟨twoN b.nodes, b.names, b.roots⟩ = true := by
  obtain ⟨hn, h2, h3, h4⟩ := bookB_ok hb
  have hs := two_ok hn h
  unfold bookB
  simp only [Bool.and_eq_true, decide_eq_true_eq, List.all_eq_true]
  refine ⟨⟨⟨⟨hs.1, h2⟩, h3⟩, fun r hr => ?_⟩, fun a ha => ?_⟩
  · have h5 := h4 r hr
    exact inBk_iff.2 ⟨h5.1, by rw [two_len]; omega⟩
  · obtain ⟨i, hi, rfl⟩ := List.mem_iff_getElem.1 ha
    exact hs.2 i _ (List.getElem?_eq_getElem hi)
theorem wpList_append_edgesK {ops : Array Oper} {rest : List Oper} {o : Oper} {a : Act} {Q : Exit → Act → World → Prop} {W : World} (hgd : o.guard = none) (s x : Operand)
    (ho : o.op = .call { callee := .builtin .append, args := #[s, x], argTypes := #[37, 37] }) (base : Nat) (v : Value) (l : List EdgeL) (ad : Option Addr) (m c : Nat) (l2 : List EdgeL)
    (hs : a.eval s = v) (hx : a.eval x = .slice ad m c) (hB : EdOwn W base v l) (hr : EdRow W ad m l2) (hb : base ≤ W.heap.size) (hlen : l.length + m ≤ 1000000)
    (h : ∀ v' w', EdOwn w' base v' (l ++ l2) → Below base W w' → Keeps v W w' → wpList Try.prog ops Q rest (a.put o.dst v') w') : wpList Try.prog ops Q (o :: rest) a W := by
  obtain ⟨v', w', hrun, hown, hbel, hkp⟩ := hB.add hb c hr hlen o.type
  exact wpList_append_lx hgd s x _ ho _ _ _ hs hx hrun (h v' w' hown (hbel base (Nat.le_refl _) W (Below.refl _ _)) hkp)
theorem EdOwn.stayU {w w' : World} {base : Nat} {v : Value} {l : List EdgeL} (h : EdOwn w base v l) (hk : ∀ b, v.ownBlock = some b → w'.heap[b]? = w.heap[b]?) : EdOwn w' base v l := by
  obtain ⟨ts, h, h2⟩ := h
  refine ⟨ts, ⟨h.1, ?_⟩, h2⟩
  rcases h.2 with h0 | ⟨g, cap, cur, rfl, hbase, hh, h1, h2, h3, h4⟩
  · exact .inl h0
  · exact .inr ⟨g, cap, cur, rfl, hbase, (hk g rfl).trans hh, h1, h2, h3, h4⟩
/-- The copy's edges so far are stored in its box. -/
theorem two_arm {w6 W : World} {g B an ac : Nat} {aa : Option Addr} {v : Value} {l : List EdgeL} {kd : Int} {s : ByteArray} (ho : EdOwn W B v l) (hN : NBox W g kd s aa an ac) (hB : B ≤ g) (hbel : Below B w6 W) (hl : l.length ≤ 1000) (hB2 : B ≤ W.heap.size) :
    ∃ va vc, v = .slice va l.length vc ∧ NBox (W.setCell ⟨g, 2, none⟩ (.slice va l.length vc)) g kd s va l.length vc ∧ EdOwn (W.setCell ⟨g, 2, none⟩ (.slice va l.length vc)) B (.slice va l.length vc) l ∧ Below B w6 (W.setCell ⟨g, 2, none⟩ (.slice va l.length vc)) := by
  have hne := ho.other (cs := #[.int .i64 kd, .string s, .slice aa an ac]) (e := 39) (fr := (0, 0)) hN (by decide)
  obtain ⟨va, vc, rfl, _, _, _⟩ := ho.sees (by omega)
  have hset : Beside g W (W.setCell ⟨g, 2, none⟩ (.slice va l.length vc)) := (Beside.refl _ W).setCell 2 _
  refine ⟨va, vc, rfl, setBox10 hN, ?_, hbel.trans (hset.below hB hB2)⟩
  exact ho.stayU fun b e => hset.block b (by obtain ⟨ts, h1, _⟩ := ho; exact (h1.lt b e).2) (fun e2 => hne (by rw [e, e2]))
theorem EBox.nxT {W : World} {g : Nat} {s : ByteArray} {a b c : Int} (h : EBox W g s a b c) (c' : Int) : EBox (W.setCell ⟨g, 3, none⟩ (.int .i64 c')) g s a b c' := heap_setCell_same W g 3 _ _ (.int .i64 c') h
theorem EBox.atT {W : World} {g : Nat} {s : ByteArray} {a b c : Int} (h : EBox W g s a b c) (b' : Int) : EBox (W.setCell ⟨g, 2, none⟩ (.int .i64 b')) g s a b' c := heap_setCell_same W g 2 _ _ (.int .i64 b') h
theorem two_keep {w6 wr W W' : World} {B g11 an ac : Nat} {aa : Option Addr} {kd : Int} {s : ByteArray} {v : Value} {l : List EdgeL} (hO : EdOwn wr B v l) (hN : NBox wr g11 kd s aa an ac) (hb : Below wr.heap.size wr W) (hs : Beside wr.heap.size W W') (hB : Below B w6 wr) (hBB : B ≤ wr.heap.size) :
    EdOwn W' B v l ∧ NBox W' g11 kd s aa an ac ∧ Below B w6 W' := by
  have hz := hb.size
  have hblk : ∀ b, b < wr.heap.size → W'.heap[b]? = wr.heap[b]? := fun b h => (hs.block b (by omega) (by omega)).trans (hb.block b h)
  refine ⟨hO.stayU fun b e => hblk b ?_, (hblk g11 (Array.getElem?_eq_some_iff.1 hN).1).trans hN, hB.trans ((hb.mono hBB).trans (hs.below hBB (by omega)))⟩
  obtain ⟨ts, h1, _⟩ := hO
  exact (h1.lt b e).2
theorem EdOwn.from_ {W : World} {B n c : Nat} {a : Option Addr} {l : List EdgeL} (h : EdOwn W B (.slice a n c) l) {b off : Nat} (e : a = some ⟨b, off, none⟩) : B ≤ b := by
  obtain ⟨ts, h, _⟩ := h
  rcases h.2 with ⟨h0, _⟩ | ⟨g, cap, cur, hv, hbase, _⟩
  · subst e
    cases h0
  · subst e
    obtain ⟨e1, _, _⟩ := Value.slice.inj hv
    obtain ⟨e2, _, _⟩ := Addr.mk.inj (Option.some.inj e1)
    omega
theorem two_fresh {w5 W : World} {g9 m vc sc rc : Nat} {va sa ra : Option Addr} {f : List NodeL} (h : TSt w5 W g9 va m vc sa sc ra rc f) {b : Nat} (hb : W.heap.size ≤ b) : (Value.slice va m vc).ownBlock ≠ some b ∧ b ≠ g9 := by
  obtain ⟨⟨rs, hraw, _⟩, hbox, _⟩ := h
  have hlt := hraw.lt
  have := hbox.lt
  exact ⟨fun e => by have := (hlt b e).2; omega, by omega⟩
/-- The copy as it is laid. -/
theorem two_node {w5 wl W : World} {g9 m vc sc rc n an ec : Nat} {va sa ra ea : Option Addr} {f : List NodeL} {kd : Int} {pe : ByteArray} {al : List EdgeL} (h : TSt w5 wl g9 va m vc sa sc ra rc f) (hO : EdOwn W wl.heap.size (.slice ea an ec) (al.map (shiftE n))) (hp : pe.size ≤ maxLen) (hl : al.length = an) (h6 : an ≤ 6) :
    TNode W (.slice va m vc) g9 ⟨kd, pe, ea, an, ec⟩ (shiftN n ⟨kd, pe.toList, al⟩) := by
  refine ⟨rfl, rfl, hp, ?_, fun b off e _ => two_fresh h (hO.from_ e)⟩
  obtain ⟨a, c, hv, hE, _, _⟩ := hO.sees (by rw [List.length_map]; omega)
  rw [List.length_map, hl] at hv hE
  obtain ⟨e1, _, _⟩ := Value.slice.inj hv
  show Edges W W.heap.size ea an (al.map (shiftE n))
  rw [e1]
  exact hE
theorem two_next {n j : Nat} {al : List EdgeL} {u : ByteArray} {sk ta nx : Int} (hx : al[j]? = some ⟨u.toList, sk, ta, nx⟩) (tb : Int) (ht : tb = if sk = 5 then ta + (n : Int) else ta) : (al.take j).map (shiftE n) ++ [edgeR ⟨u, sk, tb, nx + (n : Int)⟩] = (al.take (j + 1)).map (shiftE n) := by
  rw [List.take_add_one, hx, List.map_append, ht]
  rfl
theorem two_more {n k : Nat} {ns : List NodeL} {t : NodeL} (hx : ns[k]? = some t) : (ns ++ (ns.take k).map (shiftN n)) ++ [shiftN n t] = ns ++ (ns.take (k + 1)).map (shiftN n) := by
  rw [List.take_add_one, hx, List.map_append, List.append_assoc]
  rfl
theorem isClT_ex {ns : List NodeL} (hc : Closed ns) : ∃ cl, IsCl ns cl := by
  have least : ∀ (P : Nat → Prop) (n : Nat), P n → ∃ m, P m ∧ ∀ k, P k → m ≤ k := fun P n => by
    induction n using Nat.strongRecOn with
    | ind n ih =>
      intro hn
      by_cases h : ∃ k, k < n ∧ P k
      · obtain ⟨k, hk, hp⟩ := h
        exact ih k hk hp
      · exact ⟨n, hn, fun k hp => Nat.le_of_not_lt fun hlt => h ⟨k, hlt, hp⟩⟩
  have h : ∀ i : Nat, ∃ m, i < ns.length → Eqv ns m i ∧ ∀ k, Eqv ns k i → m ≤ k := fun i => by
    by_cases hi : i < ns.length
    · obtain ⟨m, h1, h2⟩ := least (fun k => Eqv ns k i) i (eqv_refl hc hi)
      exact ⟨m, fun _ => ⟨h1, h2⟩⟩
    · exact ⟨0, fun h => absurd h hi⟩
  refine ⟨(List.range ns.length).map fun i => Classical.choose (h i), by simp, fun i hi => ?_⟩
  have e : ((List.range ns.length).map fun i => Classical.choose (h i)).getD i 0 = Classical.choose (h i) := by
    rw [List.getD_eq_getElem?_getD, List.getElem?_map, List.getElem?_range hi]
    rfl
  rw [e]
  exact Classical.choose_spec (h i) hi
theorem armsT_few {ns : List NodeL} (h : NodesOk ns) {x : Nat} {a : NodeL} (ha : ns[x]? = some a) : a.arms.length ≤ 6 := by
  rcases nodeB_arms (h.2 x a ha) with h0 | h1
  · rw [h0]; exact Nat.zero_le _
  · unfold edgesB at h1
    simp only [Bool.and_eq_true, decide_eq_true_eq] at h1
    exact h1.2
theorem shrQT_len {b : BookL} {cl : List Nat} (h : bookB b = true) : (shrQ b cl).nodes.length = rankP cl b.nodes.length := by
  unfold shrQ
  rw [if_pos h]
  exact shrN_len
/-- What Same says of the nodes and of their copies. -/
theorem two_same {b : BookL} {cl cl2 : List Nat} {n p q : Nat} (hb : bookB b = true) (hn : b.nodes.length = n) (h8 : n ≤ 8) (hc : IsCl b.nodes cl) (hc2 : IsCl (twoN b.nodes) cl2) (hp : p < n) (hq : q < n) :
    sameC cl2 (p : Int) ((p : Int) + (n : Int)) = true ∧ sameC cl2 (p : Int) (q : Int) = sameC cl (p : Int) (q : Int) ∧ sameC cl2 ((p : Int) + (n : Int)) (q : Int) = sameC cl (p : Int) (q : Int) := by
  obtain ⟨hok, _⟩ := bookB_ok hb
  have hl2 : cl2.length = n + n := by rw [hc2.1, two_len, hn]
  have hl : cl.length = n := by rw [hc.1, hn]
  have he : ∀ x y, x < n + n → y < n + n → (cl2.getD x 0 = cl2.getD y 0 ↔ cl.getD (halfP n x) 0 = cl.getD (halfP n y) 0) := fun x y hx hy => by
    have hh : ∀ z, z < n + n → halfP n z < n := fun z hz => by unfold halfP; split <;> omega
    rw [hc2.iff (by rw [two_len, hn]; exact hx) (by rw [two_len, hn]; exact hy), hc.iff (by rw [hn]; exact hh x hx) (by rw [hn]; exact hh y hy), two_eqv hok (by omega) (by rw [hn]; exact hx) (by rw [hn]; exact hy), hn]
  have hpn : (p : Int) + (n : Int) = ((p + n : Nat) : Int) := rfl
  have h1 : halfP n p = p := by unfold halfP; rw [if_pos hp]
  have h2 : halfP n q = q := by unfold halfP; rw [if_pos hq]
  have h3 : halfP n (p + n) = p := by unfold halfP; rw [if_neg (by omega)]; omega
  rw [hpn, sameC_at hl2 (by omega) (by omega), sameC_at hl2 (by omega) (by omega), sameC_at hl2 (by omega) (by omega), sameC_at hl hp hq]
  refine ⟨decide_eq_true ((he _ _ (by omega) (by omega)).2 (by rw [h1, h3])), ?_, ?_⟩
  · rw [Bool.eq_iff_iff, decide_eq_true_eq, decide_eq_true_eq, he _ _ (by omega) (by omega), h1, h2]
  · rw [Bool.eq_iff_iff, decide_eq_true_eq, decide_eq_true_eq, he _ _ (by omega) (by omega), h3, h2]
/-- The same, behind the append. -/
theorem two_arm2 {wl wb w5 : World} {o : Obj} {g B an ac j : Nat} {aa : Option Addr} {v v5 : Value} {l l5 l6 : List EdgeL} {kd : Int} {s : ByteArray} (hO : EdOwn wb B v l) (hN : NBox wb g kd s aa an ac) (hbl : Below B wl wb) (hB : B ≤ g) (hBB : B ≤ wb.heap.size) (ho5 : EdOwn w5 B v5 l5) (hb5 : Below B (wb.alloc o) w5) (hk5 : Keeps v (wb.alloc o) w5) (h6 : l5 = l6) (hj : l6.length = j + 1) (hl : j ≤ 900) :
    ∃ va vc, v5 = .slice va (j + 1) vc ∧ NBox w5 g kd s aa an ac ∧ NBox (w5.setCell ⟨g, 2, none⟩ (.slice va (j + 1) vc)) g kd s va (j + 1) vc ∧ EdOwn (w5.setCell ⟨g, 2, none⟩ (.slice va (j + 1) vc)) B (.slice va (j + 1) vc) l6 ∧ Below B wl (w5.setCell ⟨g, 2, none⟩ (.slice va (j + 1) vc)) := by
  subst h6
  have hne := hO.other (cs := #[.int .i64 kd, .string s, .slice aa an ac]) (e := 39) (fr := (0, 0)) hN (by decide)
  have hlt := (Array.getElem?_eq_some_iff.1 hN).1
  have hn5 : NBox w5 g kd s aa an ac := ((hk5.2 g (by simp; omega) hne).trans ((tu1 wb o).block g hlt)).trans hN
  have hz := hb5.size
  obtain ⟨va, vc, hv, z1, z2, z3⟩ := two_arm ho5 hn5 hB ((hbl.alloc hBB o).trans hb5) (by omega) (by simp at hz; omega)
  rw [hj] at hv z1 z2 z3
  exact ⟨va, vc, hv, hn5, z1, z2, z3⟩
end Go.Proofs.Ytpjocacepafneaa

/- Law: EqualTwice. (Printed by gen/gen10.py.) -/
namespace Go.Proofs.Ytpjocacepafneaa
open Go.RowKit Go.Sort

set_option maxHeartbeats 32000000 in
set_option maxRecDepth 40000 in
theorem equalTwice_walk (a : Option Addr) (n c : Nat) (l : List Int) (x y : Int) (w : World) (h : Nums w w.heap.size a n l) (hlim : n * 8 ≤ 140737488351232) :
    Calls Try.prog 4 #[.slice a n c, .int .i64 x, .int .i64 y] w fun e w' => e = .returned (.bool true) ∧ Below w.heap.size w w' := by
  have HN := Lib.hid h
  have HF := Lib.hid (first10_any w)
  have HLP := Lib.hid loop10_any
  have hn0 := h.1
  have HLN := Lib.hid hn0
  clear h hn0
  go_enter Try.func4, Try.ntmps4
  go_upto_region 4 with (first
    | (go_at_call 10; (with_reducible refine HF.out.mono ?_)
       rintro e w1 ⟨rfl, hb1⟩
       have HB1 := Lib.hid hb1
       clear hb1)
    | (go_at_call 21; (with_reducible refine (HLP.out w1).mono ?_)
       rintro e w2 ⟨⟨pa, pn, pc, qa, qn, qc, ua, un, uc, rfl, _⟩, hb2⟩
       have HB2 := Lib.hid (below_on HB1.out hb2)
       clear hb2)
    | (at_builtin
       refine wpList_append_plus10 rfl (.tmp 19) (.tmp 20) rfl w2.heap.size w.heap.size (.slice (some ⟨w2.heap.size, 0, none⟩) 1 1) a n c [5] l rfl rfl (IInts.one (W := w2) (cs := #[.int .i64 5]) (base := w2.heap.size) (g := w2.heap.size) 5 rfl rfl (Nat.le_refl _)) ((HN.out.below HB2.out).alloc HB2.out.size _) (by show (1 + n) * 8 ≤ _; omega) (by simp) ?_
       intro v3 w3 hown hgr
       obtain ⟨ma, mc, hv, _, _, _, hnu⟩ := hown.sees
       obtain ⟨mn, hmn⟩ : ∃ mn, mn = ([5] ++ l : List Int).length := ⟨_, rfl⟩
       rw [← hmn] at hv hnu
       subst hv
       have hml : mn * 8 ≤ 140737488355328 := by rw [hmn, List.length_append, HLN.out]; show (1 + n) * 8 ≤ _; omega
       have hm0 : 0 < mn := by rw [hmn]; simp
       clear hmn
       have HNU := Lib.hid hnu
       have HB3 := Lib.hid ((HB2.out.alloc HB2.out.size (.cells #[.int .i64 5] 3)).grown hgr (by have := HB2.out.size; simp; omega) (fun j e => by cases e; exact HB2.out.size))
       clear hown hgr hnu)
    | (go_at_call 12; (with_reducible refine (made10_pos pa pn pc qa qn qc ua un uc ma mn mc _ w3 w3.heap.size (Nat.le_refl _) HNU.out hm0 hml).mono ?_)
       rintro e w4 ⟨⟨na, nn, nc, sa, sc, ra, rc, b, rfl, hin, hok, h1, h8⟩, hb4⟩
       have HB4 := Lib.hid (below_on HB3.out hb4)
       have HIN := Lib.hid hin
       have HOK := Lib.hid (And.intro hok (And.intro h1 h8))
       clear hin hok hb4 h1 h8)
    | fail)
  have HG := Lib.hid (show LB10 w (w4.alloc (.cells #[.slice na nn nc, .slice sa 2 sc, .slice ra 2 rc] 26)) w4.heap.size na nn nc sa sc ra rc b from
    ⟨heap_alloc_new w4 _, HIN.out.on (tu1 w4 _), HOK.out.1, HOK.out.2.1, HOK.out.2.2, below_on HB4.out (tu1 w4 _)⟩)
  generalize hg5 : w4.heap.size = g5 at HG ⊢
  generalize hw5 : w4.alloc (.cells #[.slice na nn nc, .slice sa 2 sc, .slice ra 2 rc] 26) = w5 at HG ⊢
  clear hg5 hw5 HIN HOK HB4 HB3 HNU HB2 HB1 HF HLP HN hml hm0
  obtain ⟨gc0, gc1, gc2⟩ := HG.out.cells
  have hn1 := HG.out.one
  have hn8 := HG.out.few
  obtain ⟨hok, _⟩ := bookB_ok HG.out.ok
  have HOK := Lib.hid hok
  clear hok
  have HNL := Lib.hid HG.out.len
  have HBK := Lib.hid HG.out.ok
  obtain ⟨nb, no, _, _, _, _, _, _, hna, _, _, _, _, _⟩ := HG.out.bk.nodes.at_ (k := 0) (by omega)
  subst hna
  have HG5 := HG
  go_upto_region 5 with fail
  clear gc0 gc1 gc2
  go_cut [9] (fun s wx => ∃ (g9 : Nat) (va : Option Addr) (vc : Nat), s = .pointer (some ⟨g9, 0, none⟩) ∧ Hid (TSt w5 wx g9 va nn vc sa sc ra rc b.nodes))
  case first =>
    have HBd := Lib.hid (show Below w5.heap.size w5 w5.drew from bel_drewN (Below.refl _ _) 1)
    obtain ⟨rs, hrow, hrl, hrd⟩ := HG.out.bk.nodes.rows
    have HROW := Lib.hid hrow
    have HRL := Lib.hid hrl
    have HRD := Lib.hid hrd
    have HRN := Lib.hid hrow.1
    clear hrow hrl hrd
    have HS := Lib.hid (fun (W : World) (hW : Below w5.heap.size w5 W) => show (W.cell? ⟨g5, 0, none⟩ = some (.slice (some ⟨nb, no, none⟩) nn nc) ∧ W.cell? ⟨g5, 1, none⟩ = some (.slice sa 2 sc) ∧ W.cell? ⟨g5, 2, none⟩ = some (.slice ra 2 rc)) from (HG.out.on hW).cells)
    obtain ⟨wd, hwd⟩ : ∃ wd : World, wd = w5.drew := ⟨_, rfl⟩
    rw [← hwd] at HBd
    refine wp_region_last2 (S := fun W => (W.cell? ⟨g5, 0, none⟩ = some (.slice (some ⟨nb, no, none⟩) nn nc) ∧ W.cell? ⟨g5, 1, none⟩ = some (.slice sa 2 sc) ∧ W.cell? ⟨g5, 2, none⟩ = some (.slice ra 2 rc))) rfl (by kernel_rfl) (by kernel_rfl) (by rw [← hwd]; exact HS.out _ HBd.out) (fun hHeld => ?_)
    simp only [List.pop_toArray, List.dropLast_cons_cons, List.dropLast_singleton]
    rw [← hwd]
    rw [← hwd] at hHeld
    clear hwd
    try simp only [Act.put, List.setIfInBounds_toArray]
    refine' wpAnyH_take (i := 0) (v := _) rfl (by kernel_rfl) (by kernel_rfl) (by kernel_rfl) (fun _ _ _ h => h) (Or.inl ⟨by kernel_rfl, ?hya0⟩) (by assumption) ?resta0
    case hya0 =>
      intro W hSw
      (try dsimp only at hSw)
      first | (go_simp; done) | (go_simp; with_reducible rfl)
    try simp only [Act.put]
    refine' wpAnyH_take (i := 1) (v := _) rfl (by kernel_rfl) (by kernel_rfl) (by kernel_rfl) (fun _ _ _ h => h) (Or.inl ⟨by kernel_rfl, ?hya1⟩) (by assumption) ?resta1
    case hya1 =>
      intro W hSw
      (try dsimp only at hSw)
      first | (go_simp; done) | (go_simp; with_reducible rfl)
    try simp only [Act.put]
    refine' wpAnyH_take (i := 2) (v := _) rfl (by kernel_rfl) (by kernel_rfl) (by kernel_rfl) (fun _ _ _ h => h) (Or.inl ⟨by kernel_rfl, ?hya2⟩) (by assumption) ?resta2
    case hya2 =>
      intro W hSw
      (try dsimp only at hSw)
      first | (go_simp; done) | (go_simp; with_reducible rfl)
    try simp only [Act.put, List.getElem_toArray, List.getElem_cons_succ, List.getElem_cons_zero, List.setIfInBounds_toArray, List.set_cons_succ, List.set_cons_zero]
    refine' wpAnyH_take (i := 3) (v := _) rfl (by kernel_rfl) (by kernel_rfl) (by kernel_rfl) (fun _ _ _ h => h) (Or.inl ⟨by kernel_rfl, ?hya3⟩) (by assumption) ?resta3
    case hya3 =>
      intro W hSw
      (try dsimp only at hSw)
      first | (go_simp; done) | (go_simp; with_reducible rfl)
    try simp only [Act.put]
    refine' wpAnyH_take (i := 4) (v := _) rfl (by kernel_rfl) (by kernel_rfl) (by kernel_rfl) (fun _ _ _ h => h) (Or.inl ⟨by kernel_rfl, ?hya4⟩) (by assumption) ?resta4
    case hya4 =>
      intro W hSw
      (try dsimp only at hSw)
      first | (go_simp; done) | (go_simp; with_reducible rfl)
    try simp only [Act.put]
    refine' wpAnyH_take (i := 5) (v := _) rfl (by kernel_rfl) (by kernel_rfl) (by kernel_rfl) (fun _ _ _ h => h) (Or.inl ⟨by kernel_rfl, ?hya5⟩) (by assumption) ?resta5
    case hya5 =>
      intro W hSw
      (try dsimp only at hSw)
      first | (go_simp; done) | (go_simp; with_reducible rfl)
    try simp only [Act.put, List.getElem_toArray, List.getElem_cons_succ, List.getElem_cons_zero, List.setIfInBounds_toArray, List.set_cons_succ, List.set_cons_zero]
    refine wpAnyH_ready (rs := [6, 8]) (by kernel_rfl) (by simp) ?_
    refine (AllReadyH.cons (i := 6) (o := _) rfl (fun K hK => ?bra6) (AllReadyH.cons (i := 8) (o := _) rfl (fun K hK => ?bra8) AllReadyH.nil))
    case bra6 =>
      refine step_append_nodesU (by rfl) (.const (.slice none 0 0)) (.tmp 31) (by rfl) w5.heap.size (.slice none 0 0) [] (some ⟨nb, no, none⟩) nn nc rs (by rfl) (by rfl) (NRaw.zero _ _) (HROW.out.on HG.out.bk.nodes HBd.out) HBd.out.size (by show 0 + nn ≤ _; omega) ?_
      intro vwa6 wa6 ho hb hkp
      have HBwa6 := Lib.hid (HBd.out.trans hb)
      replace ho : NRaw wa6 w5.heap.size vwa6 rs := ho
      obtain ⟨va0, vc0, hv⟩ := ho.form
      rw [HRN.out] at hv
      subst hv
      have HOwa6 := Lib.hid ho
      clear ho hb hkp
      refine hK.out _ _ (HS.out _ HBwa6.out) (fun hHeld => ?_)
      clear hK K
      try simp only [Act.put, List.setIfInBounds_toArray]
      refine' wpAnyH_take (i := 7) (v := _) rfl (by kernel_rfl) (by kernel_rfl) (by kernel_rfl) (fun _ _ _ h => h) (Or.inl ⟨by kernel_rfl, ?hyax67⟩) (by assumption) ?restax67
      case hyax67 =>
        intro W hSw
        (try dsimp only at hSw)
        first | (go_simp; done) | (go_simp; with_reducible rfl)
      try simp only [Act.put, List.getElem_toArray, List.getElem_cons_succ, List.getElem_cons_zero, List.setIfInBounds_toArray, List.set_cons_succ, List.set_cons_zero]
      refine wpAnyH_ready (rs := [8]) (by kernel_rfl) (by simp) ?_
      refine (AllReadyH.cons (i := 8) (o := _) rfl (fun K hK => ?brax68) AllReadyH.nil)
      case brax68 =>
        go_simp
        obtain ⟨wax68, hwax68⟩ : ∃ W : World, W = wa6.alloc (.cells #[.slice none 0 0, .slice none 0 0, .slice none 0 0] 26) := ⟨_, rfl⟩
        have HBwax68 := Lib.hid (show Below w5.heap.size w5 wax68 by rw [hwax68]; exact HBwa6.out.alloc HBwa6.out.size _)
        have HTwax68 := Lib.hid (show Below wa6.heap.size wa6 wax68 by rw [hwax68]; exact tu1 wa6 _)
        have HCwax68 := Lib.hid (show BBox wax68 wa6.heap.size none 0 0 none 0 0 none 0 0 by rw [hwax68]; exact heap_alloc_new wa6 _)
        have hgewax68 : w5.heap.size ≤ wa6.heap.size := HBwa6.out.size
        have HOwax68 := Lib.hid (HOwa6.out.kept HTwax68.out)
        rw [← hwax68]
        clear hwax68
        refine hK.out _ _ (HS.out _ HBwax68.out) (fun hHeld => ?_)
        clear hK K
        obtain ⟨za, zc, hza, z1⟩ := two_start (sa := sa) (sc := sc) (ra := ra) (rc := rc) HOwax68.out HCwax68.out HBwax68.out hgewax68 HRL.out HRD.out
        rw [HNL.out] at hza z1
        obtain ⟨e1, _, e3⟩ := Value.slice.inj hza
        subst e1 e3
        have HZ := Lib.hid z1
        obtain ⟨c0, c1, c2⟩ := HCwax68.out.cells
        have f0 := HCwax68.out.thaw 0
        have f1 := HCwax68.out.thaw 1
        have f2 := HCwax68.out.thaw 2
        clear z1
        try simp only [Act.put]
        refine wpAnyH_done (by kernel_rfl) ?_ _
        unfold LastPost
        go_simp
        go_wp2_with fail
        all_goals
          go_meet
          case rel => exact ⟨_, _, _, rfl, HZ⟩
    case bra8 =>
      go_simp
      obtain ⟨wa8, hwa8⟩ : ∃ W : World, W = wd.alloc (.cells #[.slice none 0 0, .slice none 0 0, .slice none 0 0] 26) := ⟨_, rfl⟩
      have HBwa8 := Lib.hid (show Below w5.heap.size w5 wa8 by rw [hwa8]; exact HBd.out.alloc HBd.out.size _)
      have HTwa8 := Lib.hid (show Below wd.heap.size wd wa8 by rw [hwa8]; exact tu1 wd _)
      have HCwa8 := Lib.hid (show BBox wa8 wd.heap.size none 0 0 none 0 0 none 0 0 by rw [hwa8]; exact heap_alloc_new wd _)
      have hgewa8 : w5.heap.size ≤ wd.heap.size := HBd.out.size
      rw [← hwa8]
      clear hwa8
      refine hK.out _ _ (HS.out _ HBwa8.out) (fun hHeld => ?_)
      clear hK K
      try simp only [Act.put, List.getElem_toArray, List.getElem_cons_succ, List.getElem_cons_zero, List.setIfInBounds_toArray, List.set_cons_succ, List.set_cons_zero]
      refine wpAnyH_ready (rs := [6]) (by kernel_rfl) (by simp) ?_
      refine (AllReadyH.cons (i := 6) (o := _) rfl (fun K hK => ?brax86) AllReadyH.nil)
      case brax86 =>
        refine step_append_nodesU (by rfl) (.const (.slice none 0 0)) (.tmp 31) (by rfl) w5.heap.size (.slice none 0 0) [] (some ⟨nb, no, none⟩) nn nc rs (by rfl) (by rfl) (NRaw.zero _ _) (HROW.out.on HG.out.bk.nodes HBwa8.out) HBwa8.out.size (by show 0 + nn ≤ _; omega) ?_
        intro vwax86 wax86 ho hb hkp
        have HBwax86 := Lib.hid (HBwa8.out.trans hb)
        replace ho : NRaw wax86 w5.heap.size vwax86 rs := ho
        obtain ⟨va0, vc0, hv⟩ := ho.form
        rw [HRN.out] at hv
        subst hv
        have HOwax86 := Lib.hid ho
        have HCwax86 := Lib.hid (HCwa8.out.stay (hkp.2 _ HCwa8.out.lt (by simp [Value.ownBlock])))
        clear ho hb hkp
        refine hK.out _ _ (HS.out _ HBwax86.out) (fun hHeld => ?_)
        clear hK K
        try simp only [Act.put, List.setIfInBounds_toArray]
        refine' wpAnyH_take (i := 7) (v := _) rfl (by kernel_rfl) (by kernel_rfl) (by kernel_rfl) (fun _ _ _ h => h) (Or.inl ⟨by kernel_rfl, ?hyax8x67⟩) (by assumption) ?restax8x67
        case hyax8x67 =>
          intro W hSw
          (try dsimp only at hSw)
          first | (go_simp; done) | (go_simp; with_reducible rfl)
        obtain ⟨za, zc, hza, z1⟩ := two_start (sa := sa) (sc := sc) (ra := ra) (rc := rc) HOwax86.out HCwax86.out HBwax86.out hgewa8 HRL.out HRD.out
        rw [HNL.out] at hza z1
        obtain ⟨e1, _, e3⟩ := Value.slice.inj hza
        subst e1 e3
        have HZ := Lib.hid z1
        obtain ⟨c0, c1, c2⟩ := HCwax86.out.cells
        have f0 := HCwax86.out.thaw 0
        have f1 := HCwax86.out.thaw 1
        have f2 := HCwax86.out.thaw 2
        clear z1
        try simp only [Act.put]
        refine wpAnyH_done (by kernel_rfl) ?_ _
        unfold LastPost
        go_simp
        go_wp2_with fail
        all_goals
          go_meet
          case rel => exact ⟨_, _, _, rfl, HZ⟩
  case rest =>
    obtain ⟨g9, va0, vc0, e9, HT0⟩ := hcut
    subst e9
    go_wp2_with fail
    go_loopw [10] (fun i wr => ∃ (k : Nat) (va : Option Addr) (vc : Nat), k ≤ nn ∧ i = .int .i64 k ∧ Hid (TSt w5 wr g9 va (nn + k) vc sa sc ra rc (b.nodes ++ (b.nodes.take k).map (shiftN nn)))) (fun i _ => nn - (intOf i).toNat)
    case atStart => exact ⟨0, va0, vc0, Nat.zero_le _, rfl, Lib.hid (by rw [List.take_zero, List.map_nil, List.append_nil]; exact HT0.out)⟩
    case round =>
      clear HT0
      obtain ⟨k, va, vc, hk, rfl, HT⟩ := hrel
      have HGr := Lib.hid (HG.out.on HT.out.bel)
      by_cases hlt : k < nn
      · obtain ⟨nb', no', kd, pe, aa, an, ac, al, hna, hnb, hxx, ⟨q0, q1, q2⟩, hps, hEa⟩ := HGr.out.bk.nodes.at_ hlt
        obtain ⟨rfl, rfl, _⟩ := Addr.mk.inj (Option.some.inj hna)
        have hal : al.length = an := hEa.1
        have h6 : an ≤ 6 := by have := armsT_few HOK.out hxx; rw [← hal]; exact this
        have HXX := Lib.hid hxx
        have HPS := Lib.hid hps
        have HEa := Lib.hid hEa
        have HAL := Lib.hid hal
        have HQ2 := Lib.hid q2
        have i1 : (k : Int) < (nn : Int) := by omega
        have i2 : (0 : Int) ≤ (k : Int) := by omega
        obtain ⟨wl, hwl⟩ : ∃ wl : World, wl = wr := ⟨_, rfl⟩
        subst hwl
        have HS := Lib.hid (fun (W : World) (hW : Below wl.heap.size wl W) => show W.cell? ⟨g5, 0, none⟩ = some (.slice (some ⟨nb, no, none⟩) nn nc) ∧ W.cell? ⟨nb, no + k * 3, none⟩ = some (.int .i64 kd) ∧ W.cell? ⟨nb, no + k * 3 + 1, none⟩ = some (.string pe) from ⟨(HGr.out.on hW).cells.1, (hW.cell (p := ⟨nb, no + k * 3, none⟩) hnb).trans q0, (hW.cell (p := ⟨nb, no + k * 3 + 1, none⟩) hnb).trans q1⟩)
        clear hxx hps hEa hal q0 q1 q2 hna
        go_upto_region 9 with fail
        go_cut [11] (fun s wx => ∃ (g11 : Nat), s = .pointer (some ⟨g11, 0, none⟩) ∧ wl.heap.size ≤ g11 ∧ Hid (NBox wx g11 kd pe none 0 0) ∧ Hid (Below wl.heap.size wl wx))
        case first =>
          have HBd := Lib.hid (show Below wl.heap.size wl wl.drew from bel_drewN (Below.refl _ _) 1)
          obtain ⟨wd, hwd⟩ : ∃ wd : World, wd = wl.drew := ⟨_, rfl⟩
          rw [← hwd] at HBd
          refine wp_region_last2 (S := fun W => W.cell? ⟨g5, 0, none⟩ = some (.slice (some ⟨nb, no, none⟩) nn nc) ∧ W.cell? ⟨nb, no + k * 3, none⟩ = some (.int .i64 kd) ∧ W.cell? ⟨nb, no + k * 3 + 1, none⟩ = some (.string pe)) rfl (by kernel_rfl) (by kernel_rfl) (by rw [← hwd]; exact HS.out _ HBd.out) (fun hHeld => ?_)
          simp only [List.pop_toArray, List.dropLast_cons_cons, List.dropLast_singleton]
          rw [← hwd]
          rw [← hwd] at hHeld
          clear hwd
          try simp only [Act.put, List.setIfInBounds_toArray]
          refine' wpAnyH_take (i := 0) (v := _) rfl (by kernel_rfl) (by kernel_rfl) (by kernel_rfl) (fun _ _ _ h => h) (Or.inl ⟨by kernel_rfl, ?hyc0⟩) (by assumption) ?restc0
          case hyc0 =>
            intro W hSw
            (try dsimp only at hSw)
            first | (go_simp; done) | (go_simp; with_reducible rfl)
          try simp only [Act.put]
          refine' wpAnyH_take (i := 1) (v := _) rfl (by kernel_rfl) (by kernel_rfl) (by kernel_rfl) (fun _ _ _ h => h) (Or.inl ⟨by kernel_rfl, ?hyc1⟩) (by assumption) ?restc1
          case hyc1 =>
            intro W hSw
            (try dsimp only at hSw)
            first | (go_simp; done) | (go_simp; with_reducible rfl)
          try simp only [Act.put]
          refine' wpAnyH_take (i := 2) (v := _) rfl (by kernel_rfl) (by kernel_rfl) (by kernel_rfl) (fun _ _ _ h => h) (Or.inl ⟨by kernel_rfl, ?hyc2⟩) (by assumption) ?restc2
          case hyc2 =>
            intro W hSw
            (try dsimp only at hSw)
            first | (go_simp; done) | (go_simp; with_reducible rfl)
          try simp only [Act.put, List.getElem_toArray, List.getElem_cons_succ, List.getElem_cons_zero, List.setIfInBounds_toArray, List.set_cons_succ, List.set_cons_zero]
          refine' wpAnyH_take (i := 3) (v := _) rfl (by kernel_rfl) (by kernel_rfl) (by kernel_rfl) (fun _ _ _ h => h) (Or.inl ⟨by kernel_rfl, ?hyc3⟩) (by assumption) ?restc3
          case hyc3 =>
            intro W hSw
            (try dsimp only at hSw)
            first | (go_simp; done) | (go_simp; with_reducible rfl)
          try simp only [Act.put]
          refine' wpAnyH_take (i := 4) (v := _) rfl (by kernel_rfl) (by kernel_rfl) (by kernel_rfl) (fun _ _ _ h => h) (Or.inl ⟨by kernel_rfl, ?hyc4⟩) (by assumption) ?restc4
          case hyc4 =>
            intro W hSw
            (try dsimp only at hSw)
            first | (go_simp; done) | (go_simp; with_reducible rfl)
          try simp only [Act.put]
          refine' wpAnyH_take (i := 5) (v := _) rfl (by kernel_rfl) (by kernel_rfl) (by kernel_rfl) (fun _ _ _ h => h) (Or.inl ⟨by kernel_rfl, ?hyc5⟩) (by assumption) ?restc5
          case hyc5 =>
            intro W hSw
            (try dsimp only at hSw)
            first | (go_simp; done) | (go_simp; with_reducible rfl)
          try simp only [Act.put]
          refine' wpAnyH_take (i := 6) (v := _) rfl (by kernel_rfl) (by kernel_rfl) (by kernel_rfl) (fun _ _ _ h => h) (Or.inl ⟨by kernel_rfl, ?hyc6⟩) (by assumption) ?restc6
          case hyc6 =>
            intro W hSw
            (try dsimp only at hSw)
            first | (go_simp; done) | (go_simp; with_reducible rfl)
          try simp only [Act.put, List.getElem_toArray, List.getElem_cons_succ, List.getElem_cons_zero, List.setIfInBounds_toArray, List.set_cons_succ, List.set_cons_zero]
          refine' wpAnyH_take (i := 7) (v := _) rfl (by kernel_rfl) (by kernel_rfl) (by kernel_rfl) (fun _ _ _ h => h) (Or.inl ⟨by kernel_rfl, ?hyc7⟩) (by assumption) ?restc7
          case hyc7 =>
            intro W hSw
            (try dsimp only at hSw)
            first | (go_simp; done) | (go_simp; with_reducible rfl)
          try simp only [Act.put]
          refine' wpAnyH_take (i := 8) (v := _) rfl (by kernel_rfl) (by kernel_rfl) (by kernel_rfl) (fun _ _ _ h => h) (Or.inl ⟨by kernel_rfl, ?hyc8⟩) (by assumption) ?restc8
          case hyc8 =>
            intro W hSw
            (try dsimp only at hSw)
            first | (go_simp; done) | (go_simp; with_reducible rfl)
          try simp only [Act.put]
          refine' wpAnyH_take (i := 9) (v := _) rfl (by kernel_rfl) (by kernel_rfl) (by kernel_rfl) (fun _ _ _ h => h) (Or.inl ⟨by kernel_rfl, ?hyc9⟩) (by assumption) ?restc9
          case hyc9 =>
            intro W hSw
            (try dsimp only at hSw)
            first | (go_simp; done) | (go_simp; with_reducible rfl)
          try simp only [Act.put]
          refine' wpAnyH_take (i := 10) (v := _) rfl (by kernel_rfl) (by kernel_rfl) (by kernel_rfl) (fun _ _ _ h => h) (Or.inl ⟨by kernel_rfl, ?hyc10⟩) (by assumption) ?restc10
          case hyc10 =>
            intro W hSw
            (try dsimp only at hSw)
            first | (go_simp; done) | (go_simp; with_reducible rfl)
          try simp only [Act.put, List.getElem_toArray, List.getElem_cons_succ, List.getElem_cons_zero, List.setIfInBounds_toArray, List.set_cons_succ, List.set_cons_zero]
          refine' wpAnyH_take (i := 11) (v := _) rfl (by kernel_rfl) (by kernel_rfl) (by kernel_rfl) (fun _ _ _ h => h) (Or.inl ⟨by kernel_rfl, ?hyc11⟩) (by assumption) ?restc11
          case hyc11 =>
            intro W hSw
            (try dsimp only at hSw)
            first | (go_simp; done) | (go_simp; with_reducible rfl)
          try simp only [Act.put]
          refine' wpAnyH_take (i := 12) (v := _) rfl (by kernel_rfl) (by kernel_rfl) (by kernel_rfl) (fun _ _ _ h => h) (Or.inl ⟨by kernel_rfl, ?hyc12⟩) (by assumption) ?restc12
          case hyc12 =>
            intro W hSw
            (try dsimp only at hSw)
            first | (go_simp; done) | (go_simp; with_reducible rfl)
          try simp only [Act.put, List.getElem_toArray, List.getElem_cons_succ, List.getElem_cons_zero, List.setIfInBounds_toArray, List.set_cons_succ, List.set_cons_zero]
          refine wpAnyH_ready (rs := [13]) (by kernel_rfl) (by simp) ?_
          refine (AllReadyH.cons (i := 13) (o := _) rfl (fun K hK => ?brc13) AllReadyH.nil)
          case brc13 =>
            go_simp
            obtain ⟨wc13, hwc13⟩ : ∃ W : World, W = wd.alloc (.cells #[.int .i64 0, .string ⟨#[]⟩, .slice none 0 0] 39) := ⟨_, rfl⟩
            have HBwc13 := Lib.hid (show Below wl.heap.size wl wc13 by rw [hwc13]; exact HBd.out.alloc HBd.out.size _)
            have HNwc13 := Lib.hid (show NBox wc13 wd.heap.size 0 ⟨#[]⟩ none 0 0 by rw [hwc13]; exact heap_alloc_new wd _)
            have hgewc13 : wl.heap.size ≤ wd.heap.size := HBd.out.size
            rw [← hwc13]
            clear hwc13
            refine hK.out _ _ (HS.out _ HBwc13.out) (fun hHeld => ?_)
            clear hK K
            have z1 := HNwc13.out.putsV (kd' := kd) (s' := pe) (aa' := none) (an' := 0) (ac' := 0)
            have z2 := HBwc13.out.trans (((((Beside.refl wd.heap.size wc13).setCell 0 (.int .i64 kd)).setCell 1 (.string pe)).setCell 2 (.slice none 0 0)).below hgewc13 HBwc13.out.size)
            have HZ := Lib.hid (And.intro z1 z2)
            obtain ⟨c0, c1, c2⟩ := HNwc13.out.cells
            have f0 := HNwc13.out.thawV 0
            have f1 := HNwc13.out.thawV 1
            have f2 := HNwc13.out.thawV 2
            clear z1 z2
            try simp only [Act.put]
            refine wpAnyH_done (by kernel_rfl) ?_ _
            unfold LastPost
            go_simp
            go_wp2_with fail
            all_goals
              go_meet
              case rel => exact ⟨_, rfl, hgewc13, Lib.hid HZ.out.1, Lib.hid HZ.out.2⟩
        case rest =>
          obtain ⟨g11, e11, hg11, HN, HBx⟩ := hcut
          subst e11
          go_wp2_with fail
          go_loopw [12] (fun i wr => ∃ (j : Nat) (ea : Option Addr) (ec : Nat), j ≤ an ∧ i = .int .i64 j ∧ Hid (NBox wr g11 kd pe ea j ec) ∧ Hid (EdOwn wr wl.heap.size (.slice ea j ec) ((al.take j).map (shiftE nn))) ∧ Hid (Below wl.heap.size wl wr)) (fun i _ => an - (intOf i).toNat)
          case atStart => exact ⟨0, none, 0, Nat.zero_le _, rfl, HN, Lib.hid (EdOwn.zero _ _), HBx⟩
          case round =>
            clear HN HBx HS
            obtain ⟨j, ea, ec, hj, rfl, HNr, HO, HBr⟩ := hrel
            have HGq := Lib.hid (HGr.out.on HBr.out)
            obtain ⟨gc0, _, _⟩ := HGq.out.cells
            have q2 : wr.cell? ⟨nb, no + k * 3 + 2, none⟩ = some (.slice aa an ac) := (HBr.out.cell (p := ⟨nb, no + k * 3 + 2, none⟩) hnb).trans HQ2.out
            have hwz : wl.heap.size ≤ wr.heap.size := HBr.out.size
            by_cases hlj : j < an
            · obtain ⟨eb, eo, u, sk, ta, nx, hae, heb0, hx, ⟨c0, c1, c2, c3⟩, hu⟩ := (HEa.out.on HBr.out).at_ hlj
              have heb : eb < wr.heap.size := heb0
              obtain ⟨_, _, ⟨ht0, ht1⟩, hx0, hx1⟩ := HOK.out.edge HXX.out (List.mem_of_getElem? hx)
              replace ht0 : 0 ≤ ta := ht0
              replace ht1 : ta.toNat < b.nodes.length := ht1
              replace hx0 : 0 ≤ nx := hx0
              replace hx1 : nx.toNat < b.nodes.length := hx1
              rw [HNL.out] at ht1 hx1
              obtain ⟨ta', rfl⟩ : ∃ m : Nat, ta = (m : Int) := ⟨ta.toNat, (Int.toNat_of_nonneg ht0).symm⟩
              obtain ⟨nx', rfl⟩ : ∃ m : Nat, nx = (m : Int) := ⟨nx.toNat, (Int.toNat_of_nonneg hx0).symm⟩
              have ht2 : ta' < nn := by simpa using ht1
              have hx2 : nx' < nn := by simpa using hx1
              subst hae
              have j1 : (j : Int) < (an : Int) := by omega
              have j2 : (0 : Int) ≤ (j : Int) := by omega
              have hw3 : IntKind.i64.wrap ((nx' : Int) + (nn : Int)) = (nx' : Int) + (nn : Int) := by simp [IntKind.wrap, IntKind.bits, IntKind.signed]; omega
              have hw2 : IntKind.i64.wrap ((ta' : Int) + (nn : Int)) = (ta' : Int) + (nn : Int) := by simp [IntKind.wrap, IntKind.bits, IntKind.signed]; omega
              have HX := Lib.hid hx
              have HU := Lib.hid hu
              have HLJ := Lib.hid (show ((al.take j).map (shiftE nn)).length = j by rw [List.length_map, List.length_take, HAL.out]; omega)
              clear hx hu ht0 ht1 hx0 hx1 heb0
              go_upto_region 14 with fail
              have HEB := Lib.hid (show EBox (wr.alloc (.cells #[.string u, .int .i64 sk, .int .i64 (ta' : Int), .int .i64 (nx' : Int)] 43)) wr.heap.size u sk (ta' : Int) (nx' : Int) from heap_alloc_new wr _)
              have HTa := Lib.hid (tu1 wr (.cells #[.string u, .int .i64 sk, .int .i64 (ta' : Int), .int .i64 (nx' : Int)] 43))
              generalize hwa : wr.alloc (.cells #[.string u, .int .i64 sk, .int .i64 (ta' : Int), .int .i64 (nx' : Int)] 43) = wa at HEB HTa ⊢
              obtain ⟨y0, y1, y2, y3⟩ := HEB.out.cells
              have yf2 := HEB.out.thaw 2
              have yf3 := HEB.out.thaw 3
              clear hwa c0 c1 c2 c3 q2 gc0
              by_cases h5 : sk = 5
              · subst h5
                have HB2 := Lib.hid (two_keep HO.out HNr.out HTa.out (show Beside wr.heap.size wa ((wa.setCell ⟨wr.heap.size, 3, none⟩ (.int .i64 ((nx' : Int) + (nn : Int)))).setCell ⟨wr.heap.size, 2, none⟩ (.int .i64 ((ta' : Int) + (nn : Int)))) from ((Beside.refl wr.heap.size wa).setCell 3 _).setCell 2 _) HBr.out hwz)
                have HE2 := Lib.hid (show EBox ((wa.setCell ⟨wr.heap.size, 3, none⟩ (.int .i64 ((nx' : Int) + (nn : Int)))).setCell ⟨wr.heap.size, 2, none⟩ (.int .i64 ((ta' : Int) + (nn : Int)))) wr.heap.size u 5 ((ta' : Int) + (nn : Int)) ((nx' : Int) + (nn : Int)) from (HEB.out.nxT _).atT _)
                have HNX := Lib.hid (two_next (n := nn) HX.out ((ta' : Int) + (nn : Int)) (if_pos rfl).symm)
                have HNL6 := Lib.hid (show ((al.take (j + 1)).map (shiftE nn)).length = j + 1 by rw [List.length_map, List.length_take, HAL.out]; omega)
                go_upto_region 17 with fail
                obtain ⟨wb, hwb⟩ : ∃ wb : World, wb = (wa.setCell ⟨wr.heap.size, 3, none⟩ (.int .i64 ((nx' : Int) + (nn : Int)))).setCell ⟨wr.heap.size, 2, none⟩ (.int .i64 ((ta' : Int) + (nn : Int))) := ⟨_, rfl⟩
                rw [← hwb] at HB2 HE2 ⊢
                have hzb : wr.heap.size < wb.heap.size := (Array.getElem?_eq_some_iff.1 HE2.out).1
                clear hwb y0 y1 y2 y3 yf2 yf3 HEB
                obtain ⟨y0, y1, y2, y3⟩ := HE2.out.cells
                obtain ⟨m0, m1, m2⟩ := HB2.out.2.1.cells
                go_wp2_with (first
                  | (at_builtin
                     refine wpList_append_edgesK rfl (.tmp 89) (.tmp 91) rfl wl.heap.size (.slice ea j ec) ((al.take j).map (shiftE nn)) _ 1 1 [edgeR ⟨u, 5, (ta' : Int) + (nn : Int), (nx' : Int) + (nn : Int)⟩] rfl rfl (HB2.out.1.alloc _) (EdRow.one (W := wb) ⟨u, 5, (ta' : Int) + (nn : Int), (nx' : Int) + (nn : Int)⟩ rfl rfl HU.out) (by simp; omega) (by rw [HLJ.out]; omega) ?_
                     intro v5 w5' ho5 hb5 hkp5
                     obtain ⟨va5, vc5, hv5, hn5, z1, z2, z3⟩ := two_arm2 (j := j) HB2.out.1 HB2.out.2.1 HB2.out.2.2 hg11 (by omega) ho5 hb5 hkp5 HNX.out HNL6.out (by omega)
                     subst hv5
                     have HZ := Lib.hid (And.intro z1 (And.intro z2 z3))
                     obtain ⟨n0, n1, n2⟩ := hn5.cells
                     have nf2 := hn5.thawV 2
                     clear ho5 hb5 hkp5 z1 z2 z3 hn5)
                  | fail)
                go_roundw
                case rel => exact ⟨j + 1, va5, vc5, by omega, by go_num, Lib.hid HZ.out.1, Lib.hid HZ.out.2.1, Lib.hid HZ.out.2.2⟩
                case measure => simp [intOf]; omega
              · have e5 : (sk == 5) = false := by rw [beq_eq_false_iff_ne]; exact h5
                have HB2 := Lib.hid (two_keep HO.out HNr.out HTa.out (show Beside wr.heap.size wa (wa.setCell ⟨wr.heap.size, 3, none⟩ (.int .i64 ((nx' : Int) + (nn : Int)))) from (Beside.refl wr.heap.size wa).setCell 3 _) HBr.out hwz)
                have HE2 := Lib.hid (show EBox (wa.setCell ⟨wr.heap.size, 3, none⟩ (.int .i64 ((nx' : Int) + (nn : Int)))) wr.heap.size u sk ((ta' : Int)) ((nx' : Int) + (nn : Int)) from HEB.out.nxT _)
                have HNX := Lib.hid (two_next (n := nn) HX.out ((ta' : Int)) (by rw [if_neg h5]))
                have HNL6 := Lib.hid (show ((al.take (j + 1)).map (shiftE nn)).length = j + 1 by rw [List.length_map, List.length_take, HAL.out]; omega)
                go_upto_region 17 with fail
                obtain ⟨wb, hwb⟩ : ∃ wb : World, wb = wa.setCell ⟨wr.heap.size, 3, none⟩ (.int .i64 ((nx' : Int) + (nn : Int))) := ⟨_, rfl⟩
                rw [← hwb] at HB2 HE2 ⊢
                have hzb : wr.heap.size < wb.heap.size := (Array.getElem?_eq_some_iff.1 HE2.out).1
                clear hwb y0 y1 y2 y3 yf2 yf3 HEB
                obtain ⟨y0, y1, y2, y3⟩ := HE2.out.cells
                obtain ⟨m0, m1, m2⟩ := HB2.out.2.1.cells
                go_wp2_with (first
                  | (at_builtin
                     refine wpList_append_edgesK rfl (.tmp 89) (.tmp 91) rfl wl.heap.size (.slice ea j ec) ((al.take j).map (shiftE nn)) _ 1 1 [edgeR ⟨u, sk, (ta' : Int), (nx' : Int) + (nn : Int)⟩] rfl rfl (HB2.out.1.alloc _) (EdRow.one (W := wb) ⟨u, sk, (ta' : Int), (nx' : Int) + (nn : Int)⟩ rfl rfl HU.out) (by simp; omega) (by rw [HLJ.out]; omega) ?_
                     intro v5 w5' ho5 hb5 hkp5
                     obtain ⟨va5, vc5, hv5, hn5, z1, z2, z3⟩ := two_arm2 (j := j) HB2.out.1 HB2.out.2.1 HB2.out.2.2 hg11 (by omega) ho5 hb5 hkp5 HNX.out HNL6.out (by omega)
                     subst hv5
                     have HZ := Lib.hid (And.intro z1 (And.intro z2 z3))
                     obtain ⟨n0, n1, n2⟩ := hn5.cells
                     have nf2 := hn5.thawV 2
                     clear ho5 hb5 hkp5 z1 z2 z3 hn5)
                  | fail)
                go_roundw
                case rel => exact ⟨j + 1, va5, vc5, by omega, by go_num, Lib.hid HZ.out.1, Lib.hid HZ.out.2.1, Lib.hid HZ.out.2.2⟩
                case measure => simp [intOf]; omega
            · obtain rfl : j = an := by omega
              have d2 : decide ((j : Int) < (j : Int)) = false := decide_eq_false (by omega)
              have HTr := Lib.hid (HT.out.on HBr.out)
              have hTN := two_node (n := nn) (kd := kd) (pe := pe) (al := al) HT.out (by rw [show (al.take j).map (shiftE nn) = al.map (shiftE nn) by rw [List.take_of_length_le (by rw [HAL.out]; omega)]] at HO; exact HO.out) HPS.out HAL.out h6
              have HTN := Lib.hid hTN
              have HMO := Lib.hid (two_more (n := nn) HXX.out)
              obtain ⟨t0, t1, t2⟩ := HTr.out.box.cells
              obtain ⟨m0, m1, m2⟩ := HNr.out.cells
              clear hTN HO
              go_wp2_with (first
                | (at_builtin
                   refine wpList_push_two rfl (.tmp 95) (.tmp 97) rfl HTr.out ⟨kd, pe, ea, j, ec⟩ (shiftN nn ⟨kd, pe.toList, al⟩) rfl HTN.out rfl rfl rfl (by omega) ?_
                   intro va' vc' w' hbox hT
                   rw [HMO.out] at hT
                   have HT' := Lib.hid hT
                   obtain ⟨u0, u1, u2⟩ := hbox.cells
                   have uf0 := hbox.thaw 0
                   clear hbox hT)
                | fail)
              go_roundw
              case rel => exact ⟨k + 1, va', vc', by omega, by go_num, HT'⟩
              case measure => simp [intOf]; omega
      · obtain rfl : k = nn := by omega
        have d1 : decide ((k : Int) < (k : Int)) = false := decide_eq_false (by omega)
        obtain ⟨p, hp, hmx⟩ := mod_lt x k (by omega) (by omega)
        obtain ⟨q, hq, hmy⟩ := mod_lt y k (by omega) (by omega)
        have hne : ((k : Int) == 0) = false := by rw [beq_eq_false_iff_ne]; omega
        have hwn : IntKind.u64.wrap (k : Int) = (k : Int) := IntWalk.u64_in _ (by omega)
        have hwp : IntKind.i64.wrap (p : Int) = (p : Int) := by simp [IntKind.wrap, IntKind.bits, IntKind.signed]; omega
        have hwq : IntKind.i64.wrap (q : Int) = (q : Int) := by simp [IntKind.wrap, IntKind.bits, IntKind.signed]; omega
        have hwpk : IntKind.i64.wrap ((p : Int) + (k : Int)) = (p : Int) + (k : Int) := by simp [IntKind.wrap, IntKind.bits, IntKind.signed]; omega
        have HTW := Lib.hid (show b.nodes ++ (b.nodes.take k).map (shiftN k) = twoN b.nodes by unfold twoN; rw [List.take_of_length_le (by rw [HNL.out]; omega), HNL.out])
        rw [HTW.out] at HT
        obtain ⟨cl, hcl⟩ := isClT_ex HOK.out.closed
        obtain ⟨cl2, hcl2⟩ := isClT_ex (two_ok HOK.out (by rw [HNL.out]; omega)).closed
        obtain ⟨hs1, hs2, hs3⟩ := two_same HBK.out HNL.out hn8 hcl hcl2 hp hq
        obtain ⟨S, hS⟩ : ∃ S, S = sameC cl (p : Int) (q : Int) := ⟨_, rfl⟩
        rw [← hS] at hs2 hs3
        have HS1 := Lib.hid hs1
        have HS2 := Lib.hid hs2
        have HS3 := Lib.hid hs3
        have HS0 := Lib.hid hS.symm
        obtain ⟨R, hR⟩ : ∃ R, R = rankP cl b.nodes.length := ⟨_, rfl⟩
        have HOK2 := Lib.hid (two_book HBK.out (by rw [HNL.out]; omega))
        have HR0 := Lib.hid ((shrQT_len (cl := cl) HBK.out).trans hR.symm)
        have HR2 := Lib.hid (show (shrQ ⟨twoN b.nodes, b.names, b.roots⟩ cl2).nodes.length = R from (shrQT_len HOK2.out).trans ((two_rank HOK.out (by rw [HNL.out]; omega) hcl hcl2).trans hR.symm))
        have HCP := Lib.hid (show ClsP b cl from ⟨fun _ => hcl, fun e => by rw [HBK.out] at e; cases e⟩)
        have HCP2 := Lib.hid (show ClsP ⟨twoN b.nodes, b.names, b.roots⟩ cl2 from ⟨fun _ => hcl2, fun e => by rw [HOK2.out] at e; cases e⟩)
        have hss : (S == S) = true := by simp
        have hrr : ((R : Int) == (R : Int)) = true := by simp
        have hfld : ∀ (a : Option Addr) (n c : Nat) (sa : Option Addr) (sn sc : Nat) (ra : Option Addr) (rn rc : Nat) (W : World), (Instr.field 26 (bkV a n c sa sn sc ra rn rc) 0).run Try.prog W = .ok (.slice a n c) W := fun _ _ _ _ _ _ _ _ _ W => by kernel_rfl
        clear hs1 hs2 hs3 hS hR hcl hcl2
        go_upto_region 19 with fail
        go_quiet (fail)
        have HBq := Lib.hid (show Below wr.heap.size wr (wr.drewN nq) from bel_drewN (Below.refl _ _) nq)
        generalize wr.drewN nq = wz at HBq ⊢
        have HGz := Lib.hid (HGr.out.on HBq.out)
        have HTz := Lib.hid (HT.out.on HBq.out)
        go_wp2
        clear HGr HT HBq
        have HS := Lib.hid (fun (W : World) (hW : Below wz.heap.size wz W) => show (W.cell? ⟨g5, 0, none⟩ = some (.slice (some ⟨nb, no, none⟩) k nc) ∧ W.cell? ⟨g5, 1, none⟩ = some (.slice sa 2 sc) ∧ W.cell? ⟨g5, 2, none⟩ = some (.slice ra 2 rc)) ∧ (W.cell? ⟨g9, 0, none⟩ = some (.slice va (k + k) vc) ∧ W.cell? ⟨g9, 1, none⟩ = some (.slice sa 2 sc) ∧ W.cell? ⟨g9, 2, none⟩ = some (.slice ra 2 rc)) from ⟨(HGz.out.on hW).cells, (HTz.out.on hW).box.cells⟩)
        have HBd := Lib.hid (show Below wz.heap.size wz (wz.drewN 1) from bel_drewN (Below.refl _ _) 1)
        generalize hwd : wz.drewN 1 = wd at HBd
        have hwd2 : wz.drew = wd := hwd
        have hHD := HS.out _ HBd.out
        clear hwd
        refine wp_region_held_drew (S := fun W => (W.cell? ⟨g5, 0, none⟩ = some (.slice (some ⟨nb, no, none⟩) k nc) ∧ W.cell? ⟨g5, 1, none⟩ = some (.slice sa 2 sc) ∧ W.cell? ⟨g5, 2, none⟩ = some (.slice ra 2 rc)) ∧ (W.cell? ⟨g9, 0, none⟩ = some (.slice va (k + k) vc) ∧ W.cell? ⟨g9, 1, none⟩ = some (.slice sa 2 sc) ∧ W.cell? ⟨g9, 2, none⟩ = some (.slice ra 2 rc))) (by kernel_rfl) (by rw [hwd2]; exact hHD) (fun hHeld => ?_)
        rw [hwd2]
        rw [hwd2] at hHeld
        clear hHD hmx hmy hne hwn hwp hwq
        try simp only [Act.put, List.setIfInBounds_toArray]
        refine' wpAnyH_take (i := 0) (v := _) rfl (by kernel_rfl) (by kernel_rfl) (by kernel_rfl) (fun _ _ _ h => h) (Or.inl ⟨by kernel_rfl, ?hyz0⟩) (by assumption) ?restz0
        case hyz0 =>
          intro W hSw
          (try dsimp only at hSw)
          first | (go_simp; done) | (go_simp; with_reducible rfl)
        try simp only [Act.put]
        refine' wpAnyH_take (i := 1) (v := _) rfl (by kernel_rfl) (by kernel_rfl) (by kernel_rfl) (fun _ _ _ h => h) (Or.inl ⟨by kernel_rfl, ?hyz1⟩) (by assumption) ?restz1
        case hyz1 =>
          intro W hSw
          (try dsimp only at hSw)
          first | (go_simp; done) | (go_simp; with_reducible rfl)
        try simp only [Act.put]
        refine' wpAnyH_take (i := 2) (v := _) rfl (by kernel_rfl) (by kernel_rfl) (by kernel_rfl) (fun _ _ _ h => h) (Or.inl ⟨by kernel_rfl, ?hyz2⟩) (by assumption) ?restz2
        case hyz2 =>
          intro W hSw
          (try dsimp only at hSw)
          first | (go_simp; done) | (go_simp; with_reducible rfl)
        try simp only [Act.put]
        refine' wpAnyH_take (i := 3) (v := _) rfl (by kernel_rfl) (by kernel_rfl) (by kernel_rfl) (fun _ _ _ h => h) (Or.inl ⟨by kernel_rfl, ?hyz3⟩) (by assumption) ?restz3
        case hyz3 =>
          intro W hSw
          (try dsimp only at hSw)
          first | (go_simp; done) | (go_simp; with_reducible rfl)
        try simp only [Act.put]
        refine' wpAnyH_take (i := 4) (v := _) rfl (by kernel_rfl) (by kernel_rfl) (by kernel_rfl) (fun _ _ _ h => h) (Or.inl ⟨by kernel_rfl, ?hyz4⟩) (by assumption) ?restz4
        case hyz4 =>
          intro W hSw
          (try dsimp only at hSw)
          first | (go_simp; done) | (go_simp; with_reducible rfl)
        try simp only [Act.put, List.setIfInBounds_toArray]
        refine wpAnyH_ready (rs := [5]) (by kernel_rfl) (by simp) ?_
        refine AllReadyH.cons (i := 5) (o := _) rfl (fun K hK => ?_) AllReadyH.nil
        go_simp
        go_at_call 13
        have hsm := same10_any va (k + k) vc sa 2 sc ra 2 rc ⟨twoN b.nodes, b.names, b.roots⟩ cl2 (p : Int) ((p : Int) + (k : Int)) wd _ (Nat.le_refl _) ((HTz.out.on HBd.out).book (by omega) (Nat.le_refl _) HG5.out.bk) HCP2.out
        rw [HS1.out] at hsm
        with_reducible refine hsm.mono ?_
        rintro e we5 ⟨rfl, hb⟩
        have HBe5 := Lib.hid (below_on HBd.out hb)
        clear hb hsm
        refine hK.out _ _ (HS.out _ HBe5.out) (fun hHeld => ?_)
        clear hK K
        try simp only [Act.put, List.setIfInBounds_toArray]
        refine' wpAnyH_take (i := 6) (v := _) rfl (by kernel_rfl) (by kernel_rfl) (by kernel_rfl) (fun _ _ _ h => h) (Or.inl ⟨by kernel_rfl, ?hyz6⟩) (by assumption) ?restz6
        case hyz6 =>
          intro W hSw
          (try dsimp only at hSw)
          first | (go_simp; done) | (go_simp; with_reducible rfl)
        try simp only [Act.put]
        refine' wpAnyH_take (i := 7) (v := _) rfl (by kernel_rfl) (by kernel_rfl) (by kernel_rfl) (fun _ _ _ h => h) (Or.inl ⟨by kernel_rfl, ?hyz7⟩) (by assumption) ?restz7
        case hyz7 =>
          intro W hSw
          (try dsimp only at hSw)
          first | (go_simp; done) | (go_simp; with_reducible rfl)
        try simp only [Act.put]
        refine' wpAnyH_take (i := 8) (v := _) rfl (by kernel_rfl) (by kernel_rfl) (by kernel_rfl) (fun _ _ _ h => h) (Or.inl ⟨by kernel_rfl, ?hyz8⟩) (by assumption) ?restz8
        case hyz8 =>
          intro W hSw
          (try dsimp only at hSw)
          first | (go_simp; done) | (go_simp; with_reducible rfl)
        try simp only [Act.put]
        refine' wpAnyH_take (i := 9) (v := _) rfl (by kernel_rfl) (by kernel_rfl) (by kernel_rfl) (fun _ _ _ h => h) (Or.inl ⟨by kernel_rfl, ?hyz9⟩) (by assumption) ?restz9
        case hyz9 =>
          intro W hSw
          (try dsimp only at hSw)
          first | (go_simp; done) | (go_simp; with_reducible rfl)
        try simp only [Act.put]
        refine' wpAnyH_take (i := 11) (v := _) rfl (by kernel_rfl) (by kernel_rfl) (by kernel_rfl) (fun _ _ _ h => h) (Or.inl ⟨by kernel_rfl, ?hyz11⟩) (by assumption) ?restz11
        case hyz11 =>
          intro W hSw
          (try dsimp only at hSw)
          first | (go_simp; done) | (go_simp; with_reducible rfl)
        try simp only [Act.put]
        refine' wpAnyH_take (i := 12) (v := _) rfl (by kernel_rfl) (by kernel_rfl) (by kernel_rfl) (fun _ _ _ h => h) (Or.inl ⟨by kernel_rfl, ?hyz12⟩) (by assumption) ?restz12
        case hyz12 =>
          intro W hSw
          (try dsimp only at hSw)
          first | (go_simp; done) | (go_simp; with_reducible rfl)
        try simp only [Act.put]
        refine' wpAnyH_take (i := 13) (v := _) rfl (by kernel_rfl) (by kernel_rfl) (by kernel_rfl) (fun _ _ _ h => h) (Or.inl ⟨by kernel_rfl, ?hyz13⟩) (by assumption) ?restz13
        case hyz13 =>
          intro W hSw
          (try dsimp only at hSw)
          first | (go_simp; done) | (go_simp; with_reducible rfl)
        try simp only [Act.put, List.setIfInBounds_toArray]
        refine wpAnyH_ready (rs := [10]) (by kernel_rfl) (by simp) ?_
        refine AllReadyH.cons (i := 10) (o := _) rfl (fun K hK => ?_) AllReadyH.nil
        go_simp
        go_at_call 13
        have hsm := same10_any va (k + k) vc sa 2 sc ra 2 rc ⟨twoN b.nodes, b.names, b.roots⟩ cl2 (p : Int) (q : Int) we5 _ (Nat.le_refl _) ((HTz.out.on HBe5.out).book (by omega) (Nat.le_refl _) HG5.out.bk) HCP2.out
        rw [HS2.out] at hsm
        with_reducible refine hsm.mono ?_
        rintro e we10 ⟨rfl, hb⟩
        have HBe10 := Lib.hid (below_on HBe5.out hb)
        clear hb hsm
        refine hK.out _ _ (HS.out _ HBe10.out) (fun hHeld => ?_)
        clear hK K
        try simp only [Act.put, List.setIfInBounds_toArray]
        refine wpAnyH_ready (rs := [14]) (by kernel_rfl) (by simp) ?_
        refine AllReadyH.cons (i := 14) (o := _) rfl (fun K hK => ?_) AllReadyH.nil
        go_simp
        go_at_call 13
        have hsm := same10_any (some ⟨nb, no, none⟩) k nc sa 2 sc ra 2 rc b cl (p : Int) (q : Int) we10 _ (Nat.le_refl _) (HGz.out.on HBe10.out).bk HCP.out
        rw [HS0.out] at hsm
        with_reducible refine hsm.mono ?_
        rintro e we14 ⟨rfl, hb⟩
        have HBe14 := Lib.hid (below_on HBe10.out hb)
        clear hb hsm
        refine hK.out _ _ (HS.out _ HBe14.out) (fun hHeld => ?_)
        clear hK K
        try simp only [Act.put, List.setIfInBounds_toArray]
        refine' wpAnyH_take (i := 15) (v := _) rfl (by kernel_rfl) (by kernel_rfl) (by kernel_rfl) (fun _ _ _ h => h) (Or.inl ⟨by kernel_rfl, ?hyz15⟩) (by assumption) ?restz15
        case hyz15 =>
          intro W hSw
          (try dsimp only at hSw)
          first | (go_simp; done) | (go_simp; with_reducible rfl)
        try simp only [Act.put]
        refine' wpAnyH_take (i := 16) (v := _) rfl (by kernel_rfl) (by kernel_rfl) (by kernel_rfl) (fun _ _ _ h => h) (Or.inl ⟨by kernel_rfl, ?hyz16⟩) (by assumption) ?restz16
        case hyz16 =>
          intro W hSw
          (try dsimp only at hSw)
          first | (go_simp; done) | (go_simp; with_reducible rfl)
        try simp only [Act.put]
        refine' wpAnyH_take (i := 17) (v := _) rfl (by kernel_rfl) (by kernel_rfl) (by kernel_rfl) (fun _ _ _ h => h) (Or.inl ⟨by kernel_rfl, ?hyz17⟩) (by assumption) ?restz17
        case hyz17 =>
          intro W hSw
          (try dsimp only at hSw)
          first | (go_simp; done) | (go_simp; with_reducible rfl)
        try simp only [Act.put]
        refine' wpAnyH_take (i := 18) (v := _) rfl (by kernel_rfl) (by kernel_rfl) (by kernel_rfl) (fun _ _ _ h => h) (Or.inl ⟨by kernel_rfl, ?hyz18⟩) (by assumption) ?restz18
        case hyz18 =>
          intro W hSw
          (try dsimp only at hSw)
          first | (go_simp; done) | (go_simp; with_reducible rfl)
        try simp only [Act.put]
        refine' wpAnyH_take (i := 19) (v := _) rfl (by kernel_rfl) (by kernel_rfl) (by kernel_rfl) (fun _ _ _ h => h) (Or.inl ⟨by kernel_rfl, ?hyz19⟩) (by assumption) ?restz19
        case hyz19 =>
          intro W hSw
          (try dsimp only at hSw)
          first | (go_simp; done) | (go_simp; with_reducible rfl)
        try simp only [Act.put]
        refine' wpAnyH_take (i := 20) (v := _) rfl (by kernel_rfl) (by kernel_rfl) (by kernel_rfl) (fun _ _ _ h => h) (Or.inl ⟨by kernel_rfl, ?hyz20⟩) (by assumption) ?restz20
        case hyz20 =>
          intro W hSw
          (try dsimp only at hSw)
          first | (go_simp; done) | (go_simp; with_reducible rfl)
        try simp only [Act.put]
        refine' wpAnyH_take (i := 21) (v := _) rfl (by kernel_rfl) (by kernel_rfl) (by kernel_rfl) (fun _ _ _ h => h) (Or.inl ⟨by kernel_rfl, ?hyz21⟩) (by assumption) ?restz21
        case hyz21 =>
          intro W hSw
          (try dsimp only at hSw)
          first | (go_simp; done) | (go_simp; with_reducible rfl)
        try simp only [Act.put]
        refine' wpAnyH_take (i := 22) (v := _) rfl (by kernel_rfl) (by kernel_rfl) (by kernel_rfl) (fun _ _ _ h => h) (Or.inl ⟨by kernel_rfl, ?hyz22⟩) (by assumption) ?restz22
        case hyz22 =>
          intro W hSw
          (try dsimp only at hSw)
          first | (go_simp; done) | (go_simp; with_reducible rfl)
        try simp only [Act.put]
        refine' wpAnyH_take (i := 24) (v := _) rfl (by kernel_rfl) (by kernel_rfl) (by kernel_rfl) (fun _ _ _ h => h) (Or.inl ⟨by kernel_rfl, ?hyz24⟩) (by assumption) ?restz24
        case hyz24 =>
          intro W hSw
          (try dsimp only at hSw)
          first | (go_simp; done) | (go_simp; with_reducible rfl)
        try simp only [Act.put, List.getElem_toArray, List.getElem_cons_succ, List.getElem_cons_zero, List.setIfInBounds_toArray, List.set_cons_succ, List.set_cons_zero]
        refine' wpAnyH_take (i := 25) (v := _) rfl (by kernel_rfl) (by kernel_rfl) (by kernel_rfl) (fun _ _ _ h => h) (Or.inl ⟨by kernel_rfl, ?hyz25⟩) (by assumption) ?restz25
        case hyz25 =>
          intro W hSw
          (try dsimp only at hSw)
          first | (go_simp; done) | (go_simp; with_reducible rfl)
        try simp only [Act.put]
        refine' wpAnyH_take (i := 26) (v := _) rfl (by kernel_rfl) (by kernel_rfl) (by kernel_rfl) (fun _ _ _ h => h) (Or.inl ⟨by kernel_rfl, ?hyz26⟩) (by assumption) ?restz26
        case hyz26 =>
          intro W hSw
          (try dsimp only at hSw)
          first | (go_simp; done) | (go_simp; with_reducible rfl)
        try simp only [Act.put, List.setIfInBounds_toArray]
        refine wpAnyH_ready (rs := [23]) (by kernel_rfl) (by simp) ?_
        refine AllReadyH.cons (i := 23) (o := _) rfl (fun K hK => ?_) AllReadyH.nil
        go_simp
        go_at_call 13
        have hsm := same10_any va (k + k) vc sa 2 sc ra 2 rc ⟨twoN b.nodes, b.names, b.roots⟩ cl2 ((p : Int) + (k : Int)) (q : Int) we14 _ (Nat.le_refl _) ((HTz.out.on HBe14.out).book (by omega) (Nat.le_refl _) HG5.out.bk) HCP2.out
        rw [HS3.out] at hsm
        with_reducible refine hsm.mono ?_
        rintro e we23 ⟨rfl, hb⟩
        have HBe23 := Lib.hid (below_on HBe14.out hb)
        clear hb hsm
        refine hK.out _ _ (HS.out _ HBe23.out) (fun hHeld => ?_)
        clear hK K
        try simp only [Act.put, List.setIfInBounds_toArray]
        refine wpAnyH_ready (rs := [27]) (by kernel_rfl) (by simp) ?_
        refine AllReadyH.cons (i := 27) (o := _) rfl (fun K hK => ?_) AllReadyH.nil
        go_simp
        go_at_call 13
        have hsm := same10_any (some ⟨nb, no, none⟩) k nc sa 2 sc ra 2 rc b cl (p : Int) (q : Int) we23 _ (Nat.le_refl _) (HGz.out.on HBe23.out).bk HCP.out
        rw [HS0.out] at hsm
        with_reducible refine hsm.mono ?_
        rintro e we27 ⟨rfl, hb⟩
        have HBe27 := Lib.hid (below_on HBe23.out hb)
        clear hb hsm
        refine hK.out _ _ (HS.out _ HBe27.out) (fun hHeld => ?_)
        clear hK K
        try simp only [Act.put, List.setIfInBounds_toArray]
        refine' wpAnyH_take (i := 28) (v := _) rfl (by kernel_rfl) (by kernel_rfl) (by kernel_rfl) (fun _ _ _ h => h) (Or.inl ⟨by kernel_rfl, ?hyz28⟩) (by assumption) ?restz28
        case hyz28 =>
          intro W hSw
          (try dsimp only at hSw)
          first | (go_simp; done) | (go_simp; with_reducible rfl)
        try simp only [Act.put]
        refine' wpAnyH_take (i := 29) (v := _) rfl (by kernel_rfl) (by kernel_rfl) (by kernel_rfl) (fun _ _ _ h => h) (Or.inl ⟨by kernel_rfl, ?hyz29⟩) (by assumption) ?restz29
        case hyz29 =>
          intro W hSw
          (try dsimp only at hSw)
          first | (go_simp; done) | (go_simp; with_reducible rfl)
        try simp only [Act.put]
        refine' wpAnyH_take (i := 30) (v := _) rfl (by kernel_rfl) (by kernel_rfl) (by kernel_rfl) (fun _ _ _ h => h) (Or.inl ⟨by kernel_rfl, ?hyz30⟩) (by assumption) ?restz30
        case hyz30 =>
          intro W hSw
          (try dsimp only at hSw)
          first | (go_simp; done) | (go_simp; with_reducible rfl)
        try simp only [Act.put]
        refine' wpAnyH_take (i := 31) (v := _) rfl (by kernel_rfl) (by kernel_rfl) (by kernel_rfl) (fun _ _ _ h => h) (Or.inl ⟨by kernel_rfl, ?hyz31⟩) (by assumption) ?restz31
        case hyz31 =>
          intro W hSw
          (try dsimp only at hSw)
          first | (go_simp; done) | (go_simp; with_reducible rfl)
        try simp only [Act.put]
        refine' wpAnyH_take (i := 35) (v := _) rfl (by kernel_rfl) (by kernel_rfl) (by kernel_rfl) (fun _ _ _ h => h) (Or.inl ⟨by kernel_rfl, ?hyz35⟩) (by assumption) ?restz35
        case hyz35 =>
          intro W hSw
          (try dsimp only at hSw)
          first | (go_simp; done) | (go_simp; with_reducible rfl)
        try simp only [Act.put, List.setIfInBounds_toArray]
        refine wpAnyH_ready (rs := [32]) (by kernel_rfl) (by simp) ?_
        refine AllReadyH.cons (i := 32) (o := _) rfl (fun K hK => ?_) AllReadyH.nil
        go_simp
        go_at_call 19
        have hsm := shrink_any va (k + k) vc sa 2 sc ra 2 rc ⟨twoN b.nodes, b.names, b.roots⟩ cl2 we27 _ (Nat.le_refl _) (by omega) ((HTz.out.on HBe27.out).book (by omega) (Nat.le_refl _) HG5.out.bk) HCP2.out
        with_reducible refine hsm.mono ?_
        rintro e we32 ⟨⟨a32, n32, c32, d32, f32, i32, l32, m32, r32, rfl, hin⟩, hb⟩
        have hn32 : R = n32 := HR2.out.symm.trans hin.nodes.1
        subst hn32
        have HBe32 := Lib.hid (below_on HBe27.out hb)
        clear hb hsm hin
        refine hK.out _ _ (HS.out _ HBe32.out) (fun hHeld => ?_)
        clear hK K
        try simp only [Act.put, List.setIfInBounds_toArray]
        refine' wpAnyH_take (i := 33) (v := _) rfl (by kernel_rfl) (by kernel_rfl) (by kernel_rfl) (fun _ _ _ h => h) (Or.inl ⟨by kernel_rfl, ?hyz33⟩) (by assumption) ?restz33
        case hyz33 =>
          intro W hSw
          (try dsimp only at hSw)
          first | (go_simp; done) | (go_simp; with_reducible rfl)
        try simp only [Act.put]
        refine' wpAnyH_take (i := 34) (v := _) rfl (by kernel_rfl) (by kernel_rfl) (by kernel_rfl) (fun _ _ _ h => h) (Or.inl ⟨by kernel_rfl, ?hyz34⟩) (by assumption) ?restz34
        case hyz34 =>
          intro W hSw
          (try dsimp only at hSw)
          first | (go_simp; done) | (go_simp; with_reducible rfl)
        try simp only [Act.put, List.setIfInBounds_toArray]
        refine wpAnyH_ready (rs := [36]) (by kernel_rfl) (by simp) ?_
        refine AllReadyH.cons (i := 36) (o := _) rfl (fun K hK => ?_) AllReadyH.nil
        go_simp
        go_at_call 19
        have hsm := shrink_any (some ⟨nb, no, none⟩) k nc sa 2 sc ra 2 rc b cl we32 _ (Nat.le_refl _) (by omega) (HGz.out.on HBe32.out).bk HCP.out
        with_reducible refine hsm.mono ?_
        rintro e we36 ⟨⟨a36, n36, c36, d36, f36, i36, l36, m36, r36, rfl, hin⟩, hb⟩
        have hn36 : R = n36 := HR0.out.symm.trans hin.nodes.1
        subst hn36
        have HBe36 := Lib.hid (below_on HBe32.out hb)
        clear hb hsm hin
        refine hK.out _ _ (HS.out _ HBe36.out) (fun hHeld => ?_)
        clear hK K
        try simp only [Act.put, List.setIfInBounds_toArray]
        refine' wpAnyH_take (i := 37) (v := _) rfl (by kernel_rfl) (by kernel_rfl) (by kernel_rfl) (fun _ _ _ h => h) (Or.inl ⟨by kernel_rfl, ?hyz37⟩) (by assumption) ?restz37
        case hyz37 =>
          intro W hSw
          (try dsimp only at hSw)
          first | (go_simp; done) | (go_simp; with_reducible rfl)
        try simp only [Act.put]
        refine' wpAnyH_take (i := 38) (v := _) rfl (by kernel_rfl) (by kernel_rfl) (by kernel_rfl) (fun _ _ _ h => h) (Or.inl ⟨by kernel_rfl, ?hyz38⟩) (by assumption) ?restz38
        case hyz38 =>
          intro W hSw
          (try dsimp only at hSw)
          first | (go_simp; done) | (go_simp; with_reducible rfl)
        try simp only [Act.put]
        refine' wpAnyH_take (i := 39) (v := _) rfl (by kernel_rfl) (by kernel_rfl) (by kernel_rfl) (fun _ _ _ h => h) (Or.inl ⟨by kernel_rfl, ?hyz39⟩) (by assumption) ?restz39
        case hyz39 =>
          intro W hSw
          (try dsimp only at hSw)
          first | (go_simp; done) | (go_simp; with_reducible rfl)
        try simp only [Act.put]
        refine' wpAnyH_take (i := 40) (v := _) rfl (by kernel_rfl) (by kernel_rfl) (by kernel_rfl) (fun _ _ _ h => h) (Or.inl ⟨by kernel_rfl, ?hyz40⟩) (by assumption) ?restz40
        case hyz40 =>
          intro W hSw
          (try dsimp only at hSw)
          first | (go_simp; done) | (go_simp; with_reducible rfl)
        try simp only [Act.put]
        refine' wpAnyH_take (i := 41) (v := _) rfl (by kernel_rfl) (by kernel_rfl) (by kernel_rfl) (fun _ _ _ h => h) (Or.inl ⟨by kernel_rfl, ?hyz41⟩) (by assumption) ?restz41
        case hyz41 =>
          intro W hSw
          (try dsimp only at hSw)
          first | (go_simp; done) | (go_simp; with_reducible rfl)
        try simp only [Act.put, List.setIfInBounds_toArray]
        refine wpAnyH_done (by kernel_rfl) ?_ _
        simp only [List.getElem_toArray, List.getElem_cons_succ, List.getElem_cons_zero, List.setIfInBounds_toArray, List.set_cons_succ, List.set_cons_zero]
        go_wp2_with fail
        go_ret
        exact ⟨rfl, below_on HGz.out.bel HBe36.out⟩
end Go.Proofs.Ytpjocacepafneaa

/- The statement EqualTwice holds for every argument, with no condition. -/
namespace Go.Proofs.Ytpjocacepafneaa.equalTwice
open Go Go.ChangeShapes Go.WideShapes Go.ChangeAt Go.RowKit
open Go.ChangeMaps (open_string shut_string)

set_option maxRecDepth 100000 in
theorem lifted (os : Os) (started : os.Started) (H : Type) (enc : TypeId × Value → H) :
    ReturnsInHanded {} Try.checked os 4 .any (Rows.equalTwiceSpec.pre6 enc Try.prog Try.f4 Rows.equalTwiceRow.domain false) (Rows.equalTwiceSpec.post enc Try.prog Try.f4 false true false false) := by
  refine returnsInHanded_of_change_sized (C := Try.checked) seatOwn started (by kernel_rfl) Try.func4
    (ChangeSpec.witness6 (enc := enc) (C := Try.checked) false ⟨#[], #[.slice none 0 0, .int .i64 0, .int .i64 0], []⟩ 8 (by kernel_rfl) (by kernel_rfl) (by kernel_rfl) (by kernel_rfl)) ?_
  intro W base args ds gs before hval0 hW hcnd hsz0 _
  have hval : ∀ (j : Nat) t v, Try.f4.params[j]? = some t → args[j]? = some v → Value.okWide Try.prog W .any base t v := hval0
  have hsz : (DataW.weightsEach Try.prog (Try.f4.params.toList ++ Rows.equalTwiceSpec.plain.varTypes Try.prog) (ds ++ gs)).all (· ≤ reachBytes) = true := hsz0
  have hW' := hW
  obtain ⟨p, q, hA0, hV, rfl, hfz, hnd⟩ := hW
  have hA : DataW.TrodAll enc Try.prog W 0 (fun _ => true) true Try.f4.params.toList args.toList ds p := hA0
  rw [Try.params4] at hA hval hsz
  obtain ⟨v0, vs0, d0, ds0, p0, q0, hargs, rfl, rfl, h0, r0⟩ := trodAll_cons hA
  obtain ⟨v1, vs1, d1, ds1, p1, q1, rfl, rfl, rfl, h1, r1⟩ := trodAll_cons r0
  obtain ⟨v2, vs2, d2, ds2, p2, q2, rfl, rfl, rfl, h2, r2⟩ := trodAll_cons r1
  obtain ⟨rfl, rfl, rfl⟩ := trodAll_nil r2
  obtain rfl : args = #[v0, v1, v2] := by cases args; simp_all
  obtain ⟨rfl, rfl⟩ := trodVars_none hV
  have k0 := h0
  have lt0 := args_below k0
  obtain ⟨fu0, hf0⟩ := h0
  obtain ⟨ia0, ilen0, icap0, rfl⟩ := okWide_slice Try.underlying24 (hval 0 24 v0 rfl rfl)
  obtain ⟨a0, n0, c0, l0, hv0, hn0, hi0, hc0, hm0, hz0⟩ := open_ints hf0 (fun elems spare e => by
    have := sized_slice hsz (j := 0) (t := 24) (e := 3) rfl (congrArg some e) Try.underlying24
    rwa [seatBytes2] at this)
  obtain ⟨ea0, en0, ec0⟩ := Value.slice.inj hv0
  subst ea0 en0 ec0
  have k1 := h1
  have lt1 := args_below k1
  obtain ⟨a1, rfl, rfl, rfl, w1⟩ := open_int Try.underlying3 (hval 1 3 v1 rfl rfl) h1
  have k2 := h2
  have lt2 := args_below k2
  obtain ⟨a2, rfl, rfl, rfl, w2⟩ := open_int Try.underlying3 (hval 2 3 v2 rfl rfl) h2
  clear hA0 hval0 hsz0
  refine (equalTwice_walk ia0 ilen0 icap0 l0 a1 a2 W hn0 hz0 ).mono fun e W' ⟨he, bel⟩ => ?_
  subst he
  exact ⟨_, rfl, _, _, _, [], _, [], hW', trodAll_mk1 (shut_bool Try.underlying4 _), (trodAll_cons_mk (Below.trod seatLaidOut (by kernel_rfl) (of_decide_eq_true (by kernel_rfl)) k0 bel lt0) (trodAll_cons_mk (Below.trod seatLaidOut (by kernel_rfl) (of_decide_eq_true (by kernel_rfl)) k1 bel lt1) (trodAll_cons_mk (Below.trod seatLaidOut (by kernel_rfl) (of_decide_eq_true (by kernel_rfl)) k2 bel lt2) trodAll_mk0))), rfl, bel.frame _, fun h => by cases h⟩

theorem over : Rows.equalTwiceRow.holds Try.pinned (OpenSpec.ofChange Rows.equalTwiceSpec) :=
  OpenClaim.holds_of_wide 4 Try.f4 rfl rfl rfl rfl rfl rfl rfl ⟨rfl, rfl, rfl, rfl, rfl⟩ rfl rfl rfl rfl rfl (by kernel_rfl) Try.func4 (by kernel_rfl)
    (of_decide_eq_true (by kernel_rfl)) (by unfold Func.isWrapper; first | (rw [if_pos (by decide +kernel)]; kernel_rfl) | (rw [if_neg (by decide +kernel)]; exact ⟨rfl, rfl⟩))
    (fun os started H enc _ => lifted os started H enc)

theorem proved : Rows.EqualTwiceSaid :=
  over
#print axioms proved
end Go.Proofs.Ytpjocacepafneaa.equalTwice
