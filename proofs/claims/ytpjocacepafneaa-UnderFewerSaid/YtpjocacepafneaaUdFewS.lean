/- Rows of nodes that the call appends, their edges wherever they lie; appends of many edges and nodes in a drawn region. -/
import Derived.Test.YtpjocacepafneaaBkMake
import Derived.Test.YtpjocacepafneaaUdAll
import Derived.Deep.RegionHeld3
import Derived.Deep.DeepCutAuto
import Derived.Deep.CutBlock
import Derived.Test.YtpjocacepafneaaTuLast
import Derived.Test.YtpjocacepafneaaTuSeat
import Derived.ShutString
namespace Go.Proofs.Ytpjocacepafneaa
open Go.RowKit Go.Sort

theorem EdOwn.other {w : World} {base : Nat} {v : Value} {l : List EdgeL} (h : EdOwn w base v l) {g : Nat} {cs : Array Value} {e : TypeId} {fr : Nat × Nat} (hg : w.heap[g]? = some (.cells cs e fr)) (he : e ≠ 43) : v.ownBlock ≠ some g := fun e1 => by
  obtain ⟨ts, h, _⟩ := h
  rcases h.2 with ⟨rfl, _⟩ | ⟨b, cap, cur, rfl, _, hh, _⟩
  · cases e1
  · obtain rfl := Option.some.inj e1
    rw [hh] at hg
    exact he (Obj.cells.inj (Option.some.inj hg)).2.1.symm
theorem step_append_edgesU {ops : Array Oper} {o : Oper} {a : Act} {K : Act → World → Prop} {Q : Exit → Act → World → Prop} {E : Prop} {w1 : World} (hgd : o.guard = none) (s x : Operand)
    (ho : o.op = .call { callee := .builtin .append, args := #[s, x], argTypes := #[37, 37] }) (base : Nat) (v : Value) (l : List EdgeL) (ad : Option Addr) (m c : Nat) (l2 : List EdgeL)
    (hs : a.eval s = v) (hx : a.eval x = .slice ad m c) (hB : EdOwn w1 base v l) (hr : EdRow w1 ad m l2) (hb : base ≤ w1.heap.size) (hlen : l.length + m ≤ 1000000)
    (h : ∀ v' w', EdOwn w' base v' (l ++ l2) → Below base w1 w' → Keeps v w1 w' → K (a.put o.dst v') w') : if Region.wanted o (yielded ops a.tmps) = true then Oper.wp Try.prog o a w1 K Q else E := by
  have hwant : Region.wanted o (yielded ops a.tmps) = true := by simp [Region.wanted, hgd]
  rw [if_pos hwant]
  obtain ⟨v', w', hrun, hown, hbel, hkp⟩ := hB.add hb c hr hlen o.type
  unfold Oper.wp execOp
  simp only [ho, resolve, invoke, builtin, Sem.run_bind, Sem.run_pure, Result.andThen_ok, List.map_toArray, List.map_cons, List.map_nil, hs, hx, hrun]
  exact h v' w' hown (hbel base (Nat.le_refl _) w1 (Below.refl _ _)) hkp
theorem Edges.takeU {w : World} {bound n : Nat} {a : Option Addr} {l : List EdgeL} (h : Edges w bound a n l) {k : Nat} (hk : k ≤ n) : Edges w bound a k (l.take k) := by
  refine ⟨by rw [List.length_take, h.1]; omega, by have := h.2.1; omega, fun h0 => ?_⟩
  obtain ⟨b, off, e, hb, hc⟩ := h.2.2 (by omega)
  refine ⟨b, off, e, hb, fun j x hj => hc j x ?_⟩
  rw [List.getElem?_take] at hj
  split at hj
  · exact hj
  · cases hj
theorem Edges.dropU {w : World} {bound n b off : Nat} {l : List EdgeL} (h : Edges w bound (some ⟨b, off, none⟩) n l) {k : Nat} (hk : k ≤ n) : Edges w bound (some ⟨b, off + k * 4, none⟩) (n - k) (l.drop k) := by
  refine ⟨by rw [List.length_drop, h.1], by have := h.2.1; omega, fun h0 => ?_⟩
  obtain ⟨b', off', e, hb, hc⟩ := h.2.2 (by omega)
  obtain ⟨rfl, rfl, _⟩ := Addr.mk.inj (Option.some.inj e)
  refine ⟨b, off + k * 4, rfl, hb, fun j x hj => ?_⟩
  rw [List.getElem?_drop] at hj
  obtain ⟨s, ⟨c0, c1, c2, c3⟩, h1⟩ := hc (k + j) x hj
  have e0 : off + (k + j) * 4 = off + k * 4 + j * 4 := by omega
  rw [e0] at c0 c1 c2 c3
  exact ⟨s, ⟨c0, c1, c2, c3⟩, h1⟩
/-- The slice v, which the call made, holds just these nodes as they are laid. -/
def NRaw (w : World) (base : Nat) (v : Value) (rs : List NR) : Prop := w.ownsRow base 39 3 v rs.length (rs.flatMap encNR)
/-- The slice at this address holds these nodes as they are laid. -/
def NRow (w : World) (ad : Option Addr) (m : Nat) (rs : List NR) : Prop := rs.length = m ∧ (0 < m → ∃ a', ad = some a' ∧ ∀ (j : Nat) (u : Value), (rs.flatMap encNR)[j]? = some u → w.cell? (a'.add j) = some u)
theorem encNRs_len (l : List NR) : (l.flatMap encNR).length = l.length * 3 := by
  induction l with
  | nil => rfl
  | cons t l ih => rw [List.flatMap_cons, List.length_append, ih, List.length_cons]; show 3 + _ = _; omega
theorem encNR_cell {u : Value} {l : List NR} (h : u ∈ l.flatMap encNR) : u.oneCell' = true := by
  obtain ⟨t, _, ht⟩ := List.mem_flatMap.1 h
  unfold encNR at ht
  simp only [List.mem_cons, List.not_mem_nil, or_false] at ht
  rcases ht with rfl | rfl | rfl <;> rfl
theorem NRaw.zero (w : World) (base : Nat) : NRaw w base (.slice none 0 0) [] := World.ownsRow_nil w base 39 3
theorem NRaw.stay {w w' : World} {base : Nat} {v : Value} {l : List NR} (h : NRaw w base v l) (hk : ∀ b, v.ownBlock = some b → w'.heap[b]? = w.heap[b]?) : NRaw w' base v l := by
  refine ⟨h.1, ?_⟩
  rcases h.2 with h0 | ⟨g, cap, cur, rfl, hbase, hh, h1, h2, h3, h4⟩
  · exact .inl h0
  · exact .inr ⟨g, cap, cur, rfl, hbase, (hk g rfl).trans hh, h1, h2, h3, h4⟩
theorem NRaw.kept {w w' : World} {base : Nat} {v : Value} {l : List NR} (h : NRaw w base v l) (hb : Below w.heap.size w w') : NRaw w' base v l := by
  have hlt := h.lt
  exact h.stay fun b e => hb.block b (hlt b e).2
theorem NRaw.other {w : World} {base : Nat} {v : Value} {l : List NR} (h : NRaw w base v l) {g : Nat} {cs : Array Value} {e : TypeId} {fr : Nat × Nat} (hg : w.heap[g]? = some (.cells cs e fr)) (he : e ≠ 39) : v.ownBlock ≠ some g := fun e1 => by
  rcases h.2 with ⟨rfl, _⟩ | ⟨b, cap, cur, rfl, _, hh, _⟩
  · cases e1
  · obtain rfl := Option.some.inj e1
    rw [hh] at hg
    exact he (Obj.cells.inj (Option.some.inj hg)).2.1.symm
theorem NRow.one {W : World} {g : Nat} {r : NR} (h : W.heap[g]? = some (.cells #[.int .i64 r.k, .string r.s, .slice r.a r.n r.c] 39 (0, 0))) : NRow W (some ⟨g, 0, none⟩) 1 [r] := by
  refine ⟨rfl, fun _ => ⟨_, rfl, fun j u hu => ?_⟩⟩
  rw [Go.WideShapes.add_plain, cell_of_row _ _ _ _ _ _ h, List.getElem?_toArray, Nat.zero_add]
  rw [show ([r].flatMap encNR) = encNR r by simp] at hu
  exact hu
/-- Nodes behind those that the call made. -/
theorem NRaw.add {w : World} {base : Nat} {v : Value} {l : List NR} (h : NRaw w base v l) (hb : base ≤ w.heap.size) {a : Option Addr} {m : Nat} (c : Nat) {l2 : List NR} (hr : NRow w a m l2) (hlen : l.length + m ≤ 1000000) (ty : Nat) :
    ∃ v' w', (Builtin.append_ #[22, 22] ty #[v, .slice a m c]).run Try.prog w = .ok v' w' ∧ NRaw w' base v' (l ++ l2) ∧ Below base w w' ∧ Keeps v w w' ∧ (v'.ownBlock = v.ownBlock ∨ v'.ownBlock = some w.heap.size) := by
  obtain ⟨i0, hi0, hzz⟩ := Option.map_eq_some_iff.1 info_node
  simp only [Prod.mk.injEq] at hzz
  obtain ⟨hz, hs1, hb1⟩ := hzz
  obtain ⟨hl2, hc⟩ := hr
  rcases a with _ | ad
  · have hm : m = 0 := by
      rcases Nat.eq_zero_or_pos m with h0 | h0
      · exact h0
      · obtain ⟨_, h, _⟩ := hc h0; cases h
    subst hm
    have hn : l2 = [] := List.eq_nil_of_length_eq_zero hl2
    subst hn
    refine ⟨v, w, ?_, by rw [List.append_nil]; exact h, Below.refl _ _, Keeps.refl _ _, .inl rfl⟩
    rcases h.2 with ⟨h0, _⟩ | ⟨g, cap, cur, rfl, _, hh, h1, h2, h3, h4⟩
    · rw [h0]; simp [Builtin.append_, run_underlying Try.underlying22, sizeOf, typeInfo, hi0, Builtin.lenOf, Builtin.firstCells]
    · simp [Builtin.append_, run_underlying Try.underlying22, sizeOf, typeInfo, hi0, Builtin.lenOf, Builtin.firstCells, storeCells]
      intro hx
      omega
  · have hcells : ∀ (j : Nat) (u : Value), (l2.flatMap encNR)[j]? = some u → w.cell? (ad.add j) = some u := fun j u hu => by
      rcases Nat.eq_zero_or_pos m with h0 | h0
      · rw [List.eq_nil_of_length_eq_zero (hl2.trans h0)] at hu; cases hu
      · obtain ⟨a', e, hcc⟩ := hc h0
        obtain rfl := Option.some.inj e
        exact hcc j u hu
    obtain ⟨v', w', hrun, hown, hgr, _, hat⟩ := run_append_own_at (P := Try.prog) w base 22 ty 39 i0 _ 3 48 Try.underlying22 hi0 hz hs1 hb1 rfl (by omega) v l.length (l.flatMap encNR) h ad m c (l2.flatMap encNR) (by rw [encNRs_len, hl2]) hcells
      (fun u hu => encNR_cell hu) (by unfold maxLen; omega) (by omega) hb
    have hlt := h.lt
    refine ⟨v', w', hrun, ?_, (Below.refl base w).grown hgr (by omega) (fun k hk => by have := hlt k hk; omega), ⟨hgr.size, fun b hb hne => hgr.block b hb (fun e => hne e.symm)⟩, hat⟩
    unfold NRaw
    rw [List.length_append, List.flatMap_append, hl2]
    exact hown
theorem step_append_nodesU {ops : Array Oper} {o : Oper} {a : Act} {K : Act → World → Prop} {Q : Exit → Act → World → Prop} {E : Prop} {w1 : World} (hgd : o.guard = none) (s x : Operand)
    (ho : o.op = .call { callee := .builtin .append, args := #[s, x], argTypes := #[22, 22] }) (base : Nat) (v : Value) (l : List NR) (ad : Option Addr) (m c : Nat) (l2 : List NR)
    (hs : a.eval s = v) (hx : a.eval x = .slice ad m c) (hB : NRaw w1 base v l) (hr : NRow w1 ad m l2) (hb : base ≤ w1.heap.size) (hlen : l.length + m ≤ 1000000)
    (h : ∀ v' w', NRaw w' base v' (l ++ l2) → Below base w1 w' → Keeps v w1 w' → K (a.put o.dst v') w') : if Region.wanted o (yielded ops a.tmps) = true then Oper.wp Try.prog o a w1 K Q else E := by
  have hwant : Region.wanted o (yielded ops a.tmps) = true := by simp [Region.wanted, hgd]
  rw [if_pos hwant]
  obtain ⟨v', w', hrun, hown, hbel, hkp, _⟩ := hB.add hb c hr hlen o.type
  unfold Oper.wp execOp
  simp only [ho, resolve, invoke, builtin, Sem.run_bind, Sem.run_pure, Result.andThen_ok, List.map_toArray, List.map_cons, List.map_nil, hs, hx, hrun]
  exact h v' w' hown hbel hkp
/-- Nodes that may be read are laid somehow. -/
theorem Nodes.rows {w : World} {bound : Nat} {a : Option Addr} {m : Nat} {l : List NodeL} (h : Nodes w bound a m l) : ∃ rs : List NR, NRow w a m rs ∧ rs.length = l.length ∧ ∀ (j : Nat) (r : NR) (t : NodeL), rs[j]? = some r → l[j]? = some t → r.k = t.kind ∧ r.s.toList = t.peer ∧ r.s.size ≤ maxLen ∧ Edges w bound r.a r.n t.arms := by
  have h1 := h.1
  rcases Nat.eq_zero_or_pos m with h0 | h0
  · subst h0
    have hn : l = [] := List.eq_nil_of_length_eq_zero h1
    subst hn
    exact ⟨[], ⟨rfl, fun h => absurd h (Nat.lt_irrefl 0)⟩, rfl, fun j r t h => by cases h⟩
  obtain ⟨b, off, rfl, _, _⟩ := h.2.2 h0
  have each : ∀ i, i < m → ∃ y : NR, (w.cell? ⟨b, off + i * 3, none⟩ = some (.int .i64 y.k) ∧ w.cell? ⟨b, off + i * 3 + 1, none⟩ = some (.string y.s) ∧ w.cell? ⟨b, off + i * 3 + 2, none⟩ = some (.slice y.a y.n y.c)) ∧ ∃ t, l[i]? = some t ∧ y.k = t.kind ∧ y.s.toList = t.peer ∧ y.s.size ≤ maxLen ∧ Edges w bound y.a y.n t.arms := fun i hi => by
    obtain ⟨b', off', kd, s, aa, an, ac, el, e, _, hx, hq, hs, hE⟩ := h.at_ hi
    obtain ⟨e1, e2, _⟩ := Addr.mk.inj (Option.some.inj e)
    subst e1 e2
    exact ⟨⟨kd, s, aa, an, ac⟩, hq, _, hx, rfl, rfl, hs, hE⟩
  haveI : Inhabited NR := ⟨⟨0, ⟨#[]⟩, none, 0, 0⟩⟩
  obtain ⟨f, hf⟩ := Go.Deep.choose_lt each
  refine ⟨(List.range m).map f, ⟨by simp, fun _ => ⟨_, rfl, fun j u hu => ?_⟩⟩, by simp [h1], fun j r t hr ht => ?_⟩
  · have hj : j < m * 3 := by
      obtain ⟨h2, _⟩ := List.getElem?_eq_some_iff.1 hu
      rw [encNRs_len] at h2
      simpa using h2
    have hjm : j / 3 < m := by omega
    have ht : ((List.range m).map f)[j / 3]? = some (f (j / 3)) := by rw [List.getElem?_map, List.getElem?_range hjm]; rfl
    have hu2 := flatNd_at _ (j / 3) _ ht (j % 3) (by omega)
    rw [show j / 3 * 3 + j % 3 = j by omega] at hu2
    have hu3 : (encNR (f (j / 3)))[j % 3]? = some u := hu2.symm.trans hu
    obtain ⟨⟨c0, c1, c2⟩, _⟩ := hf (j / 3) hjm
    rw [Go.WideShapes.add_plain]
    have hj3 : j % 3 = 0 ∨ j % 3 = 1 ∨ j % 3 = 2 := by omega
    rcases hj3 with e | e | e
    · rw [e] at hu3; rw [show off + j = off + j / 3 * 3 by omega, c0]; exact hu3
    · rw [e] at hu3; rw [show off + j = off + j / 3 * 3 + 1 by omega, c1]; exact hu3
    · rw [e] at hu3; rw [show off + j = off + j / 3 * 3 + 2 by omega, c2]; exact hu3
  · have hj : j < m := by have := (List.getElem?_eq_some_iff.1 hr).1; simpa using this
    rw [List.getElem?_map, List.getElem?_range hj] at hr
    obtain rfl := Option.some.inj hr
    obtain ⟨_, t', ht', h2⟩ := hf j hj
    obtain rfl := Option.some.inj (ht.symm.trans ht')
    exact h2
/-- Such a row reads as nodes. -/
theorem NRaw.sees {w : World} {base bound : Nat} {v : Value} {rs : List NR} {f : List NodeL} (h : NRaw w base v rs) (hl : f.length ≤ 1000000) (hrl : rs.length = f.length) (hb : bound ≤ w.heap.size) (hrd : ∀ (j : Nat) (r : NR) (t : NodeL), rs[j]? = some r → f[j]? = some t → r.k = t.kind ∧ r.s.toList = t.peer ∧ r.s.size ≤ maxLen ∧ Edges w bound r.a r.n t.arms) :
    ∃ a c, v = .slice a f.length c ∧ Nodes w w.heap.size a f.length f := by
  have hlt := h.lt
  rcases h.2 with ⟨h0, h1⟩ | ⟨g, cap, cur, rfl, hbase, hh, h1, h2, h3, h4⟩
  · have hz : f = [] := List.eq_nil_of_length_eq_zero (by omega)
    subst hz
    exact ⟨none, 0, h0, Nodes.zero _ _ _⟩
  · refine ⟨_, cap, by rw [hrl], rfl, by omega, fun _ => ⟨g, 0, rfl, (hlt g rfl).2, fun j t hj => ?_⟩⟩
    have hj' : j < f.length := (List.getElem?_eq_some_iff.1 hj).1
    have hr := List.getElem?_eq_getElem (l := rs) (i := j) (by omega)
    obtain ⟨e1, e2, e3, e4⟩ := hrd j _ t hr hj
    have hcell : ∀ i, i < 3 → w.cell? ⟨g, 0 + (j * 3 + i), none⟩ = (encNR (rs[j]'(by omega)))[i]? := fun i hi => by
      rw [cell_of_row w g _ cur 39 (0, 0) hh, Nat.zero_add, ← flatNd_at rs j _ hr i hi]
      have : (cur.toList.take (rs.length * 3))[j * 3 + i]? = (rs.flatMap encNR)[j * 3 + i]? := by rw [h4]
      rw [List.getElem?_take, if_pos (by omega)] at this
      rw [← Array.getElem?_toList, this]
    have c0 := hcell 0 (by omega)
    have c1 := hcell 1 (by omega)
    have c2 := hcell 2 (by omega)
    refine ⟨(rs[j]'(by omega)).s, (rs[j]'(by omega)).a, (rs[j]'(by omega)).n, (rs[j]'(by omega)).c, ⟨?_, ?_, ?_⟩, e2, e3, e4.more hb⟩
    · rw [show 0 + j * 3 = 0 + (j * 3 + 0) by omega, c0, ← e1]; rfl
    · rw [show 0 + j * 3 + 1 = 0 + (j * 3 + 1) by omega, c1]; rfl
    · rw [show 0 + j * 3 + 2 = 0 + (j * 3 + 2) by omega, c2]; rfl
theorem NRaw.form {W : World} {B : Nat} {v : Value} {rs : List NR} (h : NRaw W B v rs) : ∃ va vc, v = .slice va rs.length vc := by
  rcases h.2 with ⟨h0, h1⟩ | ⟨g, cap, cur, rfl, hbase, hh, h1, h2, h3, h4⟩
  · exact ⟨none, 0, by rw [h0, h1]⟩
  · exact ⟨_, _, rfl⟩
theorem NRow.on {w W : World} {bound m : Nat} {a : Option Addr} {rs : List NR} {l : List NodeL} (h : NRow w a m rs) (hN : Nodes w bound a m l) (hb : Below bound w W) : NRow W a m rs := by
  refine ⟨h.1, fun h0 => ?_⟩
  obtain ⟨a', e, hc⟩ := h.2 h0
  obtain ⟨b, off, e2, hlt, _⟩ := hN.2.2 h0
  obtain rfl := Option.some.inj (e.symm.trans e2)
  refine ⟨_, e, fun j u hj => ?_⟩
  have h1 := hc j u hj
  rw [Go.WideShapes.add_plain] at h1 ⊢
  exact (hb.cell (p := ⟨b, off + j, none⟩) hlt).trans h1
theorem NBox.thawV {W : World} {g : Nat} {kd : Int} {s : ByteArray} {aa : Option Addr} {an ac : Nat} (h : NBox W g kd s aa an ac) (j : Nat) : W.frozen? ⟨g, j, none⟩ = false := by
  unfold World.frozen?
  rw [show W.heap[g]? = _ from h]
  simp
theorem NBox.putsV {W : World} {g : Nat} {kd kd' : Int} {s s' : ByteArray} {aa aa' : Option Addr} {an ac an' ac' : Nat} (h : NBox W g kd s aa an ac) : NBox (((W.setCell ⟨g, 0, none⟩ (.int .i64 kd')).setCell ⟨g, 1, none⟩ (.string s')).setCell ⟨g, 2, none⟩ (.slice aa' an' ac')) g kd' s' aa' an' ac' := by
  have h0 : (W.setCell ⟨g, 0, none⟩ (.int .i64 kd')).heap[g]? = some (.cells #[.int .i64 kd', .string s, .slice aa an ac] 39 (0, 0)) := by rw [heap_setCell_same W g 0 _ _ _ h]; rfl
  have h1 : ((W.setCell ⟨g, 0, none⟩ (.int .i64 kd')).setCell ⟨g, 1, none⟩ (.string s')).heap[g]? = some (.cells #[.int .i64 kd', .string s', .slice aa an ac] 39 (0, 0)) := by rw [heap_setCell_same _ g 1 _ _ _ h0]; rfl
  unfold NBox
  rw [heap_setCell_same _ g 2 _ _ _ h1]
  rfl
/-- A node with edges of the call's own is stored in a box. -/
theorem fewer_node {w7 W : World} {g B : Nat} {v : Value} {l : List EdgeL} (k : Int) (s : ByteArray) (ho : EdOwn W B v l) (hg : NBox W g 0 ⟨#[]⟩ none 0 0) (hbel : Below w7.heap.size w7 W) (hB : w7.heap.size ≤ g) (hl : l.length ≤ 1000) :
    ∃ va vc, v = .slice va l.length vc ∧ NBox (((W.setCell ⟨g, 0, none⟩ (.int .i64 k)).setCell ⟨g, 1, none⟩ (.string s)).setCell ⟨g, 2, none⟩ (.slice va l.length vc)) g k s va l.length vc ∧
      Edges (((W.setCell ⟨g, 0, none⟩ (.int .i64 k)).setCell ⟨g, 1, none⟩ (.string s)).setCell ⟨g, 2, none⟩ (.slice va l.length vc)) (((W.setCell ⟨g, 0, none⟩ (.int .i64 k)).setCell ⟨g, 1, none⟩ (.string s)).setCell ⟨g, 2, none⟩ (.slice va l.length vc)).heap.size va l.length l ∧
      Below w7.heap.size w7 (((W.setCell ⟨g, 0, none⟩ (.int .i64 k)).setCell ⟨g, 1, none⟩ (.string s)).setCell ⟨g, 2, none⟩ (.slice va l.length vc)) := by
  have hne := ho.other (cs := #[.int .i64 0, .string ⟨#[]⟩, .slice none 0 0]) (e := 39) (fr := (0, 0)) hg (by decide)
  obtain ⟨ts, h1, _⟩ := ho
  have hlt := h1.lt
  obtain ⟨va, vc, rfl, hed, _, _⟩ := EdOwn.sees ⟨ts, h1, by assumption⟩ (by omega)
  have hset : Beside g W (((W.setCell ⟨g, 0, none⟩ (.int .i64 k)).setCell ⟨g, 1, none⟩ (.string s)).setCell ⟨g, 2, none⟩ (.slice va l.length vc)) := (((Beside.refl _ W).setCell 0 _).setCell 1 _).setCell 2 _
  refine ⟨va, vc, rfl, hg.putsV, hed.stay hset.size (fun b off e => hset.block b ?_ ?_), hbel.trans (hset.below hB hbel.size)⟩
  · subst e; exact (hlt b rfl).2
  · subst e; intro e2; exact hne (by rw [← e2]; rfl)
theorem BBox.putsV {W : World} {g : Nat} (h : BBox W g none 0 0 none 0 0 none 0 0) (va : Option Addr) (n vc : Nat) : BBox (((W.setCell ⟨g, 0, none⟩ (.slice va n vc)).setCell ⟨g, 1, none⟩ (.slice none 0 0)).setCell ⟨g, 2, none⟩ (.slice none 0 0)) g va n vc none 0 0 none 0 0 :=
  ((h.set0 va n vc).set1 none 0 0).set2 none 0 0
/-- A book of nodes of the call's own is stored in a box. -/
theorem fewer_end {w8 W : World} {g B : Nat} {v : Value} {rs : List NR} {r : NR} {ns : List NodeL} {t0 : NodeL} (hraw : NRaw W B v (rs ++ [r])) (hg : BBox W g none 0 0 none 0 0 none 0 0) (hbel : Below w8.heap.size w8 W) (hB : w8.heap.size ≤ g) (hrl : rs.length = ns.length) (hl : ns.length ≤ 1000)
    (hrd : ∀ (j : Nat) (r : NR) (t : NodeL), rs[j]? = some r → ns[j]? = some t → r.k = t.kind ∧ r.s.toList = t.peer ∧ r.s.size ≤ maxLen ∧ Edges w8 w8.heap.size r.a r.n t.arms) (hlast : r.k = t0.kind ∧ r.s.toList = t0.peer ∧ r.s.size ≤ maxLen ∧ Edges w8 w8.heap.size r.a r.n t0.arms) :
    ∃ va vc, v = .slice va (ns ++ [t0]).length vc ∧ BBox (((W.setCell ⟨g, 0, none⟩ (.slice va (ns ++ [t0]).length vc)).setCell ⟨g, 1, none⟩ (.slice none 0 0)).setCell ⟨g, 2, none⟩ (.slice none 0 0)) g va (ns ++ [t0]).length vc none 0 0 none 0 0 ∧
      Nodes (((W.setCell ⟨g, 0, none⟩ (.slice va (ns ++ [t0]).length vc)).setCell ⟨g, 1, none⟩ (.slice none 0 0)).setCell ⟨g, 2, none⟩ (.slice none 0 0)) (((W.setCell ⟨g, 0, none⟩ (.slice va (ns ++ [t0]).length vc)).setCell ⟨g, 1, none⟩ (.slice none 0 0)).setCell ⟨g, 2, none⟩ (.slice none 0 0)).heap.size va (ns ++ [t0]).length (ns ++ [t0]) ∧
      Below w8.heap.size w8 (((W.setCell ⟨g, 0, none⟩ (.slice va (ns ++ [t0]).length vc)).setCell ⟨g, 1, none⟩ (.slice none 0 0)).setCell ⟨g, 2, none⟩ (.slice none 0 0)) := by
  have hne := hraw.other (cs := #[.slice none 0 0, .slice none 0 0, .slice none 0 0]) (e := 26) (fr := (0, 0)) hg (by decide)
  have hall : ∀ (j : Nat) (r' : NR) (t : NodeL), (rs ++ [r])[j]? = some r' → (ns ++ [t0])[j]? = some t → r'.k = t.kind ∧ r'.s.toList = t.peer ∧ r'.s.size ≤ maxLen ∧ Edges w8 w8.heap.size r'.a r'.n t.arms := fun j r' t hr ht => by
    rcases Nat.lt_or_ge j rs.length with hlt | hge
    · rw [List.getElem?_append_left hlt] at hr
      rw [List.getElem?_append_left (by omega)] at ht
      exact hrd j r' t hr ht
    · rw [List.getElem?_append_right hge] at hr
      rw [List.getElem?_append_right (by omega), ← hrl] at ht
      have h0 : j - rs.length = 0 := by
        obtain ⟨h1, _⟩ := List.getElem?_eq_some_iff.1 hr
        simpa using h1
      rw [h0] at hr ht
      obtain rfl : r = r' := by simpa using hr
      obtain rfl : t0 = t := by simpa using ht
      exact hlast
  have hex : ∀ va n vc, Beside g W (((W.setCell ⟨g, 0, none⟩ (.slice va n vc)).setCell ⟨g, 1, none⟩ (.slice none 0 0)).setCell ⟨g, 2, none⟩ (.slice none 0 0)) := fun va n vc => (((Beside.refl _ W).setCell 0 _).setCell 1 _).setCell 2 _
  have hlt := hraw.lt
  obtain ⟨va, vc, hv, _⟩ := hraw.sees (f := ns ++ [t0]) (bound := w8.heap.size) (by simp; omega) (by simp [hrl]) hbel.size (fun j r' t hr ht => by
    obtain ⟨h1, h2, h3, h4⟩ := hall j r' t hr ht
    exact ⟨h1, h2, h3, h4.below hbel⟩)
  have hset := hex va (ns ++ [t0]).length vc
  have hbe2 := hbel.trans (hset.below hB hbel.size)
  have hraw2 := hraw.stay (w' := (((W.setCell ⟨g, 0, none⟩ (.slice va (ns ++ [t0]).length vc)).setCell ⟨g, 1, none⟩ (.slice none 0 0)).setCell ⟨g, 2, none⟩ (.slice none 0 0))) (fun b e => hset.block b (hlt b e).2 (fun e2 => hne (by rw [e, e2])))
  obtain ⟨va', vc', hv', hn'⟩ := hraw2.sees (f := ns ++ [t0]) (bound := w8.heap.size) (by simp; omega) (by simp [hrl]) hbe2.size (fun j r' t hr ht => by
    obtain ⟨h1, h2, h3, h4⟩ := hall j r' t hr ht
    exact ⟨h1, h2, h3, h4.below hbe2⟩)
  obtain ⟨e1, _, e3⟩ := Value.slice.inj (hv.symm.trans hv')
  subst e1 e3
  exact ⟨va, vc, hv, hg.putsV va _ vc, hn', hbe2⟩
end Go.Proofs.Ytpjocacepafneaa

/- Law: UnderFewer. (Printed by gen/gen11.py.) -/
namespace Go.Proofs.Ytpjocacepafneaa
open Go.RowKit Go.Sort

theorem LB10.isU {w W : World} {g : Nat} {na sa ra : Option Addr} {nn nc sc rc : Nat} {b : BookL} (h : LB10 w W g na nn nc sa sc ra rc b) (x y : Int) :
    Calls Try.prog 26 #[bkV na nn nc sa 2 sc ra 2 rc, .int .i64 x, .int .i64 y] W fun e w' => e = .returned (.bool (isQ b (x, y))) ∧ Below W.heap.size W w' :=
  is_any na nn nc sa 2 sc ra 2 rc b x y W _ (Nat.le_refl _) h.bk
theorem isQ_refl {b : BookL} (hb : bookB b = true) {p : Nat} (hp : p < b.nodes.length) : isQ b ((p : Int), (p : Int)) = true := (isQ_iff hb).2 (und_refl (bookB_ok hb).1 (inBk_iff.2 ⟨by omega, by simpa using hp⟩))
theorem isQ_trans {b : BookL} (hb : bookB b = true) {x y z : Int} (h1 : isQ b (x, y) = true) (h2 : isQ b (y, z) = true) : isQ b (x, z) = true := (isQ_iff hb).2 (und_trans (bookB_ok hb).1 ((isQ_iff hb).1 h1) ((isQ_iff hb).1 h2))
theorem inBk_mono {n m : Nat} {k : Int} (h : inBk n k = true) (hm : n ≤ m) : inBk m k = true := by rw [inBk_iff] at *; omega
theorem nodeB_mono {n m : Nat} {t : NodeL} (h : nodeB n t = true) (hm : n ≤ m) : nodeB m t = true := by
  have he : ∀ e : EdgeL, edgeB n e = true → edgeB m e = true := fun e h => by
    unfold edgeB sortB at h ⊢
    simp only [Bool.and_eq_true] at h ⊢
    refine ⟨⟨h.1.1, ?_⟩, inBk_mono h.2 hm⟩
    have h2 := h.1.2
    by_cases h5 : e.sk = 5
    · rw [if_pos h5] at h2 ⊢
      exact inBk_mono h2 hm
    · rw [if_neg h5] at h2 ⊢
      exact h2
  unfold nodeB at h ⊢
  by_cases k0 : t.kind = 0
  · rw [if_pos k0] at h ⊢
    exact h
  · rw [if_neg k0] at h ⊢
    by_cases k1 : t.kind = 1 ∨ t.kind = 2
    · rw [if_pos k1] at h ⊢
      rw [Bool.and_eq_true] at h ⊢
      refine ⟨h.1, ?_⟩
      have h2 := h.2
      unfold edgesB at h2 ⊢
      simp only [Bool.and_eq_true, List.all_eq_true] at h2 ⊢
      exact ⟨⟨⟨fun e hm => he e (h2.1.1.1 e hm), h2.1.1.2⟩, h2.1.2⟩, h2.2⟩
    · rw [if_neg k1] at h
      cases h
def lessB (a : NodeL) (k : Nat) : NodeL := ⟨a.kind, a.peer, a.arms.take k ++ a.arms.drop (k + 1)⟩
theorem lessB_sub (a : NodeL) (k : Nat) : (lessB a k).arms.Sublist a.arms := by
  show (a.arms.take k ++ a.arms.drop (k + 1)).Sublist a.arms
  have h1 : (a.arms.drop (k + 1)).Sublist (a.arms.drop k) := by
    have : a.arms.drop (k + 1) = (a.arms.drop k).drop 1 := by rw [List.drop_drop]
    rw [this]
    exact List.drop_sublist 1 _
  have h2 := List.Sublist.append (List.Sublist.refl (a.arms.take k)) h1
  rwa [List.take_append_drop] at h2
theorem lessB_len {a : NodeL} {k : Nat} (hk : k < a.arms.length) : (lessB a k).arms.length = a.arms.length - 1 := by
  show (a.arms.take k ++ a.arms.drop (k + 1)).length = _
  rw [List.length_append, List.length_take, List.length_drop]
  omega
theorem lessB_ok {n : Nat} {a : NodeL} {k : Nat} (h : nodeB n a = true) (hk : k < a.arms.length) (h2 : 2 ≤ a.arms.length) : nodeB n (lessB a k) = true ∧ (a.kind = 1 ∨ a.kind = 2) := by
  have hs := lessB_sub a k
  have hl := lessB_len hk
  unfold nodeB at h ⊢
  split at h
  · simp only [Bool.and_eq_true, List.isEmpty_iff] at h
    rw [h.2] at h2
    simp at h2
  · rename_i h0
    split at h
    · rename_i h1
      refine ⟨?_, h1⟩
      rw [if_neg (show ¬ (lessB a k).kind = 0 from h0), if_pos (show (lessB a k).kind = 1 ∨ (lessB a k).kind = 2 from h1)]
      rw [Bool.and_eq_true] at h ⊢
      refine ⟨h.1, ?_⟩
      have h3 := h.2
      unfold edgesB at h3 ⊢
      simp only [Bool.and_eq_true, List.all_eq_true, decide_eq_true_eq] at h3 ⊢
      refine ⟨⟨⟨fun e he => h3.1.1.1 e (hs.subset he), ?_⟩, by omega⟩, by omega⟩
      have h4 := h3.1.1.2
      unfold upB at h4 ⊢
      rw [decide_eq_true_eq] at h4 ⊢
      exact h4.sublist (hs.map _)
    · cases h
theorem lessB_out {a : NodeL} {k : Nat} (hn : labN a.arms) (hk : k < a.arms.length) : ∀ e ∈ (lessB a k).arms, e.label ≠ (a.arms[k]).label := fun e he hl => by
  have hs := lessB_sub a k
  obtain rfl := labN_one hn (hs.subset he) (List.getElem_mem hk) hl
  have hd : a.arms.Nodup := (List.pairwise_map.1 hn).imp fun h e => h (by rw [e])
  have he : a.arms[k] ∈ a.arms.take k ++ a.arms.drop (k + 1) := he
  rcases List.mem_append.1 he with h | h
  · obtain ⟨j, hj, e⟩ := List.mem_take_iff_getElem.1 h
    have := (List.getElem_inj (h₀ := by omega) (h₁ := hk) hd).1 e
    omega
  · obtain ⟨j, hj, e⟩ := List.mem_drop_iff_getElem.1 h
    have := (List.getElem_inj (h₀ := by omega) (h₁ := hk) hd).1 e
    omega
def fewB (b : BookL) (a : NodeL) (k : Nat) : BookL := ⟨b.nodes ++ [lessB a k], [], []⟩
theorem fewB_ok {b : BookL} (hb : bookB b = true) (h8 : b.nodes.length ≤ 8) {p : Nat} {a : NodeL} (ha : b.nodes[p]? = some a) {k : Nat} (hk : k < a.arms.length) (h2 : 2 ≤ a.arms.length) : bookB (fewB b a k) = true := by
  have hn := (bookB_ok hb).1
  have h1 : ∀ t ∈ (fewB b a k).nodes, nodeB (b.nodes.length + 1) t = true := fun t ht => by
    rcases List.mem_append.1 ht with ht | ht
    · obtain ⟨j, hj, rfl⟩ := List.mem_iff_getElem.1 ht
      exact nodeB_mono (hn.2 j _ (List.getElem?_eq_getElem hj)) (by omega)
    · rw [List.mem_singleton.1 ht]
      exact (lessB_ok (nodeB_mono (hn.2 p a ha) (by omega)) hk h2).1
  have hl : (fewB b a k).nodes.length = b.nodes.length + 1 := by simp [fewB]
  unfold bookB
  rw [hl, List.all_eq_true.2 h1, decide_eq_true (show b.nodes.length + 1 ≤ 400 by omega)]
  rfl
theorem fewer_is {b : BookL} (hb : bookB b = true) (h8 : b.nodes.length ≤ 8) {p : Nat} {a : NodeL} (ha : b.nodes[p]? = some a) {k : Nat} (hk : k < a.arms.length) (h2 : 2 ≤ a.arms.length) :
    (a.kind = 1 → isQ (fewB b a k) ((p : Int), (b.nodes.length : Int)) = true ∧ isQ (fewB b a k) ((b.nodes.length : Int), (p : Int)) = false) ∧
    (a.kind ≠ 1 → isQ (fewB b a k) ((b.nodes.length : Int), (p : Int)) = true ∧ isQ (fewB b a k) ((p : Int), (b.nodes.length : Int)) = false) := by
  have hc := fewB_ok hb h8 ha hk h2
  have hn := (bookB_ok hc).1
  have hp : p < b.nodes.length := (List.getElem?_eq_some_iff.1 ha).1
  have hcl : (fewB b a k).nodes.length = b.nodes.length + 1 := by simp [fewB]
  have hca : (fewB b a k).nodes[p]? = some a := by
    show (b.nodes ++ [lessB a k])[p]? = _
    rw [List.getElem?_append_left hp]; exact ha
  have hcn : (fewB b a k).nodes[b.nodes.length]? = some (lessB a k) := by
    show (b.nodes ++ [lessB a k])[b.nodes.length]? = _
    rw [List.getElem?_append_right (Nat.le_refl _)]; simp
  have hla := hn.lab hca
  have hs := lessB_sub a k
  have hkk := (lessB_ok (hn.2 p a hca) hk h2).2
  have hone : ∀ e ∈ a.arms, ∀ f ∈ (lessB a k).arms, e.label = f.label → e = f := fun e he f hf hl => labN_one hla he (hs.subset hf) hl
  have hpi : inP (fewB b a k).nodes.length ((p : Int), (b.nodes.length : Int)) = true := inP_iff.2 ⟨⟨by omega, by simp [hcl]; omega⟩, by omega, by simp [hcl]⟩
  have hpj : inP (fewB b a k).nodes.length ((b.nodes.length : Int), (p : Int)) = true := inP_iff.2 ⟨⟨by omega, by simp [hcl]⟩, by omega, by simp [hcl]; omega⟩
  have hself : ∀ q : Int × Int, q.1 = q.2 ∧ inP (fewB b a k).nodes.length q = true → inP (fewB b a k).nodes.length q = true ∧ ∃ x y, (fewB b a k).nodes[q.1.toNat]? = some x ∧ (fewB b a k).nodes[q.2.toNat]? = some y ∧ LV x y ∧ ∀ r, Obl x y r → (r.1 = r.2 ∧ inP (fewB b a k).nodes.length r = true) := fun q ⟨e, hq⟩ => by
    have hlt := (inP_iff.1 hq).1.2
    have hx := List.getElem?_eq_getElem hlt
    refine ⟨hq, _, _, hx, by rw [← e]; exact hx, LV.self (hn.lab hx), fun r hr => obl_self hn hx hr⟩
  have hoe : ∀ (e f : EdgeL) (i : Nat) (x : NodeL) (kd : Int) (r : Int × Int), (fewB b a k).nodes[i]? = some x → e ∈ x.arms → e = f → (r = (e.next, f.next) ∨ e.sk = 5 ∧ r = carB kd e.at_ f.at_) → r.1 = r.2 ∧ inP (fewB b a k).nodes.length r = true := fun e f i x kd r hx he hef hr => by
    subst hef
    have h1 := hn.edge hx he
    rcases hr with rfl | ⟨_, rfl⟩
    · exact ⟨rfl, inP_iff.2 ⟨h1.2.2.2, h1.2.2.2⟩⟩
    · unfold carB
      split
      · exact ⟨rfl, inP_iff.2 ⟨h1.2.2.1, h1.2.2.1⟩⟩
      · exact ⟨rfl, inP_iff.2 ⟨h1.2.2.1, h1.2.2.1⟩⟩
  constructor
  · intro h1
    constructor
    · refine (isQ_iff hc).2 (und_of hn (fun q => (q.1 = q.2 ∧ inP (fewB b a k).nodes.length q = true) ∨ q = ((p : Int), (b.nodes.length : Int))) ?_ (.inr rfl))
      rintro q (hq | rfl)
      · obtain ⟨g1, x, y, hx, hy, hl, ho⟩ := hself q hq
        exact ⟨g1, x, y, hx, hy, hl, fun r hr => .inl (ho r hr)⟩
      · refine ⟨hpi, a, lessB a k, by simpa using hca, by simpa using hcn, ⟨rfl, rfl, fun h2 => by omega, fun _ f hf => ⟨f, hs.subset hf, rfl⟩, fun e he f hf hl => by rw [hone e he f hf hl]⟩, fun r ⟨e, he, f, hf, hl, hr⟩ => .inl (hoe e f p a a.kind r hca he (hone e he f hf hl) hr)⟩
    · rw [Bool.eq_false_iff]
      intro h
      obtain ⟨_, x, y, hx, hy, hl, _⟩ := und_at hn ((isQ_iff hc).1 h)
      simp only [Int.toNat_natCast] at hx hy
      obtain rfl := Option.some.inj (hcn.symm.trans hx)
      obtain rfl := Option.some.inj (hca.symm.trans hy)
      obtain ⟨e, he, hel⟩ := hl.2.2.2.1 (by show ¬ a.kind = 2; omega) _ (List.getElem_mem hk)
      exact lessB_out hla hk e he hel
  · intro h1
    have hk2 : a.kind = 2 := by omega
    constructor
    · refine (isQ_iff hc).2 (und_of hn (fun q => (q.1 = q.2 ∧ inP (fewB b a k).nodes.length q = true) ∨ q = ((b.nodes.length : Int), (p : Int))) ?_ (.inr rfl))
      rintro q (hq | rfl)
      · obtain ⟨g1, x, y, hx, hy, hl, ho⟩ := hself q hq
        exact ⟨g1, x, y, hx, hy, hl, fun r hr => .inl (ho r hr)⟩
      · refine ⟨hpj, lessB a k, a, by simpa using hcn, by simpa using hca, ⟨rfl, rfl, fun _ e he => ⟨e, hs.subset he, rfl⟩, fun h2 => absurd hk2 h2, fun e he f hf hl => by rw [hone f hf e he hl.symm]⟩, fun r ⟨e, he, f, hf, hl, hr⟩ => .inl (hoe e f b.nodes.length (lessB a k) (lessB a k).kind r hcn he (hone f hf e he hl.symm).symm hr)⟩
    · rw [Bool.eq_false_iff]
      intro h
      obtain ⟨_, x, y, hx, hy, hl, _⟩ := und_at hn ((isQ_iff hc).1 h)
      simp only [Int.toNat_natCast] at hx hy
      obtain rfl := Option.some.inj (hca.symm.trans hx)
      obtain rfl := Option.some.inj (hcn.symm.trans hy)
      obtain ⟨e, he, hel⟩ := hl.2.2.1 hk2 _ (List.getElem_mem hk)
      exact lessB_out hla hk e he hel.symm
theorem NCaps.on {W W' : World} {a : Option Addr} {n : Nat} {ts : List NodeL} (h : NCaps W a n) (hN : Nodes W W.heap.size a n ts) (hb : Below W.heap.size W W') : NCaps W' a n := fun b off e j hj => by
  obtain ⟨aa, an, ac, hc, hle⟩ := h b off e j hj
  obtain ⟨b', off', _, _, _, _, _, _, e', hlt, _⟩ := hN.at_ hj
  rw [e] at e'
  obtain ⟨rfl, rfl, _⟩ := Addr.mk.inj (Option.some.inj e')
  exact ⟨aa, an, ac, (hb.cell (p := ⟨b, off + j * 3 + 2, none⟩) hlt).trans hc, hle⟩
theorem NCaps.aside {W W' : World} {g bound : Nat} {a : Option Addr} {n : Nat} {ts : List NodeL} (h : NCaps W a n) (hN : Nodes W bound a n ts) (hb : Beside g W W') (hB : bound ≤ W.heap.size) (hs : ∀ o v, W.cell? ⟨g, o, none⟩ = some v → ∃ a n c, v = .slice a n c) : NCaps W' a n := fun b off e j hj => by
  obtain ⟨aa, an, ac, hc, hle⟩ := h b off e j hj
  obtain ⟨b', off', kd, s, _, _, _, _, e', hlt, _, ⟨c0, _⟩, _⟩ := hN.at_ hj
  rw [e] at e'
  obtain ⟨rfl, rfl, _⟩ := Addr.mk.inj (Option.some.inj e')
  have hbg : b ≠ g := fun e2 => by
    subst e2
    obtain ⟨_, _, _, h2⟩ := hs _ _ c0
    cases h2
  exact ⟨aa, an, ac, (hb.cell (p := ⟨b, off + j * 3 + 2, none⟩) (by show b < _; omega) hbg).trans hc, hle⟩
set_option maxHeartbeats 8000000 in
theorem made11C_pos (na : Option Addr) (nn nc : Nat) (sa : Option Addr) (sn sc : Nat) (ra : Option Addr) (rn rc : Nat) (a : Option Addr) (n c : Nat) (l : List Int) (w : World) (bound : Nat) (hb : bound ≤ w.heap.size) (h : Nums w bound a n l) (h0 : 0 < n) (hlim : n * 8 ≤ 140737488355328) :
    Calls Try.prog 23 #[bkV na nn nc sa sn sc ra rn rc, .slice a n c] w fun e w' => BkMadeC e w' ∧ Below w.heap.size w w' := by
  obtain ⟨W1, hW1⟩ : ∃ W1, W1 = (w.alloc (.cells #[.slice na nn nc, .slice sa sn sc, .slice ra rn rc] 26)).alloc (.cells #[.slice none 0 0, .slice none 0 0, .slice none 0 0] 26) := ⟨_, rfl⟩
  have HB1 := Lib.hid (show Below w.heap.size w W1 by rw [hW1]; exact below_on (tu1 w _) (tu1 _ _))
  have HZ1 := Lib.hid (show W1.heap.size = w.heap.size + 1 + 1 by rw [hW1]; simp)
  have HY1 := Lib.hid (show BBox W1 (w.heap.size + 1) none 0 0 none 0 0 none 0 0 by
    have := heap_alloc_new (w.alloc (.cells #[.slice na nn nc, .slice sa sn sc, .slice ra rn rc] 26)) (.cells #[.slice none 0 0, .slice none 0 0, .slice none 0 0] 26)
    rw [World.size_alloc] at this
    rw [hW1]
    exact this)
  have CN := Lib.hid (new10_any a n c l W1 bound (h.below (HB1.out.mono hb)) hlim)
  have CB := Lib.hid book10C_any
  have hn1 := h.2.1
  have d1 : decide (0 < (n : Int)) = true := decide_eq_true (by omega)
  have d2 : decide (0 < n) = true := decide_eq_true h0
  clear h
  subst hW1
  go_enter Try.func23, Try.ntmps23
  go_wp2_with (first
    | (go_at_call 30; (with_reducible refine CN.out.mono ?_)
       rintro e w2 ⟨g, rfl, hd2, hg2, hb2⟩
       have HD2 := Lib.hid hd2
       have HB2 := Lib.hid (HB1.out.trans (hb2.mono (by have := HZ1.out; omega)))
       have HY2 := Lib.hid (HY1.out.stay (hb2.block _ (by have := HZ1.out; omega)))
       have hgz : w.heap.size + 1 < g := by have := HZ1.out; omega
       clear hd2 hg2 hb2)
    | (go_at_call 29; (with_reducible refine (CB.out _ _ HD2.out).mono ?_)
       rintro e w3 ⟨⟨ma, mn, mc, ta, tc, ua, uc, b, rfl, hin, hok, h1, h8, hcp⟩, hb3⟩
       have HIN := Lib.hid hin
       have HCP := Lib.hid hcp
       have HOK := Lib.hid hok
       have HM := Lib.hid (And.intro h1 h8)
       have HY3 := Lib.hid (HY2.out.stay (hb3.block _ HY2.out.lt (by omega)))
       have HB3 := Lib.hid (HB2.out.trans (hb3.below (B := w.heap.size) (by omega) HB2.out.size))
       obtain ⟨y0, y1, y2⟩ := HY3.out.cells
       have f0 := HY3.out.thaw 0
       have f1 := HY3.out.thaw 1
       have f2 := HY3.out.thaw 2
       clear hin hok hb3 h1 h8 hcp)
    | fail)
  refine bodyPost_ret (v := bkV ma mn mc ta 2 tc ua 2 uc) (by simp [results, go_sem, y0, y1, y2]) rfl ?_
  have hset : ∀ (x y z : Value), Beside (w.heap.size + 1) w3 (((w3.setCell ⟨w.heap.size + 1, 0, none⟩ x).setCell ⟨w.heap.size + 1, 1, none⟩ y).setCell ⟨w.heap.size + 1, 2, none⟩ z) := fun x y z => (((Beside.refl _ w3).setCell 0 x).setCell 1 y).setCell 2 z
  exact ⟨⟨ma, mn, mc, ta, tc, ua, uc, b, rfl, HIN.out.aside (hset _ _ _) (Nat.le_refl _) HY3.out.slices, HOK.out, HM.out.1, HM.out.2, HCP.out.aside HIN.out.nodes (hset _ _ _) (Nat.le_refl _) HY3.out.slices⟩, HB3.out.trans ((hset _ _ _).below (by omega) (by have := HB3.out.size; omega))⟩
set_option maxHeartbeats 32000000 in
set_option maxRecDepth 40000 in
theorem underFewer_walk (a : Option Addr) (n c : Nat) (l : List Int) (x y : Int) (w : World) (h : Nums w w.heap.size a n l) (hlim : n * 8 ≤ 140737488351232) :
    Calls Try.prog 9 #[.slice a n c, .int .i64 x, .int .i64 y] w fun e w' => e = .returned (.bool true) ∧ Below w.heap.size w w' := by
  have HN := Lib.hid h
  have HF := Lib.hid (first11_any w)
  have HLP := Lib.hid given11_any
  have hn0 := h.1
  have HLN := Lib.hid hn0
  clear h hn0
  go_enter Try.func9, Try.ntmps9
  go_upto_region 4 with (first
    | (go_at_call 22; (with_reducible refine HF.out.mono ?_)
       rintro e w1 ⟨rfl, hb1⟩
       have HB1 := Lib.hid hb1
       clear hb1)
    | (go_at_call 24; (with_reducible refine (HLP.out w1).mono ?_)
       rintro e w2 ⟨⟨pa, pn, pc, qa, qn, qc, ua, un, uc, rfl, _⟩, hb2⟩
       have HB2 := Lib.hid (below_on HB1.out hb2)
       clear hb2)
    | (at_builtin
       refine wpList_append_plus10 rfl (.tmp 17) (.tmp 18) rfl w2.heap.size w.heap.size (.slice (some ⟨w2.heap.size, 0, none⟩) 1 1) a n c [6] l rfl rfl (IInts.one (W := w2) (cs := #[.int .i64 6]) (base := w2.heap.size) (g := w2.heap.size) 6 rfl rfl (Nat.le_refl _)) ((HN.out.below HB2.out).alloc HB2.out.size _) (by show (1 + n) * 8 ≤ _; omega) (by simp) ?_
       intro v3 w3 hown hgr
       obtain ⟨ma, mc, hv, _, _, _, hnu⟩ := hown.sees
       obtain ⟨mn, hmn⟩ : ∃ mn, mn = ([6] ++ l : List Int).length := ⟨_, rfl⟩
       rw [← hmn] at hv hnu
       subst hv
       have hml : mn * 8 ≤ 140737488355328 := by rw [hmn, List.length_append, HLN.out]; show (1 + n) * 8 ≤ _; omega
       have hm0 : 0 < mn := by rw [hmn]; simp
       clear hmn
       have HNU := Lib.hid hnu
       have HB3 := Lib.hid ((HB2.out.alloc HB2.out.size (.cells #[.int .i64 6] 3)).grown hgr (by have := HB2.out.size; simp; omega) (fun j e => by cases e; exact HB2.out.size))
       clear hown hgr hnu)
    | (go_at_call 23; (with_reducible refine (made11C_pos pa pn pc qa qn qc ua un uc ma mn mc _ w3 w3.heap.size (Nat.le_refl _) HNU.out hm0 hml).mono ?_)
       rintro e w4 ⟨⟨na, nn, nc, sa, sc, ra, rc, b, rfl, hin, hok, h1, h8, hcp⟩, hb4⟩
       have HB4 := Lib.hid (below_on HB3.out hb4)
       have HIN := Lib.hid hin
       have HCP := Lib.hid hcp
       have HOK := Lib.hid (And.intro hok (And.intro h1 h8))
       clear hin hok hb4 h1 h8 hcp)
    | fail)
  have HG := Lib.hid (show LB10 w (w4.alloc (.cells #[.slice na nn nc, .slice sa 2 sc, .slice ra 2 rc] 26)) w4.heap.size na nn nc sa sc ra rc b from
    ⟨heap_alloc_new w4 _, HIN.out.on (tu1 w4 _), HOK.out.1, HOK.out.2.1, HOK.out.2.2, below_on HB4.out (tu1 w4 _)⟩)
  have HC5 := Lib.hid (HCP.out.on HIN.out.nodes (tu1 w4 (.cells #[.slice na nn nc, .slice sa 2 sc, .slice ra 2 rc] 26)))
  generalize hg5 : w4.heap.size = g5 at HG ⊢
  generalize hw5 : w4.alloc (.cells #[.slice na nn nc, .slice sa 2 sc, .slice ra 2 rc] 26) = w5 at HG HC5 ⊢
  clear hg5 hw5 HCP HIN HOK HB4 HB3 HNU HB2 HB1 HF HLP HN hml hm0
  obtain ⟨gc0, gc1, gc2⟩ := HG.out.cells
  have hn1 := HG.out.one
  have hn8 := HG.out.few
  have HBK := Lib.hid HG.out.ok
  obtain ⟨hok, _⟩ := bookB_ok HG.out.ok
  have HOK := Lib.hid hok
  have HNL := Lib.hid HG.out.len
  clear hok
  obtain ⟨p, hpe⟩ : ∃ p, p = pickN nn x := ⟨_, rfl⟩
  have hp : p < nn := by rw [hpe]; exact (pickN_lt (by omega) (by omega) x).1
  have CPK := Lib.hid (pick11_any na nn nc sa 2 sc ra 2 rc x w5 (by omega) (by omega))
  rw [← hpe] at CPK
  clear hpe
  go_upto_region 5 with (first
    | (go_at_call 25; (with_reducible refine CPK.out.mono ?_)
       rintro e w6 ⟨rfl, hb6⟩
       have HG6 := Lib.hid (HG.out.on hb6)
       have HC6 := Lib.hid (HC5.out.on HG.out.bk.nodes hb6)
       clear hb6)
    | fail)
  clear gc0 gc1 gc2 CPK HC5 HG
  obtain ⟨gc0, gc1, gc2⟩ := HG6.out.cells
  obtain ⟨nb, no, xk, xp, xa, xn, xc, xl, hna, hnb, hxx, ⟨q0, q1, q2⟩, hxs, hXE⟩ := HG6.out.bk.nodes.at_ hp
  have hcap : xn ≤ xc := by
    obtain ⟨aa, an, ac, h1, h2⟩ := HC6.out nb no hna p hp
    obtain ⟨_, e2, e3⟩ := Value.slice.inj (Option.some.inj (q2.symm.trans h1))
    omega
  subst hna
  have HXX := Lib.hid hxx
  have HXS := Lib.hid hxs
  have HXE := Lib.hid hXE
  have hx6 : xn ≤ 6 := by have h1 := arms_fewU HOK.out hxx; rw [hXE.1] at h1; exact h1
  have hxl : xl.length = xn := hXE.1
  have HXL := Lib.hid hxl
  have i1 : (p : Int) < (nn : Int) := by omega
  have i2 : (0 : Int) ≤ (p : Int) := by omega
  have HBX := Lib.hid (show NBox (w6.alloc (.cells #[.int .i64 xk, .string xp, .slice xa xn xc] 39)) w6.heap.size xk xp xa xn xc from heap_alloc_new w6 _)
  have HGa := Lib.hid (HG6.out.on (tu1 w6 (.cells #[.int .i64 xk, .string xp, .slice xa xn xc] 39)))
  have HEa := Lib.hid (hXE.on (tu1 w6 (.cells #[.int .i64 xk, .string xp, .slice xa xn xc] 39)))
  clear hxx hXE HC6 hxs hxl
  go_upto_region 6 with fail
  generalize hg9 : w6.heap.size = g9 at HBX ⊢
  generalize hw7 : w6.alloc (.cells #[.int .i64 xk, .string xp, .slice xa xn xc] 39) = w7 at HBX HGa HEa ⊢
  clear hg9 hw7 gc0 gc1 gc2 q0 q1 q2 HG6 HXE i1 i2
  obtain ⟨m0, m1, m2⟩ := HBX.out.cells
  obtain ⟨gc0, gc1, gc2⟩ := HGa.out.cells
  by_cases h2 : xn < 2
  · have d1 : decide ((xn : Int) < 2) = true := decide_eq_true (by omega)
    have d2 : decide (xn < 2) = true := decide_eq_true h2
    have CI := Lib.hid (HGa.out.isU (p : Int) (p : Int))
    rw [isQ_refl HBK.out (by rw [HNL.out]; exact hp)] at CI
    go_wp2_with (first
      | (go_at_call 26; (with_reducible refine CI.out.mono ?_)
         rintro e w8 ⟨rfl, hb8⟩
         have HG8 := Lib.hid (HGa.out.on hb8)
         clear hb8)
      | fail)
    go_ret
    exact ⟨rfl, HG8.out.bel⟩
  have d1 : decide ((xn : Int) < 2) = false := decide_eq_false (by omega)
  have d2 : decide (xn < 2) = false := decide_eq_false h2
  obtain ⟨k, hk, hmod⟩ := mod_lt y xn (by omega) (by omega)
  have hne : ((xn : Int) == 0) = false := by rw [beq_eq_false_iff_ne]; omega
  have hwa : IntKind.u64.wrap (xn : Int) = (xn : Int) := IntWalk.u64_in _ (by omega)
  have hwm : IntKind.i64.wrap (k : Int) = (k : Int) := by simp [IntKind.wrap, IntKind.bits, IntKind.signed]; omega
  go_upto_region 9 with fail
  have k0 : (0 : Int) ≤ (k : Int) := by omega
  have k1 : (k : Int) ≤ (xc : Int) := by omega
  have k2 : (k : Int) + 1 ≤ (xn : Int) := by omega
  have k3 : (xn : Int) ≤ (xc : Int) := by omega
  have k4 : (0 : Int) ≤ (k : Int) + 1 := by omega
  have hw1 : IntKind.i64.wrap ((k : Int) + 1) = (k : Int) + 1 := by simp [IntKind.wrap, IntKind.bits, IntKind.signed]; omega
  have hw2 : ((k : Int) + 1).toNat = k + 1 := by omega
  have HS := Lib.hid (fun (W : World) (hW : Below w7.heap.size w7 W) => show W.cell? ⟨g9, 0, none⟩ = some (.int .i64 xk) ∧ W.cell? ⟨g9, 1, none⟩ = some (.string xp) ∧ W.cell? ⟨g9, 2, none⟩ = some (.slice xa xn xc) from (HBX.out.block (hW.block g9 (Array.getElem?_eq_some_iff.1 HBX.out).1)).cells)
  have HFS := Lib.hid (fewer_is HBK.out (by rw [HNL.out]; exact hn8) HXX.out (k := k) (by rw [HXL.out]; exact hk) (by rw [HXL.out]; omega))
  have HFO := Lib.hid (fewB_ok HBK.out (by rw [HNL.out]; exact hn8) HXX.out (k := k) (by rw [HXL.out]; exact hk) (by rw [HXL.out]; omega))
  clear d1 d2 hne hwa hwm hmod m0 m1 m2 gc0 gc1 gc2
  go_cut [11] (fun s wx => ∃ (g11 : Nat) (va : Option Addr) (vn vc : Nat), s = .pointer (some ⟨g11, 0, none⟩) ∧ Hid (NBox wx g11 xk xp va vn vc) ∧ Hid (Edges wx wx.heap.size va vn (xl.take k ++ xl.drop (k + 1))) ∧ Hid (Below w7.heap.size w7 wx))
  case first =>
    have HBd := Lib.hid (show Below w7.heap.size w7 w7.drew from bel_drewU (Below.refl _ _))
    obtain ⟨wd, hwd⟩ : ∃ wd : World, wd = w7.drew := ⟨_, rfl⟩
    rw [← hwd] at HBd
    refine wp_region_last2 (S := fun W => W.cell? ⟨g9, 0, none⟩ = some (.int .i64 xk) ∧ W.cell? ⟨g9, 1, none⟩ = some (.string xp) ∧ W.cell? ⟨g9, 2, none⟩ = some (.slice xa xn xc)) rfl (by kernel_rfl) (by kernel_rfl) (by rw [← hwd]; exact HS.out _ HBd.out) (fun hHeld => ?_)
    simp only [List.pop_toArray, List.dropLast_cons_cons, List.dropLast_singleton]
    rw [← hwd]
    rw [← hwd] at hHeld
    clear hwd
    obtain ⟨eb, eo, e, _, _⟩ := HEa.out.2.2 (by omega)
    subst e
    have HDR := Lib.hid (fun (W : World) (hW : Below w7.heap.size w7 W) => show Edges W W.heap.size (if xc = k + 1 then some ⟨eb, eo, none⟩ else some ⟨eb, eo + (k + 1) * 4, none⟩) (xn - (k + 1)) (xl.drop (k + 1)) from by
      have h1 := (HEa.out.on hW).dropU (k := k + 1) (by omega)
      by_cases hx : xc = k + 1
      · rw [if_pos hx]
        exact ⟨h1.1, h1.2.1, fun h0 => by omega⟩
      · rw [if_neg hx]
        exact h1)
    try simp only [Act.put, List.setIfInBounds_toArray]
    refine' wpAnyH_take (i := 0) (v := _) rfl (by kernel_rfl) (by kernel_rfl) (by kernel_rfl) (fun _ _ _ h => h) (Or.inl ⟨by kernel_rfl, ?hya0⟩) (by assumption) ?resta0
    case hya0 =>
      intro W hSw
      (try dsimp only at hSw)
      first | (go_simp; done) | (go_simp; with_reducible rfl)
    try simp only [Act.put]
    refine' wpAnyH_take (i := 1) (v := _) rfl (by kernel_rfl) (by kernel_rfl) (by kernel_rfl) (fun _ _ _ h => h) (Or.inl ⟨by kernel_rfl, ?hya1⟩) (by assumption) ?resta1
    case hya1 =>
      intro W hSw
      (try dsimp only at hSw)
      first | (go_simp; done) | (go_simp; with_reducible rfl)
    try simp only [Act.put]
    refine' wpAnyH_take (i := 2) (v := _) rfl (by kernel_rfl) (by kernel_rfl) (by kernel_rfl) (fun _ _ _ h => h) (Or.inl ⟨by kernel_rfl, ?hya2⟩) (by assumption) ?resta2
    case hya2 =>
      intro W hSw
      (try dsimp only at hSw)
      first | (go_simp; done) | (go_simp; with_reducible rfl)
    try simp only [Act.put, List.getElem_toArray, List.getElem_cons_succ, List.getElem_cons_zero, List.setIfInBounds_toArray, List.set_cons_succ, List.set_cons_zero]
    refine' wpAnyH_take (i := 3) (v := _) rfl (by kernel_rfl) (by kernel_rfl) (by kernel_rfl) (fun _ _ _ h => h) (Or.inl ⟨by kernel_rfl, ?hya3⟩) (by assumption) ?resta3
    case hya3 =>
      intro W hSw
      (try dsimp only at hSw)
      first | (go_simp; done) | (go_simp; with_reducible rfl)
    try simp only [Act.put]
    refine' wpAnyH_take (i := 4) (v := _) rfl (by kernel_rfl) (by kernel_rfl) (by kernel_rfl) (fun _ _ _ h => h) (Or.inl ⟨by kernel_rfl, ?hya4⟩) (by assumption) ?resta4
    case hya4 =>
      intro W hSw
      (try dsimp only at hSw)
      first | (go_simp; done) | (go_simp; with_reducible rfl)
    try simp only [Act.put]
    refine' wpAnyH_take (i := 5) (v := _) rfl (by kernel_rfl) (by kernel_rfl) (by kernel_rfl) (fun _ _ _ h => h) (Or.inl ⟨by kernel_rfl, ?hya5⟩) (by assumption) ?resta5
    case hya5 =>
      intro W hSw
      (try dsimp only at hSw)
      first | (go_simp; done) | (go_simp; with_reducible rfl)
    try simp only [Act.put]
    refine' wpAnyH_take (i := 6) (v := _) rfl (by kernel_rfl) (by kernel_rfl) (by kernel_rfl) (fun _ _ _ h => h) (Or.inl ⟨by kernel_rfl, ?hya6⟩) (by assumption) ?resta6
    case hya6 =>
      intro W hSw
      (try dsimp only at hSw)
      first | (go_simp; done) | (go_simp; with_reducible rfl)
    try simp only [Act.put, List.getElem_toArray, List.getElem_cons_succ, List.getElem_cons_zero, List.setIfInBounds_toArray, List.set_cons_succ, List.set_cons_zero]
    refine' wpAnyH_take (i := 7) (v := _) rfl (by kernel_rfl) (by kernel_rfl) (by kernel_rfl) (fun _ _ _ h => h) (Or.inl ⟨by kernel_rfl, ?hya7⟩) (by assumption) ?resta7
    case hya7 =>
      intro W hSw
      (try dsimp only at hSw)
      first | (go_simp; done) | (go_simp; with_reducible rfl)
    try simp only [Act.put]
    refine' wpAnyH_take (i := 9) (v := _) rfl (by kernel_rfl) (by kernel_rfl) (by kernel_rfl) (fun _ _ _ h => h) (Or.inl ⟨by kernel_rfl, ?hya9⟩) (by assumption) ?resta9
    case hya9 =>
      intro W hSw
      (try dsimp only at hSw)
      first | (go_simp; done) | (go_simp; with_reducible rfl)
    try simp only [Act.put]
    refine' wpAnyH_take (i := 10) (v := _) rfl (by kernel_rfl) (by kernel_rfl) (by kernel_rfl) (fun _ _ _ h => h) (Or.inl ⟨by kernel_rfl, ?hya10⟩) (by assumption) ?resta10
    case hya10 =>
      intro W hSw
      (try dsimp only at hSw)
      first | (go_simp; done) | (go_simp; with_reducible rfl)
    try simp only [Act.put]
    refine' wpAnyH_take (i := 11) (v := _) rfl (by kernel_rfl) (by kernel_rfl) (by kernel_rfl) (fun _ _ _ h => h) (Or.inl ⟨by kernel_rfl, ?hya11⟩) (by assumption) ?resta11
    case hya11 =>
      intro W hSw
      (try dsimp only at hSw)
      first | (go_simp; done) | (go_simp; with_reducible rfl)
    try simp only [Act.put, List.getElem_toArray, List.getElem_cons_succ, List.getElem_cons_zero, List.setIfInBounds_toArray, List.set_cons_succ, List.set_cons_zero]
    refine' wpAnyH_take (i := 12) (v := _) rfl (by kernel_rfl) (by kernel_rfl) (by kernel_rfl) (fun _ _ _ h => h) (Or.inl ⟨by kernel_rfl, ?hya12⟩) (by assumption) ?resta12
    case hya12 =>
      intro W hSw
      (try dsimp only at hSw)
      first | (go_simp; done) | (go_simp; with_reducible rfl)
    try simp only [Act.put]
    refine' wpAnyH_take (i := 13) (v := _) rfl (by kernel_rfl) (by kernel_rfl) (by kernel_rfl) (fun _ _ _ h => h) (Or.inl ⟨by kernel_rfl, ?hya13⟩) (by assumption) ?resta13
    case hya13 =>
      intro W hSw
      (try dsimp only at hSw)
      first | (go_simp; done) | (go_simp; with_reducible rfl)
    try simp only [Act.put, List.getElem_toArray, List.getElem_cons_succ, List.getElem_cons_zero, List.setIfInBounds_toArray, List.set_cons_succ, List.set_cons_zero]
    refine wpAnyH_ready (rs := [8, 16]) (by kernel_rfl) (by simp) ?_
    refine (AllReadyH.cons (i := 8) (o := _) rfl (fun K hK => ?bra8) (AllReadyH.cons (i := 16) (o := _) rfl (fun K hK => ?bra16) AllReadyH.nil))
    case bra8 =>
      refine step_append_edgesU (by rfl) (.const (.slice none 0 0)) (.tmp 52) (by rfl) w7.heap.size (.slice none 0 0) [] (some ⟨eb, eo, none⟩) k xc (xl.take k) (by rfl) (by rfl) (EdOwn.zero _ _) (EdRow.of_edges ((HEa.out.on HBd.out).takeU (by omega))) HBd.out.size (by show 0 + k ≤ _; omega) ?_
      intro vwa8 wa8 ho hb hkp
      have HBwa8 := Lib.hid (HBd.out.trans hb)
      replace ho : EdOwn wa8 w7.heap.size vwa8 (xl.take k) := ho
      have HOwa8 := Lib.hid ho
      clear ho hb hkp
      refine hK.out _ _ (HS.out _ HBwa8.out) (fun hHeld => ?_)
      clear hK K
      try simp only [Act.put, List.getElem_toArray, List.getElem_cons_succ, List.getElem_cons_zero, List.setIfInBounds_toArray, List.set_cons_succ, List.set_cons_zero]
      refine wpAnyH_ready (rs := [14, 16]) (by kernel_rfl) (by simp) ?_
      refine (AllReadyH.cons (i := 14) (o := _) rfl (fun K hK => ?brax814) (AllReadyH.cons (i := 16) (o := _) rfl (fun K hK => ?brax816) AllReadyH.nil))
      case brax814 =>
        refine step_append_edgesU (by rfl) (.tmp 53) (.tmp 58) (by rfl) w7.heap.size vwa8 (xl.take k) (if xc = k + 1 then some ⟨eb, eo, none⟩ else some ⟨eb, eo + (k + 1) * 4, none⟩) (xn - (k + 1)) (xc - (k + 1)) (xl.drop (k + 1)) (by rfl) (by rfl) HOwa8.out (EdRow.of_edges (HDR.out _ HBwa8.out)) HBwa8.out.size (by rw [List.length_take, HXL.out]; omega) ?_
        intro vwax814 wax814 ho hb hkp
        have HBwax814 := Lib.hid (HBwa8.out.trans hb)
        replace ho : EdOwn wax814 w7.heap.size vwax814 (xl.take k ++ xl.drop (k + 1)) := ho
        obtain ⟨va0, vc0, hv, _⟩ := ho.sees (by rw [List.length_append, List.length_take, List.length_drop, HXL.out]; omega)
        obtain ⟨vn, hvn⟩ : ∃ vn, vn = (xl.take k ++ xl.drop (k + 1)).length := ⟨_, rfl⟩
        rw [← hvn] at hv
        subst hv
        have HVN := Lib.hid hvn
        clear hvn
        have HOwax814 := Lib.hid ho
        clear ho hb hkp
        refine hK.out _ _ (HS.out _ HBwax814.out) (fun hHeld => ?_)
        clear hK K
        try simp only [Act.put, List.setIfInBounds_toArray]
        refine' wpAnyH_take (i := 15) (v := _) rfl (by kernel_rfl) (by kernel_rfl) (by kernel_rfl) (fun _ _ _ h => h) (Or.inl ⟨by kernel_rfl, ?hyax8x1415⟩) (by assumption) ?restax8x1415
        case hyax8x1415 =>
          intro W hSw
          (try dsimp only at hSw)
          first | (go_simp; done) | (go_simp; with_reducible rfl)
        try simp only [Act.put, List.getElem_toArray, List.getElem_cons_succ, List.getElem_cons_zero, List.setIfInBounds_toArray, List.set_cons_succ, List.set_cons_zero]
        refine wpAnyH_ready (rs := [16]) (by kernel_rfl) (by simp) ?_
        refine (AllReadyH.cons (i := 16) (o := _) rfl (fun K hK => ?brax8x1416) AllReadyH.nil)
        case brax8x1416 =>
          go_simp
          obtain ⟨wax8x1416, hwax8x1416⟩ : ∃ W : World, W = wax814.alloc (.cells #[.int .i64 0, .string ⟨#[]⟩, .slice none 0 0] 39) := ⟨_, rfl⟩
          have HBwax8x1416 := Lib.hid (show Below w7.heap.size w7 wax8x1416 by rw [hwax8x1416]; exact HBwax814.out.alloc HBwax814.out.size _)
          have HNwax8x1416 := Lib.hid (show NBox wax8x1416 wax814.heap.size 0 ⟨#[]⟩ none 0 0 by rw [hwax8x1416]; exact heap_alloc_new wax814 _)
          have hgewax8x1416 : w7.heap.size ≤ wax814.heap.size := HBwax814.out.size
          have HOwax8x1416 := Lib.hid (show EdOwn wax8x1416 w7.heap.size (.slice va0 vn vc0) (xl.take k ++ xl.drop (k + 1)) by rw [hwax8x1416]; exact HOwax814.out.alloc _)
          rw [← hwax8x1416]
          clear hwax8x1416
          refine hK.out _ _ (HS.out _ HBwax8x1416.out) (fun hHeld => ?_)
          clear hK K
          obtain ⟨va, vc, hva, z1, z2, z3⟩ := fewer_node (w7 := w7) xk xp HOwax8x1416.out HNwax8x1416.out HBwax8x1416.out hgewax8x1416 (by rw [List.length_append, List.length_take, List.length_drop, HXL.out]; omega)
          rw [← HVN.out] at hva z1 z2 z3
          obtain ⟨e1, _, e3⟩ := Value.slice.inj hva
          subst e1 e3
          have HZ := Lib.hid (And.intro z1 (And.intro z2 z3))
          obtain ⟨c0, c1, c2⟩ := HNwax8x1416.out.cells
          have f0 := HNwax8x1416.out.thawV 0
          have f1 := HNwax8x1416.out.thawV 1
          have f2 := HNwax8x1416.out.thawV 2
          clear z1 z2 z3
          try simp only [Act.put]
          refine wpAnyH_done (by kernel_rfl) ?_ _
          unfold LastPost
          go_simp
          go_wp2_with fail
          all_goals
            go_meet
            case rel => exact ⟨_, _, _, _, rfl, Lib.hid HZ.out.1, Lib.hid HZ.out.2.1, Lib.hid HZ.out.2.2⟩
      case brax816 =>
        go_simp
        obtain ⟨wax816, hwax816⟩ : ∃ W : World, W = wa8.alloc (.cells #[.int .i64 0, .string ⟨#[]⟩, .slice none 0 0] 39) := ⟨_, rfl⟩
        have HBwax816 := Lib.hid (show Below w7.heap.size w7 wax816 by rw [hwax816]; exact HBwa8.out.alloc HBwa8.out.size _)
        have HNwax816 := Lib.hid (show NBox wax816 wa8.heap.size 0 ⟨#[]⟩ none 0 0 by rw [hwax816]; exact heap_alloc_new wa8 _)
        have hgewax816 : w7.heap.size ≤ wa8.heap.size := HBwa8.out.size
        have HOwax816 := Lib.hid (show EdOwn wax816 w7.heap.size vwa8 (xl.take k) by rw [hwax816]; exact HOwa8.out.alloc _)
        rw [← hwax816]
        clear hwax816
        refine hK.out _ _ (HS.out _ HBwax816.out) (fun hHeld => ?_)
        clear hK K
        try simp only [Act.put, List.getElem_toArray, List.getElem_cons_succ, List.getElem_cons_zero, List.setIfInBounds_toArray, List.set_cons_succ, List.set_cons_zero]
        refine wpAnyH_ready (rs := [14]) (by kernel_rfl) (by simp) ?_
        refine (AllReadyH.cons (i := 14) (o := _) rfl (fun K hK => ?brax8x1614) AllReadyH.nil)
        case brax8x1614 =>
          refine step_append_edgesU (by rfl) (.tmp 53) (.tmp 58) (by rfl) w7.heap.size vwa8 (xl.take k) (if xc = k + 1 then some ⟨eb, eo, none⟩ else some ⟨eb, eo + (k + 1) * 4, none⟩) (xn - (k + 1)) (xc - (k + 1)) (xl.drop (k + 1)) (by rfl) (by rfl) HOwax816.out (EdRow.of_edges (HDR.out _ HBwax816.out)) HBwax816.out.size (by rw [List.length_take, HXL.out]; omega) ?_
          intro vwax8x1614 wax8x1614 ho hb hkp
          have HBwax8x1614 := Lib.hid (HBwax816.out.trans hb)
          replace ho : EdOwn wax8x1614 w7.heap.size vwax8x1614 (xl.take k ++ xl.drop (k + 1)) := ho
          obtain ⟨va0, vc0, hv, _⟩ := ho.sees (by rw [List.length_append, List.length_take, List.length_drop, HXL.out]; omega)
          obtain ⟨vn, hvn⟩ : ∃ vn, vn = (xl.take k ++ xl.drop (k + 1)).length := ⟨_, rfl⟩
          rw [← hvn] at hv
          subst hv
          have HVN := Lib.hid hvn
          clear hvn
          have HOwax8x1614 := Lib.hid ho
          have HNwax8x1614 := Lib.hid (HNwax816.out.block (hkp.2 _ (Array.getElem?_eq_some_iff.1 HNwax816.out).1 (HOwax816.out.other HNwax816.out (by decide))))
          clear ho hb hkp
          refine hK.out _ _ (HS.out _ HBwax8x1614.out) (fun hHeld => ?_)
          clear hK K
          try simp only [Act.put, List.setIfInBounds_toArray]
          refine' wpAnyH_take (i := 15) (v := _) rfl (by kernel_rfl) (by kernel_rfl) (by kernel_rfl) (fun _ _ _ h => h) (Or.inl ⟨by kernel_rfl, ?hyax8x16x1415⟩) (by assumption) ?restax8x16x1415
          case hyax8x16x1415 =>
            intro W hSw
            (try dsimp only at hSw)
            first | (go_simp; done) | (go_simp; with_reducible rfl)
          obtain ⟨va, vc, hva, z1, z2, z3⟩ := fewer_node (w7 := w7) xk xp HOwax8x1614.out HNwax8x1614.out HBwax8x1614.out hgewax816 (by rw [List.length_append, List.length_take, List.length_drop, HXL.out]; omega)
          rw [← HVN.out] at hva z1 z2 z3
          obtain ⟨e1, _, e3⟩ := Value.slice.inj hva
          subst e1 e3
          have HZ := Lib.hid (And.intro z1 (And.intro z2 z3))
          obtain ⟨c0, c1, c2⟩ := HNwax8x1614.out.cells
          have f0 := HNwax8x1614.out.thawV 0
          have f1 := HNwax8x1614.out.thawV 1
          have f2 := HNwax8x1614.out.thawV 2
          clear z1 z2 z3
          try simp only [Act.put]
          refine wpAnyH_done (by kernel_rfl) ?_ _
          unfold LastPost
          go_simp
          go_wp2_with fail
          all_goals
            go_meet
            case rel => exact ⟨_, _, _, _, rfl, Lib.hid HZ.out.1, Lib.hid HZ.out.2.1, Lib.hid HZ.out.2.2⟩
    case bra16 =>
      go_simp
      obtain ⟨wa16, hwa16⟩ : ∃ W : World, W = wd.alloc (.cells #[.int .i64 0, .string ⟨#[]⟩, .slice none 0 0] 39) := ⟨_, rfl⟩
      have HBwa16 := Lib.hid (show Below w7.heap.size w7 wa16 by rw [hwa16]; exact HBd.out.alloc HBd.out.size _)
      have HNwa16 := Lib.hid (show NBox wa16 wd.heap.size 0 ⟨#[]⟩ none 0 0 by rw [hwa16]; exact heap_alloc_new wd _)
      have hgewa16 : w7.heap.size ≤ wd.heap.size := HBd.out.size
      rw [← hwa16]
      clear hwa16
      refine hK.out _ _ (HS.out _ HBwa16.out) (fun hHeld => ?_)
      clear hK K
      try simp only [Act.put, List.getElem_toArray, List.getElem_cons_succ, List.getElem_cons_zero, List.setIfInBounds_toArray, List.set_cons_succ, List.set_cons_zero]
      refine wpAnyH_ready (rs := [8]) (by kernel_rfl) (by simp) ?_
      refine (AllReadyH.cons (i := 8) (o := _) rfl (fun K hK => ?brax168) AllReadyH.nil)
      case brax168 =>
        refine step_append_edgesU (by rfl) (.const (.slice none 0 0)) (.tmp 52) (by rfl) w7.heap.size (.slice none 0 0) [] (some ⟨eb, eo, none⟩) k xc (xl.take k) (by rfl) (by rfl) (EdOwn.zero _ _) (EdRow.of_edges ((HEa.out.on HBwa16.out).takeU (by omega))) HBwa16.out.size (by show 0 + k ≤ _; omega) ?_
        intro vwax168 wax168 ho hb hkp
        have HBwax168 := Lib.hid (HBwa16.out.trans hb)
        replace ho : EdOwn wax168 w7.heap.size vwax168 (xl.take k) := ho
        have HOwax168 := Lib.hid ho
        have HNwax168 := Lib.hid (HNwa16.out.block (hkp.2 _ (Array.getElem?_eq_some_iff.1 HNwa16.out).1 (by simp [Value.ownBlock])))
        clear ho hb hkp
        refine hK.out _ _ (HS.out _ HBwax168.out) (fun hHeld => ?_)
        clear hK K
        try simp only [Act.put, List.getElem_toArray, List.getElem_cons_succ, List.getElem_cons_zero, List.setIfInBounds_toArray, List.set_cons_succ, List.set_cons_zero]
        refine wpAnyH_ready (rs := [14]) (by kernel_rfl) (by simp) ?_
        refine (AllReadyH.cons (i := 14) (o := _) rfl (fun K hK => ?brax16x814) AllReadyH.nil)
        case brax16x814 =>
          refine step_append_edgesU (by rfl) (.tmp 53) (.tmp 58) (by rfl) w7.heap.size vwax168 (xl.take k) (if xc = k + 1 then some ⟨eb, eo, none⟩ else some ⟨eb, eo + (k + 1) * 4, none⟩) (xn - (k + 1)) (xc - (k + 1)) (xl.drop (k + 1)) (by rfl) (by rfl) HOwax168.out (EdRow.of_edges (HDR.out _ HBwax168.out)) HBwax168.out.size (by rw [List.length_take, HXL.out]; omega) ?_
          intro vwax16x814 wax16x814 ho hb hkp
          have HBwax16x814 := Lib.hid (HBwax168.out.trans hb)
          replace ho : EdOwn wax16x814 w7.heap.size vwax16x814 (xl.take k ++ xl.drop (k + 1)) := ho
          obtain ⟨va0, vc0, hv, _⟩ := ho.sees (by rw [List.length_append, List.length_take, List.length_drop, HXL.out]; omega)
          obtain ⟨vn, hvn⟩ : ∃ vn, vn = (xl.take k ++ xl.drop (k + 1)).length := ⟨_, rfl⟩
          rw [← hvn] at hv
          subst hv
          have HVN := Lib.hid hvn
          clear hvn
          have HOwax16x814 := Lib.hid ho
          have HNwax16x814 := Lib.hid (HNwax168.out.block (hkp.2 _ (Array.getElem?_eq_some_iff.1 HNwax168.out).1 (HOwax168.out.other HNwax168.out (by decide))))
          clear ho hb hkp
          refine hK.out _ _ (HS.out _ HBwax16x814.out) (fun hHeld => ?_)
          clear hK K
          try simp only [Act.put, List.setIfInBounds_toArray]
          refine' wpAnyH_take (i := 15) (v := _) rfl (by kernel_rfl) (by kernel_rfl) (by kernel_rfl) (fun _ _ _ h => h) (Or.inl ⟨by kernel_rfl, ?hyax16x8x1415⟩) (by assumption) ?restax16x8x1415
          case hyax16x8x1415 =>
            intro W hSw
            (try dsimp only at hSw)
            first | (go_simp; done) | (go_simp; with_reducible rfl)
          obtain ⟨va, vc, hva, z1, z2, z3⟩ := fewer_node (w7 := w7) xk xp HOwax16x814.out HNwax16x814.out HBwax16x814.out hgewa16 (by rw [List.length_append, List.length_take, List.length_drop, HXL.out]; omega)
          rw [← HVN.out] at hva z1 z2 z3
          obtain ⟨e1, _, e3⟩ := Value.slice.inj hva
          subst e1 e3
          have HZ := Lib.hid (And.intro z1 (And.intro z2 z3))
          obtain ⟨c0, c1, c2⟩ := HNwax16x814.out.cells
          have f0 := HNwax16x814.out.thawV 0
          have f1 := HNwax16x814.out.thawV 1
          have f2 := HNwax16x814.out.thawV 2
          clear z1 z2 z3
          try simp only [Act.put]
          refine wpAnyH_done (by kernel_rfl) ?_ _
          unfold LastPost
          go_simp
          go_wp2_with fail
          all_goals
            go_meet
            case rel => exact ⟨_, _, _, _, rfl, Lib.hid HZ.out.1, Lib.hid HZ.out.2.1, Lib.hid HZ.out.2.2⟩
  case rest =>
    obtain ⟨g11, va, vn, vc, e11, HN8, HE8, HB8⟩ := hcut
    subst e11
    obtain ⟨w8, hw8⟩ : ∃ w8 : World, w8 = wc := ⟨_, rfl⟩
    subst hw8
    have HG8 := Lib.hid (HGa.out.on HB8.out)
    have HX8 := Lib.hid (HBX.out.block (HB8.out.block g9 (Array.getElem?_eq_some_iff.1 HBX.out).1))
    obtain ⟨rs, hrow, hrl, hrd⟩ := HG8.out.bk.nodes.rows
    rw [HNL.out] at hrl
    have HROW := Lib.hid hrow
    have HRD := Lib.hid hrd
    obtain ⟨T0, hT0⟩ : ∃ T0, T0 = lessB ⟨xk, xp.toList, xl⟩ k := ⟨_, rfl⟩
    have HLA := Lib.hid (show (⟨xk, xp, va, vn, vc⟩ : NR).k = T0.kind ∧ (⟨xk, xp, va, vn, vc⟩ : NR).s.toList = T0.peer ∧ (⟨xk, xp, va, vn, vc⟩ : NR).s.size ≤ maxLen ∧ Edges w8 w8.heap.size va vn T0.arms from ⟨by rw [hT0]; rfl, by rw [hT0]; rfl, HXS.out, by rw [hT0]; exact HE8.out⟩)
    have hml : (b.nodes ++ [T0]).length = nn + 1 := by rw [List.length_append, HNL.out]; rfl
    have HT0 := Lib.hid hT0
    have HML := Lib.hid hml
    clear hrow hrd hT0 HGa HBX HE8 HS
    have HS2 := Lib.hid (fun (W : World) (hW : Below w8.heap.size w8 W) => show W.cell? ⟨g5, 0, none⟩ = some (.slice (some ⟨nb, no, none⟩) nn nc) ∧ W.cell? ⟨g11, 0, none⟩ = some (.int .i64 xk) ∧ W.cell? ⟨g11, 1, none⟩ = some (.string xp) ∧ W.cell? ⟨g11, 2, none⟩ = some (.slice va vn vc) from
      ⟨(HG8.out.on hW).cells.1, (HN8.out.block (hW.block g11 (Array.getElem?_eq_some_iff.1 HN8.out).1)).cells⟩)
    go_upto_region 10 with fail
    rw [← HNL.out] at hrl
    go_cut [12] (fun s wx => ∃ (g12 : Nat) (za : Option Addr) (zc : Nat), s = .pointer (some ⟨g12, 0, none⟩) ∧ Hid (BBox wx g12 za (nn + 1) zc none 0 0 none 0 0) ∧ Hid (Nodes wx wx.heap.size za (nn + 1) (b.nodes ++ [T0])) ∧ Hid (Below w8.heap.size w8 wx))
    case first =>
      have HBe := Lib.hid (show Below w8.heap.size w8 w8.drew from bel_drewU (Below.refl _ _))
      obtain ⟨we, hwe⟩ : ∃ we : World, we = w8.drew := ⟨_, rfl⟩
      rw [← hwe] at HBe
      refine wp_region_last2 (S := fun W => W.cell? ⟨g5, 0, none⟩ = some (.slice (some ⟨nb, no, none⟩) nn nc) ∧ W.cell? ⟨g11, 0, none⟩ = some (.int .i64 xk) ∧ W.cell? ⟨g11, 1, none⟩ = some (.string xp) ∧ W.cell? ⟨g11, 2, none⟩ = some (.slice va vn vc)) rfl (by kernel_rfl) (by kernel_rfl) (by rw [← hwe]; exact HS2.out _ HBe.out) (fun hHeld => ?_)
      simp only [List.pop_toArray, List.dropLast_cons_cons, List.dropLast_singleton]
      rw [← hwe]
      rw [← hwe] at hHeld
      clear hwe
      try simp only [Act.put, List.setIfInBounds_toArray]
      refine' wpAnyH_take (i := 0) (v := _) rfl (by kernel_rfl) (by kernel_rfl) (by kernel_rfl) (fun _ _ _ h => h) (Or.inl ⟨by kernel_rfl, ?hyc0⟩) (by assumption) ?restc0
      case hyc0 =>
        intro W hSw
        (try dsimp only at hSw)
        first | (go_simp; done) | (go_simp; with_reducible rfl)
      try simp only [Act.put]
      refine' wpAnyH_take (i := 1) (v := _) rfl (by kernel_rfl) (by kernel_rfl) (by kernel_rfl) (fun _ _ _ h => h) (Or.inl ⟨by kernel_rfl, ?hyc1⟩) (by assumption) ?restc1
      case hyc1 =>
        intro W hSw
        (try dsimp only at hSw)
        first | (go_simp; done) | (go_simp; with_reducible rfl)
      try simp only [Act.put]
      refine' wpAnyH_take (i := 3) (v := _) rfl (by kernel_rfl) (by kernel_rfl) (by kernel_rfl) (fun _ _ _ h => h) (Or.inl ⟨by kernel_rfl, ?hyc3⟩) (by assumption) ?restc3
      case hyc3 =>
        intro W hSw
        (try dsimp only at hSw)
        first | (go_simp; done) | (go_simp; with_reducible rfl)
      try simp only [Act.put, List.getElem_toArray, List.getElem_cons_succ, List.getElem_cons_zero, List.setIfInBounds_toArray, List.set_cons_succ, List.set_cons_zero]
      refine wpAnyH_ready (rs := [2, 4, 7]) (by kernel_rfl) (by simp) ?_
      refine (AllReadyH.cons (i := 2) (o := _) rfl (fun K hK => ?brc2) (AllReadyH.cons (i := 4) (o := _) rfl (fun K hK => ?brc4) (AllReadyH.cons (i := 7) (o := _) rfl (fun K hK => ?brc7) AllReadyH.nil)))
      case brc2 =>
        refine step_append_nodesU (by rfl) (.const (.slice none 0 0)) (.tmp 62) (by rfl) w8.heap.size (.slice none 0 0) [] (some ⟨nb, no, none⟩) nn nc rs (by rfl) (by rfl) (NRaw.zero _ _) (HROW.out.on HG8.out.bk.nodes HBe.out) HBe.out.size (by show 0 + nn ≤ _; omega) ?_
        intro vwc2 wc2 ho hb hkp
        have HBwc2 := Lib.hid (HBe.out.trans hb)
        replace ho : NRaw wc2 w8.heap.size vwc2 rs := ho
        have HOwc2 := Lib.hid ho
        clear ho hb hkp
        refine hK.out _ _ (HS2.out _ HBwc2.out) (fun hHeld => ?_)
        clear hK K
        try simp only [Act.put, List.getElem_toArray, List.getElem_cons_succ, List.getElem_cons_zero, List.setIfInBounds_toArray, List.set_cons_succ, List.set_cons_zero]
        refine wpAnyH_ready (rs := [4, 7]) (by kernel_rfl) (by simp) ?_
        refine (AllReadyH.cons (i := 4) (o := _) rfl (fun K hK => ?brcx24) (AllReadyH.cons (i := 7) (o := _) rfl (fun K hK => ?brcx27) AllReadyH.nil))
        case brcx24 =>
          go_simp
          obtain ⟨wcx24, hwcx24⟩ : ∃ W : World, W = wc2.alloc (.cells #[.int .i64 xk, .string xp, .slice va vn vc] 39) := ⟨_, rfl⟩
          have HBwcx24 := Lib.hid (show Below w8.heap.size w8 wcx24 by rw [hwcx24]; exact HBwc2.out.alloc HBwc2.out.size _)
          have HTwcx24 := Lib.hid (show Below wc2.heap.size wc2 wcx24 by rw [hwcx24]; exact tu1 wc2 _)
          have HAwcx24 := Lib.hid (show wcx24.heap[wc2.heap.size]? = some (.cells #[.int .i64 xk, .string xp, .slice va vn vc] 39 (0, 0)) by rw [hwcx24]; exact heap_alloc_new wc2 _)
          have HOwcx24 := Lib.hid (HOwc2.out.kept HTwcx24.out)
          rw [← hwcx24]
          clear hwcx24
          refine hK.out _ _ (HS2.out _ HBwcx24.out) (fun hHeld => ?_)
          clear hK K
          try simp only [Act.put, List.getElem_toArray, List.getElem_cons_succ, List.getElem_cons_zero, List.setIfInBounds_toArray, List.set_cons_succ, List.set_cons_zero]
          refine wpAnyH_ready (rs := [5, 7]) (by kernel_rfl) (by simp) ?_
          refine (AllReadyH.cons (i := 5) (o := _) rfl (fun K hK => ?brcx2x45) (AllReadyH.cons (i := 7) (o := _) rfl (fun K hK => ?brcx2x47) AllReadyH.nil))
          case brcx2x45 =>
            refine step_append_nodesU (by rfl) (.tmp 63) (.tmp 65) (by rfl) w8.heap.size vwc2 rs (some ⟨wc2.heap.size, 0, none⟩) 1 1 [⟨xk, xp, va, vn, vc⟩] (by rfl) (by rfl) HOwcx24.out (NRow.one (r := ⟨xk, xp, va, vn, vc⟩) HAwcx24.out) HBwcx24.out.size (by rw [hrl, HNL.out]; omega) ?_
            intro vwcx2x45 wcx2x45 ho hb hkp
            have HBwcx2x45 := Lib.hid (HBwcx24.out.trans hb)
            replace ho : NRaw wcx2x45 w8.heap.size vwcx2x45 (rs ++ [(⟨xk, xp, va, vn, vc⟩ : NR)]) := ho
            obtain ⟨va0, vc0, hv⟩ := ho.form
            rw [show (rs ++ [(⟨xk, xp, va, vn, vc⟩ : NR)]).length = nn + 1 by rw [List.length_append, hrl, HNL.out]; rfl] at hv
            subst hv
            have HOwcx2x45 := Lib.hid ho
            clear ho hb hkp
            refine hK.out _ _ (HS2.out _ HBwcx2x45.out) (fun hHeld => ?_)
            clear hK K
            try simp only [Act.put, List.setIfInBounds_toArray]
            refine' wpAnyH_take (i := 6) (v := _) rfl (by kernel_rfl) (by kernel_rfl) (by kernel_rfl) (fun _ _ _ h => h) (Or.inl ⟨by kernel_rfl, ?hycx2x4x56⟩) (by assumption) ?restcx2x4x56
            case hycx2x4x56 =>
              intro W hSw
              (try dsimp only at hSw)
              first | (go_simp; done) | (go_simp; with_reducible rfl)
            try simp only [Act.put, List.getElem_toArray, List.getElem_cons_succ, List.getElem_cons_zero, List.setIfInBounds_toArray, List.set_cons_succ, List.set_cons_zero]
            refine wpAnyH_ready (rs := [7]) (by kernel_rfl) (by simp) ?_
            refine (AllReadyH.cons (i := 7) (o := _) rfl (fun K hK => ?brcx2x4x57) AllReadyH.nil)
            case brcx2x4x57 =>
              go_simp
              obtain ⟨wcx2x4x57, hwcx2x4x57⟩ : ∃ W : World, W = wcx2x45.alloc (.cells #[.slice none 0 0, .slice none 0 0, .slice none 0 0] 26) := ⟨_, rfl⟩
              have HBwcx2x4x57 := Lib.hid (show Below w8.heap.size w8 wcx2x4x57 by rw [hwcx2x4x57]; exact HBwcx2x45.out.alloc HBwcx2x45.out.size _)
              have HTwcx2x4x57 := Lib.hid (show Below wcx2x45.heap.size wcx2x45 wcx2x4x57 by rw [hwcx2x4x57]; exact tu1 wcx2x45 _)
              have HCwcx2x4x57 := Lib.hid (show BBox wcx2x4x57 wcx2x45.heap.size none 0 0 none 0 0 none 0 0 by rw [hwcx2x4x57]; exact heap_alloc_new wcx2x45 _)
              have hgewcx2x4x57 : w8.heap.size ≤ wcx2x45.heap.size := HBwcx2x45.out.size
              have HOwcx2x4x57 := Lib.hid (HOwcx2x45.out.kept HTwcx2x4x57.out)
              rw [← hwcx2x4x57]
              clear hwcx2x4x57
              refine hK.out _ _ (HS2.out _ HBwcx2x4x57.out) (fun hHeld => ?_)
              clear hK K
              obtain ⟨za, zc, hza, z1, z2, z3⟩ := fewer_end (t0 := T0) HOwcx2x4x57.out HCwcx2x4x57.out HBwcx2x4x57.out hgewcx2x4x57 hrl (by rw [HNL.out]; omega) HRD.out HLA.out
              rw [hml] at hza z1 z2 z3
              obtain ⟨e1, _, e3⟩ := Value.slice.inj hza
              subst e1 e3
              have HZ := Lib.hid (And.intro z1 (And.intro z2 z3))
              obtain ⟨c0, c1, c2⟩ := HCwcx2x4x57.out.cells
              have f0 := HCwcx2x4x57.out.thaw 0
              have f1 := HCwcx2x4x57.out.thaw 1
              have f2 := HCwcx2x4x57.out.thaw 2
              clear z1 z2 z3
              try simp only [Act.put]
              refine wpAnyH_done (by kernel_rfl) ?_ _
              unfold LastPost
              go_simp
              go_wp2_with fail
              go_meet
              case rel => exact ⟨_, _, _, rfl, Lib.hid HZ.out.1, Lib.hid HZ.out.2.1, Lib.hid HZ.out.2.2⟩
          case brcx2x47 =>
            go_simp
            obtain ⟨wcx2x47, hwcx2x47⟩ : ∃ W : World, W = wcx24.alloc (.cells #[.slice none 0 0, .slice none 0 0, .slice none 0 0] 26) := ⟨_, rfl⟩
            have HBwcx2x47 := Lib.hid (show Below w8.heap.size w8 wcx2x47 by rw [hwcx2x47]; exact HBwcx24.out.alloc HBwcx24.out.size _)
            have HTwcx2x47 := Lib.hid (show Below wcx24.heap.size wcx24 wcx2x47 by rw [hwcx2x47]; exact tu1 wcx24 _)
            have HCwcx2x47 := Lib.hid (show BBox wcx2x47 wcx24.heap.size none 0 0 none 0 0 none 0 0 by rw [hwcx2x47]; exact heap_alloc_new wcx24 _)
            have hgewcx2x47 : w8.heap.size ≤ wcx24.heap.size := HBwcx24.out.size
            have HAwcx2x47 := Lib.hid ((HTwcx2x47.out.block _ (Array.getElem?_eq_some_iff.1 HAwcx24.out).1).trans HAwcx24.out)
            have HOwcx2x47 := Lib.hid (HOwcx24.out.kept HTwcx2x47.out)
            rw [← hwcx2x47]
            clear hwcx2x47
            refine hK.out _ _ (HS2.out _ HBwcx2x47.out) (fun hHeld => ?_)
            clear hK K
            try simp only [Act.put, List.getElem_toArray, List.getElem_cons_succ, List.getElem_cons_zero, List.setIfInBounds_toArray, List.set_cons_succ, List.set_cons_zero]
            refine wpAnyH_ready (rs := [5]) (by kernel_rfl) (by simp) ?_
            refine (AllReadyH.cons (i := 5) (o := _) rfl (fun K hK => ?brcx2x4x75) AllReadyH.nil)
            case brcx2x4x75 =>
              refine step_append_nodesU (by rfl) (.tmp 63) (.tmp 65) (by rfl) w8.heap.size vwc2 rs (some ⟨wc2.heap.size, 0, none⟩) 1 1 [⟨xk, xp, va, vn, vc⟩] (by rfl) (by rfl) HOwcx2x47.out (NRow.one (r := ⟨xk, xp, va, vn, vc⟩) HAwcx2x47.out) HBwcx2x47.out.size (by rw [hrl, HNL.out]; omega) ?_
              intro vwcx2x4x75 wcx2x4x75 ho hb hkp
              have HBwcx2x4x75 := Lib.hid (HBwcx2x47.out.trans hb)
              replace ho : NRaw wcx2x4x75 w8.heap.size vwcx2x4x75 (rs ++ [(⟨xk, xp, va, vn, vc⟩ : NR)]) := ho
              obtain ⟨va0, vc0, hv⟩ := ho.form
              rw [show (rs ++ [(⟨xk, xp, va, vn, vc⟩ : NR)]).length = nn + 1 by rw [List.length_append, hrl, HNL.out]; rfl] at hv
              subst hv
              have HOwcx2x4x75 := Lib.hid ho
              have HCwcx2x4x75 := Lib.hid (HCwcx2x47.out.stay (hkp.2 _ HCwcx2x47.out.lt (HOwcx2x47.out.other HCwcx2x47.out (by decide))))
              clear ho hb hkp
              refine hK.out _ _ (HS2.out _ HBwcx2x4x75.out) (fun hHeld => ?_)
              clear hK K
              try simp only [Act.put, List.setIfInBounds_toArray]
              refine' wpAnyH_take (i := 6) (v := _) rfl (by kernel_rfl) (by kernel_rfl) (by kernel_rfl) (fun _ _ _ h => h) (Or.inl ⟨by kernel_rfl, ?hycx2x4x7x56⟩) (by assumption) ?restcx2x4x7x56
              case hycx2x4x7x56 =>
                intro W hSw
                (try dsimp only at hSw)
                first | (go_simp; done) | (go_simp; with_reducible rfl)
              obtain ⟨za, zc, hza, z1, z2, z3⟩ := fewer_end (t0 := T0) HOwcx2x4x75.out HCwcx2x4x75.out HBwcx2x4x75.out hgewcx2x47 hrl (by rw [HNL.out]; omega) HRD.out HLA.out
              rw [hml] at hza z1 z2 z3
              obtain ⟨e1, _, e3⟩ := Value.slice.inj hza
              subst e1 e3
              have HZ := Lib.hid (And.intro z1 (And.intro z2 z3))
              obtain ⟨c0, c1, c2⟩ := HCwcx2x4x75.out.cells
              have f0 := HCwcx2x4x75.out.thaw 0
              have f1 := HCwcx2x4x75.out.thaw 1
              have f2 := HCwcx2x4x75.out.thaw 2
              clear z1 z2 z3
              try simp only [Act.put]
              refine wpAnyH_done (by kernel_rfl) ?_ _
              unfold LastPost
              go_simp
              go_wp2_with fail
              go_meet
              case rel => exact ⟨_, _, _, rfl, Lib.hid HZ.out.1, Lib.hid HZ.out.2.1, Lib.hid HZ.out.2.2⟩
        case brcx27 =>
          go_simp
          obtain ⟨wcx27, hwcx27⟩ : ∃ W : World, W = wc2.alloc (.cells #[.slice none 0 0, .slice none 0 0, .slice none 0 0] 26) := ⟨_, rfl⟩
          have HBwcx27 := Lib.hid (show Below w8.heap.size w8 wcx27 by rw [hwcx27]; exact HBwc2.out.alloc HBwc2.out.size _)
          have HTwcx27 := Lib.hid (show Below wc2.heap.size wc2 wcx27 by rw [hwcx27]; exact tu1 wc2 _)
          have HCwcx27 := Lib.hid (show BBox wcx27 wc2.heap.size none 0 0 none 0 0 none 0 0 by rw [hwcx27]; exact heap_alloc_new wc2 _)
          have hgewcx27 : w8.heap.size ≤ wc2.heap.size := HBwc2.out.size
          have HOwcx27 := Lib.hid (HOwc2.out.kept HTwcx27.out)
          rw [← hwcx27]
          clear hwcx27
          refine hK.out _ _ (HS2.out _ HBwcx27.out) (fun hHeld => ?_)
          clear hK K
          try simp only [Act.put, List.getElem_toArray, List.getElem_cons_succ, List.getElem_cons_zero, List.setIfInBounds_toArray, List.set_cons_succ, List.set_cons_zero]
          refine wpAnyH_ready (rs := [4]) (by kernel_rfl) (by simp) ?_
          refine (AllReadyH.cons (i := 4) (o := _) rfl (fun K hK => ?brcx2x74) AllReadyH.nil)
          case brcx2x74 =>
            go_simp
            obtain ⟨wcx2x74, hwcx2x74⟩ : ∃ W : World, W = wcx27.alloc (.cells #[.int .i64 xk, .string xp, .slice va vn vc] 39) := ⟨_, rfl⟩
            have HBwcx2x74 := Lib.hid (show Below w8.heap.size w8 wcx2x74 by rw [hwcx2x74]; exact HBwcx27.out.alloc HBwcx27.out.size _)
            have HTwcx2x74 := Lib.hid (show Below wcx27.heap.size wcx27 wcx2x74 by rw [hwcx2x74]; exact tu1 wcx27 _)
            have HAwcx2x74 := Lib.hid (show wcx2x74.heap[wcx27.heap.size]? = some (.cells #[.int .i64 xk, .string xp, .slice va vn vc] 39 (0, 0)) by rw [hwcx2x74]; exact heap_alloc_new wcx27 _)
            have HCwcx2x74 := Lib.hid (HCwcx27.out.stay (HTwcx2x74.out.block _ HCwcx27.out.lt))
            have HOwcx2x74 := Lib.hid (HOwcx27.out.kept HTwcx2x74.out)
            rw [← hwcx2x74]
            clear hwcx2x74
            refine hK.out _ _ (HS2.out _ HBwcx2x74.out) (fun hHeld => ?_)
            clear hK K
            try simp only [Act.put, List.getElem_toArray, List.getElem_cons_succ, List.getElem_cons_zero, List.setIfInBounds_toArray, List.set_cons_succ, List.set_cons_zero]
            refine wpAnyH_ready (rs := [5]) (by kernel_rfl) (by simp) ?_
            refine (AllReadyH.cons (i := 5) (o := _) rfl (fun K hK => ?brcx2x7x45) AllReadyH.nil)
            case brcx2x7x45 =>
              refine step_append_nodesU (by rfl) (.tmp 63) (.tmp 65) (by rfl) w8.heap.size vwc2 rs (some ⟨wcx27.heap.size, 0, none⟩) 1 1 [⟨xk, xp, va, vn, vc⟩] (by rfl) (by rfl) HOwcx2x74.out (NRow.one (r := ⟨xk, xp, va, vn, vc⟩) HAwcx2x74.out) HBwcx2x74.out.size (by rw [hrl, HNL.out]; omega) ?_
              intro vwcx2x7x45 wcx2x7x45 ho hb hkp
              have HBwcx2x7x45 := Lib.hid (HBwcx2x74.out.trans hb)
              replace ho : NRaw wcx2x7x45 w8.heap.size vwcx2x7x45 (rs ++ [(⟨xk, xp, va, vn, vc⟩ : NR)]) := ho
              obtain ⟨va0, vc0, hv⟩ := ho.form
              rw [show (rs ++ [(⟨xk, xp, va, vn, vc⟩ : NR)]).length = nn + 1 by rw [List.length_append, hrl, HNL.out]; rfl] at hv
              subst hv
              have HOwcx2x7x45 := Lib.hid ho
              have HCwcx2x7x45 := Lib.hid (HCwcx2x74.out.stay (hkp.2 _ HCwcx2x74.out.lt (HOwcx2x74.out.other HCwcx2x74.out (by decide))))
              clear ho hb hkp
              refine hK.out _ _ (HS2.out _ HBwcx2x7x45.out) (fun hHeld => ?_)
              clear hK K
              try simp only [Act.put, List.setIfInBounds_toArray]
              refine' wpAnyH_take (i := 6) (v := _) rfl (by kernel_rfl) (by kernel_rfl) (by kernel_rfl) (fun _ _ _ h => h) (Or.inl ⟨by kernel_rfl, ?hycx2x7x4x56⟩) (by assumption) ?restcx2x7x4x56
              case hycx2x7x4x56 =>
                intro W hSw
                (try dsimp only at hSw)
                first | (go_simp; done) | (go_simp; with_reducible rfl)
              obtain ⟨za, zc, hza, z1, z2, z3⟩ := fewer_end (t0 := T0) HOwcx2x7x45.out HCwcx2x7x45.out HBwcx2x7x45.out hgewcx27 hrl (by rw [HNL.out]; omega) HRD.out HLA.out
              rw [hml] at hza z1 z2 z3
              obtain ⟨e1, _, e3⟩ := Value.slice.inj hza
              subst e1 e3
              have HZ := Lib.hid (And.intro z1 (And.intro z2 z3))
              obtain ⟨c0, c1, c2⟩ := HCwcx2x7x45.out.cells
              have f0 := HCwcx2x7x45.out.thaw 0
              have f1 := HCwcx2x7x45.out.thaw 1
              have f2 := HCwcx2x7x45.out.thaw 2
              clear z1 z2 z3
              try simp only [Act.put]
              refine wpAnyH_done (by kernel_rfl) ?_ _
              unfold LastPost
              go_simp
              go_wp2_with fail
              go_meet
              case rel => exact ⟨_, _, _, rfl, Lib.hid HZ.out.1, Lib.hid HZ.out.2.1, Lib.hid HZ.out.2.2⟩
      case brc4 =>
        go_simp
        obtain ⟨wc4, hwc4⟩ : ∃ W : World, W = we.alloc (.cells #[.int .i64 xk, .string xp, .slice va vn vc] 39) := ⟨_, rfl⟩
        have HBwc4 := Lib.hid (show Below w8.heap.size w8 wc4 by rw [hwc4]; exact HBe.out.alloc HBe.out.size _)
        have HTwc4 := Lib.hid (show Below we.heap.size we wc4 by rw [hwc4]; exact tu1 we _)
        have HAwc4 := Lib.hid (show wc4.heap[we.heap.size]? = some (.cells #[.int .i64 xk, .string xp, .slice va vn vc] 39 (0, 0)) by rw [hwc4]; exact heap_alloc_new we _)
        rw [← hwc4]
        clear hwc4
        refine hK.out _ _ (HS2.out _ HBwc4.out) (fun hHeld => ?_)
        clear hK K
        try simp only [Act.put, List.getElem_toArray, List.getElem_cons_succ, List.getElem_cons_zero, List.setIfInBounds_toArray, List.set_cons_succ, List.set_cons_zero]
        refine wpAnyH_ready (rs := [2, 7]) (by kernel_rfl) (by simp) ?_
        refine (AllReadyH.cons (i := 2) (o := _) rfl (fun K hK => ?brcx42) (AllReadyH.cons (i := 7) (o := _) rfl (fun K hK => ?brcx47) AllReadyH.nil))
        case brcx42 =>
          refine step_append_nodesU (by rfl) (.const (.slice none 0 0)) (.tmp 62) (by rfl) w8.heap.size (.slice none 0 0) [] (some ⟨nb, no, none⟩) nn nc rs (by rfl) (by rfl) (NRaw.zero _ _) (HROW.out.on HG8.out.bk.nodes HBwc4.out) HBwc4.out.size (by show 0 + nn ≤ _; omega) ?_
          intro vwcx42 wcx42 ho hb hkp
          have HBwcx42 := Lib.hid (HBwc4.out.trans hb)
          replace ho : NRaw wcx42 w8.heap.size vwcx42 rs := ho
          have HOwcx42 := Lib.hid ho
          have HAwcx42 := Lib.hid ((hkp.2 _ (Array.getElem?_eq_some_iff.1 HAwc4.out).1 (by simp [Value.ownBlock])).trans HAwc4.out)
          clear ho hb hkp
          refine hK.out _ _ (HS2.out _ HBwcx42.out) (fun hHeld => ?_)
          clear hK K
          try simp only [Act.put, List.getElem_toArray, List.getElem_cons_succ, List.getElem_cons_zero, List.setIfInBounds_toArray, List.set_cons_succ, List.set_cons_zero]
          refine wpAnyH_ready (rs := [5, 7]) (by kernel_rfl) (by simp) ?_
          refine (AllReadyH.cons (i := 5) (o := _) rfl (fun K hK => ?brcx4x25) (AllReadyH.cons (i := 7) (o := _) rfl (fun K hK => ?brcx4x27) AllReadyH.nil))
          case brcx4x25 =>
            refine step_append_nodesU (by rfl) (.tmp 63) (.tmp 65) (by rfl) w8.heap.size vwcx42 rs (some ⟨we.heap.size, 0, none⟩) 1 1 [⟨xk, xp, va, vn, vc⟩] (by rfl) (by rfl) HOwcx42.out (NRow.one (r := ⟨xk, xp, va, vn, vc⟩) HAwcx42.out) HBwcx42.out.size (by rw [hrl, HNL.out]; omega) ?_
            intro vwcx4x25 wcx4x25 ho hb hkp
            have HBwcx4x25 := Lib.hid (HBwcx42.out.trans hb)
            replace ho : NRaw wcx4x25 w8.heap.size vwcx4x25 (rs ++ [(⟨xk, xp, va, vn, vc⟩ : NR)]) := ho
            obtain ⟨va0, vc0, hv⟩ := ho.form
            rw [show (rs ++ [(⟨xk, xp, va, vn, vc⟩ : NR)]).length = nn + 1 by rw [List.length_append, hrl, HNL.out]; rfl] at hv
            subst hv
            have HOwcx4x25 := Lib.hid ho
            clear ho hb hkp
            refine hK.out _ _ (HS2.out _ HBwcx4x25.out) (fun hHeld => ?_)
            clear hK K
            try simp only [Act.put, List.setIfInBounds_toArray]
            refine' wpAnyH_take (i := 6) (v := _) rfl (by kernel_rfl) (by kernel_rfl) (by kernel_rfl) (fun _ _ _ h => h) (Or.inl ⟨by kernel_rfl, ?hycx4x2x56⟩) (by assumption) ?restcx4x2x56
            case hycx4x2x56 =>
              intro W hSw
              (try dsimp only at hSw)
              first | (go_simp; done) | (go_simp; with_reducible rfl)
            try simp only [Act.put, List.getElem_toArray, List.getElem_cons_succ, List.getElem_cons_zero, List.setIfInBounds_toArray, List.set_cons_succ, List.set_cons_zero]
            refine wpAnyH_ready (rs := [7]) (by kernel_rfl) (by simp) ?_
            refine (AllReadyH.cons (i := 7) (o := _) rfl (fun K hK => ?brcx4x2x57) AllReadyH.nil)
            case brcx4x2x57 =>
              go_simp
              obtain ⟨wcx4x2x57, hwcx4x2x57⟩ : ∃ W : World, W = wcx4x25.alloc (.cells #[.slice none 0 0, .slice none 0 0, .slice none 0 0] 26) := ⟨_, rfl⟩
              have HBwcx4x2x57 := Lib.hid (show Below w8.heap.size w8 wcx4x2x57 by rw [hwcx4x2x57]; exact HBwcx4x25.out.alloc HBwcx4x25.out.size _)
              have HTwcx4x2x57 := Lib.hid (show Below wcx4x25.heap.size wcx4x25 wcx4x2x57 by rw [hwcx4x2x57]; exact tu1 wcx4x25 _)
              have HCwcx4x2x57 := Lib.hid (show BBox wcx4x2x57 wcx4x25.heap.size none 0 0 none 0 0 none 0 0 by rw [hwcx4x2x57]; exact heap_alloc_new wcx4x25 _)
              have hgewcx4x2x57 : w8.heap.size ≤ wcx4x25.heap.size := HBwcx4x25.out.size
              have HOwcx4x2x57 := Lib.hid (HOwcx4x25.out.kept HTwcx4x2x57.out)
              rw [← hwcx4x2x57]
              clear hwcx4x2x57
              refine hK.out _ _ (HS2.out _ HBwcx4x2x57.out) (fun hHeld => ?_)
              clear hK K
              obtain ⟨za, zc, hza, z1, z2, z3⟩ := fewer_end (t0 := T0) HOwcx4x2x57.out HCwcx4x2x57.out HBwcx4x2x57.out hgewcx4x2x57 hrl (by rw [HNL.out]; omega) HRD.out HLA.out
              rw [hml] at hza z1 z2 z3
              obtain ⟨e1, _, e3⟩ := Value.slice.inj hza
              subst e1 e3
              have HZ := Lib.hid (And.intro z1 (And.intro z2 z3))
              obtain ⟨c0, c1, c2⟩ := HCwcx4x2x57.out.cells
              have f0 := HCwcx4x2x57.out.thaw 0
              have f1 := HCwcx4x2x57.out.thaw 1
              have f2 := HCwcx4x2x57.out.thaw 2
              clear z1 z2 z3
              try simp only [Act.put]
              refine wpAnyH_done (by kernel_rfl) ?_ _
              unfold LastPost
              go_simp
              go_wp2_with fail
              go_meet
              case rel => exact ⟨_, _, _, rfl, Lib.hid HZ.out.1, Lib.hid HZ.out.2.1, Lib.hid HZ.out.2.2⟩
          case brcx4x27 =>
            go_simp
            obtain ⟨wcx4x27, hwcx4x27⟩ : ∃ W : World, W = wcx42.alloc (.cells #[.slice none 0 0, .slice none 0 0, .slice none 0 0] 26) := ⟨_, rfl⟩
            have HBwcx4x27 := Lib.hid (show Below w8.heap.size w8 wcx4x27 by rw [hwcx4x27]; exact HBwcx42.out.alloc HBwcx42.out.size _)
            have HTwcx4x27 := Lib.hid (show Below wcx42.heap.size wcx42 wcx4x27 by rw [hwcx4x27]; exact tu1 wcx42 _)
            have HCwcx4x27 := Lib.hid (show BBox wcx4x27 wcx42.heap.size none 0 0 none 0 0 none 0 0 by rw [hwcx4x27]; exact heap_alloc_new wcx42 _)
            have hgewcx4x27 : w8.heap.size ≤ wcx42.heap.size := HBwcx42.out.size
            have HAwcx4x27 := Lib.hid ((HTwcx4x27.out.block _ (Array.getElem?_eq_some_iff.1 HAwcx42.out).1).trans HAwcx42.out)
            have HOwcx4x27 := Lib.hid (HOwcx42.out.kept HTwcx4x27.out)
            rw [← hwcx4x27]
            clear hwcx4x27
            refine hK.out _ _ (HS2.out _ HBwcx4x27.out) (fun hHeld => ?_)
            clear hK K
            try simp only [Act.put, List.getElem_toArray, List.getElem_cons_succ, List.getElem_cons_zero, List.setIfInBounds_toArray, List.set_cons_succ, List.set_cons_zero]
            refine wpAnyH_ready (rs := [5]) (by kernel_rfl) (by simp) ?_
            refine (AllReadyH.cons (i := 5) (o := _) rfl (fun K hK => ?brcx4x2x75) AllReadyH.nil)
            case brcx4x2x75 =>
              refine step_append_nodesU (by rfl) (.tmp 63) (.tmp 65) (by rfl) w8.heap.size vwcx42 rs (some ⟨we.heap.size, 0, none⟩) 1 1 [⟨xk, xp, va, vn, vc⟩] (by rfl) (by rfl) HOwcx4x27.out (NRow.one (r := ⟨xk, xp, va, vn, vc⟩) HAwcx4x27.out) HBwcx4x27.out.size (by rw [hrl, HNL.out]; omega) ?_
              intro vwcx4x2x75 wcx4x2x75 ho hb hkp
              have HBwcx4x2x75 := Lib.hid (HBwcx4x27.out.trans hb)
              replace ho : NRaw wcx4x2x75 w8.heap.size vwcx4x2x75 (rs ++ [(⟨xk, xp, va, vn, vc⟩ : NR)]) := ho
              obtain ⟨va0, vc0, hv⟩ := ho.form
              rw [show (rs ++ [(⟨xk, xp, va, vn, vc⟩ : NR)]).length = nn + 1 by rw [List.length_append, hrl, HNL.out]; rfl] at hv
              subst hv
              have HOwcx4x2x75 := Lib.hid ho
              have HCwcx4x2x75 := Lib.hid (HCwcx4x27.out.stay (hkp.2 _ HCwcx4x27.out.lt (HOwcx4x27.out.other HCwcx4x27.out (by decide))))
              clear ho hb hkp
              refine hK.out _ _ (HS2.out _ HBwcx4x2x75.out) (fun hHeld => ?_)
              clear hK K
              try simp only [Act.put, List.setIfInBounds_toArray]
              refine' wpAnyH_take (i := 6) (v := _) rfl (by kernel_rfl) (by kernel_rfl) (by kernel_rfl) (fun _ _ _ h => h) (Or.inl ⟨by kernel_rfl, ?hycx4x2x7x56⟩) (by assumption) ?restcx4x2x7x56
              case hycx4x2x7x56 =>
                intro W hSw
                (try dsimp only at hSw)
                first | (go_simp; done) | (go_simp; with_reducible rfl)
              obtain ⟨za, zc, hza, z1, z2, z3⟩ := fewer_end (t0 := T0) HOwcx4x2x75.out HCwcx4x2x75.out HBwcx4x2x75.out hgewcx4x27 hrl (by rw [HNL.out]; omega) HRD.out HLA.out
              rw [hml] at hza z1 z2 z3
              obtain ⟨e1, _, e3⟩ := Value.slice.inj hza
              subst e1 e3
              have HZ := Lib.hid (And.intro z1 (And.intro z2 z3))
              obtain ⟨c0, c1, c2⟩ := HCwcx4x2x75.out.cells
              have f0 := HCwcx4x2x75.out.thaw 0
              have f1 := HCwcx4x2x75.out.thaw 1
              have f2 := HCwcx4x2x75.out.thaw 2
              clear z1 z2 z3
              try simp only [Act.put]
              refine wpAnyH_done (by kernel_rfl) ?_ _
              unfold LastPost
              go_simp
              go_wp2_with fail
              go_meet
              case rel => exact ⟨_, _, _, rfl, Lib.hid HZ.out.1, Lib.hid HZ.out.2.1, Lib.hid HZ.out.2.2⟩
        case brcx47 =>
          go_simp
          obtain ⟨wcx47, hwcx47⟩ : ∃ W : World, W = wc4.alloc (.cells #[.slice none 0 0, .slice none 0 0, .slice none 0 0] 26) := ⟨_, rfl⟩
          have HBwcx47 := Lib.hid (show Below w8.heap.size w8 wcx47 by rw [hwcx47]; exact HBwc4.out.alloc HBwc4.out.size _)
          have HTwcx47 := Lib.hid (show Below wc4.heap.size wc4 wcx47 by rw [hwcx47]; exact tu1 wc4 _)
          have HCwcx47 := Lib.hid (show BBox wcx47 wc4.heap.size none 0 0 none 0 0 none 0 0 by rw [hwcx47]; exact heap_alloc_new wc4 _)
          have hgewcx47 : w8.heap.size ≤ wc4.heap.size := HBwc4.out.size
          have HAwcx47 := Lib.hid ((HTwcx47.out.block _ (Array.getElem?_eq_some_iff.1 HAwc4.out).1).trans HAwc4.out)
          rw [← hwcx47]
          clear hwcx47
          refine hK.out _ _ (HS2.out _ HBwcx47.out) (fun hHeld => ?_)
          clear hK K
          try simp only [Act.put, List.getElem_toArray, List.getElem_cons_succ, List.getElem_cons_zero, List.setIfInBounds_toArray, List.set_cons_succ, List.set_cons_zero]
          refine wpAnyH_ready (rs := [2]) (by kernel_rfl) (by simp) ?_
          refine (AllReadyH.cons (i := 2) (o := _) rfl (fun K hK => ?brcx4x72) AllReadyH.nil)
          case brcx4x72 =>
            refine step_append_nodesU (by rfl) (.const (.slice none 0 0)) (.tmp 62) (by rfl) w8.heap.size (.slice none 0 0) [] (some ⟨nb, no, none⟩) nn nc rs (by rfl) (by rfl) (NRaw.zero _ _) (HROW.out.on HG8.out.bk.nodes HBwcx47.out) HBwcx47.out.size (by show 0 + nn ≤ _; omega) ?_
            intro vwcx4x72 wcx4x72 ho hb hkp
            have HBwcx4x72 := Lib.hid (HBwcx47.out.trans hb)
            replace ho : NRaw wcx4x72 w8.heap.size vwcx4x72 rs := ho
            have HOwcx4x72 := Lib.hid ho
            have HCwcx4x72 := Lib.hid (HCwcx47.out.stay (hkp.2 _ HCwcx47.out.lt (by simp [Value.ownBlock])))
            have HAwcx4x72 := Lib.hid ((hkp.2 _ (Array.getElem?_eq_some_iff.1 HAwcx47.out).1 (by simp [Value.ownBlock])).trans HAwcx47.out)
            clear ho hb hkp
            refine hK.out _ _ (HS2.out _ HBwcx4x72.out) (fun hHeld => ?_)
            clear hK K
            try simp only [Act.put, List.getElem_toArray, List.getElem_cons_succ, List.getElem_cons_zero, List.setIfInBounds_toArray, List.set_cons_succ, List.set_cons_zero]
            refine wpAnyH_ready (rs := [5]) (by kernel_rfl) (by simp) ?_
            refine (AllReadyH.cons (i := 5) (o := _) rfl (fun K hK => ?brcx4x7x25) AllReadyH.nil)
            case brcx4x7x25 =>
              refine step_append_nodesU (by rfl) (.tmp 63) (.tmp 65) (by rfl) w8.heap.size vwcx4x72 rs (some ⟨we.heap.size, 0, none⟩) 1 1 [⟨xk, xp, va, vn, vc⟩] (by rfl) (by rfl) HOwcx4x72.out (NRow.one (r := ⟨xk, xp, va, vn, vc⟩) HAwcx4x72.out) HBwcx4x72.out.size (by rw [hrl, HNL.out]; omega) ?_
              intro vwcx4x7x25 wcx4x7x25 ho hb hkp
              have HBwcx4x7x25 := Lib.hid (HBwcx4x72.out.trans hb)
              replace ho : NRaw wcx4x7x25 w8.heap.size vwcx4x7x25 (rs ++ [(⟨xk, xp, va, vn, vc⟩ : NR)]) := ho
              obtain ⟨va0, vc0, hv⟩ := ho.form
              rw [show (rs ++ [(⟨xk, xp, va, vn, vc⟩ : NR)]).length = nn + 1 by rw [List.length_append, hrl, HNL.out]; rfl] at hv
              subst hv
              have HOwcx4x7x25 := Lib.hid ho
              have HCwcx4x7x25 := Lib.hid (HCwcx4x72.out.stay (hkp.2 _ HCwcx4x72.out.lt (HOwcx4x72.out.other HCwcx4x72.out (by decide))))
              clear ho hb hkp
              refine hK.out _ _ (HS2.out _ HBwcx4x7x25.out) (fun hHeld => ?_)
              clear hK K
              try simp only [Act.put, List.setIfInBounds_toArray]
              refine' wpAnyH_take (i := 6) (v := _) rfl (by kernel_rfl) (by kernel_rfl) (by kernel_rfl) (fun _ _ _ h => h) (Or.inl ⟨by kernel_rfl, ?hycx4x7x2x56⟩) (by assumption) ?restcx4x7x2x56
              case hycx4x7x2x56 =>
                intro W hSw
                (try dsimp only at hSw)
                first | (go_simp; done) | (go_simp; with_reducible rfl)
              obtain ⟨za, zc, hza, z1, z2, z3⟩ := fewer_end (t0 := T0) HOwcx4x7x25.out HCwcx4x7x25.out HBwcx4x7x25.out hgewcx47 hrl (by rw [HNL.out]; omega) HRD.out HLA.out
              rw [hml] at hza z1 z2 z3
              obtain ⟨e1, _, e3⟩ := Value.slice.inj hza
              subst e1 e3
              have HZ := Lib.hid (And.intro z1 (And.intro z2 z3))
              obtain ⟨c0, c1, c2⟩ := HCwcx4x7x25.out.cells
              have f0 := HCwcx4x7x25.out.thaw 0
              have f1 := HCwcx4x7x25.out.thaw 1
              have f2 := HCwcx4x7x25.out.thaw 2
              clear z1 z2 z3
              try simp only [Act.put]
              refine wpAnyH_done (by kernel_rfl) ?_ _
              unfold LastPost
              go_simp
              go_wp2_with fail
              go_meet
              case rel => exact ⟨_, _, _, rfl, Lib.hid HZ.out.1, Lib.hid HZ.out.2.1, Lib.hid HZ.out.2.2⟩
      case brc7 =>
        go_simp
        obtain ⟨wc7, hwc7⟩ : ∃ W : World, W = we.alloc (.cells #[.slice none 0 0, .slice none 0 0, .slice none 0 0] 26) := ⟨_, rfl⟩
        have HBwc7 := Lib.hid (show Below w8.heap.size w8 wc7 by rw [hwc7]; exact HBe.out.alloc HBe.out.size _)
        have HTwc7 := Lib.hid (show Below we.heap.size we wc7 by rw [hwc7]; exact tu1 we _)
        have HCwc7 := Lib.hid (show BBox wc7 we.heap.size none 0 0 none 0 0 none 0 0 by rw [hwc7]; exact heap_alloc_new we _)
        have hgewc7 : w8.heap.size ≤ we.heap.size := HBe.out.size
        rw [← hwc7]
        clear hwc7
        refine hK.out _ _ (HS2.out _ HBwc7.out) (fun hHeld => ?_)
        clear hK K
        try simp only [Act.put, List.getElem_toArray, List.getElem_cons_succ, List.getElem_cons_zero, List.setIfInBounds_toArray, List.set_cons_succ, List.set_cons_zero]
        refine wpAnyH_ready (rs := [2, 4]) (by kernel_rfl) (by simp) ?_
        refine (AllReadyH.cons (i := 2) (o := _) rfl (fun K hK => ?brcx72) (AllReadyH.cons (i := 4) (o := _) rfl (fun K hK => ?brcx74) AllReadyH.nil))
        case brcx72 =>
          refine step_append_nodesU (by rfl) (.const (.slice none 0 0)) (.tmp 62) (by rfl) w8.heap.size (.slice none 0 0) [] (some ⟨nb, no, none⟩) nn nc rs (by rfl) (by rfl) (NRaw.zero _ _) (HROW.out.on HG8.out.bk.nodes HBwc7.out) HBwc7.out.size (by show 0 + nn ≤ _; omega) ?_
          intro vwcx72 wcx72 ho hb hkp
          have HBwcx72 := Lib.hid (HBwc7.out.trans hb)
          replace ho : NRaw wcx72 w8.heap.size vwcx72 rs := ho
          have HOwcx72 := Lib.hid ho
          have HCwcx72 := Lib.hid (HCwc7.out.stay (hkp.2 _ HCwc7.out.lt (by simp [Value.ownBlock])))
          clear ho hb hkp
          refine hK.out _ _ (HS2.out _ HBwcx72.out) (fun hHeld => ?_)
          clear hK K
          try simp only [Act.put, List.getElem_toArray, List.getElem_cons_succ, List.getElem_cons_zero, List.setIfInBounds_toArray, List.set_cons_succ, List.set_cons_zero]
          refine wpAnyH_ready (rs := [4]) (by kernel_rfl) (by simp) ?_
          refine (AllReadyH.cons (i := 4) (o := _) rfl (fun K hK => ?brcx7x24) AllReadyH.nil)
          case brcx7x24 =>
            go_simp
            obtain ⟨wcx7x24, hwcx7x24⟩ : ∃ W : World, W = wcx72.alloc (.cells #[.int .i64 xk, .string xp, .slice va vn vc] 39) := ⟨_, rfl⟩
            have HBwcx7x24 := Lib.hid (show Below w8.heap.size w8 wcx7x24 by rw [hwcx7x24]; exact HBwcx72.out.alloc HBwcx72.out.size _)
            have HTwcx7x24 := Lib.hid (show Below wcx72.heap.size wcx72 wcx7x24 by rw [hwcx7x24]; exact tu1 wcx72 _)
            have HAwcx7x24 := Lib.hid (show wcx7x24.heap[wcx72.heap.size]? = some (.cells #[.int .i64 xk, .string xp, .slice va vn vc] 39 (0, 0)) by rw [hwcx7x24]; exact heap_alloc_new wcx72 _)
            have HCwcx7x24 := Lib.hid (HCwcx72.out.stay (HTwcx7x24.out.block _ HCwcx72.out.lt))
            have HOwcx7x24 := Lib.hid (HOwcx72.out.kept HTwcx7x24.out)
            rw [← hwcx7x24]
            clear hwcx7x24
            refine hK.out _ _ (HS2.out _ HBwcx7x24.out) (fun hHeld => ?_)
            clear hK K
            try simp only [Act.put, List.getElem_toArray, List.getElem_cons_succ, List.getElem_cons_zero, List.setIfInBounds_toArray, List.set_cons_succ, List.set_cons_zero]
            refine wpAnyH_ready (rs := [5]) (by kernel_rfl) (by simp) ?_
            refine (AllReadyH.cons (i := 5) (o := _) rfl (fun K hK => ?brcx7x2x45) AllReadyH.nil)
            case brcx7x2x45 =>
              refine step_append_nodesU (by rfl) (.tmp 63) (.tmp 65) (by rfl) w8.heap.size vwcx72 rs (some ⟨wcx72.heap.size, 0, none⟩) 1 1 [⟨xk, xp, va, vn, vc⟩] (by rfl) (by rfl) HOwcx7x24.out (NRow.one (r := ⟨xk, xp, va, vn, vc⟩) HAwcx7x24.out) HBwcx7x24.out.size (by rw [hrl, HNL.out]; omega) ?_
              intro vwcx7x2x45 wcx7x2x45 ho hb hkp
              have HBwcx7x2x45 := Lib.hid (HBwcx7x24.out.trans hb)
              replace ho : NRaw wcx7x2x45 w8.heap.size vwcx7x2x45 (rs ++ [(⟨xk, xp, va, vn, vc⟩ : NR)]) := ho
              obtain ⟨va0, vc0, hv⟩ := ho.form
              rw [show (rs ++ [(⟨xk, xp, va, vn, vc⟩ : NR)]).length = nn + 1 by rw [List.length_append, hrl, HNL.out]; rfl] at hv
              subst hv
              have HOwcx7x2x45 := Lib.hid ho
              have HCwcx7x2x45 := Lib.hid (HCwcx7x24.out.stay (hkp.2 _ HCwcx7x24.out.lt (HOwcx7x24.out.other HCwcx7x24.out (by decide))))
              clear ho hb hkp
              refine hK.out _ _ (HS2.out _ HBwcx7x2x45.out) (fun hHeld => ?_)
              clear hK K
              try simp only [Act.put, List.setIfInBounds_toArray]
              refine' wpAnyH_take (i := 6) (v := _) rfl (by kernel_rfl) (by kernel_rfl) (by kernel_rfl) (fun _ _ _ h => h) (Or.inl ⟨by kernel_rfl, ?hycx7x2x4x56⟩) (by assumption) ?restcx7x2x4x56
              case hycx7x2x4x56 =>
                intro W hSw
                (try dsimp only at hSw)
                first | (go_simp; done) | (go_simp; with_reducible rfl)
              obtain ⟨za, zc, hza, z1, z2, z3⟩ := fewer_end (t0 := T0) HOwcx7x2x45.out HCwcx7x2x45.out HBwcx7x2x45.out hgewc7 hrl (by rw [HNL.out]; omega) HRD.out HLA.out
              rw [hml] at hza z1 z2 z3
              obtain ⟨e1, _, e3⟩ := Value.slice.inj hza
              subst e1 e3
              have HZ := Lib.hid (And.intro z1 (And.intro z2 z3))
              obtain ⟨c0, c1, c2⟩ := HCwcx7x2x45.out.cells
              have f0 := HCwcx7x2x45.out.thaw 0
              have f1 := HCwcx7x2x45.out.thaw 1
              have f2 := HCwcx7x2x45.out.thaw 2
              clear z1 z2 z3
              try simp only [Act.put]
              refine wpAnyH_done (by kernel_rfl) ?_ _
              unfold LastPost
              go_simp
              go_wp2_with fail
              go_meet
              case rel => exact ⟨_, _, _, rfl, Lib.hid HZ.out.1, Lib.hid HZ.out.2.1, Lib.hid HZ.out.2.2⟩
        case brcx74 =>
          go_simp
          obtain ⟨wcx74, hwcx74⟩ : ∃ W : World, W = wc7.alloc (.cells #[.int .i64 xk, .string xp, .slice va vn vc] 39) := ⟨_, rfl⟩
          have HBwcx74 := Lib.hid (show Below w8.heap.size w8 wcx74 by rw [hwcx74]; exact HBwc7.out.alloc HBwc7.out.size _)
          have HTwcx74 := Lib.hid (show Below wc7.heap.size wc7 wcx74 by rw [hwcx74]; exact tu1 wc7 _)
          have HAwcx74 := Lib.hid (show wcx74.heap[wc7.heap.size]? = some (.cells #[.int .i64 xk, .string xp, .slice va vn vc] 39 (0, 0)) by rw [hwcx74]; exact heap_alloc_new wc7 _)
          have HCwcx74 := Lib.hid (HCwc7.out.stay (HTwcx74.out.block _ HCwc7.out.lt))
          rw [← hwcx74]
          clear hwcx74
          refine hK.out _ _ (HS2.out _ HBwcx74.out) (fun hHeld => ?_)
          clear hK K
          try simp only [Act.put, List.getElem_toArray, List.getElem_cons_succ, List.getElem_cons_zero, List.setIfInBounds_toArray, List.set_cons_succ, List.set_cons_zero]
          refine wpAnyH_ready (rs := [2]) (by kernel_rfl) (by simp) ?_
          refine (AllReadyH.cons (i := 2) (o := _) rfl (fun K hK => ?brcx7x42) AllReadyH.nil)
          case brcx7x42 =>
            refine step_append_nodesU (by rfl) (.const (.slice none 0 0)) (.tmp 62) (by rfl) w8.heap.size (.slice none 0 0) [] (some ⟨nb, no, none⟩) nn nc rs (by rfl) (by rfl) (NRaw.zero _ _) (HROW.out.on HG8.out.bk.nodes HBwcx74.out) HBwcx74.out.size (by show 0 + nn ≤ _; omega) ?_
            intro vwcx7x42 wcx7x42 ho hb hkp
            have HBwcx7x42 := Lib.hid (HBwcx74.out.trans hb)
            replace ho : NRaw wcx7x42 w8.heap.size vwcx7x42 rs := ho
            have HOwcx7x42 := Lib.hid ho
            have HCwcx7x42 := Lib.hid (HCwcx74.out.stay (hkp.2 _ HCwcx74.out.lt (by simp [Value.ownBlock])))
            have HAwcx7x42 := Lib.hid ((hkp.2 _ (Array.getElem?_eq_some_iff.1 HAwcx74.out).1 (by simp [Value.ownBlock])).trans HAwcx74.out)
            clear ho hb hkp
            refine hK.out _ _ (HS2.out _ HBwcx7x42.out) (fun hHeld => ?_)
            clear hK K
            try simp only [Act.put, List.getElem_toArray, List.getElem_cons_succ, List.getElem_cons_zero, List.setIfInBounds_toArray, List.set_cons_succ, List.set_cons_zero]
            refine wpAnyH_ready (rs := [5]) (by kernel_rfl) (by simp) ?_
            refine (AllReadyH.cons (i := 5) (o := _) rfl (fun K hK => ?brcx7x4x25) AllReadyH.nil)
            case brcx7x4x25 =>
              refine step_append_nodesU (by rfl) (.tmp 63) (.tmp 65) (by rfl) w8.heap.size vwcx7x42 rs (some ⟨wc7.heap.size, 0, none⟩) 1 1 [⟨xk, xp, va, vn, vc⟩] (by rfl) (by rfl) HOwcx7x42.out (NRow.one (r := ⟨xk, xp, va, vn, vc⟩) HAwcx7x42.out) HBwcx7x42.out.size (by rw [hrl, HNL.out]; omega) ?_
              intro vwcx7x4x25 wcx7x4x25 ho hb hkp
              have HBwcx7x4x25 := Lib.hid (HBwcx7x42.out.trans hb)
              replace ho : NRaw wcx7x4x25 w8.heap.size vwcx7x4x25 (rs ++ [(⟨xk, xp, va, vn, vc⟩ : NR)]) := ho
              obtain ⟨va0, vc0, hv⟩ := ho.form
              rw [show (rs ++ [(⟨xk, xp, va, vn, vc⟩ : NR)]).length = nn + 1 by rw [List.length_append, hrl, HNL.out]; rfl] at hv
              subst hv
              have HOwcx7x4x25 := Lib.hid ho
              have HCwcx7x4x25 := Lib.hid (HCwcx7x42.out.stay (hkp.2 _ HCwcx7x42.out.lt (HOwcx7x42.out.other HCwcx7x42.out (by decide))))
              clear ho hb hkp
              refine hK.out _ _ (HS2.out _ HBwcx7x4x25.out) (fun hHeld => ?_)
              clear hK K
              try simp only [Act.put, List.setIfInBounds_toArray]
              refine' wpAnyH_take (i := 6) (v := _) rfl (by kernel_rfl) (by kernel_rfl) (by kernel_rfl) (fun _ _ _ h => h) (Or.inl ⟨by kernel_rfl, ?hycx7x4x2x56⟩) (by assumption) ?restcx7x4x2x56
              case hycx7x4x2x56 =>
                intro W hSw
                (try dsimp only at hSw)
                first | (go_simp; done) | (go_simp; with_reducible rfl)
              obtain ⟨za, zc, hza, z1, z2, z3⟩ := fewer_end (t0 := T0) HOwcx7x4x25.out HCwcx7x4x25.out HBwcx7x4x25.out hgewc7 hrl (by rw [HNL.out]; omega) HRD.out HLA.out
              rw [hml] at hza z1 z2 z3
              obtain ⟨e1, _, e3⟩ := Value.slice.inj hza
              subst e1 e3
              have HZ := Lib.hid (And.intro z1 (And.intro z2 z3))
              obtain ⟨c0, c1, c2⟩ := HCwcx7x4x25.out.cells
              have f0 := HCwcx7x4x25.out.thaw 0
              have f1 := HCwcx7x4x25.out.thaw 1
              have f2 := HCwcx7x4x25.out.thaw 2
              clear z1 z2 z3
              try simp only [Act.put]
              refine wpAnyH_done (by kernel_rfl) ?_ _
              unfold LastPost
              go_simp
              go_wp2_with fail
              go_meet
              case rel => exact ⟨_, _, _, rfl, Lib.hid HZ.out.1, Lib.hid HZ.out.2.1, Lib.hid HZ.out.2.2⟩
    case rest =>
      obtain ⟨g12, za, zc, e12, HC9, HN9, HB9⟩ := hcut
      subst e12
      obtain ⟨w9, hw9⟩ : ∃ w9 : World, w9 = wc := ⟨_, rfl⟩
      subst hw9
      have HG9 := Lib.hid (HG8.out.on HB9.out)
      have HX9 := Lib.hid (HX8.out.block (HB9.out.block g9 (Array.getElem?_eq_some_iff.1 HX8.out).1))
      have HBK9 := Lib.hid (show BkIn w9 w9.heap.size za (nn + 1) none 0 none 0 (fewB b ⟨xk, xp.toList, xl⟩ k) from ⟨by show Nodes w9 w9.heap.size za (nn + 1) (b.nodes ++ [lessB ⟨xk, xp.toList, xl⟩ k]); rw [← HT0.out]; exact HN9.out, Strs.zero _ _ _, Nums.zero _ _ _⟩)
      have hF := HFS.out
      rw [HNL.out] at hF
      obtain ⟨hF1, hF2⟩ := hF
      obtain ⟨gc0, gc1, gc2⟩ := HG9.out.cells
      obtain ⟨m0, m1, m2⟩ := HX9.out.cells
      obtain ⟨c0, c1, c2⟩ := HC9.out.cells
      clear HRD HLA HROW HS2 HG8 HX8 HN9 HFS HB9
      by_cases hk1 : xk = 1
      · have e1 : (xk == 1) = true := by rw [beq_iff_eq]; exact hk1
        obtain ⟨t1, t2⟩ := hF1 hk1
        have T1 := Lib.hid t1
        have T2 := Lib.hid t2
        clear hF1 hF2 hk1 t1 t2
        have CA := Lib.hid (is_any za (nn + 1) zc none 0 0 none 0 0 (fewB b ⟨xk, xp.toList, xl⟩ k) (p : Int) (nn : Int) w9 _ (Nat.le_refl _) HBK9.out)
        rw [T1.out] at CA
        go_wp2_with (first
          | (go_at_call 26; (with_reducible refine CA.out.mono ?_)
             rintro e wj ⟨rfl, hb⟩
             have HGj := Lib.hid (HG9.out.on hb)
             have CB := Lib.hid (is_any za (nn + 1) zc none 0 0 none 0 0 (fewB b ⟨xk, xp.toList, xl⟩ k) (nn : Int) (p : Int) wj _ (Nat.le_refl _) (HBK9.out.on hb))
             rw [T2.out] at CB
             obtain ⟨d0, d1, d2⟩ := (HC9.out.stay (hb.block g12 HC9.out.lt)).cells
             clear hb)
          | (go_at_call 26; (with_reducible refine CB.out.mono ?_)
             rintro e wk ⟨rfl, hb⟩
             have HGk := Lib.hid (HGj.out.on hb)
             clear hb)
          | fail)
        go_ret
        exact ⟨rfl, HGk.out.bel⟩
      · have e1 : (xk == 1) = false := by rw [beq_eq_false_iff_ne]; exact hk1
        obtain ⟨t1, t2⟩ := hF2 hk1
        have T1 := Lib.hid t1
        have T2 := Lib.hid t2
        clear hF1 hF2 hk1 t1 t2
        have CA := Lib.hid (is_any za (nn + 1) zc none 0 0 none 0 0 (fewB b ⟨xk, xp.toList, xl⟩ k) (nn : Int) (p : Int) w9 _ (Nat.le_refl _) HBK9.out)
        rw [T1.out] at CA
        go_wp2_with (first
          | (go_at_call 26; (with_reducible refine CA.out.mono ?_)
             rintro e wj ⟨rfl, hb⟩
             have HGj := Lib.hid (HG9.out.on hb)
             have CB := Lib.hid (is_any za (nn + 1) zc none 0 0 none 0 0 (fewB b ⟨xk, xp.toList, xl⟩ k) (p : Int) (nn : Int) wj _ (Nat.le_refl _) (HBK9.out.on hb))
             rw [T2.out] at CB
             obtain ⟨d0, d1, d2⟩ := (HC9.out.stay (hb.block g12 HC9.out.lt)).cells
             clear hb)
          | (go_at_call 26; (with_reducible refine CB.out.mono ?_)
             rintro e wk ⟨rfl, hb⟩
             have HGk := Lib.hid (HGj.out.on hb)
             clear hb)
          | fail)
        go_ret
        exact ⟨rfl, HGk.out.bel⟩
end Go.Proofs.Ytpjocacepafneaa

/- The statement UnderFewer holds for every argument, with no condition. -/
namespace Go.Proofs.Ytpjocacepafneaa.underFewer
open Go Go.ChangeShapes Go.WideShapes Go.ChangeAt Go.RowKit
open Go.ChangeMaps (open_string shut_string)

set_option maxRecDepth 100000 in
theorem lifted (os : Os) (started : os.Started) (H : Type) (enc : TypeId × Value → H) :
    ReturnsInHanded {} Try.checked os 9 .any (Rows.underFewerSpec.pre6 enc Try.prog Try.f9 Rows.underFewerRow.domain false) (Rows.underFewerSpec.post enc Try.prog Try.f9 false true false false) := by
  refine returnsInHanded_of_change_sized (C := Try.checked) seatOwn started (by kernel_rfl) Try.func9
    (ChangeSpec.witness6 (enc := enc) (C := Try.checked) false ⟨#[], #[.slice none 0 0, .int .i64 0, .int .i64 0], []⟩ 8 (by kernel_rfl) (by kernel_rfl) (by kernel_rfl) (by kernel_rfl)) ?_
  intro W base args ds gs before hval0 hW hcnd hsz0 _
  have hval : ∀ (j : Nat) t v, Try.f9.params[j]? = some t → args[j]? = some v → Value.okWide Try.prog W .any base t v := hval0
  have hsz : (DataW.weightsEach Try.prog (Try.f9.params.toList ++ Rows.underFewerSpec.plain.varTypes Try.prog) (ds ++ gs)).all (· ≤ reachBytes) = true := hsz0
  have hW' := hW
  obtain ⟨p, q, hA0, hV, rfl, hfz, hnd⟩ := hW
  have hA : DataW.TrodAll enc Try.prog W 0 (fun _ => true) true Try.f9.params.toList args.toList ds p := hA0
  rw [Try.params9] at hA hval hsz
  obtain ⟨v0, vs0, d0, ds0, p0, q0, hargs, rfl, rfl, h0, r0⟩ := trodAll_cons hA
  obtain ⟨v1, vs1, d1, ds1, p1, q1, rfl, rfl, rfl, h1, r1⟩ := trodAll_cons r0
  obtain ⟨v2, vs2, d2, ds2, p2, q2, rfl, rfl, rfl, h2, r2⟩ := trodAll_cons r1
  obtain ⟨rfl, rfl, rfl⟩ := trodAll_nil r2
  obtain rfl : args = #[v0, v1, v2] := by cases args; simp_all
  obtain ⟨rfl, rfl⟩ := trodVars_none hV
  have k0 := h0
  have lt0 := args_below k0
  obtain ⟨fu0, hf0⟩ := h0
  obtain ⟨ia0, ilen0, icap0, rfl⟩ := okWide_slice Try.underlying24 (hval 0 24 v0 rfl rfl)
  obtain ⟨a0, n0, c0, l0, hv0, hn0, hi0, hc0, hm0, hz0⟩ := open_ints hf0 (fun elems spare e => by
    have := sized_slice hsz (j := 0) (t := 24) (e := 3) rfl (congrArg some e) Try.underlying24
    rwa [seatBytes2] at this)
  obtain ⟨ea0, en0, ec0⟩ := Value.slice.inj hv0
  subst ea0 en0 ec0
  have k1 := h1
  have lt1 := args_below k1
  obtain ⟨a1, rfl, rfl, rfl, w1⟩ := open_int Try.underlying3 (hval 1 3 v1 rfl rfl) h1
  have k2 := h2
  have lt2 := args_below k2
  obtain ⟨a2, rfl, rfl, rfl, w2⟩ := open_int Try.underlying3 (hval 2 3 v2 rfl rfl) h2
  clear hA0 hval0 hsz0
  refine (underFewer_walk ia0 ilen0 icap0 l0 a1 a2 W hn0 hz0 ).mono fun e W' ⟨he, bel⟩ => ?_
  subst he
  exact ⟨_, rfl, _, _, _, [], _, [], hW', trodAll_mk1 (shut_bool Try.underlying4 _), (trodAll_cons_mk (Below.trod seatLaidOut (by kernel_rfl) (of_decide_eq_true (by kernel_rfl)) k0 bel lt0) (trodAll_cons_mk (Below.trod seatLaidOut (by kernel_rfl) (of_decide_eq_true (by kernel_rfl)) k1 bel lt1) (trodAll_cons_mk (Below.trod seatLaidOut (by kernel_rfl) (of_decide_eq_true (by kernel_rfl)) k2 bel lt2) trodAll_mk0))), rfl, bel.frame _, fun h => by cases h⟩

theorem over : Rows.underFewerRow.holds Try.pinned (OpenSpec.ofChange Rows.underFewerSpec) :=
  OpenClaim.holds_of_wide 9 Try.f9 rfl rfl rfl rfl rfl rfl rfl ⟨rfl, rfl, rfl, rfl, rfl⟩ rfl rfl rfl rfl rfl (by kernel_rfl) Try.func9 (by kernel_rfl)
    (of_decide_eq_true (by kernel_rfl)) (by unfold Func.isWrapper; first | (rw [if_pos (by decide +kernel)]; kernel_rfl) | (rw [if_neg (by decide +kernel)]; exact ⟨rfl, rfl⟩))
    (fun os started H enc _ => lifted os started H enc)

theorem proved : Rows.UnderFewerSaid :=
  over
#print axioms proved
end Go.Proofs.Ytpjocacepafneaa.underFewer
