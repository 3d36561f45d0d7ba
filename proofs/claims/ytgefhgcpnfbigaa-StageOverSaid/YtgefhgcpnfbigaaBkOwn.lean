/- A slice of edges that the call makes by append. -/
import Derived.Test.YtgefhgcpnfbigaaBkMem
import Derived.Test.YtgefhgcpnfbigaaNmStrs
namespace Go.Proofs.Ytgefhgcpnfbigaa
open Go.RowKit

/-- All blocks stay but the own one of this value. -/
def Keeps (v : Value) (W W' : World) : Prop := W.heap.size ≤ W'.heap.size ∧ ∀ b, b < W.heap.size → v.ownBlock ≠ some b → W'.heap[b]? = W.heap[b]?
theorem Keeps.refl (v : Value) (W : World) : Keeps v W W := ⟨Nat.le_refl _, fun _ _ _ => rfl⟩
theorem Keeps.alloc {v : Value} {W W' : World} (h : Keeps v W W') (o : Obj) : Keeps v W (W'.alloc o) := ⟨by have := h.1; simp; omega, fun b hb hne => (((Below.refl _ W').alloc (Nat.le_refl _) o).block b (by have := h.1; omega)).trans (h.2 b hb hne)⟩
/-- An edge as it is laid. -/
structure ER where
  s : ByteArray
  k : Int
  u : Int
  x : Int
def encER (t : ER) : List Value := [.string t.s, .int .i64 t.k, .int .i64 t.u, .int .i64 t.x]
def edgeR (t : ER) : EdgeL := ⟨t.s.toList, t.k, t.u, t.x⟩
def okER (t : ER) : Prop := t.s.size ≤ maxLen
/-- The slice v, which the call made (its array lies at base or above), holds just these edges. -/
def EdOwn (w : World) (base : Nat) (v : Value) (l : List EdgeL) : Prop := ∃ ts : List ER, w.ownsRow base 82 4 v l.length (ts.flatMap encER) ∧ ts.map edgeR = l ∧ ∀ t ∈ ts, okER t
/-- The slice at this address holds these edges. -/
def EdRow (w : World) (ad : Option Addr) (m : Nat) (l : List EdgeL) : Prop :=
  ∃ ts : List ER, ts.length = m ∧ ts.map edgeR = l ∧ (∀ t ∈ ts, okER t) ∧ (0 < m → ∃ a', ad = some a' ∧ ∀ (j : Nat) (u : Value), (ts.flatMap encER)[j]? = some u → w.cell? (a'.add j) = some u)
theorem flatEd_at : ∀ (l : List ER) (j : Nat) (t : ER), l[j]? = some t → ∀ i, i < 4 → (l.flatMap encER)[j * 4 + i]? = (encER t)[i]? := by
  intro l
  induction l with
  | nil => intro j t h; cases h
  | cons x l ih =>
    intro j t h i hi
    rw [List.flatMap_cons]
    cases j with
    | zero =>
      injection h with h
      subst h
      rw [Nat.zero_mul, Nat.zero_add, List.getElem?_append_left hi]
    | succ j =>
      have e : (j + 1) * 4 + i = 4 + (j * 4 + i) := by omega
      rw [e, List.getElem?_append_right (by show 4 ≤ _; omega)]
      show (l.flatMap encER)[4 + (j * 4 + i) - 4]? = _
      rw [Nat.add_sub_cancel_left]
      exact ih j t h i hi
theorem encERs_len (l : List ER) : (l.flatMap encER).length = l.length * 4 := by
  induction l with
  | nil => rfl
  | cons t l ih => rw [List.flatMap_cons, List.length_append, ih, List.length_cons]; show 4 + _ = _; omega
theorem encER_cell {u : Value} {l : List ER} (h : u ∈ l.flatMap encER) : u.oneCell' = true := by
  obtain ⟨t, _, ht⟩ := List.mem_flatMap.1 h
  unfold encER at ht
  simp only [List.mem_cons, List.not_mem_nil, or_false] at ht
  rcases ht with rfl | rfl | rfl | rfl <;> rfl
theorem EdRow.of_edges {w : World} {bound : Nat} {ad : Option Addr} {m : Nat} {l : List EdgeL} (h : Edges w bound ad m l) : EdRow w ad m l := by
  have h1 := h.1
  rcases Nat.eq_zero_or_pos m with h0 | h0
  · subst h0
    have hn : l = [] := List.eq_nil_of_length_eq_zero h1
    subst hn
    exact ⟨[], rfl, rfl, by simp, fun h => absurd h (Nat.lt_irrefl 0)⟩
  obtain ⟨b, off, rfl, _, _⟩ := h.2.2 h0
  have each : ∀ i, i < m → ∃ y : ER, l[i]? = some (edgeR y) ∧ okER y ∧ w.cell? ⟨b, off + i * 4, none⟩ = some (.string y.s) ∧ w.cell? ⟨b, off + i * 4 + 1, none⟩ = some (.int .i64 y.k) ∧ w.cell? ⟨b, off + i * 4 + 2, none⟩ = some (.int .i64 y.u) ∧ w.cell? ⟨b, off + i * 4 + 3, none⟩ = some (.int .i64 y.x) := fun i hi => by
    obtain ⟨b', off', s, ck, u, nx, e, _, hx, ⟨q0, q1, q2, q3⟩, hs⟩ := h.at_ hi
    injection e with e
    injection e with e1 e2 _
    subst e1 e2
    exact ⟨⟨s, ck, u, nx⟩, hx, hs, q0, q1, q2, q3⟩
  haveI : Inhabited ER := ⟨⟨⟨#[]⟩, 0, 0, 0⟩⟩
  obtain ⟨f, hf⟩ := Go.Deep.choose_lt each
  refine ⟨(List.range m).map f, by simp, ?_, fun t ht => ?_, fun _ => ⟨_, rfl, fun j u hu => ?_⟩⟩
  · refine List.ext_getElem? fun i => ?_
    rw [List.map_map, List.getElem?_map]
    rcases Nat.lt_or_ge i m with hi | hi
    · rw [List.getElem?_range hi, (hf i hi).1]; rfl
    · rw [List.getElem?_eq_none (by simpa using hi), List.getElem?_eq_none (by omega)]; rfl
  · obtain ⟨i, hi, rfl⟩ := List.mem_map.1 ht
    exact (hf i (List.mem_range.1 hi)).2.1
  · have hj : j < m * 4 := by
      obtain ⟨h2, _⟩ := List.getElem?_eq_some_iff.1 hu
      rw [encERs_len] at h2
      simpa using h2
    have hjm : j / 4 < m := by omega
    have ht : ((List.range m).map f)[j / 4]? = some (f (j / 4)) := by rw [List.getElem?_map, List.getElem?_range hjm]; rfl
    have hu2 := flatEd_at _ (j / 4) _ ht (j % 4) (by omega)
    rw [show j / 4 * 4 + j % 4 = j by omega] at hu2
    have hu3 : (encER (f (j / 4)))[j % 4]? = some u := hu2.symm.trans hu
    obtain ⟨_, _, c0, c1, c2, c3⟩ := hf (j / 4) hjm
    rw [Go.WideShapes.add_plain]
    have hj4 : j % 4 = 0 ∨ j % 4 = 1 ∨ j % 4 = 2 ∨ j % 4 = 3 := by omega
    rcases hj4 with e | e | e | e
    · rw [e] at hu3; rw [show off + j = off + j / 4 * 4 by omega, c0]; exact hu3
    · rw [e] at hu3; rw [show off + j = off + j / 4 * 4 + 1 by omega, c1]; exact hu3
    · rw [e] at hu3; rw [show off + j = off + j / 4 * 4 + 2 by omega, c2]; exact hu3
    · rw [e] at hu3; rw [show off + j = off + j / 4 * 4 + 3 by omega, c3]; exact hu3
/-- One edge, made for an append. -/
theorem EdRow.one {W : World} {cs : Array Value} (t : ER) {g : Nat} (hg : g = W.heap.size) (hc : cs = (encER t).toArray) (ht : okER t) : EdRow (W.alloc (.cells cs 82)) (some ⟨g, 0, none⟩) 1 [edgeR t] := by
  subst hg hc
  refine ⟨[t], rfl, rfl, by simpa using ht, fun _ => ⟨_, rfl, fun j u hu => ?_⟩⟩
  rw [Go.WideShapes.add_plain, cell_of_row _ _ _ _ _ _ (heap_alloc_new W _), List.getElem?_toArray, Nat.zero_add]
  rw [show ([t].flatMap encER) = encER t by simp] at hu
  exact hu
theorem EdOwn.zero (w : World) (base : Nat) : EdOwn w base (.slice none 0 0) [] := ⟨[], World.ownsRow_nil w base 82 4, rfl, by simp⟩
theorem EdOwn.alloc {w : World} {base : Nat} {v : Value} {l : List EdgeL} (h : EdOwn w base v l) (o : Obj) : EdOwn (w.alloc o) base v l := by
  obtain ⟨ts, h1, h2⟩ := h
  exact ⟨ts, World.ownsRow.alloc h1 o, h2⟩
theorem EdOwn.low {w : World} {base base' : Nat} {v : Value} {l : List EdgeL} (h : EdOwn w base v l) (hb : base' ≤ base) : EdOwn w base' v l := by
  obtain ⟨ts, h, h2⟩ := h
  refine ⟨ts, ⟨h.1, ?_⟩, h2⟩
  rcases h.2 with h0 | ⟨g, cap, cur, rfl, hbase, hh, h1, h2, h3, h4⟩
  · exact .inl h0
  · exact .inr ⟨g, cap, cur, rfl, Nat.le_trans hb hbase, hh, h1, h2, h3, h4⟩
theorem EdOwn.kept {w w' : World} {base : Nat} {v : Value} {l : List EdgeL} (h : EdOwn w base v l) (hb : Below w.heap.size w w') : EdOwn w' base v l := by
  obtain ⟨ts, h, h2⟩ := h
  have hlt := h.lt
  refine ⟨ts, ⟨h.1, ?_⟩, h2⟩
  rcases h.2 with h0 | ⟨g, cap, cur, rfl, hbase, hh, h1, h2, h3, h4⟩
  · exact .inl h0
  · refine .inr ⟨g, cap, cur, rfl, hbase, ?_, h1, h2, h3, h4⟩
    rw [hb.block g (hlt g rfl).2]
    exact hh
theorem info_edge : (Try.prog.info? 82).map (fun i => (i.zero, i.size, i.bytes)) = some (some (.agg #[.string ⟨#[]⟩, .int .i64 0, .int .i64 0, .int .i64 0]), 4, 40) := by kernel_rfl
/-- The edges of a slice, whichever, behind those that the call made. -/
theorem EdOwn.add {w : World} {base : Nat} {v : Value} {l : List EdgeL} (h : EdOwn w base v l) (hb : base ≤ w.heap.size) {a : Option Addr} {m : Nat} (c : Nat) {l2 : List EdgeL} (hr : EdRow w a m l2) (hlen : l.length + m ≤ 1000000) (ty : Nat) :
    ∃ v' w', (Builtin.append_ #[60, 60] ty #[v, .slice a m c]).run Try.prog w = .ok v' w' ∧ EdOwn w' base v' (l ++ l2) ∧ (∀ B, B ≤ base → ∀ w0, Below B w0 w → Below B w0 w') ∧ Keeps v w w' := by
  obtain ⟨i0, hi0, hzz⟩ := Option.map_eq_some_iff.1 info_edge
  simp only [Prod.mk.injEq] at hzz
  obtain ⟨hz, hs1, hb1⟩ := hzz
  obtain ⟨bs, ho, hl, hok⟩ := h
  obtain ⟨bs2, hl2, hl2', hok2, hc⟩ := hr
  have hlen2 : l2.length = m := by rw [← hl2', List.length_map, hl2]
  rcases a with _ | ad
  · have hm : m = 0 := by
      rcases Nat.eq_zero_or_pos m with h0 | h0
      · exact h0
      · obtain ⟨_, h, _⟩ := hc h0; cases h
    subst hm
    have hn : l2 = [] := List.eq_nil_of_length_eq_zero hlen2
    subst hn
    refine ⟨v, w, ?_, by rw [List.append_nil]; exact ⟨bs, ho, hl, hok⟩, fun B _ w0 hw => hw, Keeps.refl _ _⟩
    rcases ho.2 with ⟨h0, _⟩ | ⟨g, cap, cur, rfl, _, hh, h1, h2, h3, h4⟩
    · rw [h0]; simp [Builtin.append_, run_underlying Try.underlying60, sizeOf, typeInfo, hi0, Builtin.lenOf, Builtin.firstCells]
    · simp [Builtin.append_, run_underlying Try.underlying60, sizeOf, typeInfo, hi0, Builtin.lenOf, Builtin.firstCells, storeCells]
      intro hx
      omega
  · have hcells : ∀ (j : Nat) (u : Value), (bs2.flatMap encER)[j]? = some u → w.cell? (ad.add j) = some u := fun j u hu => by
      rcases Nat.eq_zero_or_pos m with h0 | h0
      · rw [List.eq_nil_of_length_eq_zero (hl2.trans h0)] at hu; cases hu
      · obtain ⟨a', e, hcc⟩ := hc h0
        obtain rfl := Option.some.inj e
        exact hcc j u hu
    obtain ⟨v', w', hrun, hown, hgr, _, hat⟩ := run_append_own_at (P := Try.prog) w base 60 ty 82 i0 _ 4 40 Try.underlying60 hi0 hz hs1 hb1 rfl (by omega) v l.length (bs.flatMap encER) ho ad m c (bs2.flatMap encER) (by rw [encERs_len, hl2]) hcells
      (fun u hu => encER_cell hu) (by unfold maxLen; omega) (by omega) hb
    have hbel : ∀ B, B ≤ base → ∀ w0, Below B w0 w → Below B w0 w' := fun B hB w0 hw0 => hw0.grown hgr (by omega) (fun k hk => by
      have := ho.lt k hk
      omega)
    refine ⟨v', w', hrun, ⟨bs ++ bs2, ?_, by rw [List.map_append, hl, hl2'], fun t ht => ?_⟩, hbel, hgr.size, fun b hb hne => hgr.block b hb (fun e => hne e.symm)⟩
    · rw [List.length_append, List.flatMap_append, hlen2]
      exact hown
    · rcases List.mem_append.1 ht with ht | ht
      · exact hok t ht
      · exact hok2 t ht
theorem wpList_append_edges {ops : Array Oper} {rest : List Oper} {o : Oper} {a : Act} {Q : Exit → Act → World → Prop} {W : World} (hgd : o.guard = none) (s x : Operand)
    (ho : o.op = .call { callee := .builtin .append, args := #[s, x], argTypes := #[60, 60] }) (base : Nat) (v : Value) (l : List EdgeL) (ad : Option Addr) (m c : Nat) (l2 : List EdgeL)
    (hs : a.eval s = v) (hx : a.eval x = .slice ad m c) (hB : EdOwn W base v l) (hr : EdRow W ad m l2) (hb : base ≤ W.heap.size) (hlen : l.length + m ≤ 1000000)
    (h : ∀ v' w', EdOwn w' base v' (l ++ l2) → Below base W w' → wpList Try.prog ops Q rest (a.put o.dst v') w') : wpList Try.prog ops Q (o :: rest) a W := by
  obtain ⟨v', w', hrun, hown, hbel, _⟩ := hB.add hb c hr hlen o.type
  exact wpList_append_lx hgd s x _ ho _ _ _ hs hx hrun (h v' w' hown (hbel base (Nat.le_refl _) W (Below.refl _ _)))
/-- Such a slice reads as its edges. -/
theorem EdOwn.sees {w : World} {base : Nat} {v : Value} {l : List EdgeL} (h : EdOwn w base v l) (hl : l.length ≤ 1000000) : ∃ a c, v = .slice a l.length c ∧ Edges w w.heap.size a l.length l ∧ l.length ≤ c ∧ c ≤ maxLen := by
  obtain ⟨bs, h, hbl, hok⟩ := h
  have hlen : bs.length = l.length := by rw [← hbl, List.length_map]
  have hlt := h.lt
  rcases h.2 with ⟨h0, h1⟩ | ⟨g, cap, cur, rfl, hbase, hh, h1, h2, h3, h4⟩
  · have hz : l = [] := List.eq_nil_of_length_eq_zero h1
    subst hz
    exact ⟨none, 0, h0, Edges.zero _ _ _, Nat.le_refl _, Nat.zero_le _⟩
  · refine ⟨_, cap, rfl, ⟨rfl, by omega, fun _ => ⟨g, 0, rfl, (hlt g rfl).2, fun j x hj => ?_⟩⟩, h1, h2⟩
    have hj' : j < l.length := (List.getElem?_eq_some_iff.1 hj).1
    have hb' := List.getElem?_eq_getElem (l := bs) (i := j) (by omega)
    have hx : x = edgeR (bs[j]'(by omega)) := by
      rw [← hbl, List.getElem?_map, hb'] at hj
      exact (Option.some.inj hj).symm
    have hc : ∀ i, i < 4 → w.cell? ⟨g, 0 + j * 4 + i, none⟩ = (encER (bs[j]'(by omega)))[i]? := fun i hi => by
      rw [cell_of_row w g _ cur 82 (0, 0) hh]
      have : (cur.toList.take (l.length * 4))[j * 4 + i]? = (bs.flatMap encER)[j * 4 + i]? := by rw [h4]
      rw [List.getElem?_take, if_pos (by omega)] at this
      rw [Nat.zero_add, ← Array.getElem?_toList, this]
      exact flatEd_at bs j _ hb' i hi
    have ho := hok _ (List.getElem_mem (by omega : j < bs.length))
    refine ⟨(bs[j]'(by omega)).s, ⟨?_, ?_, ?_, ?_⟩, by rw [hx]; rfl, ho⟩
    · have := hc 0 (by omega); rw [Nat.add_zero] at this; rw [this]; rfl
    · rw [hc 1 (by omega), hx]; rfl
    · rw [hc 2 (by omega), hx]; rfl
    · rw [hc 3 (by omega), hx]; rfl
end Go.Proofs.Ytgefhgcpnfbigaa
