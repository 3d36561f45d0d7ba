/- Nodes that the call makes by append; their edges lie in blocks of their own. -/
import Derived.Test.YtgefhgcpnfbigaaBkOwn
import Derived.Test.YtgefhgcpnfbigaaTuRefs
namespace Go.Proofs.Ytgefhgcpnfbigaa
open Go.RowKit

theorem Edges.stay {w w' : World} {bound bound' : Nat} {a : Option Addr} {n : Nat} {l : List EdgeL} (h : Edges w bound a n l) (hb : bound ≤ bound') (hk : ∀ b off, a = some ⟨b, off, none⟩ → w'.heap[b]? = w.heap[b]?) : Edges w' bound' a n l :=
  ⟨h.1, h.2.1, fun hn => by
    obtain ⟨b, off, e, hlt, hc⟩ := h.2.2 hn
    refine ⟨b, off, e, by omega, fun j x hj => ?_⟩
    obtain ⟨s, ⟨c0, c1, c2, c3⟩, h1⟩ := hc j x hj
    have hq : ∀ o, w'.cell? ⟨b, o, none⟩ = w.cell? ⟨b, o, none⟩ := fun o => World.cell?_of_block (hk b off e)
    exact ⟨s, ⟨(hq _).trans c0, (hq _).trans c1, (hq _).trans c2, (hq _).trans c3⟩, h1⟩⟩
/-- A node as it is laid. -/
structure NR where
  k : Int
  s : ByteArray
  a : Option Addr
  n : Nat
  c : Nat
def encNR (r : NR) : List Value := [.int .i64 r.k, .string r.s, .slice r.a r.n r.c]
/-- What is laid reads as this node, and its edges lie from base on. -/
def NodeAt (w : World) (base : Nat) (v : Value) (r : NR) (t : NodeL) : Prop :=
  r.k = t.kind ∧ r.s.toList = t.peer ∧ r.s.size ≤ maxLen ∧ Edges w w.heap.size r.a r.n t.arms ∧ (∀ b off, r.a = some ⟨b, off, none⟩ → base ≤ b ∧ b < w.heap.size ∧ v.ownBlock ≠ some b) ∧ r.n ≤ r.c
def NdOwn (w : World) (base : Nat) (v : Value) (f : List NodeL) : Prop :=
  ∃ rs : List NR, w.ownsRow base 62 3 v f.length (rs.flatMap encNR) ∧ rs.length = f.length ∧ ∀ (j : Nat) (r : NR) (t : NodeL), rs[j]? = some r → f[j]? = some t → NodeAt w base v r t
theorem NdOwn.zero (w : World) (base : Nat) : NdOwn w base (.slice none 0 0) [] := ⟨[], World.ownsRow_nil w base 62 3, rfl, fun j r l h => by simp at h⟩
theorem NdOwn.beside {w w' : World} {base g : Nat} {v : Value} {f : List NodeL} (h : NdOwn w base v f) (hb : Beside g w w') (hg : g < base) : NdOwn w' base v f := by
  obtain ⟨rs, h, hrl, hrd⟩ := h
  have hlt := h.lt
  refine ⟨rs, ⟨h.1, ?_⟩, hrl, fun j r t hr ht => ?_⟩
  · rcases h.2 with h0 | ⟨k, cap, cur, rfl, hbase, hh, h1, h2, h3, h4⟩
    · exact .inl h0
    · refine .inr ⟨k, cap, cur, rfl, hbase, ?_, h1, h2, h3, h4⟩
      rw [hb.block k (hlt k rfl).2 (by omega)]
      exact hh
  · obtain ⟨e1, e2, e3, e4, e5, e6⟩ := hrd j r t hr ht
    have hs := hb.size
    exact ⟨e1, e2, e3, e4.stay hs (fun b off e => hb.block b (e5 b off e).2.1 (by have := (e5 b off e).1; omega)), fun b off e => ⟨(e5 b off e).1, by have := (e5 b off e).2.1; omega, (e5 b off e).2.2⟩, e6⟩
theorem NdOwn.kept {w w' : World} {base : Nat} {v : Value} {f : List NodeL} (h : NdOwn w base v f) (hb : Below w.heap.size w w') (h0 : 0 < base) : NdOwn w' base v f := h.beside (g := 0) (Beside.of_below hb) h0
theorem flatNd_at : ∀ (l : List NR) (j : Nat) (t : NR), l[j]? = some t → ∀ i, i < 3 → (l.flatMap encNR)[j * 3 + i]? = (encNR t)[i]? := by
  intro l
  induction l with
  | nil => intro j t h; cases h
  | cons x l ih =>
    intro j t h i hi
    rw [List.flatMap_cons]
    cases j with
    | zero =>
      injection h with h
      subst h
      rw [Nat.zero_mul, Nat.zero_add, List.getElem?_append_left hi]
    | succ j =>
      have e : (j + 1) * 3 + i = 3 + (j * 3 + i) := by omega
      rw [e, List.getElem?_append_right (by show 3 ≤ _; omega)]
      show (l.flatMap encNR)[3 + (j * 3 + i) - 3]? = _
      rw [Nat.add_sub_cancel_left]
      exact ih j t h i hi
theorem info_node : (Try.prog.info? 62).map (fun i => (i.zero, i.size, i.bytes)) = some (some (.agg #[.int .i64 0, .string ⟨#[]⟩, .slice none 0 0]), 3, 48) := by kernel_rfl
theorem NdOwn.add {W : World} {base : Nat} {v : Value} {f : List NodeL} {r : NR} {t : NodeL} (hB : NdOwn W base v f) (hA : NodeAt W base v r t) (hb : base ≤ W.heap.size) (hlen : f.length ≤ 1000000) (ty : Nat) :
    ∃ v' w', (Builtin.append_ #[22, 22] ty #[v, .slice (some ⟨W.heap.size, 0, none⟩) 1 1]).run Try.prog (W.alloc (.cells #[.int .i64 r.k, .string r.s, .slice r.a r.n r.c] 62)) = .ok v' w' ∧ NdOwn w' base v' (f ++ [t]) ∧ (∀ w0, Below base w0 W → Below base w0 w') ∧ Keeps v W w' := by
  obtain ⟨i0, hi0, hzz⟩ := Option.map_eq_some_iff.1 info_node
  simp only [Prod.mk.injEq] at hzz
  obtain ⟨hz, hs1, hb1⟩ := hzz
  obtain ⟨rs, hown, hrl, hrd⟩ := hB
  have hown1 : (W.alloc (.cells #[.int .i64 r.k, .string r.s, .slice r.a r.n r.c] 62)).ownsRow base 62 3 v f.length (rs.flatMap encNR) := World.ownsRow.alloc hown _
  obtain ⟨v', w', hrun, hown', hgr, _, hat⟩ := run_append_own_at (P := Try.prog) (W.alloc (.cells #[.int .i64 r.k, .string r.s, .slice r.a r.n r.c] 62)) base 22 ty 62 i0 _ 3 48 Try.underlying22 hi0 hz hs1 hb1 rfl (by omega) v f.length (rs.flatMap encNR) hown1
    ⟨W.heap.size, 0, none⟩ 1 1 (encNR r) rfl
    (fun j u hu => by
      rw [Go.WideShapes.add_plain, cell_of_row _ _ _ _ _ _ (heap_alloc_new W _), Nat.zero_add, ← hu]
      rw [← Array.getElem?_toList]
      rfl)
    (fun u hu => by
      unfold encNR at hu
      simp only [List.mem_cons, List.not_mem_nil, or_false] at hu
      rcases hu with rfl | rfl | rfl <;> rfl) (by unfold maxLen; omega) (by omega) (by simp; omega)
  have hbel : ∀ B, B ≤ base → ∀ w0, Below B w0 W → Below B w0 w' := fun B hB w0 hw0 => (hw0.alloc (by omega) _).grown hgr (by simp; omega) (fun k hk => by
    have := hown1.lt k hk
    omega)
  have hsz : W.heap.size + 1 ≤ w'.heap.size := by
    have := hgr.size
    simpa using this
  have hblk : ∀ b, b < W.heap.size → v.ownBlock ≠ some b → w'.heap[b]? = W.heap[b]? := fun b hbl hne => (hgr.block b (by simp; omega) (fun e => hne e.symm)).trans ((tu1 W _).block b hbl)
  have hnew : ∀ b, b < W.heap.size → v.ownBlock ≠ some b → v'.ownBlock ≠ some b := fun b hbl hne => by
    rcases hat with e | e
    · rw [e]; exact hne
    · rw [e]
      intro e2
      have := Option.some.inj e2
      simp at this
      omega
  have hmove : ∀ (r : NR) (t : NodeL), NodeAt W base v r t → NodeAt w' base v' r t := fun r t ⟨e1, e2, e3, e4, e5, e6⟩ =>
    ⟨e1, e2, e3, e4.stay (by omega) (fun b off e => hblk b (e5 b off e).2.1 (e5 b off e).2.2), fun b off e => ⟨(e5 b off e).1, by have := (e5 b off e).2.1; omega, hnew b (e5 b off e).2.1 (e5 b off e).2.2⟩, e6⟩
  refine ⟨v', w', hrun, ⟨rs ++ [r], ?_, by simp [hrl], fun j r2 k hj hk => ?_⟩, fun w0 hw0 => hbel base (Nat.le_refl _) w0 hw0, by omega, hblk⟩
  · rw [List.length_append, List.flatMap_append, List.flatMap_cons, List.flatMap_nil, List.append_nil]
    exact hown'
  · rcases Nat.lt_or_ge j rs.length with hlt | hge
    · rw [List.getElem?_append_left hlt] at hj
      rw [List.getElem?_append_left (by omega)] at hk
      exact hmove _ _ (hrd j r2 k hj hk)
    · rw [List.getElem?_append_right hge] at hj
      rw [List.getElem?_append_right (by omega), ← hrl] at hk
      have h0 : j - rs.length = 0 := by
        obtain ⟨h1, _⟩ := List.getElem?_eq_some_iff.1 hj
        simpa using h1
      rw [h0] at hj hk
      obtain rfl : r = r2 := by simpa using hj
      obtain rfl : t = k := by simpa using hk
      exact hmove _ _ hA
theorem wpList_append_node {ops : Array Oper} {rest : List Oper} {o : Oper} {a : Act} {Q : Exit → Act → World → Prop} {W : World} {cells : Array Value} (hgd : o.guard = none) (s x : Operand)
    (ho : o.op = .call { callee := .builtin .append, args := #[s, x], argTypes := #[22, 22] }) (base : Nat) (v : Value) (f : List NodeL) (r : NR) (t : NodeL) (hc : cells = #[.int .i64 r.k, .string r.s, .slice r.a r.n r.c])
    (hs : a.eval s = v) {g : Nat} (hx : a.eval x = .slice (some ⟨g, 0, none⟩) 1 1) (hg : g = W.heap.size) (hB : NdOwn W base v f) (hA : NodeAt W base v r t) (hb : base ≤ W.heap.size) (hlen : f.length ≤ 1000000)
    (w0 : World) (hw : Below base w0 W)
    (h : ∀ v' w', NdOwn w' base v' (f ++ [t]) → Below base w0 w' → wpList Try.prog ops Q rest (a.put o.dst v') w') : wpList Try.prog ops Q (o :: rest) a (W.alloc (.cells cells 62)) := by
  subst hc hg
  obtain ⟨v', w', hrun, hown, hbel, _⟩ := hB.add hA hb hlen o.type
  exact wpList_append_lx hgd s x _ ho _ _ _ hs hx hrun (h v' w' hown (hbel w0 hw))
theorem step_append_node {ops : Array Oper} {o : Oper} {a : Act} {K : Act → World → Prop} {Q : Exit → Act → World → Prop} {E : Prop} {w1 : World} (W : World) (hgd : o.guard = none) (s x : Operand)
    (ho : o.op = .call { callee := .builtin .append, args := #[s, x], argTypes := #[22, 22] }) (base : Nat) (v : Value) (f : List NodeL) (r : NR) (t : NodeL)
    (hw1 : w1 = W.alloc (.cells #[.int .i64 r.k, .string r.s, .slice r.a r.n r.c] 62))
    (hs : a.eval s = v) (hx : a.eval x = .slice (some ⟨W.heap.size, 0, none⟩) 1 1) (hB : NdOwn W base v f) (hA : NodeAt W base v r t) (hb : base ≤ W.heap.size) (hlen : f.length ≤ 1000000)
    (w0 : World) (hw : Below base w0 W)
    (h : ∀ v' w', NdOwn w' base v' (f ++ [t]) → Below base w0 w' → Keeps v W w' → K (a.put o.dst v') w') : if Region.wanted o (yielded ops a.tmps) = true then Oper.wp Try.prog o a w1 K Q else E := by
  have hwant : Region.wanted o (yielded ops a.tmps) = true := by simp [Region.wanted, hgd]
  rw [if_pos hwant]
  subst hw1
  obtain ⟨v', w', hrun, hown, hbel, hkp⟩ := hB.add hA hb hlen o.type
  have hrun' : (Builtin.append_ #[22, 22] o.type #[v, .slice (some ⟨W.heap.size, 0, none⟩) 1 1]).run Try.prog (W.alloc (.cells #[.int .i64 r.k, .string r.s, .slice r.a r.n r.c] 62)) = .ok v' w' := hrun
  unfold Oper.wp execOp
  simp only [ho, resolve, invoke, builtin, Sem.run_bind, Sem.run_pure, Result.andThen_ok, List.map_toArray, List.map_cons, List.map_nil, hs, hx, hrun']
  exact h v' w' hown (hbel w0 hw) hkp
theorem NdOwn.sees {w : World} {base : Nat} {v : Value} {f : List NodeL} (h : NdOwn w base v f) (hl : f.length ≤ 1000000) : ∃ a c, v = .slice a f.length c ∧ Nodes w w.heap.size a f.length f := by
  obtain ⟨rs, h, hrl, hrd⟩ := h
  have hlt := h.lt
  rcases h.2 with ⟨h0, h1⟩ | ⟨g, cap, cur, rfl, hbase, hh, h1, h2, h3, h4⟩
  · have hz : f = [] := List.eq_nil_of_length_eq_zero h1
    subst hz
    exact ⟨none, 0, h0, Nodes.zero _ _ _⟩
  · refine ⟨_, cap, rfl, rfl, by omega, fun _ => ⟨g, 0, rfl, (hlt g rfl).2, fun j t hj => ?_⟩⟩
    have hj' : j < f.length := (List.getElem?_eq_some_iff.1 hj).1
    have hr := List.getElem?_eq_getElem (l := rs) (i := j) (by omega)
    obtain ⟨e1, e2, e3, e4, _⟩ := hrd j _ t hr hj
    have hcell : ∀ i, i < 3 → w.cell? ⟨g, 0 + (j * 3 + i), none⟩ = (encNR (rs[j]'(by omega)))[i]? := fun i hi => by
      rw [cell_of_row w g _ cur 62 (0, 0) hh, Nat.zero_add, ← flatNd_at rs j _ hr i hi]
      have : (cur.toList.take (f.length * 3))[j * 3 + i]? = (rs.flatMap encNR)[j * 3 + i]? := by rw [h4]
      rw [List.getElem?_take, if_pos (by omega)] at this
      rw [← Array.getElem?_toList, this]
    have c0 := hcell 0 (by omega)
    have c1 := hcell 1 (by omega)
    have c2 := hcell 2 (by omega)
    exact ⟨(rs[j]'(by omega)).s, (rs[j]'(by omega)).a, (rs[j]'(by omega)).n, (rs[j]'(by omega)).c, ⟨c0.trans (by rw [← e1]; rfl), c1, c2⟩, e2, e3, e4⟩
/-- Each node's edges have room for their number. -/
def NCaps (w : World) (a : Option Addr) (n : Nat) : Prop := ∀ b off, a = some ⟨b, off, none⟩ → ∀ j, j < n → ∃ aa an ac, w.cell? ⟨b, off + j * 3 + 2, none⟩ = some (.slice aa an ac) ∧ an ≤ ac
theorem NdOwn.caps {w : World} {base n c : Nat} {a : Option Addr} {f : List NodeL} (h : NdOwn w base (.slice a n c) f) : NCaps w a n := by
  obtain ⟨rs, h, hrl, hrd⟩ := h
  rcases h.2 with ⟨h0, h1⟩ | ⟨g, cap, cur, hv, hbase, hh, h1, h2, h3, h4⟩
  · obtain ⟨rfl, _, _⟩ := Value.slice.inj h0
    intro b off e
    cases e
  · obtain ⟨rfl, rfl, _⟩ := Value.slice.inj hv
    intro b off e j hj
    obtain ⟨rfl, rfl, _⟩ := Addr.mk.inj (Option.some.inj e)
    have hr := List.getElem?_eq_getElem (l := rs) (i := j) (by omega)
    have ht := List.getElem?_eq_getElem (l := f) (i := j) (by omega)
    obtain ⟨_, _, _, _, _, e6⟩ := hrd j _ _ hr ht
    refine ⟨(rs[j]'(by omega)).a, (rs[j]'(by omega)).n, (rs[j]'(by omega)).c, ?_, e6⟩
    rw [cell_of_row w g _ cur 62 (0, 0) hh, show 0 + j * 3 + 2 = j * 3 + 2 by omega]
    have h5 := flatNd_at rs j _ hr 2 (by omega)
    have : (cur.toList.take (f.length * 3))[j * 3 + 2]? = (rs.flatMap encNR)[j * 3 + 2]? := by rw [h4]
    rw [List.getElem?_take, if_pos (by omega)] at this
    rw [← Array.getElem?_toList, this, h5]
    rfl
end Go.Proofs.Ytgefhgcpnfbigaa
