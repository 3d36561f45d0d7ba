/- A slice of values that the call makes by append. -/
import Derived.Test.YthbakfceaaaamaaTmTwo
namespace Go.Proofs.Ythbakfceaaaamaa
open Go.RowKit

/-- A value as it lies in memory. -/
structure BV where
  k : Int
  x : Int
  s : ByteArray
  a : Option Addr
  n : Nat
  c : Nat
def encBV (b : BV) : List Value := [.int .i64 b.k, .int .i64 b.x, .string b.s, .slice b.a b.n b.c]
theorem encBV_len (l : List BV) : (l.flatMap encBV).length = l.length * 4 := by
  induction l with
  | nil => rfl
  | cons t l ih => rw [List.flatMap_cons, List.length_append, ih, List.length_cons]; show 4 + _ = _; omega
/-- The slice v, which the call made, holds just these values. -/
def VOwn (w : World) (v : Value) (bs : List BV) : Prop := w.ownsRow 0 33 4 v bs.length (bs.flatMap encBV)
theorem VOwn.zero (w : World) : VOwn w (.slice none 0 0) [] := World.ownsRow_nil w 0 33 4
theorem VOwn.kept {w w' : World} {v : Value} {bs : List BV} (h : VOwn w v bs) (hb : Below w.heap.size w w') : VOwn w' v bs := by
  have hlt := h.lt
  rcases h.2 with h0 | ⟨g, cap, cur, rfl, hbase, hh, h1, h2, h3, h4⟩
  · exact ⟨h.1, .inl h0⟩
  · refine ⟨h.1, .inr ⟨g, cap, cur, rfl, hbase, ?_, h1, h2, h3, h4⟩⟩
    rw [hb.block g (hlt g rfl).2]
    exact hh
theorem info_val : (Try.prog.info? 33).map (fun i => (i.zero, i.size, i.bytes)) = some (some (.agg #[.int .i64 0, .int .i64 0, .string ⟨#[]⟩, .slice none 0 0]), 4, 56) := by kernel_rfl
/-- One value more, which the statement just laid into a new array. -/
theorem VOwn.more {w : World} {v : Value} {l : List BV} (h : VOwn w v l) (t : BV) (hlen : l.length ≤ 1000000000) (ty : Nat) :
    ∃ v' w', (Builtin.append_ #[56, 56] ty #[v, .slice (some ⟨w.heap.size, 0, none⟩) 1 1]).run Try.prog (w.alloc (.cells (encBV t).toArray 33)) = .ok v' w' ∧
      VOwn w' v' (l ++ [t]) ∧ (w.alloc (.cells (encBV t).toArray 33)).grownBy w' v.ownBlock ∧ (v'.ownBlock = v.ownBlock ∨ v'.ownBlock = some (w.heap.size + 1)) := by
  obtain ⟨i0, hi0, hzz⟩ := Option.map_eq_some_iff.1 info_val
  simp only [Prod.mk.injEq] at hzz
  obtain ⟨hz, hs1, hb1⟩ := hzz
  obtain ⟨v', w', hrun, hown, hgr, _, hat⟩ := run_append_own_at (P := Try.prog) (w.alloc (.cells (encBV t).toArray 33)) 0 56 ty 33 i0 _ 4 56 Try.underlying56 hi0 hz hs1 hb1 rfl (by omega) v l.length (l.flatMap encBV) (World.ownsRow.alloc h _)
    ⟨w.heap.size, 0, none⟩ 1 1 (encBV t) rfl
    (fun j u hu => by
      have hj : j < (encBV t).length := by
        rcases Nat.lt_or_ge j (encBV t).length with h | h
        · exact h
        · rw [List.getElem?_eq_none h] at hu; cases hu
      rw [cell_alloc j (by simpa using hj)]
      rw [← hu, List.getElem?_eq_getElem hj]
      simp)
    (fun u hu => by
      unfold encBV at hu
      simp only [List.mem_cons, List.not_mem_nil, or_false] at hu
      rcases hu with rfl | rfl | rfl | rfl <;> rfl) (by unfold maxLen; omega) (by omega) (by omega)
  refine ⟨v', w', hrun, ?_, hgr, ?_⟩
  · unfold VOwn
    rw [List.length_append, List.flatMap_append, List.flatMap_cons, List.flatMap_nil, List.append_nil]
    exact hown
  · rw [World.size_alloc] at hat
    exact hat
theorem wpList_append_vals {ops : Array Oper} {rest : List Oper} {o : Oper} {a : Act} {Q : Exit → Act → World → Prop} {W : World} {cells : Array Value} (hgd : o.guard = none) (s x : Operand)
    (ho : o.op = .call { callee := .builtin .append, args := #[s, x], argTypes := #[56, 56] }) (v : Value) (l : List BV) (t : BV) (hc : cells = (encBV t).toArray)
    (hs : a.eval s = v) {g : Nat} (hx : a.eval x = .slice (some ⟨g, 0, none⟩) 1 1) (hg : g = W.heap.size) (hB : VOwn W v l) (hlen : l.length ≤ 1000000000)
    (h : ∀ v' w', VOwn w' v' (l ++ [t]) → (W.alloc (.cells cells 33)).grownBy w' v.ownBlock → (v'.ownBlock = v.ownBlock ∨ v'.ownBlock = some (W.heap.size + 1)) → wpList Try.prog ops Q rest (a.put o.dst v') w') :
    wpList Try.prog ops Q (o :: rest) a (W.alloc (.cells cells 33)) := by
  subst hc hg
  obtain ⟨v', w', hrun, hown, hbel, hat⟩ := hB.more t hlen o.type
  exact wpList_append_lx hgd s x _ ho _ _ _ hs hx hrun (h v' w' hown hbel hat)
theorem grown_below {w w' : World} (h : w.grownBy w' none) : Below w.heap.size w w' := ⟨h.os, h.tape, h.output, h.size, fun k hk => h.block k hk (by simp)⟩
theorem grown_beside {w w' : World} {g : Nat} (h : w.grownBy w' (some g)) : Beside g w w' := ⟨h.os, h.tape, h.output, h.size, fun k hk hg => h.block k hk (by simpa using hg)⟩
/-- Such a slice reads as the values whose parts lie in memory. -/
theorem VOwn.vals {w : World} {v : Value} {bs : List BV} {vs : List Val} (h : VOwn w v bs) (hl : bs.length = vs.length) (hn : bs.length ≤ 1000)
    (hp : ∀ (j : Nat) (b : BV) (x : Val), bs[j]? = some b → vs[j]? = some x → b.k = x.kind ∧ b.x = x.num ∧ b.s.toList = x.text ∧ Nums w w.heap.size b.a b.n x.list) :
    ∃ a c, v = .slice a bs.length c ∧ Vals w w.heap.size a bs.length vs := by
  have hlt := h.lt
  rcases h.2 with ⟨h0, h1⟩ | ⟨g, cap, cur, rfl, hbase, hh, h1, h2, h3, h4⟩
  · have hz : bs = [] := by
      cases bs with
      | nil => rfl
      | cons x l => simp at h1
    subst hz
    have hz : vs = [] := List.eq_nil_of_length_eq_zero hl.symm
    subst hz
    exact ⟨none, 0, h0, Vals.zero _ _ _⟩
  · refine ⟨_, cap, rfl, hl.symm, hn, fun _ => ⟨g, 0, rfl, (hlt g rfl).2, fun j x hj => ?_⟩⟩
    have hj' : j < bs.length := by
      obtain ⟨h5, _⟩ := List.getElem?_eq_some_iff.1 hj
      omega
    obtain ⟨p0, p1, p2, p3⟩ := hp j bs[j] x (List.getElem?_eq_getElem hj') hj
    have hget : ∀ (l : List BV) (j : Nat) (t : BV), l[j]? = some t → ∀ i, i < 4 → (l.flatMap encBV)[j * 4 + i]? = (encBV t)[i]? := by
      intro l
      induction l with
      | nil => intro j t h; cases h
      | cons x l ih =>
        intro j t h i hi
        rw [List.flatMap_cons]
        cases j with
        | zero =>
          injection h with h
          subst h
          rw [Nat.zero_mul, Nat.zero_add, List.getElem?_append_left (by show i < 4; exact hi)]
        | succ j =>
          rw [List.getElem?_append_right (by show 4 ≤ _; omega)]
          show (l.flatMap encBV)[(j + 1) * 4 + i - 4]? = _
          rw [show (j + 1) * 4 + i - 4 = j * 4 + i by omega]
          exact ih j t h i hi
    have hc : ∀ i, i < 4 → w.cell? ⟨g, 0 + j * 4 + i, none⟩ = (encBV bs[j])[i]? := fun i hi => by
      rw [cell_of_row w g _ cur 33 (0, 0) hh]
      have : (cur.toList.take (bs.length * 4))[j * 4 + i]? = (bs.flatMap encBV)[j * 4 + i]? := by rw [h4]
      rw [List.getElem?_take, if_pos (by omega)] at this
      rw [Nat.zero_add, ← Array.getElem?_toList, this]
      exact hget bs j _ (List.getElem?_eq_getElem hj') i hi
    refine ⟨bs[j].s, bs[j].a, bs[j].n, bs[j].c, ⟨?_, ?_, ?_, ?_⟩, p2, p3⟩
    · have := hc 0 (by omega); rw [Nat.add_zero] at this; rw [this, ← p0]; rfl
    · rw [hc 1 (by omega), ← p1]; rfl
    · rw [hc 2 (by omega)]; rfl
    · rw [hc 3 (by omega)]; rfl
end Go.Proofs.Ythbakfceaaaamaa
