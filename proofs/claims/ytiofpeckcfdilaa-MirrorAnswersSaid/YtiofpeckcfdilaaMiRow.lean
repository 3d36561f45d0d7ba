/- Turns that the call makes whose arms lie in elder blocks. -/
import Derived.Test.YtiofpeckcfdilaaTuRows
import Derived.Test.YtiofpeckcfdilaaTuMakes
import Derived.Test.YtiofpeckcfdilaaTuLawP
namespace Go.Proofs.Ytiofpeckcfdilaa
open Go.RowKit

/-- What is laid reads as this turn, and its arms lie between the bounds. -/
def VFact (w : World) (lo0 lo : Nat) (r : TR) (t : TurnL) : Prop := r.k = t.kind ∧ r.s.toList = t.peer ∧ r.s.size ≤ maxLen ∧ Arms w lo r.a r.n t.arms ∧ ∀ b off, r.a = some ⟨b, off, none⟩ → lo0 ≤ b ∧ b < lo
/-- Turns of the call's own; their arms lie in blocks between two bounds. -/
def VOwn (w : World) (lo0 lo base : Nat) (v : Value) (f : List TurnL) : Prop :=
  ∃ rs : List TR, w.ownsRow base 52 3 v f.length (rs.flatMap encTR) ∧ rs.length = f.length ∧ ∀ (j : Nat) (r : TR) (t : TurnL), rs[j]? = some r → f[j]? = some t → VFact w lo0 lo r t
theorem VOwn.zero (w : World) (lo0 lo base : Nat) : VOwn w lo0 lo base (.slice none 0 0) [] := ⟨[], World.ownsRow_nil w base 52 3, rfl, fun j r l h => by simp at h⟩
theorem VOwn.beside {w w' : World} {lo0 lo base g : Nat} {v : Value} {f : List TurnL} (h : VOwn w lo0 lo base v f) (hb : Beside g w w') (hg : g < lo0 ∨ lo ≤ g) (hg2 : g < base) (hl : lo ≤ w.heap.size) : VOwn w' lo0 lo base v f := by
  obtain ⟨rs, h, hrl, hrd⟩ := h
  have hlt := h.lt
  refine ⟨rs, ⟨h.1, ?_⟩, hrl, fun j r t hr ht => ?_⟩
  · rcases h.2 with h0 | ⟨k, cap, cur, rfl, hbase, hh, h1, h2, h3, h4⟩
    · exact .inl h0
    · refine .inr ⟨k, cap, cur, rfl, hbase, ?_, h1, h2, h3, h4⟩
      rw [hb.block k (hlt k rfl).2 (by omega)]
      exact hh
  · obtain ⟨e1, e2, e3, e4, e5⟩ := hrd j r t hr ht
    exact ⟨e1, e2, e3, e4.stay (Nat.le_refl _) (fun b off e => hb.block b (by have := (e5 b off e).2; omega) (by have := e5 b off e; omega)), e5⟩
theorem VOwn.below {w w' : World} {lo0 lo base B : Nat} {v : Value} {f : List TurnL} (h : VOwn w lo0 lo base v f) (hb : Below B w w') (hw : w.heap.size ≤ B) (hl : lo ≤ w.heap.size) : VOwn w' lo0 lo base v f := by
  obtain ⟨rs, h, hrl, hrd⟩ := h
  have hlt := h.lt
  refine ⟨rs, ⟨h.1, ?_⟩, hrl, fun j r t hr ht => ?_⟩
  · rcases h.2 with h0 | ⟨k, cap, cur, rfl, hbase, hh, h1, h2, h3, h4⟩
    · exact .inl h0
    · refine .inr ⟨k, cap, cur, rfl, hbase, ?_, h1, h2, h3, h4⟩
      rw [hb.block k (by have := (hlt k rfl).2; omega)]
      exact hh
  · obtain ⟨e1, e2, e3, e4, e5⟩ := hrd j r t hr ht
    exact ⟨e1, e2, e3, e4.below (hb.mono (by omega)), e5⟩
theorem VOwn.add {W : World} {lo0 lo base : Nat} {v : Value} {f : List TurnL} {r : TR} {t : TurnL} (hB : VOwn W lo0 lo base v f) (hA : VFact W lo0 lo r t) (hlb : lo ≤ base) (hb : base ≤ W.heap.size) (hlen : f.length ≤ 1000000) (ty : Nat) :
    ∃ v' w', (Builtin.append_ #[36, 36] ty #[v, .slice (some ⟨W.heap.size, 0, none⟩) 1 1]).run Try.prog (W.alloc (.cells #[.int .i64 r.k, .string r.s, .slice r.a r.n r.c] 52)) = .ok v' w' ∧ VOwn w' lo0 lo base v' (f ++ [t]) ∧ ∀ w0, Below base w0 W → Below base w0 w' := by
  obtain ⟨i0, hi0, hzz⟩ := Option.map_eq_some_iff.1 info_turn
  simp only [Prod.mk.injEq] at hzz
  obtain ⟨hz, hs1, hb1⟩ := hzz
  obtain ⟨rs, hown, hrl, hrd⟩ := hB
  have hown1 : (W.alloc (.cells #[.int .i64 r.k, .string r.s, .slice r.a r.n r.c] 52)).ownsRow base 52 3 v f.length (rs.flatMap encTR) := World.ownsRow.alloc hown _
  obtain ⟨v', w', hrun, hown', hgr, _, hat⟩ := run_append_own_at (P := Try.prog) (W.alloc (.cells #[.int .i64 r.k, .string r.s, .slice r.a r.n r.c] 52)) base 36 ty 52 i0 _ 3 48 Try.underlying36 hi0 hz hs1 hb1 rfl (by omega) v f.length (rs.flatMap encTR) hown1
    ⟨W.heap.size, 0, none⟩ 1 1 (encTR r) rfl
    (fun j u hu => by
      rw [Go.WideShapes.add_plain, cell_of_row _ _ _ _ _ _ (heap_alloc_new W _), Nat.zero_add, ← hu]
      rw [← Array.getElem?_toList]
      rfl)
    (fun u hu => by
      unfold encTR at hu
      simp only [List.mem_cons, List.not_mem_nil, or_false] at hu
      rcases hu with rfl | rfl | rfl <;> rfl) (by unfold maxLen; omega) (by omega) (by simp; omega)
  have hbel : ∀ w0, Below base w0 W → Below base w0 w' := fun w0 hw0 => (hw0.alloc (by omega) _).grown hgr (by simp; omega) (fun k hk => by
    have := hown1.lt k hk
    omega)
  have hmove : ∀ (r : TR) (t : TurnL), (VFact W lo0 lo r t) → (VFact w' lo0 lo r t) := fun r t ⟨e1, e2, e3, e4, e5⟩ =>
    ⟨e1, e2, e3, e4.below ((hbel W (Below.refl _ _)).mono hlb), e5⟩
  refine ⟨v', w', hrun, ⟨rs ++ [r], ?_, by simp [hrl], fun j r2 k hj hk => ?_⟩, hbel⟩
  · rw [List.length_append, List.flatMap_append, List.flatMap_cons, List.flatMap_nil, List.append_nil]
    exact hown'
  · rcases Nat.lt_or_ge j rs.length with hlt | hge
    · rw [List.getElem?_append_left hlt] at hj
      rw [List.getElem?_append_left (by omega)] at hk
      exact hmove _ _ (hrd j r2 k hj hk)
    · rw [List.getElem?_append_right hge] at hj
      rw [List.getElem?_append_right (by omega), ← hrl] at hk
      have h0 : j - rs.length = 0 := by
        obtain ⟨h1, _⟩ := List.getElem?_eq_some_iff.1 hj
        simpa using h1
      rw [h0] at hj hk
      obtain rfl : r = r2 := by simpa using hj
      obtain rfl : t = k := by simpa using hk
      exact hmove _ _ hA
theorem wpList_append_vturn {ops : Array Oper} {rest : List Oper} {o : Oper} {a : Act} {Q : Exit → Act → World → Prop} {W : World} {cells : Array Value} (hgd : o.guard = none) (s x : Operand)
    (ho : o.op = .call { callee := .builtin .append, args := #[s, x], argTypes := #[36, 36] }) (lo0 lo base : Nat) (v : Value) (f : List TurnL) (r : TR) (t : TurnL) (hc : cells = #[.int .i64 r.k, .string r.s, .slice r.a r.n r.c])
    (hs : a.eval s = v) {g : Nat} (hx : a.eval x = .slice (some ⟨g, 0, none⟩) 1 1) (hg : g = W.heap.size) (hB : VOwn W lo0 lo base v f) (hA : VFact W lo0 lo r t) (hlb : lo ≤ base) (hb : base ≤ W.heap.size) (hlen : f.length ≤ 1000000)
    (w0 : World) (hw : Below base w0 W)
    (h : ∀ v' w', VOwn w' lo0 lo base v' (f ++ [t]) → Below base w0 w' → wpList Try.prog ops Q rest (a.put o.dst v') w') : wpList Try.prog ops Q (o :: rest) a (W.alloc (.cells cells 52)) := by
  subst hc hg
  obtain ⟨v', w', hrun, hown, hbel⟩ := hB.add hA hlb hb hlen o.type
  exact wpList_append_lx hgd s x _ ho _ _ _ hs hx hrun (h v' w' hown (hbel w0 hw))
theorem VOwn.sees {w : World} {lo0 lo base : Nat} {v : Value} {f : List TurnL} (h : VOwn w lo0 lo base v f) (hl : f.length ≤ 1000000) (hlo : lo ≤ w.heap.size) : ∃ a c, v = .slice a f.length c ∧ Turns w w.heap.size a f.length f := by
  obtain ⟨rs, h, hrl, hrd⟩ := h
  have hlt := h.lt
  rcases h.2 with ⟨h0, h1⟩ | ⟨g, cap, cur, rfl, hbase, hh, h1, h2, h3, h4⟩
  · have hz : f = [] := List.eq_nil_of_length_eq_zero h1
    subst hz
    exact ⟨none, 0, h0, rfl, by simp, fun h => absurd h (Nat.lt_irrefl 0)⟩
  · refine ⟨_, cap, rfl, rfl, by omega, fun _ => ⟨g, 0, rfl, (hlt g rfl).2, fun j t hj => ?_⟩⟩
    have hj' : j < f.length := (List.getElem?_eq_some_iff.1 hj).1
    have hr := List.getElem?_eq_getElem (l := rs) (i := j) (by omega)
    obtain ⟨e1, e2, e3, e4, _⟩ := hrd j _ t hr hj
    have hcell : ∀ i, i < 3 → w.cell? ⟨g, 0 + (j * 3 + i), none⟩ = (encTR (rs[j]'(by omega)))[i]? := fun i hi => by
      rw [cell_of_row w g _ cur 52 (0, 0) hh, Nat.zero_add, ← flatT_at rs j _ hr i hi]
      have : (cur.toList.take (f.length * 3))[j * 3 + i]? = (rs.flatMap encTR)[j * 3 + i]? := by rw [h4]
      rw [List.getElem?_take, if_pos (by omega)] at this
      rw [← Array.getElem?_toList, this]
    exact ⟨_, _, _, _, ⟨by rw [← e1]; exact hcell 0 (by omega), hcell 1 (by omega), hcell 2 (by omega)⟩, e2, e3, e4.more hlo⟩
/-- A turn of the call's own, as it is read. -/
theorem TOwn.at2 {w : World} {base : Nat} {a : Option Addr} {n c : Nat} {f : List TurnL} (h : TOwn w base (.slice a n c) f) {k : Nat} (hk : k < n) : ∃ (g : Nat) (r : TR) (t : TurnL), a = some ⟨g, 0, none⟩ ∧ g < w.heap.size ∧ f[k]? = some t ∧
    (w.cell? ⟨g, k * 3, none⟩ = some (.int .i64 r.k) ∧ w.cell? ⟨g, k * 3 + 1, none⟩ = some (.string r.s) ∧ w.cell? ⟨g, k * 3 + 2, none⟩ = some (.slice r.a r.n r.c)) ∧ VFact w base w.heap.size r t := by
  obtain ⟨rs, h, hrl, hrd⟩ := h
  have hlt := h.lt
  rcases h.2 with ⟨h0, h1⟩ | ⟨g, cap, cur, hv, hbase, hh, h1, h2, h3, h4⟩
  · obtain ⟨_, e, _⟩ := Value.slice.inj h0
    omega
  · obtain ⟨e1, e2, _⟩ := Value.slice.inj hv
    subst e1 e2
    have ht := List.getElem?_eq_getElem (l := f) hk
    have hr := List.getElem?_eq_getElem (l := rs) (i := k) (by omega)
    obtain ⟨e1, e2, e3, e4, e5⟩ := hrd k _ _ hr ht
    have hcell : ∀ i, i < 3 → w.cell? ⟨g, k * 3 + i, none⟩ = (encTR (rs[k]'(by omega)))[i]? := fun i hi => by
      rw [cell_of_row w g _ cur 52 (0, 0) hh, ← flatT_at rs k _ hr i hi]
      have : (cur.toList.take (f.length * 3))[k * 3 + i]? = (rs.flatMap encTR)[k * 3 + i]? := by rw [h4]
      rw [List.getElem?_take, if_pos (by omega)] at this
      rw [← Array.getElem?_toList, this]
    refine ⟨g, rs[k]'(by omega), _, rfl, (hlt g (by rw [hv]; rfl)).2, ht, ⟨hcell 0 (by omega), hcell 1 (by omega), hcell 2 (by omega)⟩, e1, e2, e3, e4, fun b off e => ⟨(e5 b off e).1, (e5 b off e).2.1⟩⟩
theorem VFact.below {w w' : World} {lo0 lo : Nat} {r : TR} {t : TurnL} (h : VFact w lo0 lo r t) (hb : Below lo w w') : VFact w' lo0 lo r t := ⟨h.1, h.2.1, h.2.2.1, h.2.2.2.1.below hb, h.2.2.2.2⟩
end Go.Proofs.Ytiofpeckcfdilaa
