/- Turns that reparteemake makes: each one's arms in an array of their own. -/
import Derived.Test.YtbbdmipfbnfpfaaGreatTuMakeB
namespace Go.Proofs.YtbbdmipfbnfpfaaGreat
open Go.RowKit

theorem AOwn.grown {w w' : World} {base : Nat} {v : Value} {l : List ArmL} {row : Option Nat} (h : AOwn w base v l) (hg : w.grownBy w' row) (hne : v.ownBlock = none ∨ v.ownBlock ≠ row) : AOwn w' base v l := by
  obtain ⟨ts, h1, h2⟩ := h
  exact ⟨ts, h1.kept hg hne, h2⟩
theorem AOwn.spots {w : World} {base : Nat} {v : Value} {l : List ArmL} (h : AOwn w base v l) : ∀ b, v.ownBlock = some b → base ≤ b ∧ b < w.heap.size := by
  obtain ⟨ts, h1, _⟩ := h
  exact h1.lt
def TR.arms (r : TR) : Value := .slice r.a r.n r.c
/-- What is laid is this turn; its arms are the call's own. -/
def TurnIs (w : World) (base : Nat) (r : TR) (t : TurnL) : Prop := r.k = t.kind ∧ r.s.toList = t.peer ∧ r.s.size ≤ maxLen ∧ t.arms.length ≤ 1000 ∧ AOwn w base r.arms t.arms
/-- Turns of the call's own, below a top: no two lie in one array. -/
def MRow (w : World) (base S : Nat) (v : Value) (f : List TurnL) : Prop :=
  ∃ rs : List TR, w.ownsRow base 44 3 v f.length (rs.flatMap encTR) ∧ rs.length = f.length ∧ (∀ (j : Nat) (r : TR) (t : TurnL), rs[j]? = some r → f[j]? = some t → TurnIs w base r t) ∧
    (∀ (j : Nat) (r : TR) (b : Nat), rs[j]? = some r → r.arms.ownBlock = some b → v.ownBlock ≠ some b ∧ b < S) ∧
    (∀ (i j : Nat) (r r' : TR) (b : Nat), i < j → rs[i]? = some r → rs[j]? = some r' → r.arms.ownBlock = some b → r'.arms.ownBlock ≠ some b) ∧ (∀ b, v.ownBlock = some b → b < S)
theorem MRow.zero (w : World) (base S : Nat) : MRow w base S (.slice none 0 0) [] := ⟨[], World.ownsRow_nil w base 44 3, rfl, fun j r l h => by simp at h, fun j r b h => by simp at h, fun i j r r' b _ h => by simp at h, fun b h => by cases h⟩
theorem MRow.top {w : World} {base S S' : Nat} {v : Value} {f : List TurnL} (h : MRow w base S v f) (hS : w.heap.size ≤ S') : MRow w base S' v f := by
  obtain ⟨rs, h1, h2, h3, h4, h5, h6⟩ := h
  refine ⟨rs, h1, h2, h3, fun j r b hj hb => ⟨(h4 j r b hj hb).1, ?_⟩, h5, fun b hb => ?_⟩
  · have hjl := (List.getElem?_eq_some_iff.1 hj).1
    have := ((h3 j r _ hj (List.getElem?_eq_getElem (by omega))).2.2.2.2).spots b hb
    omega
  · have := h1.lt b hb
    omega
theorem MRow.beside {w w' : World} {base S g : Nat} {v : Value} {f : List TurnL} (h : MRow w base S v f) (hb : Beside g w w') (hg : g < base) : MRow w' base S v f := by
  obtain ⟨rs, h1, h2, h3, h4⟩ := h
  have hlt := h1.lt
  refine ⟨rs, ⟨h1.1, ?_⟩, h2, fun j r t hr ht => ?_, h4⟩
  · rcases h1.2 with h0 | ⟨k, cap, cur, rfl, hbase, hh, q1, q2, q3, q4⟩
    · exact .inl h0
    · refine .inr ⟨k, cap, cur, rfl, hbase, ?_, q1, q2, q3, q4⟩
      rw [hb.block k (hlt k rfl).2 (by omega)]
      exact hh
  · obtain ⟨e1, e2, e3, e4, e5⟩ := h3 j r t hr ht
    exact ⟨e1, e2, e3, e4, e5.beside hb hg⟩
theorem MRow.kept {w w' : World} {base S : Nat} {v : Value} {f : List TurnL} (h : MRow w base S v f) (hb : Below w.heap.size w w') (h0 : 0 < base) : MRow w' base S v f := h.beside (g := 0) (Beside.of_below hb) h0
theorem MRow.towns {w : World} {base S : Nat} {v : Value} {f : List TurnL} (h : MRow w base S v f) : TOwn w base v f := by
  obtain ⟨rs, h1, h2, h3, h4, _, _⟩ := h
  refine ⟨rs, h1, h2, fun j r t hr ht => ?_⟩
  obtain ⟨e1, e2, e3, e4, e5⟩ := h3 j r t hr ht
  obtain ⟨a, c, hv, har, _, _⟩ := e5.sees (by omega)
  unfold TR.arms at hv
  obtain ⟨ea, en, ec⟩ := Value.slice.inj hv
  refine ⟨e1, e2, e3, by rw [ea, en]; exact har, fun b off e => ?_⟩
  have hb : r.arms.ownBlock = some b := by unfold TR.arms; rw [e]; rfl
  exact ⟨(e5.spots b hb).1, (e5.spots b hb).2, (h4 j r b hr hb).1⟩
theorem MRow.add {W : World} {base S : Nat} {v : Value} {f : List TurnL} {r : TR} {t : TurnL} (h : MRow W base S v f) (hr : r.k = t.kind ∧ r.s.toList = t.peer ∧ r.s.size ≤ maxLen ∧ t.arms.length ≤ 1000) (hA : AOwn W S r.arms t.arms) (hbS : base ≤ S) (hS : S ≤ W.heap.size) (hlen : f.length ≤ 1000000) (ty : Nat) :
    ∃ v' w', (Builtin.append_ #[22, 22] ty #[v, .slice (some ⟨W.heap.size, 0, none⟩) 1 1]).run Tryz.prog (W.alloc (.cells #[.int .i64 r.k, .string r.s, .slice r.a r.n r.c] 44)) = .ok v' w' ∧ MRow w' base w'.heap.size v' (f ++ [t]) ∧ ∀ w0, Below base w0 W → Below base w0 w' := by
  obtain ⟨i0, hi0, hzz⟩ := Option.map_eq_some_iff.1 info_turn
  simp only [Prod.mk.injEq] at hzz
  obtain ⟨hz, hs1, hb1⟩ := hzz
  obtain ⟨rs, hown, hrl, hrd, hne, hpair, hvS⟩ := h
  have hown1 : (W.alloc (.cells #[.int .i64 r.k, .string r.s, .slice r.a r.n r.c] 44)).ownsRow base 44 3 v f.length (rs.flatMap encTR) := World.ownsRow.alloc hown _
  obtain ⟨v', w', hrun, hown', hgr, _, hat⟩ := run_append_own_at (P := Tryz.prog) (W.alloc (.cells #[.int .i64 r.k, .string r.s, .slice r.a r.n r.c] 44)) base 22 ty 44 i0 _ 3 48 Tryz.underlying22 hi0 hz hs1 hb1 rfl (by omega) v f.length (rs.flatMap encTR) hown1
    ⟨W.heap.size, 0, none⟩ 1 1 (encTR r) rfl
    (fun j u hu => by
      rw [Go.WideShapes.add_plain, cell_of_row _ _ _ _ _ _ (heap_alloc_new W _), Nat.zero_add, ← hu]
      rw [← Array.getElem?_toList]
      rfl)
    (fun u hu => by
      unfold encTR at hu
      simp only [List.mem_cons, List.not_mem_nil, or_false] at hu
      rcases hu with rfl | rfl | rfl <;> rfl) (by unfold maxLen; omega) (by omega) (by simp; omega)
  have hsz : W.heap.size + 1 ≤ w'.heap.size := by
    have := hgr.size
    simpa using this
  have hv' : ∀ b, b < W.heap.size → v.ownBlock ≠ some b → v'.ownBlock ≠ some b := fun b hbl hn => by
    rcases hat with e | e
    · rw [e]; exact hn
    · rw [e]
      intro e2
      have := Option.some.inj e2
      simp at this
      omega
  have hmove : ∀ (r : TR) (t : TurnL), TurnIs W base r t → (∀ b, r.arms.ownBlock = some b → v.ownBlock ≠ some b) → TurnIs w' base r t := fun r t ⟨e1, e2, e3, e4, e5⟩ hn =>
    ⟨e1, e2, e3, e4, (e5.alloc _).grown hgr (by
      rcases hb : r.arms.ownBlock with _ | b
      · exact .inl rfl
      · exact .inr (fun e => hn b hb e.symm))⟩
  have hnew : TurnIs W base r t := ⟨hr.1, hr.2.1, hr.2.2.1, hr.2.2.2, hA.low hbS⟩
  have hnewv : ∀ b, r.arms.ownBlock = some b → v.ownBlock ≠ some b := fun b hb e => by
    have h1 := hA.spots b hb
    have h2 := hvS b e
    omega
  refine ⟨v', w', hrun, ⟨rs ++ [r], ?_, by simp [hrl], fun j r2 k hj hk => ?_, fun j r2 b hj hb => ?_, fun i j r2 r3 b hij hi hj hb => ?_, fun b hb => (hown'.lt b hb).2⟩, fun w0 hw0 => (hw0.alloc (by omega) _).grown hgr (by simp; omega) (fun k hk => by
    have := hown1.lt k hk
    omega)⟩
  · rw [List.length_append, List.flatMap_append, List.flatMap_cons, List.flatMap_nil, List.append_nil]
    exact hown'
  · rcases Nat.lt_or_ge j rs.length with hlt | hge
    · rw [List.getElem?_append_left hlt] at hj
      rw [List.getElem?_append_left (by omega)] at hk
      exact hmove _ _ (hrd j r2 k hj hk) (fun b hb => (hne j r2 b hj hb).1)
    · rw [List.getElem?_append_right hge] at hj
      rw [List.getElem?_append_right (by omega), ← hrl] at hk
      have h0 : j - rs.length = 0 := by
        obtain ⟨h1, _⟩ := List.getElem?_eq_some_iff.1 hj
        simpa using h1
      rw [h0] at hj hk
      obtain rfl : r = r2 := by simpa using hj
      obtain rfl : t = k := by simpa using hk
      exact hmove _ _ hnew hnewv
  · rcases Nat.lt_or_ge j rs.length with hlt | hge
    · rw [List.getElem?_append_left hlt] at hj
      have hj2 := (List.getElem?_eq_some_iff.1 hj).1
      have h1 := ((hrd j r2 _ hj (List.getElem?_eq_getElem (by omega))).2.2.2.2).spots b hb
      exact ⟨hv' b h1.2 (hne j r2 b hj hb).1, by omega⟩
    · rw [List.getElem?_append_right hge] at hj
      have h0 : j - rs.length = 0 := by
        obtain ⟨h1, _⟩ := List.getElem?_eq_some_iff.1 hj
        simpa using h1
      rw [h0] at hj
      obtain rfl : r = r2 := by simpa using hj
      have h1 := hA.spots b hb
      exact ⟨hv' b h1.2 (hnewv b hb), by omega⟩
  · rcases Nat.lt_or_ge j rs.length with hlt | hge
    · rw [List.getElem?_append_left hlt] at hj
      rw [List.getElem?_append_left (by omega)] at hi
      exact hpair i j r2 r3 b hij hi hj hb
    · rw [List.getElem?_append_right hge] at hj
      have h0 : j - rs.length = 0 := by
        obtain ⟨h1, _⟩ := List.getElem?_eq_some_iff.1 hj
        simpa using h1
      rw [h0] at hj
      obtain rfl : r = r3 := by simpa using hj
      rw [List.getElem?_append_left (by omega)] at hi
      intro e
      have h1 := hA.spots b e
      have h2 := (hne i r2 b hi hb).2
      omega
theorem wpList_append_mturn {ops : Array Oper} {rest : List Oper} {o : Oper} {a : Act} {Q : Exit → Act → World → Prop} {W : World} {cells : Array Value} (hgd : o.guard = none) (s x : Operand)
    (ho : o.op = .call { callee := .builtin .append, args := #[s, x], argTypes := #[22, 22] }) (base S : Nat) (v : Value) (f : List TurnL) (r : TR) (t : TurnL) (hc : cells = #[.int .i64 r.k, .string r.s, .slice r.a r.n r.c])
    (hs : a.eval s = v) {g : Nat} (hx : a.eval x = .slice (some ⟨g, 0, none⟩) 1 1) (hg : g = W.heap.size) (h : MRow W base S v f) (hr : r.k = t.kind ∧ r.s.toList = t.peer ∧ r.s.size ≤ maxLen ∧ t.arms.length ≤ 1000) (hA : AOwn W S r.arms t.arms) (hbS : base ≤ S) (hS : S ≤ W.heap.size) (hlen : f.length ≤ 1000000)
    (w0 : World) (hw : Below base w0 W)
    (hk : ∀ v' w', MRow w' base w'.heap.size v' (f ++ [t]) → Below base w0 w' → wpList Tryz.prog ops Q rest (a.put o.dst v') w') : wpList Tryz.prog ops Q (o :: rest) a (W.alloc (.cells cells 44)) := by
  subst hc hg
  obtain ⟨v', w', hrun, hown, hbel⟩ := h.add hr hA hbS hS hlen o.type
  exact wpList_append_lx hgd s x _ ho _ _ _ hs hx hrun (hk v' w' hown (hbel w0 hw))
theorem step_append_mturn {ops : Array Oper} {o : Oper} {a : Act} {K : Act → World → Prop} {Q : Exit → Act → World → Prop} {E : Prop} {w1 : World} (W : World) (hgd : o.guard = none) (s x : Operand)
    (ho : o.op = .call { callee := .builtin .append, args := #[s, x], argTypes := #[22, 22] }) (base S : Nat) (v : Value) (f : List TurnL) (r : TR) (t : TurnL)
    (hw1 : w1 = W.alloc (.cells #[.int .i64 r.k, .string r.s, .slice r.a r.n r.c] 44))
    (hs : a.eval s = v) (hx : a.eval x = .slice (some ⟨W.heap.size, 0, none⟩) 1 1) (h : MRow W base S v f) (hr : r.k = t.kind ∧ r.s.toList = t.peer ∧ r.s.size ≤ maxLen ∧ t.arms.length ≤ 1000) (hA : AOwn W S r.arms t.arms) (hbS : base ≤ S) (hS : S ≤ W.heap.size) (hlen : f.length ≤ 1000000)
    (w0 : World) (hw : Below base w0 W)
    (hk : ∀ v' w', MRow w' base w'.heap.size v' (f ++ [t]) → Below base w0 w' → K (a.put o.dst v') w') : if Region.wanted o (yielded ops a.tmps) = true then Oper.wp Tryz.prog o a w1 K Q else E := by
  have hwant : Region.wanted o (yielded ops a.tmps) = true := by simp [Region.wanted, hgd]
  rw [if_pos hwant]
  subst hw1
  obtain ⟨v', w', hrun, hown, hbel⟩ := h.add hr hA hbS hS hlen o.type
  have hrun' : (Builtin.append_ #[22, 22] o.type #[v, .slice (some ⟨W.heap.size, 0, none⟩) 1 1]).run Tryz.prog (W.alloc (.cells #[.int .i64 r.k, .string r.s, .slice r.a r.n r.c] 44)) = .ok v' w' := hrun
  unfold Oper.wp execOp
  simp only [ho, resolve, invoke, builtin, Sem.run_bind, Sem.run_pure, Result.andThen_ok, List.map_toArray, List.map_cons, List.map_nil, hs, hx, hrun']
  exact hk v' w' hown (hbel w0 hw)
end Go.Proofs.YtbbdmipfbnfpfaaGreat
