/- Points that the call makes by append; their arms lie in blocks of their own. (Printed by gen/genGl.py out of XTuTOwn.) -/
import Derived.Test.YtiofpeckcfdilaaGreatDoorTuRows
import Derived.Test.YtiofpeckcfdilaaGreatDoorGlMem
import Derived.Test.YtiofpeckcfdilaaGreatDoorTuMakes
import Derived.Test.YtiofpeckcfdilaaGreatDoorGlOwns
import Derived.Deep.RegionLaw
import Derived.Test.YtiofpeckcfdilaaGreatDoorTuLast
namespace Go.Proofs.YtiofpeckcfdilaaGreatDoor
open Go.RowKit

/-- A point as it is laid. -/
structure PR where
  q : ByteArray
  s : ByteArray
  a : Option Addr
  n : Nat
  c : Nat
def encPR (r : PR) : List Value := [.string r.q, .string r.s, .slice r.a r.n r.c]
/-- What is laid reads as this point, and its arms lie from base on. -/
def PtAt (w : World) (base : Nat) (v : Value) (r : PR) (t : PointL) : Prop :=
  (r.q.toList = t.src ∧ r.q.size ≤ maxLen) ∧ r.s.toList = t.dst ∧ r.s.size ≤ maxLen ∧ Arms w w.heap.size r.a r.n t.arms ∧ ∀ b off, r.a = some ⟨b, off, none⟩ → base ≤ b ∧ b < w.heap.size ∧ v.ownBlock ≠ some b
def POwn (w : World) (base : Nat) (v : Value) (f : List PointL) : Prop :=
  ∃ rs : List PR, w.ownsRow base 82 3 v f.length (rs.flatMap encPR) ∧ rs.length = f.length ∧ ∀ (j : Nat) (r : PR) (t : PointL), rs[j]? = some r → f[j]? = some t → PtAt w base v r t
theorem POwn.zero (w : World) (base : Nat) : POwn w base (.slice none 0 0) [] := ⟨[], World.ownsRow_nil w base 82 3, rfl, fun j r l h => by simp at h⟩
theorem POwn.beside {w w' : World} {base g : Nat} {v : Value} {f : List PointL} (h : POwn w base v f) (hb : Beside g w w') (hg : g < base) : POwn w' base v f := by
  obtain ⟨rs, h, hrl, hrd⟩ := h
  have hlt := h.lt
  refine ⟨rs, ⟨h.1, ?_⟩, hrl, fun j r t hr ht => ?_⟩
  · rcases h.2 with h0 | ⟨k, cap, cur, rfl, hbase, hh, h1, h2, h3, h4⟩
    · exact .inl h0
    · refine .inr ⟨k, cap, cur, rfl, hbase, ?_, h1, h2, h3, h4⟩
      rw [hb.block k (hlt k rfl).2 (by omega)]
      exact hh
  · obtain ⟨e1, e2, e3, e4, e5⟩ := hrd j r t hr ht
    have hs := hb.size
    exact ⟨e1, e2, e3, e4.stay hs (fun b off e => hb.block b (e5 b off e).2.1 (by have := (e5 b off e).1; omega)), fun b off e => ⟨(e5 b off e).1, by have := (e5 b off e).2.1; omega, (e5 b off e).2.2⟩⟩
theorem POwn.kept {w w' : World} {base : Nat} {v : Value} {f : List PointL} (h : POwn w base v f) (hb : Below w.heap.size w w') (h0 : 0 < base) : POwn w' base v f := h.beside (g := 0) (Beside.of_below hb) h0
theorem flatP_at : ∀ (l : List PR) (j : Nat) (t : PR), l[j]? = some t → ∀ i, i < 3 → (l.flatMap encPR)[j * 3 + i]? = (encPR t)[i]? := by
  intro l
  induction l with
  | nil => intro j t h; cases h
  | cons x l ih =>
    intro j t h i hi
    rw [List.flatMap_cons]
    cases j with
    | zero =>
      injection h with h
      subst h
      rw [Nat.zero_mul, Nat.zero_add, List.getElem?_append_left hi]
    | succ j =>
      have e : (j + 1) * 3 + i = 3 + (j * 3 + i) := by omega
      rw [e, List.getElem?_append_right (by show 3 ≤ _; omega)]
      show (l.flatMap encPR)[3 + (j * 3 + i) - 3]? = _
      rw [Nat.add_sub_cancel_left]
      exact ih j t h i hi
theorem info_point : (Tryz.prog.info? 82).map (fun i => (i.zero, i.size, i.bytes)) = some (some (.agg #[.string ⟨#[]⟩, .string ⟨#[]⟩, .slice none 0 0]), 3, 56) := by kernel_rfl
theorem POwn.add {W : World} {base : Nat} {v : Value} {f : List PointL} {r : PR} {t : PointL} (hB : POwn W base v f) (hA : PtAt W base v r t) (hb : base ≤ W.heap.size) (hlen : f.length ≤ 1000000) (ty : Nat) :
    ∃ v' w', (Builtin.append_ #[35, 35] ty #[v, .slice (some ⟨W.heap.size, 0, none⟩) 1 1]).run Tryz.prog (W.alloc (.cells #[.string r.q, .string r.s, .slice r.a r.n r.c] 82)) = .ok v' w' ∧ POwn w' base v' (f ++ [t]) ∧ ∀ w0, Below base w0 W → Below base w0 w' := by
  obtain ⟨i0, hi0, hzz⟩ := Option.map_eq_some_iff.1 info_point
  simp only [Prod.mk.injEq] at hzz
  obtain ⟨hz, hs1, hb1⟩ := hzz
  obtain ⟨rs, hown, hrl, hrd⟩ := hB
  have hown1 : (W.alloc (.cells #[.string r.q, .string r.s, .slice r.a r.n r.c] 82)).ownsRow base 82 3 v f.length (rs.flatMap encPR) := World.ownsRow.alloc hown _
  obtain ⟨v', w', hrun, hown', hgr, _, hat⟩ := run_append_own_at (P := Tryz.prog) (W.alloc (.cells #[.string r.q, .string r.s, .slice r.a r.n r.c] 82)) base 35 ty 82 i0 _ 3 56 Tryz.underlying35 hi0 hz hs1 hb1 rfl (by omega) v f.length (rs.flatMap encPR) hown1
    ⟨W.heap.size, 0, none⟩ 1 1 (encPR r) rfl
    (fun j u hu => by
      rw [Go.WideShapes.add_plain, cell_of_row _ _ _ _ _ _ (heap_alloc_new W _), Nat.zero_add, ← hu]
      rw [← Array.getElem?_toList]
      rfl)
    (fun u hu => by
      unfold encPR at hu
      simp only [List.mem_cons, List.not_mem_nil, or_false] at hu
      rcases hu with rfl | rfl | rfl <;> rfl) (by unfold maxLen; omega) (by omega) (by simp; omega)
  have hbel : ∀ B, B ≤ base → ∀ w0, Below B w0 W → Below B w0 w' := fun B hB w0 hw0 => (hw0.alloc (by omega) _).grown hgr (by simp; omega) (fun k hk => by
    have := hown1.lt k hk
    omega)
  have hsz : W.heap.size + 1 ≤ w'.heap.size := by
    have := hgr.size
    simpa using this
  have hblk : ∀ b, b < W.heap.size → v.ownBlock ≠ some b → w'.heap[b]? = W.heap[b]? := fun b hbl hne => (hgr.block b (by simp; omega) (fun e => hne e.symm)).trans ((tu1 W _).block b hbl)
  have hnew : ∀ b, b < W.heap.size → v.ownBlock ≠ some b → v'.ownBlock ≠ some b := fun b hbl hne => by
    rcases hat with e | e
    · rw [e]; exact hne
    · rw [e]
      intro e2
      have := Option.some.inj e2
      simp at this
      omega
  have hmove : ∀ (r : PR) (t : PointL), PtAt W base v r t → PtAt w' base v' r t := fun r t ⟨e1, e2, e3, e4, e5⟩ =>
    ⟨e1, e2, e3, e4.stay (by omega) (fun b off e => hblk b (e5 b off e).2.1 (e5 b off e).2.2), fun b off e => ⟨(e5 b off e).1, by have := (e5 b off e).2.1; omega, hnew b (e5 b off e).2.1 (e5 b off e).2.2⟩⟩
  refine ⟨v', w', hrun, ⟨rs ++ [r], ?_, by simp [hrl], fun j r2 k hj hk => ?_⟩, fun w0 hw0 => hbel base (Nat.le_refl _) w0 hw0⟩
  · rw [List.length_append, List.flatMap_append, List.flatMap_cons, List.flatMap_nil, List.append_nil]
    exact hown'
  · rcases Nat.lt_or_ge j rs.length with hlt | hge
    · rw [List.getElem?_append_left hlt] at hj
      rw [List.getElem?_append_left (by omega)] at hk
      exact hmove _ _ (hrd j r2 k hj hk)
    · rw [List.getElem?_append_right hge] at hj
      rw [List.getElem?_append_right (by omega), ← hrl] at hk
      have h0 : j - rs.length = 0 := by
        obtain ⟨h1, _⟩ := List.getElem?_eq_some_iff.1 hj
        simpa using h1
      rw [h0] at hj hk
      obtain rfl : r = r2 := by simpa using hj
      obtain rfl : t = k := by simpa using hk
      exact hmove _ _ hA
theorem wpList_append_point {ops : Array Oper} {rest : List Oper} {o : Oper} {a : Act} {Q : Exit → Act → World → Prop} {W : World} {cells : Array Value} (hgd : o.guard = none) (s x : Operand)
    (ho : o.op = .call { callee := .builtin .append, args := #[s, x], argTypes := #[35, 35] }) (base : Nat) (v : Value) (f : List PointL) (r : PR) (t : PointL) (hc : cells = #[.string r.q, .string r.s, .slice r.a r.n r.c])
    (hs : a.eval s = v) {g : Nat} (hx : a.eval x = .slice (some ⟨g, 0, none⟩) 1 1) (hg : g = W.heap.size) (hB : POwn W base v f) (hA : PtAt W base v r t) (hb : base ≤ W.heap.size) (hlen : f.length ≤ 1000000)
    (w0 : World) (hw : Below base w0 W)
    (h : ∀ v' w', POwn w' base v' (f ++ [t]) → Below base w0 w' → wpList Tryz.prog ops Q rest (a.put o.dst v') w') : wpList Tryz.prog ops Q (o :: rest) a (W.alloc (.cells cells 82)) := by
  subst hc hg
  obtain ⟨v', w', hrun, hown, hbel⟩ := hB.add hA hb hlen o.type
  exact wpList_append_lx hgd s x _ ho _ _ _ hs hx hrun (h v' w' hown (hbel w0 hw))
theorem step_append_point {ops : Array Oper} {o : Oper} {a : Act} {K : Act → World → Prop} {Q : Exit → Act → World → Prop} {E : Prop} {w1 : World} (W : World) (hgd : o.guard = none) (s x : Operand)
    (ho : o.op = .call { callee := .builtin .append, args := #[s, x], argTypes := #[35, 35] }) (base : Nat) (v : Value) (f : List PointL) (r : PR) (t : PointL)
    (hw1 : w1 = W.alloc (.cells #[.string r.q, .string r.s, .slice r.a r.n r.c] 82))
    (hs : a.eval s = v) (hx : a.eval x = .slice (some ⟨W.heap.size, 0, none⟩) 1 1) (hB : POwn W base v f) (hA : PtAt W base v r t) (hb : base ≤ W.heap.size) (hlen : f.length ≤ 1000000)
    (w0 : World) (hw : Below base w0 W)
    (h : ∀ v' w', POwn w' base v' (f ++ [t]) → Below base w0 w' → K (a.put o.dst v') w') : if Region.wanted o (yielded ops a.tmps) = true then Oper.wp Tryz.prog o a w1 K Q else E := by
  have hwant : Region.wanted o (yielded ops a.tmps) = true := by simp [Region.wanted, hgd]
  rw [if_pos hwant]
  subst hw1
  obtain ⟨v', w', hrun, hown, hbel⟩ := hB.add hA hb hlen o.type
  have hrun' : (Builtin.append_ #[35, 35] o.type #[v, .slice (some ⟨W.heap.size, 0, none⟩) 1 1]).run Tryz.prog (W.alloc (.cells #[.string r.q, .string r.s, .slice r.a r.n r.c] 82)) = .ok v' w' := hrun
  unfold Oper.wp execOp
  simp only [ho, resolve, invoke, builtin, Sem.run_bind, Sem.run_pure, Result.andThen_ok, List.map_toArray, List.map_cons, List.map_nil, hs, hx, hrun']
  exact h v' w' hown (hbel w0 hw)
theorem POwn.sees {w : World} {base : Nat} {v : Value} {f : List PointL} (h : POwn w base v f) (hl : f.length ≤ 1000000) : ∃ a c, v = .slice a f.length c ∧ Pts w w.heap.size a f.length f := by
  obtain ⟨rs, h, hrl, hrd⟩ := h
  have hlt := h.lt
  rcases h.2 with ⟨h0, h1⟩ | ⟨g, cap, cur, rfl, hbase, hh, h1, h2, h3, h4⟩
  · have hz : f = [] := List.eq_nil_of_length_eq_zero h1
    subst hz
    exact ⟨none, 0, h0, Pts.zero _ _ _⟩
  · refine ⟨_, cap, rfl, rfl, by omega, fun _ => ⟨g, 0, rfl, (hlt g rfl).2, fun j t hj => ?_⟩⟩
    have hj' : j < f.length := (List.getElem?_eq_some_iff.1 hj).1
    have hr := List.getElem?_eq_getElem (l := rs) (i := j) (by omega)
    obtain ⟨e1, e2, e3, e4, _⟩ := hrd j _ t hr hj
    have hcell : ∀ i, i < 3 → w.cell? ⟨g, 0 + (j * 3 + i), none⟩ = (encPR (rs[j]'(by omega)))[i]? := fun i hi => by
      rw [cell_of_row w g _ cur 82 (0, 0) hh, Nat.zero_add, ← flatP_at rs j _ hr i hi]
      have : (cur.toList.take (f.length * 3))[j * 3 + i]? = (rs.flatMap encPR)[j * 3 + i]? := by rw [h4]
      rw [List.getElem?_take, if_pos (by omega)] at this
      rw [← Array.getElem?_toList, this]
    have c0 := hcell 0 (by omega)
    have c1 := hcell 1 (by omega)
    have c2 := hcell 2 (by omega)
    exact ⟨(rs[j]'(by omega)).q, (rs[j]'(by omega)).s, (rs[j]'(by omega)).a, (rs[j]'(by omega)).n, (rs[j]'(by omega)).c, ⟨c0, c1, c2⟩, e1.1, e2, e1.2, e3, e4⟩
end Go.Proofs.YtiofpeckcfdilaaGreatDoor

/- Points that the call makes: each one's arms in an array of their own. (Printed by gen/genGl.py out of XTuMakeC.) -/
namespace Go.Proofs.YtiofpeckcfdilaaGreatDoor
open Go.RowKit

def PR.arms (r : PR) : Value := .slice r.a r.n r.c
/-- What is laid is this turn; its arms are the call's own. -/
def PtIs (w : World) (base : Nat) (r : PR) (t : PointL) : Prop := (r.q.toList = t.src ∧ r.q.size ≤ maxLen) ∧ r.s.toList = t.dst ∧ r.s.size ≤ maxLen ∧ t.arms.length ≤ 1000 ∧ AOwn w base r.arms t.arms
/-- Pts of the call's own, below a top: no two lie in one array. -/
def PRow (w : World) (base S : Nat) (v : Value) (f : List PointL) : Prop :=
  ∃ rs : List PR, w.ownsRow base 82 3 v f.length (rs.flatMap encPR) ∧ rs.length = f.length ∧ (∀ (j : Nat) (r : PR) (t : PointL), rs[j]? = some r → f[j]? = some t → PtIs w base r t) ∧
    (∀ (j : Nat) (r : PR) (b : Nat), rs[j]? = some r → r.arms.ownBlock = some b → v.ownBlock ≠ some b ∧ b < S) ∧
    (∀ (i j : Nat) (r r' : PR) (b : Nat), i < j → rs[i]? = some r → rs[j]? = some r' → r.arms.ownBlock = some b → r'.arms.ownBlock ≠ some b) ∧ (∀ b, v.ownBlock = some b → b < S)
theorem PRow.zero (w : World) (base S : Nat) : PRow w base S (.slice none 0 0) [] := ⟨[], World.ownsRow_nil w base 82 3, rfl, fun j r l h => by simp at h, fun j r b h => by simp at h, fun i j r r' b _ h => by simp at h, fun b h => by cases h⟩
theorem PRow.top {w : World} {base S S' : Nat} {v : Value} {f : List PointL} (h : PRow w base S v f) (hS : w.heap.size ≤ S') : PRow w base S' v f := by
  obtain ⟨rs, h1, h2, h3, h4, h5, h6⟩ := h
  refine ⟨rs, h1, h2, h3, fun j r b hj hb => ⟨(h4 j r b hj hb).1, ?_⟩, h5, fun b hb => ?_⟩
  · have hjl := (List.getElem?_eq_some_iff.1 hj).1
    have := ((h3 j r _ hj (List.getElem?_eq_getElem (by omega))).2.2.2.2).spots b hb
    omega
  · have := h1.lt b hb
    omega
theorem PRow.beside {w w' : World} {base S g : Nat} {v : Value} {f : List PointL} (h : PRow w base S v f) (hb : Beside g w w') (hg : g < base) : PRow w' base S v f := by
  obtain ⟨rs, h1, h2, h3, h4⟩ := h
  have hlt := h1.lt
  refine ⟨rs, ⟨h1.1, ?_⟩, h2, fun j r t hr ht => ?_, h4⟩
  · rcases h1.2 with h0 | ⟨k, cap, cur, rfl, hbase, hh, q1, q2, q3, q4⟩
    · exact .inl h0
    · refine .inr ⟨k, cap, cur, rfl, hbase, ?_, q1, q2, q3, q4⟩
      rw [hb.block k (hlt k rfl).2 (by omega)]
      exact hh
  · obtain ⟨e1, e2, e3, e4, e5⟩ := h3 j r t hr ht
    exact ⟨e1, e2, e3, e4, e5.beside hb hg⟩
theorem PRow.kept {w w' : World} {base S : Nat} {v : Value} {f : List PointL} (h : PRow w base S v f) (hb : Below w.heap.size w w') (h0 : 0 < base) : PRow w' base S v f := h.beside (g := 0) (Beside.of_below hb) h0
theorem PRow.powns {w : World} {base S : Nat} {v : Value} {f : List PointL} (h : PRow w base S v f) : POwn w base v f := by
  obtain ⟨rs, h1, h2, h3, h4, _, _⟩ := h
  refine ⟨rs, h1, h2, fun j r t hr ht => ?_⟩
  obtain ⟨e1, e2, e3, e4, e5⟩ := h3 j r t hr ht
  obtain ⟨a, c, hv, har, _, _⟩ := e5.sees (by omega)
  unfold PR.arms at hv
  obtain ⟨ea, en, ec⟩ := Value.slice.inj hv
  refine ⟨e1, e2, e3, by rw [ea, en]; exact har, fun b off e => ?_⟩
  have hb : r.arms.ownBlock = some b := by unfold PR.arms; rw [e]; rfl
  exact ⟨(e5.spots b hb).1, (e5.spots b hb).2, (h4 j r b hr hb).1⟩
theorem PRow.add {W : World} {base S : Nat} {v : Value} {f : List PointL} {r : PR} {t : PointL} (h : PRow W base S v f) (hr : (r.q.toList = t.src ∧ r.q.size ≤ maxLen) ∧ r.s.toList = t.dst ∧ r.s.size ≤ maxLen ∧ t.arms.length ≤ 1000) (hA : AOwn W S r.arms t.arms) (hbS : base ≤ S) (hS : S ≤ W.heap.size) (hlen : f.length ≤ 1000000) (ty : Nat) :
    ∃ v' w', (Builtin.append_ #[35, 35] ty #[v, .slice (some ⟨W.heap.size, 0, none⟩) 1 1]).run Tryz.prog (W.alloc (.cells #[.string r.q, .string r.s, .slice r.a r.n r.c] 82)) = .ok v' w' ∧ PRow w' base w'.heap.size v' (f ++ [t]) ∧ ∀ w0, Below base w0 W → Below base w0 w' := by
  obtain ⟨i0, hi0, hzz⟩ := Option.map_eq_some_iff.1 info_point
  simp only [Prod.mk.injEq] at hzz
  obtain ⟨hz, hs1, hb1⟩ := hzz
  obtain ⟨rs, hown, hrl, hrd, hne, hpair, hvS⟩ := h
  have hown1 : (W.alloc (.cells #[.string r.q, .string r.s, .slice r.a r.n r.c] 82)).ownsRow base 82 3 v f.length (rs.flatMap encPR) := World.ownsRow.alloc hown _
  obtain ⟨v', w', hrun, hown', hgr, _, hat⟩ := run_append_own_at (P := Tryz.prog) (W.alloc (.cells #[.string r.q, .string r.s, .slice r.a r.n r.c] 82)) base 35 ty 82 i0 _ 3 56 Tryz.underlying35 hi0 hz hs1 hb1 rfl (by omega) v f.length (rs.flatMap encPR) hown1
    ⟨W.heap.size, 0, none⟩ 1 1 (encPR r) rfl
    (fun j u hu => by
      rw [Go.WideShapes.add_plain, cell_of_row _ _ _ _ _ _ (heap_alloc_new W _), Nat.zero_add, ← hu]
      rw [← Array.getElem?_toList]
      rfl)
    (fun u hu => by
      unfold encPR at hu
      simp only [List.mem_cons, List.not_mem_nil, or_false] at hu
      rcases hu with rfl | rfl | rfl <;> rfl) (by unfold maxLen; omega) (by omega) (by simp; omega)
  have hsz : W.heap.size + 1 ≤ w'.heap.size := by
    have := hgr.size
    simpa using this
  have hv' : ∀ b, b < W.heap.size → v.ownBlock ≠ some b → v'.ownBlock ≠ some b := fun b hbl hn => by
    rcases hat with e | e
    · rw [e]; exact hn
    · rw [e]
      intro e2
      have := Option.some.inj e2
      simp at this
      omega
  have hmove : ∀ (r : PR) (t : PointL), PtIs W base r t → (∀ b, r.arms.ownBlock = some b → v.ownBlock ≠ some b) → PtIs w' base r t := fun r t ⟨e1, e2, e3, e4, e5⟩ hn =>
    ⟨e1, e2, e3, e4, (e5.alloc _).grown hgr (by
      rcases hb : r.arms.ownBlock with _ | b
      · exact .inl rfl
      · exact .inr (fun e => hn b hb e.symm))⟩
  have hnew : PtIs W base r t := ⟨hr.1, hr.2.1, hr.2.2.1, hr.2.2.2, hA.low hbS⟩
  have hnewv : ∀ b, r.arms.ownBlock = some b → v.ownBlock ≠ some b := fun b hb e => by
    have h1 := hA.spots b hb
    have h2 := hvS b e
    omega
  refine ⟨v', w', hrun, ⟨rs ++ [r], ?_, by simp [hrl], fun j r2 k hj hk => ?_, fun j r2 b hj hb => ?_, fun i j r2 r3 b hij hi hj hb => ?_, fun b hb => (hown'.lt b hb).2⟩, fun w0 hw0 => (hw0.alloc (by omega) _).grown hgr (by simp; omega) (fun k hk => by
    have := hown1.lt k hk
    omega)⟩
  · rw [List.length_append, List.flatMap_append, List.flatMap_cons, List.flatMap_nil, List.append_nil]
    exact hown'
  · rcases Nat.lt_or_ge j rs.length with hlt | hge
    · rw [List.getElem?_append_left hlt] at hj
      rw [List.getElem?_append_left (by omega)] at hk
      exact hmove _ _ (hrd j r2 k hj hk) (fun b hb => (hne j r2 b hj hb).1)
    · rw [List.getElem?_append_right hge] at hj
      rw [List.getElem?_append_right (by omega), ← hrl] at hk
      have h0 : j - rs.length = 0 := by
        obtain ⟨h1, _⟩ := List.getElem?_eq_some_iff.1 hj
        simpa using h1
      rw [h0] at hj hk
      obtain rfl : r = r2 := by simpa using hj
      obtain rfl : t = k := by simpa using hk
      exact hmove _ _ hnew hnewv
  · rcases Nat.lt_or_ge j rs.length with hlt | hge
    · rw [List.getElem?_append_left hlt] at hj
      have hj2 := (List.getElem?_eq_some_iff.1 hj).1
      have h1 := ((hrd j r2 _ hj (List.getElem?_eq_getElem (by omega))).2.2.2.2).spots b hb
      exact ⟨hv' b h1.2 (hne j r2 b hj hb).1, by omega⟩
    · rw [List.getElem?_append_right hge] at hj
      have h0 : j - rs.length = 0 := by
        obtain ⟨h1, _⟩ := List.getElem?_eq_some_iff.1 hj
        simpa using h1
      rw [h0] at hj
      obtain rfl : r = r2 := by simpa using hj
      have h1 := hA.spots b hb
      exact ⟨hv' b h1.2 (hnewv b hb), by omega⟩
  · rcases Nat.lt_or_ge j rs.length with hlt | hge
    · rw [List.getElem?_append_left hlt] at hj
      rw [List.getElem?_append_left (by omega)] at hi
      exact hpair i j r2 r3 b hij hi hj hb
    · rw [List.getElem?_append_right hge] at hj
      have h0 : j - rs.length = 0 := by
        obtain ⟨h1, _⟩ := List.getElem?_eq_some_iff.1 hj
        simpa using h1
      rw [h0] at hj
      obtain rfl : r = r3 := by simpa using hj
      rw [List.getElem?_append_left (by omega)] at hi
      intro e
      have h1 := hA.spots b e
      have h2 := (hne i r2 b hi hb).2
      omega
theorem wpList_append_mpoint {ops : Array Oper} {rest : List Oper} {o : Oper} {a : Act} {Q : Exit → Act → World → Prop} {W : World} {cells : Array Value} (hgd : o.guard = none) (s x : Operand)
    (ho : o.op = .call { callee := .builtin .append, args := #[s, x], argTypes := #[35, 35] }) (base S : Nat) (v : Value) (f : List PointL) (r : PR) (t : PointL) (hc : cells = #[.string r.q, .string r.s, .slice r.a r.n r.c])
    (hs : a.eval s = v) {g : Nat} (hx : a.eval x = .slice (some ⟨g, 0, none⟩) 1 1) (hg : g = W.heap.size) (h : PRow W base S v f) (hr : (r.q.toList = t.src ∧ r.q.size ≤ maxLen) ∧ r.s.toList = t.dst ∧ r.s.size ≤ maxLen ∧ t.arms.length ≤ 1000) (hA : AOwn W S r.arms t.arms) (hbS : base ≤ S) (hS : S ≤ W.heap.size) (hlen : f.length ≤ 1000000)
    (w0 : World) (hw : Below base w0 W)
    (hk : ∀ v' w', PRow w' base w'.heap.size v' (f ++ [t]) → Below base w0 w' → wpList Tryz.prog ops Q rest (a.put o.dst v') w') : wpList Tryz.prog ops Q (o :: rest) a (W.alloc (.cells cells 82)) := by
  subst hc hg
  obtain ⟨v', w', hrun, hown, hbel⟩ := h.add hr hA hbS hS hlen o.type
  exact wpList_append_lx hgd s x _ ho _ _ _ hs hx hrun (hk v' w' hown (hbel w0 hw))
theorem step_append_mpoint {ops : Array Oper} {o : Oper} {a : Act} {K : Act → World → Prop} {Q : Exit → Act → World → Prop} {E : Prop} {w1 : World} (W : World) (hgd : o.guard = none) (s x : Operand)
    (ho : o.op = .call { callee := .builtin .append, args := #[s, x], argTypes := #[35, 35] }) (base S : Nat) (v : Value) (f : List PointL) (r : PR) (t : PointL)
    (hw1 : w1 = W.alloc (.cells #[.string r.q, .string r.s, .slice r.a r.n r.c] 82))
    (hs : a.eval s = v) (hx : a.eval x = .slice (some ⟨W.heap.size, 0, none⟩) 1 1) (h : PRow W base S v f) (hr : (r.q.toList = t.src ∧ r.q.size ≤ maxLen) ∧ r.s.toList = t.dst ∧ r.s.size ≤ maxLen ∧ t.arms.length ≤ 1000) (hA : AOwn W S r.arms t.arms) (hbS : base ≤ S) (hS : S ≤ W.heap.size) (hlen : f.length ≤ 1000000)
    (w0 : World) (hw : Below base w0 W)
    (hk : ∀ v' w', PRow w' base w'.heap.size v' (f ++ [t]) → Below base w0 w' → K (a.put o.dst v') w') : if Region.wanted o (yielded ops a.tmps) = true then Oper.wp Tryz.prog o a w1 K Q else E := by
  have hwant : Region.wanted o (yielded ops a.tmps) = true := by simp [Region.wanted, hgd]
  rw [if_pos hwant]
  subst hw1
  obtain ⟨v', w', hrun, hown, hbel⟩ := h.add hr hA hbS hS hlen o.type
  have hrun' : (Builtin.append_ #[35, 35] o.type #[v, .slice (some ⟨W.heap.size, 0, none⟩) 1 1]).run Tryz.prog (W.alloc (.cells #[.string r.q, .string r.s, .slice r.a r.n r.c] 82)) = .ok v' w' := hrun
  unfold Oper.wp execOp
  simp only [ho, resolve, invoke, builtin, Sem.run_bind, Sem.run_pure, Result.andThen_ok, List.map_toArray, List.map_cons, List.map_nil, hs, hx, hrun']
  exact hk v' w' hown (hbel w0 hw)
end Go.Proofs.YtiofpeckcfdilaaGreatDoor

/- Contract of reparteemake's any, with no types: a valid protocol of two or three roles. -/
namespace Go.Proofs.YtiofpeckcfdilaaGreatDoor
open Go.RowKit

/-- The first roles. -/
def rolesL (many : Nat) : List Str := (List.range many).map fun i => [UInt8.ofNat (97 + i % 5)]
theorem rolS_list (i : Nat) : (rolS i).toList = [UInt8.ofNat (97 + i % 5)] := by unfold rolS; rw [ByteArray.toList_eq]
theorem rolesL_len (many : Nat) : (rolesL many).length = many := by unfold rolesL; simp
theorem rolesL_at {many i : Nat} (h : i < many) : (rolesL many)[i]? = some (rolS i).toList := by
  unfold rolesL
  rw [List.getElem?_map, List.getElem?_range h, rolS_list]
  rfl
theorem rolesL_ok {many : Nat} (h : 2 ≤ many) (h2 : many ≤ 4) : rolesB (rolesL many) = true := by
  have : many = 2 ∨ many = 3 ∨ many = 4 := by omega
  rcases this with rfl | rfl | rfl <;> decide
theorem rolesL_max (many : Nat) : ∀ s ∈ rolesL many, s.length ≤ maxLen := by
  intro s hs
  unfold rolesL at hs
  obtain ⟨i, _, rfl⟩ := List.mem_map.1 hs
  simp [maxLen]
theorem rolS_ne {i j : Nat} (hi : i < 5) (hj : j < 5) (h : i ≠ j) : (rolS i).toList ≠ (rolS j).toList := by
  rw [rolS_list, rolS_list]
  have h1 : i = 0 ∨ i = 1 ∨ i = 2 ∨ i = 3 ∨ i = 4 := by omega
  have h2 : j = 0 ∨ j = 1 ∨ j = 2 ∨ j = 3 ∨ j = 4 := by omega
  rcases h1 with rfl | rfl | rfl | rfl | rfl <;> rcases h2 with rfl | rfl | rfl | rfl | rfl <;> first | exact absurd rfl h | decide
theorem rolS_small (i : Nat) : (rolS i).size ≤ maxLen := by simp [rolS, maxLen, ByteArray.size]
theorem rolObj_strs (w : World) {many : Nat} (h : many ≤ 5) : Strs (w.alloc rolObj) (w.heap.size + 1) (some ⟨w.heap.size, 0, none⟩) many (rolesL many) := by
  refine ⟨rolesL_len many, by omega, rolesL_max many, fun _ => ⟨w.heap.size, 0, rfl, by omega, fun j s hj => ?_⟩⟩
  have hjm : j < many := by have := (List.getElem?_eq_some_iff.1 hj).1; rwa [rolesL_len] at this
  rw [rolesL_at hjm] at hj
  obtain rfl := Option.some.inj hj
  rw [Nat.zero_add, rolObj_at w j (by omega)]
  show _ = some (Value.string (baS (rolS j).toList))
  rw [baS_of]
/-- Rows of roles that the call made. -/
def RRow (w : World) (base : Nat) (ra : Option Addr) (rn rc : Nat) (rs : List Str) : Prop := w.ownsRow base 9 1 (.slice ra rn rc) rn (rs.map encStr)
theorem RRow.beside {w w' : World} {base g : Nat} {ra : Option Addr} {rn rc : Nat} {rs : List Str} (h : RRow w base ra rn rc rs) (hb : Beside g w w') (hg : g < base) : RRow w' base ra rn rc rs := by
  have hlt := World.ownsRow.lt h
  refine ⟨h.1, ?_⟩
  rcases h.2 with h0 | ⟨k, cap, cur, e, hbase, hh, q1, q2, q3, q4⟩
  · exact .inl h0
  · refine .inr ⟨k, cap, cur, e, hbase, ?_, q1, q2, q3, q4⟩
    rw [hb.block k (hlt k (by rw [e]; rfl)).2 (by omega)]
    exact hh
theorem RRow.below {w w' : World} {base B b : Nat} {rn rc : Nat} {rs : List Str} (h : RRow w base (some ⟨b, 0, none⟩) rn rc rs) (hb : Below B w w') (hB : b < B) : RRow w' base (some ⟨b, 0, none⟩) rn rc rs := by
  refine ⟨h.1, ?_⟩
  rcases h.2 with h0 | ⟨k, cap, cur, e, hbase, hh, q1, q2, q3, q4⟩
  · exact .inl h0
  · refine .inr ⟨k, cap, cur, e, hbase, ?_, q1, q2, q3, q4⟩
    obtain ⟨e1, _, _⟩ := Value.slice.inj e
    obtain ⟨e1, _, _⟩ := Addr.mk.inj (Option.some.inj e1)
    rw [hb.block k (by omega)]
    exact hh
theorem RRow.on {w w' : World} {base : Nat} {ra : Option Addr} {rn rc : Nat} {rs : List Str} (h : RRow w base ra rn rc rs) (hb : Below w.heap.size w w') (h0 : 0 < base) : RRow w' base ra rn rc rs := h.beside (g := 0) (Beside.of_below hb) h0
theorem RRow.low {w : World} {base base' : Nat} {ra : Option Addr} {rn rc : Nat} {rs : List Str} (h : RRow w base ra rn rc rs) (hb : base' ≤ base) : RRow w base' ra rn rc rs := World.ownsRow.mono h hb
theorem RRow.cell {w : World} {base : Nat} {ra : Option Addr} {rn rc : Nat} {rs : List Str} (h : RRow w base ra rn rc rs) (hn : 0 < rn) : ∃ b, ra = some ⟨b, 0, none⟩ ∧ base ≤ b ∧ b < w.heap.size ∧ ∀ (i : Nat) (s : Str), rs[i]? = some s → w.cell? ⟨b, i, none⟩ = some (.string (baS s)) := by
  have hlt := World.ownsRow.lt h
  rcases h.2 with ⟨_, h0⟩ | ⟨k, cap, cur, e, hbase, hh, q1, q2, q3, q4⟩
  · omega
  · obtain ⟨e1, e2, e3⟩ := Value.slice.inj e
    subst e1
    have hlk := (hlt k (by rfl)).2
    refine ⟨k, rfl, hbase, hlk, fun i s hi => ?_⟩
    have hlen := h.1
    rw [List.length_map] at hlen
    have hi2 := (List.getElem?_eq_some_iff.1 hi).1
    rw [cell_of_row w k _ cur 9 (0, 0) hh]
    have : (cur.toList.take (rn * 1))[i]? = (rs.map encStr)[i]? := by rw [q4]
    rw [List.getElem?_take, if_pos (by omega), List.getElem?_map, hi] at this
    rw [← Array.getElem?_toList, this]
    rfl
theorem RRow.strs {w : World} {base : Nat} {ra : Option Addr} {rn rc : Nat} {rs : List Str} (h : RRow w base ra rn rc rs) (hn : rn ≤ 1000) (hm : ∀ s ∈ rs, s.length ≤ maxLen) : Strs w w.heap.size ra rn rs := by
  obtain ⟨a, c, hv, hs, _, _⟩ := Strs.of_own h (by omega) hm
  obtain ⟨e1, e2, e3⟩ := Value.slice.inj hv
  subst e1
  exact hs
/-- What a maker of protocols answers. -/
def ProtRet (nm : ByteArray) (many : Nat) (w : World) (e : Ending) (w' : World) : Prop :=
  ∃ ra rc sa sn sc ps, e = .returned (.agg #[.string nm, .slice ra many rc, .slice sa sn sc]) ∧ PRow w' w.heap.size w'.heap.size (.slice sa sn sc) ps ∧ RRow w' w.heap.size ra many rc (rolesL many) ∧ ps.length = sn ∧ (∀ x ∈ ps, pointB (rolesL many) ps.length x = true) ∧ 2 ≤ ps.length ∧ ps.length ≤ 9
theorem PRow.drew {w : World} {base S : Nat} {v : Value} {f : List PointL} (h : PRow w base S v f) : PRow w.drew base S v f := by
  obtain ⟨rs, h1, h2, h3, h4⟩ := h
  refine ⟨rs, h1.drew, h2, fun j r t hr ht => ?_, h4⟩
  obtain ⟨e1, e2, e3, e4, ts, e5, e6⟩ := h3 j r t hr ht
  exact ⟨e1, e2, e3, e4, ts, e5.drew, e6⟩
theorem PRow.low {w : World} {base base' S : Nat} {v : Value} {f : List PointL} (h : PRow w base S v f) (hb : base' ≤ base) : PRow w base' S v f := by
  obtain ⟨rs, h1, h2, h3, h4⟩ := h
  refine ⟨rs, h1.mono hb, h2, fun j r t hr ht => ?_, h4⟩
  obtain ⟨e1, e2, e3, e4, e5⟩ := h3 j r t hr ht
  exact ⟨e1, e2, e3, e4, e5.low hb⟩
theorem other_role {many k d : Nat} (hm : 2 ≤ many) (hk : k < many) (hd : d < many - 1) : (k + 1 + d) % many ≠ k := by
  rcases Nat.lt_or_ge (k + 1 + d) many with h | h
  · rw [Nat.mod_eq_of_lt h]; omega
  · rw [Nat.mod_eq_sub_mod h, Nat.mod_eq_of_lt (by omega)]; omega
theorem wrap_small {x : Int} (h0 : 0 ≤ x) (h1 : x ≤ 100000) : wrap64 x = x := by unfold wrap64; omega
theorem i64_small {x : Int} (h0 : 0 ≤ x) (h1 : x ≤ 100000) : IntKind.i64.wrap x = x := by simp [IntKind.wrap, IntKind.bits, IntKind.signed]; omega
theorem other_mod {many k d o : Nat} (hm : 2 ≤ many) (hk : k < many) (ho : many = o + 1) (hd : d < o) : ∃ q : Nat, q < many ∧ q ≠ k ∧ ((k : Int) + 1 + (d : Int)) % (many : Int) = (q : Int) := by
  refine ⟨(k + 1 + d) % many, Nat.mod_lt _ (by omega), other_role hm hk (by omega), ?_⟩
  show ((k : Int) + 1 + (d : Int)) % (many : Int) = (((k + 1 + d) % many : Nat) : Int)
  rw [Int.natCast_emod, show ((k + 1 + d : Nat) : Int) = (k : Int) + 1 + (d : Int) by omega]
set_option maxHeartbeats 16000000 in
set_option maxRecDepth 20000 in
theorem any_any (g : Nat) (nm : ByteArray) (many : Nat) (h2 : 2 ≤ many) (h4 : many ≤ 4) (w : World) (hD : Dice w g) :
    Calls Tryz.prog 56 #[.pointer (some ⟨g, 0, none⟩), .string nm, .int .i64 (many : Int), .slice none 0 0] w fun e w' => ProtRet nm many w e w' ∧ Beside g w w' := by
  have hgl := hD.lt
  have HB0 := Lib.hid (tu1 w (.cells #[.string ⟨#[]⟩, .slice none 0 0, .slice none 0 0] 37))
  have HR0 := Lib.hid (PBox.new w ⟨#[]⟩ none 0 0 none 0 0)
  have CP1 := Lib.hid (pick_at g 6 6 (w.alloc (.cells #[.string ⟨#[]⟩, .slice none 0 0, .slice none 0 0] 37)) rfl (hD.on HB0.out) (by omega) (by omega))
  clear hD
  go_enter Tryz.func56, Tryz.ntmps56
  go_upto_region 2 with (first
    | (go_at_call 28; (with_reducible refine CP1.out.mono ?_)
       rintro e w1 ⟨⟨m, hm, rfl⟩, hd1, hb1⟩
       have HD1 := Lib.hid hd1
       have HB1 := Lib.hid (hb1.cut HB0.out)
       have HR1 := Lib.hid (HR0.out.beside hb1 (by omega))
       clear hd1 hb1)
    | fail)
  have CR := Lib.hid (roles_any w1)
  have HRS := Lib.hid (rolObj_strs w1 (many := many) (by omega))
  have hs1 := HB1.out.size
  have hz1 : w.heap.size + 1 ≤ w1.heap.size := HR1.out.lt
  have i5 : (many : Int) ≤ 5 := by omega
  have i6 : (0 : Int) ≤ (many : Int) := by omega
  have hro := fun W => World.ownsRow_nil W (w.heap.size + 1) 9 1
  go_upto_region 3 with (first
    | (go_at_call 29; (with_reducible refine CR.out.mono ?_)
       rintro e w2 ⟨rfl, hw2⟩
       have HS2 := Lib.hid (show Strs w2 (w1.heap.size + 1) (some ⟨w1.heap.size, 0, none⟩) many (rolesL many) by rw [hw2]; exact HRS.out)
       have HB2 := Lib.hid (show Below w1.heap.size w1 w2 by rw [hw2]; exact tu1 w1 rolObj)
       have hz2 : w2.heap.size = w1.heap.size + 1 := by rw [hw2]; simp
       clear hw2)
    | (at_builtin
       refine wpList_append_strs _ rfl (.const (.slice none 0 0)) (.tmp 20) _ rfl (w.heap.size + 1) 9 Tryz.underlying34 info9 (.slice none 0 0) 0 [] rfl (World.ownsRow_nil _ _ _ _) (w1.heap.size + 1) _ many 5 (rolesL many) rfl HS2.out (by omega) (by omega) ?_
       intro v3 w3 own3 gr3 at3
       obtain ⟨ra, rc, hv3, hst3, _, _⟩ := Strs.of_own (n := many) (ss := rolesL many) (by rw [Nat.zero_add] at own3; exact own3) (by omega) (rolesL_max many)
       subst hv3
       have HR3 := Lib.hid (show RRow w3 (w.heap.size + 1) ra many rc (rolesL many) by unfold RRow; rw [Nat.zero_add] at own3; exact own3)
       have HB3 := Lib.hid (HB2.out.grown gr3 (by omega) (fun j hj => by cases hj))
       have hz3 := HB3.out.size
       clear own3 gr3 at3 hst3)
    | fail)
  have HB3w := Lib.hid (show Beside g w w3 from HB1.out.trans (Beside.of_below HB3.out))
  have HD3 := Lib.hid (HD1.out.on HB3.out)
  have HR3b := Lib.hid (HR1.out.on HB3.out)
  have HLP := Lib.hid (PBox.new w3 nm ra many rc none 0 0)
  have HB4 := Lib.hid (HB3w.out.alloc (.cells #[.string nm, .slice ra many rc, .slice none 0 0] 37))
  have HD4 := Lib.hid (HD3.out.on (tu1 w3 (.cells #[.string nm, .slice ra many rc, .slice none 0 0] 37)))
  have HRo4 := Lib.hid (HR3.out.on (tu1 w3 (.cells #[.string nm, .slice ra many rc, .slice none 0 0] 37)) (by omega))
  have HR4 := Lib.hid (HR3b.out.on (tu1 w3 (.cells #[.string nm, .slice ra many rc, .slice none 0 0] 37)))
  have CA := Lib.hid (fun (W : World) (h : Dice W g) => makeArms_any g (m + 2) W h (by omega) (by omega))
  rw [show (((m + 2 : Nat) : Int)) = 1 + (m : Int) + 1 by omega] at CA
  have CPm := Lib.hid (fun (W : World) (h : Dice W g) => pick_any g many W h (by omega) (by omega))
  obtain ⟨o, ho⟩ : ∃ o, many = o + 1 := ⟨many - 1, by omega⟩
  have CPo := Lib.hid (fun (W : World) (h : Dice W g) => pick_at g ((many : Int) - 1) o W (by omega) h (by omega) (by omega))
  have HOE := Lib.hid ho
  have ho5 : o ≤ 5 := by omega
  clear ho
  have hsz3 : w.heap.size + 1 ≤ w3.heap.size := by omega
  clear hro
  go_wp2_with fail
  go_loopw [11] (fun i wr => ∃ (k : Nat) (sa : Option Addr) (sn sc : Nat) (f : List PointL), k ≤ m + 1 ∧ i = .int .i64 k ∧ f.length = k ∧ sn = k ∧ Hid (PRow wr (w3.heap.size + 1) wr.heap.size (.slice sa sn sc) f) ∧ Hid (∀ t ∈ f, pointB (rolesL many) (m + 2) t = true) ∧ Hid (PBox wr w3.heap.size nm ra many rc sa sn sc) ∧ Hid (Dice wr g) ∧ Hid (Beside g w wr) ∧ Hid (RRow wr (w.heap.size + 1) ra many rc (rolesL many)) ∧ Hid (PBox wr w.heap.size ⟨#[]⟩ none 0 0 none 0 0)) (fun i _ => m + 1 - (intOf i).toNat)
  case atStart => exact ⟨0, none, 0, 0, [], by omega, rfl, rfl, rfl, Lib.hid (PRow.zero _ _ _), Lib.hid (by simp), HLP, HD4, HB4, HRo4, HR4⟩
  case round =>
    obtain ⟨k, sa, sn, sc, f, hk, rfl, hfl, hsn, HO, HG, HLB, HD, HBr, HRo, HRs⟩ := hrel
    obtain rfl : k = sn := hsn.symm
    have HFL := Lib.hid hfl
    clear hfl
    have hzl := HLB.out.lt
    have hsz := HBr.out.size
    by_cases hlt : k < m + 1
    · have d1 : decide ((k : Int) < 1 + (m : Int)) = true := decide_eq_true (by omega)
      go_upto_region 7 with (first
        | (go_at_call 28; (with_reducible refine (CPm.out _ HD.out).mono ?_)
           rintro e w5 ⟨⟨kk, hkk, rfl⟩, hd5, hb5⟩
           have HD5 := Lib.hid hd5
           have HB5 := Lib.hid hb5
           clear hd5 hb5)
        | fail)
      have hne : ((many : Int) == 0) = false := by rw [beq_eq_false_iff_ne]; omega
      go_upto_region 8 with (first
        | (go_at_call 28; (with_reducible refine (CPo.out _ HD5.out).mono ?_)
           rintro e w6 ⟨⟨dd, hdd, rfl⟩, hd6, hb6⟩
           have HD6 := Lib.hid hd6
           have HB6 := Lib.hid (HB5.out.trans hb6)
           clear hd6 hb6)
        | fail)
      obtain ⟨q, hq, hqk, hmod⟩ := other_mod h2 hkk HOE.out hdd
      rw [hmod]
      clear hmod
      have HB6w := Lib.hid (HBr.out.trans HB6.out)
      have HRo6 := Lib.hid (HRo.out.beside HB6.out (by omega))
      have HRs6 := Lib.hid (HRs.out.beside HB6.out (by omega))
      have HL6 := Lib.hid (HLB.out.beside HB6.out (by omega))
      have HO6 := Lib.hid ((HO.out.beside HB6.out (by omega)).top (Nat.le_refl _))
      obtain ⟨rb, hrb, hrb1, hrb2, hrcell⟩ := HRo6.out.cell (by omega)
      have hck := hrcell kk _ (rolesL_at hkk)
      have hcq := hrcell q _ (rolesL_at hq)
      rw [baS_of] at hck hcq
      subst hrb
      have hrb3 : rb < w3.heap.size := (World.ownsRow.lt HR3.out rb rfl).2
      obtain ⟨_, _, _⟩ := HL6.out.cells
      have vf2 := HL6.out.thaw 2
      have hs6 := HB6.out.size
      have i1 : (kk : Int) < (many : Int) := by omega
      have i2 : (0 : Int) ≤ (kk : Int) := by omega
      have i3 : (q : Int) < (many : Int) := by omega
      have i4 : (0 : Int) ≤ (q : Int) := by omega
      have hwi : IntKind.i64.wrap (1 + (m : Int) + 1) = 1 + (m : Int) + 1 := i64_small (by omega) (by omega)
      have HDd := Lib.hid HD6.out.drew
      have HBd := Lib.hid (bes_drew HB6w.out)
      have HOd := Lib.hid HO6.out.drew
      have HLd := Lib.hid (show PBox w6.drew w3.heap.size nm (some ⟨rb, 0, none⟩) many rc sa k sc from HL6.out)
      have HRd := Lib.hid (show RRow w6.drew (w.heap.size + 1) (some ⟨rb, 0, none⟩) many rc (rolesL many) from HRo6.out.beside (g := 0) ⟨rfl, rfl, rfl, Nat.le_refl _, fun _ _ _ => rfl⟩ (by omega))
      have HSd := Lib.hid (show PBox w6.drew w.heap.size ⟨#[]⟩ none 0 0 none 0 0 from HRs6.out)
      have HCK := Lib.hid (And.intro hck hcq)
      clear hrcell
      have HKS := Lib.hid (fun (W : World) (hL : PBox W w3.heap.size nm (some ⟨rb, 0, none⟩) many rc sa k sc) (hC : W.cell? ⟨rb, kk, none⟩ = some (.string (rolS kk)) ∧ W.cell? ⟨rb, q, none⟩ = some (.string (rolS q))) => show W.cell? ⟨w3.heap.size, 0, none⟩ = some (.string nm) ∧ W.cell? ⟨w3.heap.size, 1, none⟩ = some (.slice (some ⟨rb, 0, none⟩) many rc) ∧ W.cell? ⟨w3.heap.size, 2, none⟩ = some (.slice sa k sc) ∧ W.cell? ⟨rb, kk, none⟩ = some (.string (rolS kk)) ∧ W.cell? ⟨rb, q, none⟩ = some (.string (rolS q)) from
        ⟨hL.cells.1, hL.cells.2.1, hL.cells.2.2, hC.1, hC.2⟩)
      clear hck hcq
      go_wp2
      refine wp_region_last2 (S := fun W => W.cell? ⟨w3.heap.size, 0, none⟩ = some (.string nm) ∧ W.cell? ⟨w3.heap.size, 1, none⟩ = some (.slice (some ⟨rb, 0, none⟩) many rc) ∧ W.cell? ⟨w3.heap.size, 2, none⟩ = some (.slice sa k sc) ∧ W.cell? ⟨rb, kk, none⟩ = some (.string (rolS kk)) ∧ W.cell? ⟨rb, q, none⟩ = some (.string (rolS q))) rfl (by kernel_rfl) (by kernel_rfl) (HKS.out _ HLd.out HCK.out) (fun hHeld => ?_)
      simp only [List.pop_toArray, List.dropLast_cons_cons, List.dropLast_singleton]
      try simp only [Act.put, List.setIfInBounds_toArray]
      refine' wpAnyH_take (i := 0) (v := _) rfl (by kernel_rfl) (by kernel_rfl) (by kernel_rfl) (fun _ _ _ h => h) (Or.inl ⟨by rfl, ?hy0⟩) (by assumption) ?rest0
      case hy0 =>
        intro W hSw
        (try dsimp only at hSw)
        first | (go_simp; done) | (go_simp; with_reducible rfl)
      try simp only [Act.put, List.setIfInBounds_toArray]
      refine' wpAnyH_take (i := 1) (v := _) rfl (by kernel_rfl) (by kernel_rfl) (by kernel_rfl) (fun _ _ _ h => h) (Or.inl ⟨by rfl, ?hy1⟩) (by assumption) ?rest1
      case hy1 =>
        intro W hSw
        (try dsimp only at hSw)
        first | (go_simp; done) | (go_simp; with_reducible rfl)
      try simp only [Act.put]
      refine' wpAnyH_take (i := 2) (v := _) rfl (by kernel_rfl) (by kernel_rfl) (by kernel_rfl) (fun _ _ _ h => h) (Or.inl ⟨by rfl, ?hy2⟩) (by assumption) ?rest2
      case hy2 =>
        intro W hSw
        (try dsimp only at hSw)
        first | (go_simp; done) | (go_simp; with_reducible rfl)
      try simp only [Act.put]
      refine' wpAnyH_take (i := 3) (v := _) rfl (by kernel_rfl) (by kernel_rfl) (by kernel_rfl) (fun _ _ _ h => h) (Or.inl ⟨by rfl, ?hy3⟩) (by assumption) ?rest3
      case hy3 =>
        intro W hSw
        (try dsimp only at hSw)
        first | (go_simp; done) | (go_simp; with_reducible rfl)
      try simp only [Act.put]
      refine' wpAnyH_take (i := 4) (v := _) rfl (by kernel_rfl) (by kernel_rfl) (by kernel_rfl) (fun _ _ _ h => h) (Or.inl ⟨by rfl, ?hy4⟩) (by assumption) ?rest4
      case hy4 =>
        intro W hSw
        (try dsimp only at hSw)
        first | (go_simp; done) | (go_simp; with_reducible rfl)
      try simp only [Act.put]
      refine' wpAnyH_take (i := 5) (v := _) rfl (by kernel_rfl) (by kernel_rfl) (by kernel_rfl) (fun _ _ _ h => h) (Or.inl ⟨by rfl, ?hy5⟩) (by assumption) ?rest5
      case hy5 =>
        intro W hSw
        (try dsimp only at hSw)
        first | (go_simp; done) | (go_simp; with_reducible rfl)
      try simp only [Act.put]
      refine' wpAnyH_take (i := 6) (v := _) rfl (by kernel_rfl) (by kernel_rfl) (by kernel_rfl) (fun _ _ _ h => h) (Or.inl ⟨by rfl, ?hy6⟩) (by assumption) ?rest6
      case hy6 =>
        intro W hSw
        (try dsimp only at hSw)
        first | (go_simp; done) | (go_simp; with_reducible rfl)
      try simp only [Act.put]
      refine' wpAnyH_take (i := 7) (v := _) rfl (by kernel_rfl) (by kernel_rfl) (by kernel_rfl) (fun _ _ _ h => h) (Or.inl ⟨by rfl, ?hy7⟩) (by assumption) ?rest7
      case hy7 =>
        intro W hSw
        (try dsimp only at hSw)
        first | (go_simp; done) | (go_simp; with_reducible rfl)
      try simp only [Act.put]
      refine' wpAnyH_take (i := 8) (v := _) rfl (by kernel_rfl) (by kernel_rfl) (by kernel_rfl) (fun _ _ _ h => h) (Or.inl ⟨by rfl, ?hy8⟩) (by assumption) ?rest8
      case hy8 =>
        intro W hSw
        (try dsimp only at hSw)
        first | (go_simp; done) | (go_simp; with_reducible rfl)
      try simp only [Act.put]
      refine' wpAnyH_take (i := 9) (v := _) rfl (by kernel_rfl) (by kernel_rfl) (by kernel_rfl) (fun _ _ _ h => h) (Or.inl ⟨by rfl, ?hy9⟩) (by assumption) ?rest9
      case hy9 =>
        intro W hSw
        (try dsimp only at hSw)
        first | (go_simp; done) | (go_simp; with_reducible rfl)
      try simp only [Act.put]
      refine' wpAnyH_take (i := 10) (v := _) rfl (by kernel_rfl) (by kernel_rfl) (by kernel_rfl) (fun _ _ _ h => h) (Or.inl ⟨by rfl, ?hy10⟩) (by assumption) ?rest10
      case hy10 =>
        intro W hSw
        (try dsimp only at hSw)
        first | (go_simp; done) | (go_simp; with_reducible rfl)
      try simp only [Act.put]
      refine' wpAnyH_take (i := 11) (v := _) rfl (by kernel_rfl) (by kernel_rfl) (by kernel_rfl) (fun _ _ _ h => h) (Or.inl ⟨by rfl, ?hy11⟩) (by assumption) ?rest11
      case hy11 =>
        intro W hSw
        (try dsimp only at hSw)
        first | (go_simp; done) | (go_simp; with_reducible rfl)
      try simp only [Act.put]
      refine' wpAnyH_take (i := 12) (v := _) rfl (by kernel_rfl) (by kernel_rfl) (by kernel_rfl) (fun _ _ _ h => h) (Or.inl ⟨by rfl, ?hy12⟩) (by assumption) ?rest12
      case hy12 =>
        intro W hSw
        (try dsimp only at hSw)
        first | (go_simp; done) | (go_simp; with_reducible rfl)
      try simp only [Act.put]
      refine' wpAnyH_take (i := 13) (v := _) rfl (by kernel_rfl) (by kernel_rfl) (by kernel_rfl) (fun _ _ _ h => h) (Or.inl ⟨by rfl, ?hy13⟩) (by assumption) ?rest13
      case hy13 =>
        intro W hSw
        (try dsimp only at hSw)
        first | (go_simp; done) | (go_simp; with_reducible rfl)
      try simp only [Act.put]
      refine' wpAnyH_take (i := 14) (v := _) rfl (by kernel_rfl) (by kernel_rfl) (by kernel_rfl) (fun _ _ _ h => h) (Or.inl ⟨by rfl, ?hy14⟩) (by assumption) ?rest14
      case hy14 =>
        intro W hSw
        (try dsimp only at hSw)
        first | (go_simp; done) | (go_simp; with_reducible rfl)
      try simp only [Act.put]
      refine' wpAnyH_take (i := 15) (v := _) rfl (by kernel_rfl) (by kernel_rfl) (by kernel_rfl) (fun _ _ _ h => h) (Or.inl ⟨by rfl, ?hy15⟩) (by assumption) ?rest15
      case hy15 =>
        intro W hSw
        (try dsimp only at hSw)
        first | (go_simp; done) | (go_simp; with_reducible rfl)
      try simp only [Act.put]
      refine wpAnyH_ready (rs := [16]) (by kernel_rfl) (by simp) ?_
      refine AllReadyH.cons (i := 16) (o := _) rfl (fun K hK => ?_) AllReadyH.nil
      go_simp
      go_at_call 30
      with_reducible refine (CA.out _ HDd.out).mono ?_
      rintro e w7 ⟨⟨va, l, he7, hal, hok⟩, hd7, hb7⟩
      subst he7
      have hl6 := (armsB_all hok).2.2.2
      obtain ⟨aa, ac, hva, _, _, _⟩ := hal.sees (by omega)
      obtain ⟨an, han⟩ : ∃ an, an = l.length := ⟨_, rfl⟩
      rw [← han] at hva
      clear han
      subst hva
      have hck7 := (hb7.cell (p := ⟨rb, kk, none⟩) (by show rb < _; exact hrb2) (by show rb ≠ g; omega)).trans HCK.out.1
      have hcq7 := (hb7.cell (p := ⟨rb, q, none⟩) (by show rb < _; exact hrb2) (by show rb ≠ g; omega)).trans HCK.out.2
      have HA7 := Lib.hid (show AOwn w7 w6.heap.size (PR.arms ⟨rolS kk, rolS q, aa, an, ac⟩) l from hal)
      have HOK := Lib.hid hok
      have HAL := Lib.hid (show l.length ≤ 1000 by omega)
      have HD7 := Lib.hid hd7
      have HB7 := Lib.hid (HBd.out.trans hb7)
      have HO7 := Lib.hid (show PRow w7 (w3.heap.size + 1) w6.heap.size (.slice sa k sc) f from ((HOd.out.top (Nat.le_refl _)).beside hb7 (by omega)))
      have HL7 := Lib.hid (HLd.out.beside hb7 (by omega))
      have HRo7 := Lib.hid (HRd.out.beside hb7 (by omega))
      have HRs7 := Lib.hid (HSd.out.beside hb7 (by omega))
      have hs7 : w6.heap.size ≤ w7.heap.size := hb7.size
      have hq7 : w3.heap.size < w7.heap.size := HL7.out.lt
      have HCK7 := Lib.hid (And.intro hck7 hcq7)
      clear hal hok hd7 hb7 hl6 hck7 hcq7
      refine hK.out _ _ (HKS.out _ HL7.out HCK7.out) (fun hHeld => ?_)
      clear hK K
      try simp only [Act.put, List.setIfInBounds_toArray, List.set_cons_zero, List.set_cons_succ]
      refine' wpAnyH_take (i := 17) (v := _) rfl (by kernel_rfl) (by kernel_rfl) (by kernel_rfl) (fun _ _ _ h => h) (Or.inl ⟨by rfl, ?hy17⟩) (by assumption) ?rest17
      case hy17 =>
        intro W hSw
        (try dsimp only at hSw)
        first | (go_simp; done) | (go_simp; with_reducible rfl)
      try simp only [Act.put, List.setIfInBounds_toArray]
      refine wpAnyH_ready (rs := [18]) (by kernel_rfl) (by simp) ?_
      refine AllReadyH.cons (i := 18) (o := _) rfl (fun K hK => ?_) AllReadyH.nil
      go_simp
      refine hK.out _ _ (HKS.out _ (HL7.out.on (tu1 _ _)) ⟨((tu1 w7 _).cell (p := ⟨rb, kk, none⟩) (show rb < w7.heap.size by omega)).trans HCK7.out.1, ((tu1 w7 _).cell (p := ⟨rb, q, none⟩) (show rb < w7.heap.size by omega)).trans HCK7.out.2⟩) (fun hHeld => ?_)
      clear hK K
      try simp only [Act.put, List.setIfInBounds_toArray, List.set_cons_zero, List.set_cons_succ]
      refine wpAnyH_ready (rs := [19]) (by kernel_rfl) (by simp) ?_
      refine AllReadyH.cons (i := 19) (o := _) rfl (fun K hK => ?_) AllReadyH.nil
      refine step_append_mpoint w7 (by rfl) (.tmp 41) (.tmp 58) (by rfl) (w3.heap.size + 1) w6.heap.size (.slice sa k sc) f ⟨rolS kk, rolS q, aa, an, ac⟩ ⟨(rolS kk).toList, (rolS q).toList, l⟩ (by rfl) (by rfl) (by rfl) HO7.out ⟨⟨rfl, rolS_small kk⟩, rfl, rolS_small q, HAL.out⟩ HA7.out (by omega) (by omega) (by have := HFL.out; omega) w7 (Below.refl _ _) ?_
      intro v5 w5 hown hbel
      obtain ⟨sa5, sc5, hv5, _⟩ := hown.powns.sees (by rw [List.length_append, List.length_singleton, HFL.out]; omega)
      rw [List.length_append, List.length_singleton, HFL.out] at hv5
      subst hv5
      have HO5 := Lib.hid hown
      have HL5 := Lib.hid (show PBox w5 w3.heap.size nm (some ⟨rb, 0, none⟩) many rc sa k sc from (hbel.block w3.heap.size (by omega)).trans HL7.out)
      have HD5 := Lib.hid (HD7.out.below hbel (by omega))
      have HB5 := Lib.hid (bes_below HB7.out hbel (by omega))
      have HRs5 := Lib.hid (show PBox w5 w.heap.size ⟨#[]⟩ none 0 0 none 0 0 from (hbel.block w.heap.size (by omega)).trans HRs7.out)
      have HRo5 := Lib.hid (show RRow w5 (w.heap.size + 1) (some ⟨rb, 0, none⟩) many rc (rolesL many) from HRo7.out.below hbel (by omega))
      have hs5 := hbel.size
      have uf2 := HL5.out.thaw 2
      have HCK5 := Lib.hid (show w5.cell? ⟨rb, kk, none⟩ = some (.string (rolS kk)) ∧ w5.cell? ⟨rb, q, none⟩ = some (.string (rolS q)) from ⟨(hbel.cell (p := ⟨rb, kk, none⟩) (show rb < w3.heap.size + 1 by omega)).trans HCK7.out.1, (hbel.cell (p := ⟨rb, q, none⟩) (show rb < w3.heap.size + 1 by omega)).trans HCK7.out.2⟩)
      clear hown hbel
      refine hK.out _ _ (HKS.out _ HL5.out HCK5.out) (fun hHeld => ?_)
      clear hK K
      try simp only [Act.put, List.setIfInBounds_toArray]
      refine' wpAnyH_take (i := 20) (v := _) rfl (by kernel_rfl) (by kernel_rfl) (by kernel_rfl) (fun _ _ _ h => h) (Or.inl ⟨by rfl, ?hy20⟩) (by assumption) ?rest20
      case hy20 =>
        intro W hSw
        (try dsimp only at hSw)
        first | (go_simp; done) | (go_simp; with_reducible rfl)
      try simp only [Act.put]
      refine wpAnyH_done (by kernel_rfl) ?_ _
      unfold LastPost
      obtain ⟨_, _, _⟩ := HL5.out.cells
      go_simp
      go_wp2_with fail
      have HBS := Lib.hid (fun (u : Value) => ((Beside.refl w3.heap.size w5).setCell 2 u))
      have HBL := Lib.hid (fun (u : Value) => ((Below.refl w3.heap.size w5).setCell (p := ⟨w3.heap.size, 2, none⟩) (Nat.le_refl _) u))
      have HG5 := Lib.hid (show ∀ t ∈ f ++ [(⟨(rolS kk).toList, (rolS q).toList, l⟩ : PointL)], pointB (rolesL many) (m + 2) t = true from fun t ht => by
        rcases List.mem_append.1 ht with ht | ht
        · exact HG.out t ht
        · rw [List.mem_singleton.1 ht]
          unfold pointB
          rw [decide_eq_true (rolS_ne (by omega) (by omega) (fun e => hqk e.symm)), decide_eq_true (List.mem_of_getElem? (rolesL_at hkk)), decide_eq_true (List.mem_of_getElem? (rolesL_at hq)), HOK.out]
          simp)
      go_roundw
      case rel => exact ⟨k + 1, sa5, k + 1, sc5, f ++ [⟨(rolS kk).toList, (rolS q).toList, l⟩], by omega, by go_num, by rw [List.length_append, HFL.out]; rfl, rfl, Lib.hid ((HO5.out.beside (HBS.out _) (by omega)).top (Nat.le_refl _)), HG5, Lib.hid (PBox.set HL5.out), Lib.hid (HD5.out.below (HBL.out _) (by omega)), Lib.hid (bes_below HB5.out (HBL.out _) (by omega)), Lib.hid (HRo5.out.below (HBL.out _) hrb3), Lib.hid ((heap_setCell_ne (by omega)).trans HRs5.out)⟩
      case measure => simp [intOf]; omega
    · have d1 : decide ((k : Int) < 1 + (m : Int)) = false := decide_eq_false (by omega)
      obtain ⟨_, _, _⟩ := HLB.out.cells
      have pf2 := HLB.out.thaw 2
      go_wp2_with (first
        | (at_builtin
           refine wpList_append_mpoint rfl (.tmp 62) (.tmp 64) rfl (w3.heap.size + 1) wr.heap.size (.slice sa k sc) f ⟨⟨#[]⟩, ⟨#[]⟩, none, 0, 0⟩ ⟨[], [], []⟩ rfl rfl rfl rfl HO.out ⟨⟨by rw [ByteArray.toList_eq], by simp [maxLen, ByteArray.size]⟩, by rw [ByteArray.toList_eq], by simp [maxLen, ByteArray.size], by simp⟩ (AOwn.zero _ _) (by omega) (Nat.le_refl _) (by have := HFL.out; omega) wr (Below.refl _ _) ?_
           intro v5 w5 hown hbel
           obtain ⟨sa5, sc5, hv5, _⟩ := hown.powns.sees (by rw [List.length_append, List.length_singleton, HFL.out]; omega)
           rw [List.length_append, List.length_singleton, HFL.out] at hv5
           subst hv5
           have HO5 := Lib.hid hown
           have HL5 := Lib.hid (show PBox w5 w3.heap.size nm ra many rc sa k sc from (hbel.block w3.heap.size (by omega)).trans HLB.out)
           have HB5 := Lib.hid (bes_below HBr.out hbel (by omega))
           have HRs5 := Lib.hid (show PBox w5 w.heap.size ⟨#[]⟩ none 0 0 none 0 0 from (hbel.block w.heap.size (by omega)).trans HRs.out)
           obtain ⟨rb, hrb, _, _, _⟩ := HRo.out.cell (by omega)
           have HRo5 := Lib.hid (show RRow w5 (w.heap.size + 1) ra many rc (rolesL many) from by
             subst hrb
             exact HRo.out.below hbel (by have := (World.ownsRow.lt HR3.out rb rfl).2; omega))
           clear hrb
           have hs5 := hbel.size
           obtain ⟨_, _, _⟩ := HL5.out.cells
           have uf2 := HL5.out.thaw 2
           have zf0 := HRs5.out.thaw 0
           have zf1 := HRs5.out.thaw 1
           have zf2 := HRs5.out.thaw 2
           obtain ⟨rc0, rc1, rc2⟩ := HRs5.out.cells
           clear hown hbel)
        | fail)
      have hkm : k = m + 1 := by omega
      have HBS := Lib.hid (fun (u : Value) => ((Beside.refl w3.heap.size w5).setCell 2 u))
      have HBL := Lib.hid (fun (u : Value) => ((Below.refl w3.heap.size w5).setCell (p := ⟨w3.heap.size, 2, none⟩) (Nat.le_refl _) u))
      have HO6 := Lib.hid ((HO5.out.beside (HBS.out (.slice sa5 (k + 1) sc5)) (by omega)).top (Nat.le_refl _))
      have HB6 := Lib.hid (bes_below HB5.out (HBL.out (.slice sa5 (k + 1) sc5)) (by omega))
      have HRs6 := Lib.hid (show PBox (w5.setCell ⟨w3.heap.size, 2, none⟩ (.slice sa5 (k + 1) sc5)) w.heap.size ⟨#[]⟩ none 0 0 none 0 0 from (heap_setCell_ne (by omega)).trans HRs5.out)
      have HRo6 := Lib.hid (show RRow (w5.setCell ⟨w3.heap.size, 2, none⟩ (.slice sa5 (k + 1) sc5)) (w.heap.size + 1) ra many rc (rolesL many) from by
        obtain ⟨rb, hrb, _, _, _⟩ := HRo.out.cell (by omega)
        subst hrb
        exact HRo5.out.below (HBL.out _) (World.ownsRow.lt HR3.out rb rfl).2)
      generalize hw6 : w5.setCell ⟨w3.heap.size, 2, none⟩ (.slice sa5 (k + 1) sc5) = w6 at HO6 HB6 HRs6 HRo6 ⊢
      clear hw6
      obtain ⟨rc0, rc1, rc2⟩ := HRs6.out.cells
      refine bodyPost_ret (v := .agg #[.string nm, .slice ra many rc, .slice sa5 (k + 1) sc5]) (by simp [results, go_sem, rc0, rc1, rc2]) rfl ?_
      have hbs := (((Beside.refl w.heap.size w6).setCell 0 (.string nm)).setCell 1 (.slice ra many rc)).setCell 2 (.slice sa5 (k + 1) sc5)
      have hbl : Below w.heap.size w6 (((w6.setCell ⟨w.heap.size, 0, none⟩ (.string nm)).setCell ⟨w.heap.size, 1, none⟩ (.slice ra many rc)).setCell ⟨w.heap.size, 2, none⟩ (.slice sa5 (k + 1) sc5)) := (((Below.refl w.heap.size w6).setCell (Nat.le_refl _) _).setCell (Nat.le_refl _) _).setCell (Nat.le_refl _) _
      have hl : (f ++ [(⟨[], [], []⟩ : PointL)]).length = k + 1 := by rw [List.length_append, HFL.out]; rfl
      refine ⟨⟨ra, rc, sa5, k + 1, sc5, f ++ [⟨[], [], []⟩], rfl, ?_, ?_, hl, ?_, by omega, by omega⟩, bes_below HB6.out hbl (Nat.le_refl _)⟩
      · have hm := (HO6.out.beside hbs (by omega)).top (Nat.le_refl _)
        exact hm.low (by omega)
      · exact (HRo6.out.beside hbs (by omega)).low (by omega)
      · rw [hl, hkm]
        intro x hx
        rcases List.mem_append.1 hx with hx | hx
        · exact HG.out x hx
        · rw [List.mem_singleton.1 hx]
          rfl
end Go.Proofs.YtiofpeckcfdilaaGreatDoor
