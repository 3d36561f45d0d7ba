/- A slice of binds that the call makes by append. -/
import Derived.Test.YthbakfceaaaamaaTmSteps
namespace Go.Proofs.Ythbakfceaaaamaa
open Go.RowKit

def BReads (w : World) (bound : Nat) (b : BB) (x : Str × Val) : Prop := b.nm.toList = x.1 ∧ b.k = x.2.kind ∧ b.x = x.2.num ∧ b.s.toList = x.2.text ∧ Nums w bound b.a b.n x.2.list
/-- The slice v, which the call made (its array lies at base or above), holds just these binds; their numbers lie below bound. -/
def BOwn (w : World) (base bound : Nat) (v : Value) (env : List (Str × Val)) : Prop :=
  ∃ bs : List BB, w.ownsRow base 35 5 v env.length (bs.flatMap encBB) ∧ bs.length = env.length ∧ ∀ (j : Nat) (b : BB) (x : Str × Val), bs[j]? = some b → env[j]? = some x → BReads w bound b x
/-- The slice at this address holds these binds. -/
def BRow (w : World) (bound : Nat) (ad : Option Addr) (m : Nat) (env : List (Str × Val)) : Prop :=
  ∃ bs : List BB, bs.length = m ∧ env.length = m ∧ (∀ (j : Nat) (b : BB) (x : Str × Val), bs[j]? = some b → env[j]? = some x → BReads w bound b x) ∧
    (0 < m → ∃ a', ad = some a' ∧ ∀ (j : Nat) (u : Value), (bs.flatMap encBB)[j]? = some u → w.cell? (a'.add j) = some u)
theorem encBBs_len (l : List BB) : (l.flatMap encBB).length = l.length * 5 := by
  induction l with
  | nil => rfl
  | cons t l ih => rw [List.flatMap_cons, List.length_append, ih, List.length_cons]; show 5 + _ = _; omega
theorem encBB_cell {u : Value} {l : List BB} (h : u ∈ l.flatMap encBB) : u.oneCell' = true := by
  obtain ⟨t, _, ht⟩ := List.mem_flatMap.1 h
  unfold encBB at ht
  simp only [List.mem_cons, List.not_mem_nil, or_false] at ht
  rcases ht with rfl | rfl | rfl | rfl | rfl <;> rfl
theorem BReads.below {w w' : World} {bound : Nat} {b : BB} {x : Str × Val} (h : BReads w bound b x) (hb : Below bound w w') : BReads w' bound b x := ⟨h.1, h.2.1, h.2.2.1, h.2.2.2.1, h.2.2.2.2.below hb⟩
theorem BRow.of_binds {w : World} {bound : Nat} {ad : Option Addr} {m : Nat} {env : List (Str × Val)} (h : Binds w bound ad m env) : BRow w bound ad m env := by
  obtain ⟨h1, _, hc⟩ := h
  rcases Nat.eq_zero_or_pos m with h0 | h0
  · subst h0
    exact ⟨[], rfl, h1, fun j b x hj => by simp at hj, fun h => absurd h (Nat.lt_irrefl 0)⟩
  obtain ⟨b, off, rfl, _, hcell⟩ := hc h0
  have each : ∀ i, i < m → ∃ y : BB, ∃ x, env[i]? = some x ∧ BReads w bound y x ∧ w.cell? ⟨b, off + i * 5, none⟩ = some (.string y.nm) ∧ w.cell? ⟨b, off + i * 5 + 1, none⟩ = some (.int .i64 y.k) ∧ w.cell? ⟨b, off + i * 5 + 2, none⟩ = some (.int .i64 y.x) ∧
      w.cell? ⟨b, off + i * 5 + 3, none⟩ = some (.string y.s) ∧ w.cell? ⟨b, off + i * 5 + 4, none⟩ = some (.slice y.a y.n y.c) := fun i hi => by
    have hx := List.getElem?_eq_getElem (l := env) (i := i) (by omega)
    obtain ⟨s, t, la, ln, lc, ⟨q0, q1, q2, q3, q4⟩, z1, z2, z3⟩ := hcell i _ hx
    exact ⟨⟨s, env[i].2.kind, env[i].2.num, t, la, ln, lc⟩, _, hx, ⟨z1, rfl, rfl, z2, z3⟩, q0, q1, q2, q3, q4⟩
  haveI : Inhabited BB := ⟨⟨⟨#[]⟩, 0, 0, ⟨#[]⟩, none, 0, 0⟩⟩
  obtain ⟨f, hf⟩ := Go.Deep.choose_lt each
  refine ⟨(List.range m).map f, by simp, h1, fun j y x hj hx => ?_, fun _ => ⟨_, rfl, fun j u hu => ?_⟩⟩
  · have hjm : j < m := by
      obtain ⟨h2, _⟩ := List.getElem?_eq_some_iff.1 hj
      simpa using h2
    rw [List.getElem?_map, List.getElem?_range hjm] at hj
    obtain rfl : f j = y := by simpa using hj
    obtain ⟨x', hx', hr, _⟩ := hf j hjm
    rw [hx] at hx'
    obtain rfl := Option.some.inj hx'
    exact hr
  · have hj : j < m * 5 := by
      obtain ⟨h2, _⟩ := List.getElem?_eq_some_iff.1 hu
      rw [encBBs_len] at h2
      simpa using h2
    have hjm : j / 5 < m := by omega
    have ht : ((List.range m).map f)[j / 5]? = some (f (j / 5)) := by rw [List.getElem?_map, List.getElem?_range hjm]; rfl
    have hu2 := flat_at (f := encBB) (m := 5) (fun _ => rfl) _ (j / 5) _ ht (j % 5) (by omega)
    rw [show j / 5 * 5 + j % 5 = j by omega] at hu2
    have hu3 : (encBB (f (j / 5)))[j % 5]? = some u := hu2.symm.trans hu
    obtain ⟨_, _, _, c0, c1, c2, c3, c4⟩ := hf (j / 5) hjm
    rw [Go.WideShapes.add_plain]
    have hj5 : j % 5 = 0 ∨ j % 5 = 1 ∨ j % 5 = 2 ∨ j % 5 = 3 ∨ j % 5 = 4 := by omega
    rcases hj5 with e | e | e | e | e
    · rw [e] at hu3; rw [show off + j = off + j / 5 * 5 by omega, c0]; exact hu3
    · rw [e] at hu3; rw [show off + j = off + j / 5 * 5 + 1 by omega, c1]; exact hu3
    · rw [e] at hu3; rw [show off + j = off + j / 5 * 5 + 2 by omega, c2]; exact hu3
    · rw [e] at hu3; rw [show off + j = off + j / 5 * 5 + 3 by omega, c3]; exact hu3
    · rw [e] at hu3; rw [show off + j = off + j / 5 * 5 + 4 by omega, c4]; exact hu3
/-- One bind, made for an append. -/
theorem BRow.one {W : World} {cs : Array Value} {bound : Nat} (b : BB) (x : Str × Val) {g : Nat} (hg : g = W.heap.size) (hc : cs = (encBB b).toArray) (hb : bound ≤ W.heap.size) (hr : BReads W bound b x) :
    BRow (W.alloc (.cells cs 35)) bound (some ⟨g, 0, none⟩) 1 [x] := by
  subst hg hc
  refine ⟨[b], rfl, rfl, fun j b' x' hj hx => ?_, fun _ => ⟨_, rfl, fun j u hu => ?_⟩⟩
  · obtain ⟨h1, _⟩ := List.getElem?_eq_some_iff.1 hj
    obtain rfl : j = 0 := by simpa using h1
    obtain rfl : b = b' := by simpa using hj
    obtain rfl : x = x' := by simpa using hx
    exact hr.below ((next_alloc W _).mono hb)
  · rw [Go.WideShapes.add_plain, cell_of_row _ _ _ _ _ _ (heap_alloc_new W _), List.getElem?_toArray, Nat.zero_add]
    rw [show ([b].flatMap encBB) = encBB b by simp] at hu
    exact hu
theorem BOwn.zero (w : World) (base bound : Nat) : BOwn w base bound (.slice none 0 0) [] := ⟨[], World.ownsRow_nil w base 35 5, rfl, fun j b x hj => by simp at hj⟩
theorem BOwn.alloc {w : World} {base bound : Nat} {v : Value} {l : List (Str × Val)} (h : BOwn w base bound v l) (hb : bound ≤ w.heap.size) (o : Obj) : BOwn (w.alloc o) base bound v l := by
  obtain ⟨bs, h1, h2, h3⟩ := h
  exact ⟨bs, World.ownsRow.alloc h1 o, h2, fun j b x hj hx => (h3 j b x hj hx).below ((next_alloc w o).mono hb)⟩
theorem BOwn.kept {w w' : World} {base bound : Nat} {v : Value} {l : List (Str × Val)} (h : BOwn w base bound v l) (hbd : bound ≤ w.heap.size) (hb : Below w.heap.size w w') : BOwn w' base bound v l := by
  obtain ⟨bs, h, h2, h3⟩ := h
  refine ⟨bs, ?_, h2, fun j b x hj hx => (h3 j b x hj hx).below (hb.mono hbd)⟩
  have hlt := h.lt
  rcases h.2 with h0 | ⟨g, cap, cur, rfl, hbase, hh, h1, h2, h3, h4⟩
  · exact ⟨h.1, .inl h0⟩
  · refine ⟨h.1, .inr ⟨g, cap, cur, rfl, hbase, ?_, h1, h2, h3, h4⟩⟩
    rw [hb.block g (hlt g rfl).2]
    exact hh
/-- The call's own slice of one bind. -/
theorem BOwn.one {W : World} {cs : Array Value} {base bound : Nat} (b : BB) (x : Str × Val) {g : Nat} (hg : g = W.heap.size) (hc : cs = (encBB b).toArray) (hbase : base ≤ W.heap.size) (hb : bound ≤ W.heap.size) (hr : BReads W bound b x) :
    BOwn (W.alloc (.cells cs 35)) base bound (.slice (some ⟨g, 0, none⟩) 1 1) [x] := by
  subst hg hc
  refine ⟨[b], ⟨by simp [encBB], .inr ⟨W.heap.size, 1, _, rfl, hbase, heap_alloc_new W _, Nat.le_refl _, by unfold maxLen; omega, by simp [encBB], by simp [encBB]⟩⟩, rfl, fun j b' x' hj hx => ?_⟩
  obtain ⟨h1, _⟩ := List.getElem?_eq_some_iff.1 hj
  obtain rfl : j = 0 := by simpa using h1
  obtain rfl : b = b' := by simpa using hj
  obtain rfl : x = x' := by simpa using hx
  exact hr.below ((next_alloc W _).mono hb)
theorem info_bind : (Try.prog.info? 35).map (fun i => (i.zero, i.size, i.bytes)) = some (some (.agg #[.string ⟨#[]⟩, .int .i64 0, .int .i64 0, .string ⟨#[]⟩, .slice none 0 0]), 5, 72) := by kernel_rfl
/-- The binds of a slice, whichever, behind those that the call made. -/
theorem BOwn.add {w : World} {base bound : Nat} {v : Value} {l : List (Str × Val)} (h : BOwn w base bound v l) (hb : base ≤ w.heap.size) (hbb : bound ≤ base) {a : Option Addr} {m : Nat} (c : Nat) {l2 : List (Str × Val)} (hr : BRow w bound a m l2) (hlen : l.length + m ≤ 1000000) (ty : Nat) :
    ∃ v' w', (Builtin.append_ #[29, 29] ty #[v, .slice a m c]).run Try.prog w = .ok v' w' ∧ BOwn w' base bound v' (l ++ l2) ∧ ∀ B, B ≤ base → ∀ w0, Below B w0 w → Below B w0 w' := by
  obtain ⟨i0, hi0, hzz⟩ := Option.map_eq_some_iff.1 info_bind
  simp only [Prod.mk.injEq] at hzz
  obtain ⟨hz, hs1, hb1⟩ := hzz
  obtain ⟨bs, ho, hl, hrd⟩ := h
  obtain ⟨bs2, hl2, hl2', hrd2, hc⟩ := hr
  rcases a with _ | ad
  · have hm : m = 0 := by
      rcases Nat.eq_zero_or_pos m with h0 | h0
      · exact h0
      · obtain ⟨_, h, _⟩ := hc h0; cases h
    subst hm
    have hn : l2 = [] := List.eq_nil_of_length_eq_zero hl2'
    subst hn
    refine ⟨v, w, ?_, by rw [List.append_nil]; exact ⟨bs, ho, hl, hrd⟩, fun B _ w0 hw => hw⟩
    rcases ho.2 with ⟨h0, _⟩ | ⟨g, cap, cur, rfl, _, hh, h1, h2, h3, h4⟩
    · rw [h0]; simp [Builtin.append_, run_underlying Try.underlying29, sizeOf, typeInfo, hi0, Builtin.lenOf, Builtin.firstCells]
    · simp [Builtin.append_, run_underlying Try.underlying29, sizeOf, typeInfo, hi0, Builtin.lenOf, Builtin.firstCells, storeCells]
      intro hx
      omega
  · have hcells : ∀ (j : Nat) (u : Value), (bs2.flatMap encBB)[j]? = some u → w.cell? (ad.add j) = some u := fun j u hu => by
      rcases Nat.eq_zero_or_pos m with h0 | h0
      · rw [List.eq_nil_of_length_eq_zero (hl2.trans h0)] at hu; cases hu
      · obtain ⟨a', e, hcc⟩ := hc h0
        obtain rfl := Option.some.inj e
        exact hcc j u hu
    obtain ⟨v', w', hrun, hown, hgr, _, hat⟩ := run_append_own_at (P := Try.prog) w base 29 ty 35 i0 _ 5 72 Try.underlying29 hi0 hz hs1 hb1 rfl (by omega) v l.length (bs.flatMap encBB) ho ad m c (bs2.flatMap encBB) (by rw [encBBs_len, hl2]) hcells
      (fun u hu => encBB_cell hu) (by unfold maxLen; omega) (by omega) hb
    have hbel : ∀ B, B ≤ base → ∀ w0, Below B w0 w → Below B w0 w' := fun B hB w0 hw0 => hw0.grown hgr (by omega) (fun k hk => by
      have := ho.lt k hk
      omega)
    refine ⟨v', w', hrun, ⟨bs ++ bs2, ?_, by simp [hl, hl2, hl2'], fun j b x hj hx => ?_⟩, hbel⟩
    · rw [List.length_append, List.flatMap_append, hl2']
      exact hown
    · have hbw := hbel bound hbb w (Below.refl _ _)
      rcases Nat.lt_or_ge j bs.length with hlt | hge
      · rw [List.getElem?_append_left hlt] at hj
        rw [List.getElem?_append_left (by omega)] at hx
        exact (hrd j b x hj hx).below hbw
      · rw [List.getElem?_append_right hge] at hj
        rw [List.getElem?_append_right (by omega), ← hl] at hx
        exact (hrd2 _ b x hj hx).below hbw
theorem wpList_append_binds {ops : Array Oper} {rest : List Oper} {o : Oper} {a : Act} {Q : Exit → Act → World → Prop} {W : World} (hgd : o.guard = none) (s x : Operand)
    (ho : o.op = .call { callee := .builtin .append, args := #[s, x], argTypes := #[29, 29] }) (base bound : Nat) (v : Value) (l : List (Str × Val)) (ad : Option Addr) (m c : Nat) (l2 : List (Str × Val))
    (hs : a.eval s = v) (hx : a.eval x = .slice ad m c) (hB : BOwn W base bound v l) (hr : BRow W bound ad m l2) (hb : base ≤ W.heap.size) (hbb : bound ≤ base) (hlen : l.length + m ≤ 1000000)
    (h : ∀ v' w', BOwn w' base bound v' (l ++ l2) → Below base W w' → wpList Try.prog ops Q rest (a.put o.dst v') w') : wpList Try.prog ops Q (o :: rest) a W := by
  obtain ⟨v', w', hrun, hown, hbel⟩ := hB.add hb hbb c hr hlen o.type
  exact wpList_append_lx hgd s x _ ho _ _ _ hs hx hrun (h v' w' hown (hbel base (Nat.le_refl _) W (Below.refl _ _)))
/-- Such a slice reads as its binds. -/
theorem BOwn.sees {w : World} {base bound : Nat} {v : Value} {l : List (Str × Val)} (h : BOwn w base bound v l) (hl : l.length ≤ 1000000) (hb : bound ≤ w.heap.size) :
    ∃ a c, v = .slice a l.length c ∧ Binds w w.heap.size a l.length l := by
  obtain ⟨bs, h, hbl, hrd⟩ := h
  have hlt := h.lt
  rcases h.2 with ⟨h0, h1⟩ | ⟨g, cap, cur, rfl, hbase, hh, h1, h2, h3, h4⟩
  · have hz : l = [] := List.eq_nil_of_length_eq_zero h1
    subst hz
    exact ⟨none, 0, h0, Binds.zero _ _ _⟩
  · refine ⟨_, cap, rfl, rfl, by omega, fun _ => ⟨g, 0, rfl, (hlt g rfl).2, fun j x hj => ?_⟩⟩
    have hj' : j < l.length := (List.getElem?_eq_some_iff.1 hj).1
    have hb' := List.getElem?_eq_getElem (l := bs) (i := j) (by omega)
    obtain ⟨p0, p1, p2, p3, p4⟩ := hrd j _ x hb' hj
    have hc : ∀ i, i < 5 → w.cell? ⟨g, 0 + j * 5 + i, none⟩ = (encBB (bs[j]'(by omega)))[i]? := fun i hi => by
      rw [cell_of_row w g _ cur 35 (0, 0) hh]
      have : (cur.toList.take (l.length * 5))[j * 5 + i]? = (bs.flatMap encBB)[j * 5 + i]? := by rw [h4]
      rw [List.getElem?_take, if_pos (by omega)] at this
      rw [Nat.zero_add, ← Array.getElem?_toList, this]
      exact flat_at (f := encBB) (m := 5) (fun _ => rfl) bs j _ hb' i hi
    refine ⟨(bs[j]'(by omega)).nm, (bs[j]'(by omega)).s, (bs[j]'(by omega)).a, (bs[j]'(by omega)).n, (bs[j]'(by omega)).c, ⟨?_, ?_, ?_, ?_, ?_⟩, p0, p3, p4.more hb⟩
    · have := hc 0 (by omega); rw [Nat.add_zero] at this; rw [this]; rfl
    · rw [hc 1 (by omega), ← p1]; rfl
    · rw [hc 2 (by omega), ← p2]; rfl
    · rw [hc 3 (by omega)]; rfl
    · rw [hc 4 (by omega)]; rfl
end Go.Proofs.Ythbakfceaaaamaa
