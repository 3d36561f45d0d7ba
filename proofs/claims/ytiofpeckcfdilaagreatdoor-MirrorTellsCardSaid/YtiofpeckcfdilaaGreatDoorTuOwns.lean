/- A slice of arms that the call makes by append; parts of a slice of arms. -/
import Derived.Test.YtiofpeckcfdilaaGreatDoorTuRefs
import Derived.Test.YtiofpeckcfdilaaGreatDoorNmStrs
import Derived.Laws.Cover1
import Derived.Sort.Walk0
namespace Go.Proofs.YtiofpeckcfdilaaGreatDoor
open Go.RowKit

/-- An arm as it is laid. -/
structure AR where
  s : ByteArray
  k : Int
  u : ByteArray
  x : Int
def encAR (t : AR) : List Value := [.string t.s, .int .i64 t.k, .string t.u, .int .i64 t.x]
def armR (t : AR) : ArmL := ⟨t.s.toList, t.k, t.u.toList, t.x⟩
def okR (t : AR) : Prop := t.s.size ≤ maxLen ∧ t.u.size ≤ maxLen
/-- The slice v, which the call made (its array lies at base or above), holds just these arms. -/
def AOwn (w : World) (base : Nat) (v : Value) (l : List ArmL) : Prop := ∃ ts : List AR, w.ownsRow base 67 4 v l.length (ts.flatMap encAR) ∧ ts.map armR = l ∧ ∀ t ∈ ts, okR t
/-- The slice at this address holds these arms. -/
def ARow (w : World) (ad : Option Addr) (m : Nat) (l : List ArmL) : Prop :=
  ∃ ts : List AR, ts.length = m ∧ ts.map armR = l ∧ (∀ t ∈ ts, okR t) ∧ (0 < m → ∃ a', ad = some a' ∧ ∀ (j : Nat) (u : Value), (ts.flatMap encAR)[j]? = some u → w.cell? (a'.add j) = some u)
theorem flatA_at : ∀ (l : List AR) (j : Nat) (t : AR), l[j]? = some t → ∀ i, i < 4 → (l.flatMap encAR)[j * 4 + i]? = (encAR t)[i]? := by
  intro l
  induction l with
  | nil => intro j t h; cases h
  | cons x l ih =>
    intro j t h i hi
    rw [List.flatMap_cons]
    cases j with
    | zero =>
      injection h with h
      subst h
      rw [Nat.zero_mul, Nat.zero_add, List.getElem?_append_left hi]
    | succ j =>
      have e : (j + 1) * 4 + i = 4 + (j * 4 + i) := by omega
      rw [e, List.getElem?_append_right (by show 4 ≤ _; omega)]
      show (l.flatMap encAR)[4 + (j * 4 + i) - 4]? = _
      rw [Nat.add_sub_cancel_left]
      exact ih j t h i hi
theorem encARs_len (l : List AR) : (l.flatMap encAR).length = l.length * 4 := by
  induction l with
  | nil => rfl
  | cons t l ih => rw [List.flatMap_cons, List.length_append, ih, List.length_cons]; show 4 + _ = _; omega
theorem encAR_cell {u : Value} {l : List AR} (h : u ∈ l.flatMap encAR) : u.oneCell' = true := by
  obtain ⟨t, _, ht⟩ := List.mem_flatMap.1 h
  unfold encAR at ht
  simp only [List.mem_cons, List.not_mem_nil, or_false] at ht
  rcases ht with rfl | rfl | rfl | rfl <;> rfl
theorem ARow.of_arms {w : World} {bound : Nat} {ad : Option Addr} {m : Nat} {l : List ArmL} (h : Arms w bound ad m l) : ARow w ad m l := by
  have h1 := h.1
  rcases Nat.eq_zero_or_pos m with h0 | h0
  · subst h0
    have hn : l = [] := List.eq_nil_of_length_eq_zero h1
    subst hn
    exact ⟨[], rfl, rfl, by simp, fun h => absurd h (Nat.lt_irrefl 0)⟩
  obtain ⟨b, off, rfl, _, _⟩ := h.2.2 h0
  have each : ∀ i, i < m → ∃ y : AR, l[i]? = some (armR y) ∧ okR y ∧ w.cell? ⟨b, off + i * 4, none⟩ = some (.string y.s) ∧ w.cell? ⟨b, off + i * 4 + 1, none⟩ = some (.int .i64 y.k) ∧ w.cell? ⟨b, off + i * 4 + 2, none⟩ = some (.string y.u) ∧ w.cell? ⟨b, off + i * 4 + 3, none⟩ = some (.int .i64 y.x) := fun i hi => by
    obtain ⟨b', off', s, u, ck, nx, e, _, hx, ⟨q0, q1, q2, q3⟩, hs, hu⟩ := h.at_ hi
    injection e with e
    injection e with e1 e2 _
    subst e1 e2
    exact ⟨⟨s, ck, u, nx⟩, hx, ⟨hs, hu⟩, q0, q1, q2, q3⟩
  haveI : Inhabited AR := ⟨⟨⟨#[]⟩, 0, ⟨#[]⟩, 0⟩⟩
  obtain ⟨f, hf⟩ := Go.Deep.choose_lt each
  refine ⟨(List.range m).map f, by simp, ?_, fun t ht => ?_, fun _ => ⟨_, rfl, fun j u hu => ?_⟩⟩
  · refine List.ext_getElem? fun i => ?_
    rw [List.map_map, List.getElem?_map]
    rcases Nat.lt_or_ge i m with hi | hi
    · rw [List.getElem?_range hi, (hf i hi).1]; rfl
    · rw [List.getElem?_eq_none (by simpa using hi), List.getElem?_eq_none (by omega)]; rfl
  · obtain ⟨i, hi, rfl⟩ := List.mem_map.1 ht
    exact (hf i (List.mem_range.1 hi)).2.1
  · have hj : j < m * 4 := by
      obtain ⟨h2, _⟩ := List.getElem?_eq_some_iff.1 hu
      rw [encARs_len] at h2
      simpa using h2
    have hjm : j / 4 < m := by omega
    have ht : ((List.range m).map f)[j / 4]? = some (f (j / 4)) := by rw [List.getElem?_map, List.getElem?_range hjm]; rfl
    have hu2 := flatA_at _ (j / 4) _ ht (j % 4) (by omega)
    rw [show j / 4 * 4 + j % 4 = j by omega] at hu2
    have hu3 : (encAR (f (j / 4)))[j % 4]? = some u := hu2.symm.trans hu
    obtain ⟨_, _, c0, c1, c2, c3⟩ := hf (j / 4) hjm
    rw [Go.WideShapes.add_plain]
    have hj4 : j % 4 = 0 ∨ j % 4 = 1 ∨ j % 4 = 2 ∨ j % 4 = 3 := by omega
    rcases hj4 with e | e | e | e
    · rw [e] at hu3; rw [show off + j = off + j / 4 * 4 by omega, c0]; exact hu3
    · rw [e] at hu3; rw [show off + j = off + j / 4 * 4 + 1 by omega, c1]; exact hu3
    · rw [e] at hu3; rw [show off + j = off + j / 4 * 4 + 2 by omega, c2]; exact hu3
    · rw [e] at hu3; rw [show off + j = off + j / 4 * 4 + 3 by omega, c3]; exact hu3
/-- One arm, made for an append. -/
theorem ARow.one {W : World} {cs : Array Value} (t : AR) {g : Nat} (hg : g = W.heap.size) (hc : cs = (encAR t).toArray) (ht : okR t) : ARow (W.alloc (.cells cs 67)) (some ⟨g, 0, none⟩) 1 [armR t] := by
  subst hg hc
  refine ⟨[t], rfl, rfl, by simpa using ht, fun _ => ⟨_, rfl, fun j u hu => ?_⟩⟩
  rw [Go.WideShapes.add_plain, cell_of_row _ _ _ _ _ _ (heap_alloc_new W _), List.getElem?_toArray, Nat.zero_add]
  rw [show ([t].flatMap encAR) = encAR t by simp] at hu
  exact hu
theorem AOwn.zero (w : World) (base : Nat) : AOwn w base (.slice none 0 0) [] := ⟨[], World.ownsRow_nil w base 67 4, rfl, by simp⟩
theorem AOwn.alloc {w : World} {base : Nat} {v : Value} {l : List ArmL} (h : AOwn w base v l) (o : Obj) : AOwn (w.alloc o) base v l := by
  obtain ⟨ts, h1, h2⟩ := h
  exact ⟨ts, World.ownsRow.alloc h1 o, h2⟩
theorem AOwn.low {w : World} {base base' : Nat} {v : Value} {l : List ArmL} (h : AOwn w base v l) (hb : base' ≤ base) : AOwn w base' v l := by
  obtain ⟨ts, h, h2⟩ := h
  refine ⟨ts, ⟨h.1, ?_⟩, h2⟩
  rcases h.2 with h0 | ⟨g, cap, cur, rfl, hbase, hh, h1, h2, h3, h4⟩
  · exact .inl h0
  · exact .inr ⟨g, cap, cur, rfl, Nat.le_trans hb hbase, hh, h1, h2, h3, h4⟩
theorem AOwn.kept {w w' : World} {base : Nat} {v : Value} {l : List ArmL} (h : AOwn w base v l) (hb : Below w.heap.size w w') : AOwn w' base v l := by
  obtain ⟨ts, h, h2⟩ := h
  have hlt := h.lt
  refine ⟨ts, ⟨h.1, ?_⟩, h2⟩
  rcases h.2 with h0 | ⟨g, cap, cur, rfl, hbase, hh, h1, h2, h3, h4⟩
  · exact .inl h0
  · refine .inr ⟨g, cap, cur, rfl, hbase, ?_, h1, h2, h3, h4⟩
    rw [hb.block g (hlt g rfl).2]
    exact hh
theorem info_arm : (Tryz.prog.info? 67).map (fun i => (i.zero, i.size, i.bytes)) = some (some (.agg #[.string ⟨#[]⟩, .int .i64 0, .string ⟨#[]⟩, .int .i64 0]), 4, 48) := by kernel_rfl
/-- The arms of a slice, whichever, behind those that the call made. -/
theorem AOwn.add {w : World} {base : Nat} {v : Value} {l : List ArmL} (h : AOwn w base v l) (hb : base ≤ w.heap.size) {a : Option Addr} {m : Nat} (c : Nat) {l2 : List ArmL} (hr : ARow w a m l2) (hlen : l.length + m ≤ 1000000) (ty : Nat) :
    ∃ v' w', (Builtin.append_ #[49, 49] ty #[v, .slice a m c]).run Tryz.prog w = .ok v' w' ∧ AOwn w' base v' (l ++ l2) ∧ ∀ B, B ≤ base → ∀ w0, Below B w0 w → Below B w0 w' := by
  obtain ⟨i0, hi0, hzz⟩ := Option.map_eq_some_iff.1 info_arm
  simp only [Prod.mk.injEq] at hzz
  obtain ⟨hz, hs1, hb1⟩ := hzz
  obtain ⟨bs, ho, hl, hok⟩ := h
  obtain ⟨bs2, hl2, hl2', hok2, hc⟩ := hr
  have hlen2 : l2.length = m := by rw [← hl2', List.length_map, hl2]
  rcases a with _ | ad
  · have hm : m = 0 := by
      rcases Nat.eq_zero_or_pos m with h0 | h0
      · exact h0
      · obtain ⟨_, h, _⟩ := hc h0; cases h
    subst hm
    have hn : l2 = [] := List.eq_nil_of_length_eq_zero hlen2
    subst hn
    refine ⟨v, w, ?_, by rw [List.append_nil]; exact ⟨bs, ho, hl, hok⟩, fun B _ w0 hw => hw⟩
    rcases ho.2 with ⟨h0, _⟩ | ⟨g, cap, cur, rfl, _, hh, h1, h2, h3, h4⟩
    · rw [h0]; simp [Builtin.append_, run_underlying Tryz.underlying49, sizeOf, typeInfo, hi0, Builtin.lenOf, Builtin.firstCells]
    · simp [Builtin.append_, run_underlying Tryz.underlying49, sizeOf, typeInfo, hi0, Builtin.lenOf, Builtin.firstCells, storeCells]
      intro hx
      omega
  · have hcells : ∀ (j : Nat) (u : Value), (bs2.flatMap encAR)[j]? = some u → w.cell? (ad.add j) = some u := fun j u hu => by
      rcases Nat.eq_zero_or_pos m with h0 | h0
      · rw [List.eq_nil_of_length_eq_zero (hl2.trans h0)] at hu; cases hu
      · obtain ⟨a', e, hcc⟩ := hc h0
        obtain rfl := Option.some.inj e
        exact hcc j u hu
    obtain ⟨v', w', hrun, hown, hgr, _, hat⟩ := run_append_own_at (P := Tryz.prog) w base 49 ty 67 i0 _ 4 48 Tryz.underlying49 hi0 hz hs1 hb1 rfl (by omega) v l.length (bs.flatMap encAR) ho ad m c (bs2.flatMap encAR) (by rw [encARs_len, hl2]) hcells
      (fun u hu => encAR_cell hu) (by unfold maxLen; omega) (by omega) hb
    have hbel : ∀ B, B ≤ base → ∀ w0, Below B w0 w → Below B w0 w' := fun B hB w0 hw0 => hw0.grown hgr (by omega) (fun k hk => by
      have := ho.lt k hk
      omega)
    refine ⟨v', w', hrun, ⟨bs ++ bs2, ?_, by rw [List.map_append, hl, hl2'], fun t ht => ?_⟩, hbel⟩
    · rw [List.length_append, List.flatMap_append, hlen2]
      exact hown
    · rcases List.mem_append.1 ht with ht | ht
      · exact hok t ht
      · exact hok2 t ht
theorem wpList_append_arms {ops : Array Oper} {rest : List Oper} {o : Oper} {a : Act} {Q : Exit → Act → World → Prop} {W : World} (hgd : o.guard = none) (s x : Operand)
    (ho : o.op = .call { callee := .builtin .append, args := #[s, x], argTypes := #[49, 49] }) (base : Nat) (v : Value) (l : List ArmL) (ad : Option Addr) (m c : Nat) (l2 : List ArmL)
    (hs : a.eval s = v) (hx : a.eval x = .slice ad m c) (hB : AOwn W base v l) (hr : ARow W ad m l2) (hb : base ≤ W.heap.size) (hlen : l.length + m ≤ 1000000)
    (h : ∀ v' w', AOwn w' base v' (l ++ l2) → Below base W w' → wpList Tryz.prog ops Q rest (a.put o.dst v') w') : wpList Tryz.prog ops Q (o :: rest) a W := by
  obtain ⟨v', w', hrun, hown, hbel⟩ := hB.add hb c hr hlen o.type
  exact wpList_append_lx hgd s x _ ho _ _ _ hs hx hrun (h v' w' hown (hbel base (Nat.le_refl _) W (Below.refl _ _)))
/-- Such a slice reads as its arms. -/
theorem AOwn.sees {w : World} {base : Nat} {v : Value} {l : List ArmL} (h : AOwn w base v l) (hl : l.length ≤ 1000000) : ∃ a c, v = .slice a l.length c ∧ Arms w w.heap.size a l.length l ∧ l.length ≤ c ∧ c ≤ maxLen := by
  obtain ⟨bs, h, hbl, hok⟩ := h
  have hlen : bs.length = l.length := by rw [← hbl, List.length_map]
  have hlt := h.lt
  rcases h.2 with ⟨h0, h1⟩ | ⟨g, cap, cur, rfl, hbase, hh, h1, h2, h3, h4⟩
  · have hz : l = [] := List.eq_nil_of_length_eq_zero h1
    subst hz
    exact ⟨none, 0, h0, Arms.zero _ _ _, Nat.le_refl _, Nat.zero_le _⟩
  · refine ⟨_, cap, rfl, ⟨rfl, by omega, fun _ => ⟨g, 0, rfl, (hlt g rfl).2, fun j x hj => ?_⟩⟩, h1, h2⟩
    have hj' : j < l.length := (List.getElem?_eq_some_iff.1 hj).1
    have hb' := List.getElem?_eq_getElem (l := bs) (i := j) (by omega)
    have hx : x = armR (bs[j]'(by omega)) := by
      rw [← hbl, List.getElem?_map, hb'] at hj
      exact (Option.some.inj hj).symm
    have hc : ∀ i, i < 4 → w.cell? ⟨g, 0 + j * 4 + i, none⟩ = (encAR (bs[j]'(by omega)))[i]? := fun i hi => by
      rw [cell_of_row w g _ cur 67 (0, 0) hh]
      have : (cur.toList.take (l.length * 4))[j * 4 + i]? = (bs.flatMap encAR)[j * 4 + i]? := by rw [h4]
      rw [List.getElem?_take, if_pos (by omega)] at this
      rw [Nat.zero_add, ← Array.getElem?_toList, this]
      exact flatA_at bs j _ hb' i hi
    have ho := hok _ (List.getElem_mem (by omega : j < bs.length))
    refine ⟨(bs[j]'(by omega)).s, (bs[j]'(by omega)).u, ⟨?_, ?_, ?_, ?_⟩, by rw [hx]; rfl, by rw [hx]; rfl, ho.1, ho.2⟩
    · have := hc 0 (by omega); rw [Nat.add_zero] at this; rw [this]; rfl
    · rw [hc 1 (by omega), hx]; rfl
    · rw [hc 2 (by omega)]; rfl
    · rw [hc 3 (by omega), hx]; rfl
section
variable {w : World} {bound : Nat} {a : Option Addr} {n : Nat} {l : List ArmL}
theorem Arms.cut (h : Arms w bound a n l) {k : Nat} (hk : k ≤ n) : Arms w bound a k (l.take k) := by
  refine ⟨by rw [List.length_take, h.1]; omega, by have := h.2.1; omega, fun h0 => ?_⟩
  obtain ⟨b, off, e, hb, hc⟩ := h.2.2 (by omega)
  exact ⟨b, off, e, hb, fun j s hs => hc j s (by
    rw [List.getElem?_take] at hs
    split at hs
    · exact hs
    · cases hs)⟩
/-- .. and from place k on, of a slice that is not nil. -/
theorem Arms.drop {b off : Nat} (h : Arms w bound (some ⟨b, off, none⟩) n l) {k : Nat} (hk : k ≤ n) : Arms w bound (some ⟨b, off + k * 4, none⟩) (n - k) (l.drop k) := by
  refine ⟨by rw [List.length_drop, h.1], by have := h.2.1; omega, fun h0 => ?_⟩
  obtain ⟨b', off', e, hb, hcell⟩ := h.2.2 (by omega)
  injection e with e
  injection e with e1 e2 _
  subst e1 e2
  refine ⟨b, off + k * 4, rfl, hb, fun j s hs => ?_⟩
  rw [List.getElem?_drop] at hs
  have := hcell _ s hs
  rwa [Nat.add_mul, ← Nat.add_assoc] at this
end
end Go.Proofs.YtiofpeckcfdilaaGreatDoor

/- Contract of the reference's Sorted. -/
namespace Go.Proofs.YtiofpeckcfdilaaGreatDoor
open Go.RowKit Go.Sort

theorem sortA_step {l : List ArmL} {j : Nat} {x : ArmL} (h : l[j]? = some x) : sortA (l.take (j + 1)) = insA x (sortA (l.take j)) := by
  rw [tuTake_at h]
  unfold sortA
  rw [List.foldl_append]
  rfl
theorem insA_at {x : ArmL} : ∀ {o : List ArmL} {k : Nat}, k ≤ o.length → (∀ y ∈ o.take k, ¬ x.label < y.label) → (∀ y ∈ o.drop k, x.label < y.label) → insA x o = o.take k ++ [x] ++ o.drop k
  | [], k, _, _, _ => by simp [insA]
  | b :: r, 0, _, _, hhi => by
    rw [insA, if_pos (hhi b (by simp))]
    rfl
  | b :: r, k + 1, hk, hlo, hhi => by
    rw [insA, if_neg (hlo b (by simp))]
    rw [insA_at (o := r) (k := k) (by simpa using hk) (fun y hy => hlo y (by simp [hy])) (fun y hy => hhi y (by simpa using hy))]
    simp
theorem low_of {x y : ArmL} {o : List ArmL} {k : Nat} (hu : UpA o) (hy : o[k]? = some y) (hn : ¬ x.label < y.label) : ∀ z ∈ o.take (k + 1), ¬ x.label < z.label := by
  intro z hz hlt
  rw [tuTake_at hy, List.mem_append, List.mem_singleton] at hz
  rcases hz with hz | rfl
  · obtain ⟨i, hi, rfl⟩ := List.mem_iff_getElem.1 hz
    rw [List.length_take] at hi
    obtain ⟨hk, e⟩ := List.getElem?_eq_some_iff.1 hy
    have := List.pairwise_iff_getElem.1 hu i k (by omega) hk (by omega)
    rw [e] at this
    rw [List.getElem_take] at hlt
    exact hn (List.not_le.1 fun hc => absurd hlt (List.not_lt.2 (List.le_trans this hc)))
  · exact hn hlt
theorem high_step {x y : ArmL} {o : List ArmL} {k : Nat} (hy : o[k]? = some y) (hlt : x.label < y.label) (h : ∀ z ∈ o.drop (k + 1), x.label < z.label) : ∀ z ∈ o.drop k, x.label < z.label := by
  intro z hz
  obtain ⟨hk, e⟩ := List.getElem?_eq_some_iff.1 hy
  rw [List.drop_eq_getElem_cons hk, e, List.mem_cons] at hz
  rcases hz with rfl | hz
  · exact hlt
  · exact h z hz
theorem greater_yes {y s : Str} (h : (!Op.bytesLess y s && !y == s) = true) : s < y := by
  rw [Bool.and_eq_true, bytesLess_eq] at h
  simp only [Bool.not_eq_true', decide_eq_false_iff_not, beq_eq_false_iff_ne] at h
  exact List.not_le.1 fun hc => h.2 (List.le_antisymm hc (List.not_lt.1 h.1))
theorem greater_no {y s : Str} (h : (!Op.bytesLess y s && !y == s) = false) : ¬ s < y := by
  intro hlt
  rw [Bool.and_eq_false_iff, bytesLess_eq] at h
  simp only [Bool.not_eq_false', decide_eq_true_eq, beq_iff_eq] at h
  rcases h with h | h
  · exact List.lt_irrefl _ (List.lt_trans hlt h)
  · subst h; exact List.lt_irrefl _ hlt
theorem sortA_len (l : List ArmL) : (sortA l).length = l.length := (sortA_perm l).length_eq

set_option maxHeartbeats 16000000 in
set_option maxRecDepth 20000 in
theorem tuSorted_any (a : Option Addr) (n c : Nat) (l : List ArmL) (w : World) (bound : Nat) (hb : bound ≤ w.heap.size) (h : Arms w bound a n l) (hn : n ≤ 1000) :
    Calls Tryz.prog 104 #[.slice a n c] w fun e w' => (∃ v, e = .returned v ∧ AOwn w' w.heap.size v (sortA l)) ∧ Below w.heap.size w w' := by
  have HLEN := Lib.hid h.1
  have HN := Lib.hid h
  clear h
  go_enter Tryz.func104, Tryz.ntmps104
  go_wp2
  go_loopw [3, 4] (fun s i wr => ∃ (j : Nat) (v : Value), j ≤ n ∧ i = .int .i64 j ∧ v = s ∧ Hid (j = 0 → v = .slice none 0 0) ∧ Hid (AOwn wr w.heap.size v (sortA (l.take j))) ∧ Hid (Below w.heap.size w wr)) (fun _ i _ => n - (intOf i).toNat)
  case atStart => exact ⟨0, _, Nat.zero_le _, rfl, rfl, Lib.hid (fun _ => rfl), Lib.hid (by rw [List.take_zero]; exact AOwn.zero _ _), Lib.hid (Below.refl _ _)⟩
  case round =>
    obtain ⟨j, v, hj, rfl, hv, HV, HO, HBr⟩ := hrel
    subst hv
    obtain ⟨wo, hwo⟩ : ∃ wo : World, wo = wr := ⟨_, rfl⟩
    subst hwo
    have hzr := HBr.out.size
    by_cases hlt : j < n
    · obtain ⟨b, off, s, u, ck, nx, rfl, hbb, hx, ⟨q0, q1, q2, q3⟩, hs, hu⟩ := HN.out.at_ hlt
      have HSU := Lib.hid (And.intro hs hu)
      have hst := sortA_step hx
      have hup := sortA_up (l.take j)
      have hol : (sortA (l.take j)).length = j := by rw [sortA_len, List.length_take, HLEN.out]; omega
      obtain ⟨o, ho⟩ : ∃ o, sortA (l.take j) = o := ⟨_, rfl⟩
      rw [ho] at hst hup hol HO
      have HST := Lib.hid hst
      have HUP := Lib.hid hup
      have HOL := Lib.hid hol
      have hbw : b < w.heap.size := by omega
      have hbr : b < wo.heap.size := by omega
      have HR := Lib.hid (And.intro ((HBr.out.cell (p := ⟨b, off + j * 4, none⟩) hbw).trans q0) (And.intro ((HBr.out.cell (p := ⟨b, off + j * 4 + 1, none⟩) hbw).trans q1) (And.intro ((HBr.out.cell (p := ⟨b, off + j * 4 + 2, none⟩) hbw).trans q2) ((HBr.out.cell (p := ⟨b, off + j * 4 + 3, none⟩) hbw).trans q3))))
      clear q0 q1 q2 q3 hs hu hx hst hup ho
      by_cases hj0 : j = 0
      · subst hj0
        have hv0 := HV.out rfl
        subst hv0
        have ho0 : o = [] := List.eq_nil_of_length_eq_zero hol
        subst ho0
        clear hol
        have HZ := Lib.hid (show sortA (l.take (0 + 1)) = [] ++ [] ++ [⟨s.toList, ck, u.toList, nx⟩] ++ [] from HST.out)
        go_wp2
        go_loopw [5] (fun v wr => v = .int .i64 0 ∧ Hid (Below wo.heap.size wo wr)) (fun v _ => (intOf v).toNat)
        case atStart => exact ⟨rfl, Lib.hid (Below.refl _ _)⟩
        case round =>
          obtain ⟨rfl, HBt⟩ := hrel
          go_wp2
          go_quiet (fail)
          have HBq := Lib.hid (below_drewN HBt.out nq)
          have t0 := (HBq.out.cell (p := ⟨b, off + 0 * 4, none⟩) hbr).trans HR.out.1
          have t1 := (HBq.out.cell (p := ⟨b, off + 0 * 4 + 1, none⟩) hbr).trans HR.out.2.1
          have t2 := (HBq.out.cell (p := ⟨b, off + 0 * 4 + 2, none⟩) hbr).trans HR.out.2.2.1
          have t3 := (HBq.out.cell (p := ⟨b, off + 0 * 4 + 3, none⟩) hbr).trans HR.out.2.2.2
          rw [Nat.zero_mul, Nat.add_zero] at t0 t1 t2 t3
          go_wp2_with (first
            | (at_builtin
               refine wpList_append_arms rfl (.tmp 37) (.tmp 42) rfl wo.heap.size (.slice none 0 0) [] _ 1 1 [armR ⟨s, ck, u, nx⟩] rfl rfl (AOwn.zero _ _) (ARow.one ⟨s, ck, u, nx⟩ rfl rfl HSU.out) (by have := HBq.out.size; simp at this ⊢; omega) (by simp) ?_
               intro v2 w2 ho2 hb2
               have HO2 := Lib.hid (show AOwn w2 wo.heap.size v2 ([] ++ [] ++ [armR ⟨s, ck, u, nx⟩]) from ho2)
               have HB2 := Lib.hid (HBq.out.trans (((tu1 (wr.drewN nq) _).mono HBq.out.size).trans hb2))
               clear ho2 hb2)
            | (at_builtin
               refine wpList_append_arms rfl (.tmp 44) (.tmp 47) rfl wo.heap.size v2 ([] ++ [] ++ [armR ⟨s, ck, u, nx⟩]) none 0 _ [] rfl rfl HO2.out (ARow.of_arms (Arms.zero _ 0 none)) HB2.out.size (by simp <;> omega) ?_
               intro v3 w3 ho3 hb3
               have HO3 := Lib.hid ho3
               have HB3 := Lib.hid (HBr.out.trans ((HB2.out.trans hb3).mono hzr))
               clear ho3 hb3)
            | fail)
          go_roundw
          case rel => exact ⟨0 + 1, v3, by omega, by go_num, rfl, Lib.hid (fun h => absurd h (by omega)), Lib.hid (by rw [HZ.out]; exact HO3.out.low hzr), HB3⟩
          case measure => simp [intOf] <;> omega
      · have hsees := HO.out.sees (by omega)
        rw [hol] at hsees
        obtain ⟨oa, oc, hva, hoa, hjc, hcm⟩ := hsees
        subst hva
        obtain ⟨ob, oo, rfl, hob, _⟩ := hoa.2.2 (by omega)
        have HOA := Lib.hid hoa
        have hcm2 : oc ≤ 9223372036854775807 := by unfold maxLen at hcm; omega
        clear hoa hcm hol
        go_wp2
        go_loopw [5] (fun v wr => ∃ k : Nat, k ≤ j ∧ v = .int .i64 k ∧ Hid (∀ y ∈ o.drop k, s.toList < y.label) ∧ Hid (Below wo.heap.size wo wr)) (fun v _ => (intOf v).toNat)
        case atStart => exact ⟨j, Nat.le_refl _, by go_num, Lib.hid (by intro y hy; rw [List.drop_of_length_le (by rw [HOL.out]; omega)] at hy; cases hy), Lib.hid (Below.refl _ _)⟩
        case round =>
          obtain ⟨k, hk, rfl, HHI, HBt⟩ := hrel
          have t0 := (HBt.out.cell (p := ⟨b, off + j * 4, none⟩) hbr).trans HR.out.1
          have hkc : (k : Int) ≤ (oc : Int) := by omega
          by_cases hk0 : k = 0
          · subst hk0
            have HZ := Lib.hid (show sortA (l.take (j + 1)) = [] ++ o.take 0 ++ [⟨s.toList, ck, u.toList, nx⟩] ++ o.drop 0 from by
              rw [HST.out, insA_at (k := 0) (Nat.zero_le _) (by simp) HHI.out]; rfl)
            have hc0 : oc ≠ 0 := by omega
            go_wp2
            go_quiet (fail)
            have HBq := Lib.hid (below_drewN HBt.out nq)
            have t0 := (HBq.out.cell (p := ⟨b, off + j * 4, none⟩) hbr).trans HR.out.1
            have t1 := (HBq.out.cell (p := ⟨b, off + j * 4 + 1, none⟩) hbr).trans HR.out.2.1
            have t2 := (HBq.out.cell (p := ⟨b, off + j * 4 + 2, none⟩) hbr).trans HR.out.2.2.1
            have t3 := (HBq.out.cell (p := ⟨b, off + j * 4 + 3, none⟩) hbr).trans HR.out.2.2.2
            go_wp2_with (first
              | (at_builtin
                 refine wpList_append_arms rfl (.tmp 37) (.tmp 42) rfl wo.heap.size (.slice none 0 0) [] _ 1 1 [armR ⟨s, ck, u, nx⟩] rfl rfl (AOwn.zero _ _) (ARow.one ⟨s, ck, u, nx⟩ rfl rfl HSU.out) (by have := HBq.out.size; simp at this ⊢; omega) (by simp) ?_
                 intro v2 w2 ho2 hb2
                 have HO2 := Lib.hid (show AOwn w2 wo.heap.size v2 ([] ++ (o.take (0)) ++ [armR ⟨s, ck, u, nx⟩]) from ho2)
                 have HB2 := Lib.hid (HBq.out.trans (((tu1 (wr.drewN nq) _).mono HBq.out.size).trans hb2))
                 clear ho2 hb2)
              | (at_builtin
                 refine wpList_append_arms rfl (.tmp 44) (.tmp 47) rfl wo.heap.size v2 ([] ++ (o.take (0)) ++ [armR ⟨s, ck, u, nx⟩]) (some ⟨ob, oo, none⟩) j _ (o.drop (0)) rfl rfl HO2.out (ARow.of_arms (HOA.out.below HB2.out)) HB2.out.size (by simp <;> omega) ?_
                 intro v3 w3 ho3 hb3
                 have HO3 := Lib.hid ho3
                 have HB3 := Lib.hid (HBr.out.trans ((HB2.out.trans hb3).mono hzr))
                 clear ho3 hb3)
              | fail)
            go_roundw
            case rel => exact ⟨j + 1, v3, by omega, by go_num, rfl, Lib.hid (fun h => absurd h (by omega)), Lib.hid (by rw [HZ.out]; exact HO3.out.low hzr), HB3⟩
            case measure => simp [intOf] <;> omega
          · obtain ⟨k', rfl⟩ : ∃ k', k = k' + 1 := ⟨k - 1, by omega⟩
            obtain ⟨ob2, oo2, ys, yu, yk, yx, e2, _, hy, ⟨y0, _, _, _⟩, _, _⟩ := HOA.out.at_ (show k' < j by omega)
            injection e2 with e2
            injection e2 with e3 e4 _
            subst e3 e4
            have y1 := (HBt.out.cell (p := ⟨ob, oo + k' * 4, none⟩) hob).trans y0
            have HY := Lib.hid hy
            have g0 : decide ((0 : Int) < ((k' + 1 : Nat) : Int)) = true := decide_eq_true (by omega)
            have g1 : (((k' + 1 : Nat) : Int) - 1) = (k' : Int) := by omega
            clear y0 hy
            cases hls : (!Op.bytesLess ys.toList s.toList && !ys.toList == s.toList)
            · have HLO := Lib.hid (show ∀ z ∈ o.take (k' + 1), ¬ s.toList < z.label from low_of (x := ⟨s.toList, ck, u.toList, nx⟩) HUP.out HY.out (greater_no hls))
              have HZ := Lib.hid (show sortA (l.take (j + 1)) = [] ++ o.take (k' + 1) ++ [⟨s.toList, ck, u.toList, nx⟩] ++ o.drop (k' + 1) from by
                rw [HST.out, insA_at (k := k' + 1) (by rw [HOL.out]; omega) HLO.out HHI.out]; rfl)
              by_cases hck : oc = k' + 1
              · go_wp2
                go_quiet (fail)
                have HBq := Lib.hid (below_drewN HBt.out nq)
                go_wp2_with (first
                  | (at_builtin
                     refine wpList_append_arms rfl (.const (.slice none 0 0)) (.tmp 35) rfl wo.heap.size (.slice none 0 0) [] (some ⟨ob, oo, none⟩) (k' + 1) _ (o.take (k' + 1)) rfl rfl (AOwn.zero _ _) (ARow.of_arms ((HOA.out.below HBq.out).cut (by omega))) HBq.out.size (by simp <;> omega) ?_
                     intro v1 w1 ho1 hb1
                     have HO1 := Lib.hid ho1
                     have HB1 := Lib.hid (HBq.out.trans hb1)
                     have t0 := (HB1.out.cell (p := ⟨b, off + j * 4, none⟩) hbr).trans HR.out.1
                     have t1 := (HB1.out.cell (p := ⟨b, off + j * 4 + 1, none⟩) hbr).trans HR.out.2.1
                     have t2 := (HB1.out.cell (p := ⟨b, off + j * 4 + 2, none⟩) hbr).trans HR.out.2.2.1
                     have t3 := (HB1.out.cell (p := ⟨b, off + j * 4 + 3, none⟩) hbr).trans HR.out.2.2.2
                     clear ho1 hb1)
                  | (at_builtin
                     refine wpList_append_arms rfl (.tmp 37) (.tmp 42) rfl wo.heap.size v1 ([] ++ (o.take (k' + 1))) _ 1 1 [armR ⟨s, ck, u, nx⟩] rfl rfl (HO1.out.alloc _) (ARow.one ⟨s, ck, u, nx⟩ rfl rfl HSU.out) (by have := HB1.out.size; simp; omega) (by simp <;> omega) ?_
                     intro v2 w2 ho2 hb2
                     have HO2 := Lib.hid ho2
                     have HB2 := Lib.hid (HB1.out.trans (((tu1 w1 _).mono HB1.out.size).trans hb2))
                     clear ho2 hb2)
                  | (at_builtin
                     refine wpList_append_arms rfl (.tmp 44) (.tmp 47) rfl wo.heap.size v2 ([] ++ (o.take (k' + 1)) ++ [armR ⟨s, ck, u, nx⟩]) _ (j - (k' + 1)) _ (o.drop (k' + 1)) rfl rfl HO2.out (ARow.of_arms (by rw [List.drop_of_length_le (by rw [HOL.out]; omega), show j - (k' + 1) = 0 by omega]; exact Arms.zero _ 0 _)) HB2.out.size (by simp <;> omega) ?_
                     intro v3 w3 ho3 hb3
                     have HO3 := Lib.hid ho3
                     have HB3 := Lib.hid (HBr.out.trans ((HB2.out.trans hb3).mono hzr))
                     clear ho3 hb3)
                  | fail)
                go_roundw
                case rel => exact ⟨j + 1, v3, by omega, by go_num, rfl, Lib.hid (fun h => absurd h (by omega)), Lib.hid (by rw [HZ.out]; exact HO3.out.low hzr), HB3⟩
                case measure => simp [intOf] <;> omega
              · go_wp2
                go_quiet (fail)
                have HBq := Lib.hid (below_drewN HBt.out nq)
                go_wp2_with (first
                  | (at_builtin
                     refine wpList_append_arms rfl (.const (.slice none 0 0)) (.tmp 35) rfl wo.heap.size (.slice none 0 0) [] (some ⟨ob, oo, none⟩) (k' + 1) _ (o.take (k' + 1)) rfl rfl (AOwn.zero _ _) (ARow.of_arms ((HOA.out.below HBq.out).cut (by omega))) HBq.out.size (by simp <;> omega) ?_
                     intro v1 w1 ho1 hb1
                     have HO1 := Lib.hid ho1
                     have HB1 := Lib.hid (HBq.out.trans hb1)
                     have t0 := (HB1.out.cell (p := ⟨b, off + j * 4, none⟩) hbr).trans HR.out.1
                     have t1 := (HB1.out.cell (p := ⟨b, off + j * 4 + 1, none⟩) hbr).trans HR.out.2.1
                     have t2 := (HB1.out.cell (p := ⟨b, off + j * 4 + 2, none⟩) hbr).trans HR.out.2.2.1
                     have t3 := (HB1.out.cell (p := ⟨b, off + j * 4 + 3, none⟩) hbr).trans HR.out.2.2.2
                     clear ho1 hb1)
                  | (at_builtin
                     refine wpList_append_arms rfl (.tmp 37) (.tmp 42) rfl wo.heap.size v1 ([] ++ (o.take (k' + 1))) _ 1 1 [armR ⟨s, ck, u, nx⟩] rfl rfl (HO1.out.alloc _) (ARow.one ⟨s, ck, u, nx⟩ rfl rfl HSU.out) (by have := HB1.out.size; simp; omega) (by simp <;> omega) ?_
                     intro v2 w2 ho2 hb2
                     have HO2 := Lib.hid ho2
                     have HB2 := Lib.hid (HB1.out.trans (((tu1 w1 _).mono HB1.out.size).trans hb2))
                     clear ho2 hb2)
                  | (at_builtin
                     refine wpList_append_arms rfl (.tmp 44) (.tmp 47) rfl wo.heap.size v2 ([] ++ (o.take (k' + 1)) ++ [armR ⟨s, ck, u, nx⟩]) _ (j - (k' + 1)) _ (o.drop (k' + 1)) rfl rfl HO2.out (ARow.of_arms ((HOA.out.below HB2.out).drop (k := k' + 1) (by omega))) HB2.out.size (by simp <;> omega) ?_
                     intro v3 w3 ho3 hb3
                     have HO3 := Lib.hid ho3
                     have HB3 := Lib.hid (HBr.out.trans ((HB2.out.trans hb3).mono hzr))
                     clear ho3 hb3)
                  | fail)
                go_roundw
                case rel => exact ⟨j + 1, v3, by omega, by go_num, rfl, Lib.hid (fun h => absurd h (by omega)), Lib.hid (by rw [HZ.out]; exact HO3.out.low hzr), HB3⟩
                case measure => simp [intOf] <;> omega
            · have HHI2 := Lib.hid (show ∀ y ∈ o.drop k', s.toList < y.label from high_step (x := ⟨s.toList, ck, u.toList, nx⟩) HY.out (greater_yes hls) HHI.out)
              go_wp2
              go_quiet (fail)
              go_wp2
              go_roundw
              case rel => exact ⟨k', by omega, by go_num, HHI2, Lib.hid (below_drewN HBt.out nq)⟩
              case measure => simp [intOf]
    · have HZ := Lib.hid (show sortA (l.take j) = sortA l by rw [List.take_of_length_le (by have := HLEN.out; omega)])
      go_wp2
      go_ret
      exact ⟨⟨v, rfl, by rw [← HZ.out]; exact HO.out⟩, HBr.out⟩
end Go.Proofs.YtiofpeckcfdilaaGreatDoor
