/- Slices of strings in memory: what a call may read of one, how that is kept, and the append of one to a slice that the call made. For any program. -/
import Derived.Test.YtgefhgcpnfbigaaPlain
import Derived.WalkKit
import Derived.Below
import Derived.Maps.AppendAt
import Derived.Deep.AppendLies
import Derived.RegionTactic
import Derived.OwnWalk
import Derived.Laws.MakeOwn
import Derived.Sort.OwnSorted
import Derived.Sort.Grow
import Derived.Lib.OwnBridge
import Derived.WideShapes
namespace Go.Proofs.Ytgefhgcpnfbigaa
open Go.RowKit Go.Sort

/-- The slice with this address and length reads as these strings; its cells lie in a block below bound. -/
def Strs (w : World) (bound : Nat) (a : Option Addr) (n : Nat) (ss : List Str) : Prop :=
  ss.length = n ∧ n * 16 ≤ 140737488351232 ∧ (∀ s ∈ ss, s.length ≤ maxLen) ∧
  (0 < n → ∃ b off, a = some ⟨b, off, none⟩ ∧ b < bound ∧ ∀ (j : Nat) (s : Str), ss[j]? = some s → w.cell? ⟨b, off + j, none⟩ = some (encStr s))

section
variable {w w' : World} {bound bound' : Nat} {a : Option Addr} {n : Nat} {ss : List Str}
theorem Strs.len (h : Strs w bound a n ss) : ss.length = n := h.1
theorem Strs.small (h : Strs w bound a n ss) : n * 16 ≤ 140737488351232 := h.2.1
theorem Strs.max (h : Strs w bound a n ss) : ∀ s ∈ ss, s.length ≤ maxLen := h.2.2.1
theorem Strs.keep (h : Strs w bound a n ss) (hk : ∀ p : Addr, p.block < bound → w'.cell? p = w.cell? p) : Strs w' bound a n ss :=
  ⟨h.1, h.2.1, h.2.2.1, fun hn => by
    obtain ⟨b, off, e, hb, hc⟩ := h.2.2.2 hn
    exact ⟨b, off, e, hb, fun j s hs => (hk _ hb).trans (hc j s hs)⟩⟩
theorem Strs.below (h : Strs w bound a n ss) (hb : Below bound w w') : Strs w' bound a n ss := h.keep fun _ hp => hb.cell hp
theorem Strs.more (h : Strs w bound a n ss) (hb : bound ≤ bound') : Strs w bound' a n ss :=
  ⟨h.1, h.2.1, h.2.2.1, fun hn => by
    obtain ⟨b, off, e, hlt, hc⟩ := h.2.2.2 hn
    exact ⟨b, off, e, by omega, hc⟩⟩
theorem Strs.drew (h : Strs w bound a n ss) : Strs w.drew bound a n ss := h
theorem Strs.drewN (h : Strs w bound a n ss) (k : Nat) : Strs (w.drewN k) bound a n ss := h
theorem Strs.alloc (h : Strs w bound a n ss) (hB : bound ≤ w.heap.size) (o : Obj) : Strs (w.alloc o) bound a n ss := h.keep fun p hp => World.cell?_alloc_lt w o p (by omega)
theorem Strs.zero (w : World) (bound : Nat) (a : Option Addr) : Strs w bound a 0 [] := ⟨rfl, by omega, by simp, fun h => absurd h (Nat.lt_irrefl 0)⟩
/-- The elements of such a slice from its beginning on. -/
theorem Strs.cut (h : Strs w bound a n ss) {k : Nat} (hk : k ≤ n) : Strs w bound a k (ss.take k) := by
  refine ⟨by rw [List.length_take, h.1]; omega, by have := h.2.1; omega, fun s hs => h.2.2.1 s (List.mem_of_mem_take hs), fun h0 => ?_⟩
  obtain ⟨b, off, e, hb, hc⟩ := h.2.2.2 (by omega)
  exact ⟨b, off, e, hb, fun j s hs => hc j s (by
    rw [List.getElem?_take] at hs
    split at hs
    · exact hs
    · cases hs)⟩
/-- .. and from place k on, as the walk writes the address. -/
theorem Strs.drop (h : Strs w bound a n ss) {k cap : Nat} (hk : k ≤ n) (hc : n ≤ cap) : Strs w bound (if cap = k then a else a.map (·.add k)) (n - k) (ss.drop k) := by
  refine ⟨by rw [List.length_drop, h.1], by have := h.2.1; omega, fun s hs => h.2.2.1 s (List.mem_of_mem_drop hs), fun h0 => ?_⟩
  obtain ⟨b, off, rfl, hb, hcell⟩ := h.2.2.2 (by omega)
  rw [if_neg (by omega)]
  refine ⟨b, off + k, by simp [Addr.add], hb, fun j s hs => ?_⟩
  rw [List.getElem?_drop] at hs
  have := hcell _ s hs
  rwa [Nat.add_assoc]
theorem Strs.at_ (h : Strs w bound a n ss) {k : Nat} (hk : k < n) : ∃ b off, a = some ⟨b, off, none⟩ ∧ b < bound ∧ w.cell? ⟨b, off + k, none⟩ = some (encStr (ss.getD k [])) := by
  obtain ⟨b, off, e, hb, hc⟩ := h.2.2.2 (by omega)
  exact ⟨b, off, e, hb, hc k _ (by rw [List.getD_eq_getElem?_getD, List.getElem?_eq_getElem (by rw [h.1]; exact hk)]; rfl)⟩
/-- A slice that the call made. -/
theorem Strs.of_own {base : Nat} {e : TypeId} {v : Value} (h : w.ownsRow base e 1 v n (ss.map encStr)) (hn : n * 16 ≤ 140737488351232) (hm : ∀ s ∈ ss, s.length ≤ maxLen) :
    ∃ a c, v = .slice a n c ∧ Strs w w.heap.size a n ss ∧ n ≤ c ∧ (a = none → c = 0) := by
  have hl : ss.length = n := by have := h.1; simpa using this
  rcases h.2 with ⟨rfl, rfl⟩ | ⟨g, cap, cur, rfl, _, hh, h1, h2, h3, h4⟩
  · exact ⟨none, 0, rfl, ⟨hl, hn, hm, fun h0 => absurd h0 (Nat.lt_irrefl 0)⟩, Nat.le_refl 0, fun _ => rfl⟩
  · refine ⟨_, cap, rfl, ⟨hl, hn, hm, fun _ => ⟨g, 0, rfl, ?_, fun j s hs => ?_⟩⟩, h1, fun h => by cases h⟩
    · rcases Nat.lt_or_ge g w.heap.size with hlt | hge
      · exact hlt
      · rw [Array.getElem?_eq_none hge] at hh; cases hh
    · have hjl : j < ss.length := by
        rcases Nat.lt_or_ge j ss.length with h | h
        · exact h
        · rw [List.getElem?_eq_none h] at hs; cases hs
      rw [Nat.zero_add, cell_of_row w g j cur e (0, 0) hh]
      have : (cur.toList.take (n * 1))[j]? = some (encStr s) := by rw [h4, List.getElem?_map, hs]; rfl
      rw [List.getElem?_take, if_pos (by omega)] at this
      simpa using this
end

section
variable {P : Program} (w : World)

theorem run_append_none (base t ty e : Nat) (i : TypeInfo) (ht : P.underlying t = some (.slice e)) (hi : P.info? e = some i)
    (v : Value) (n : Nat) (xs : List Value) (hown : w.ownsRow base e 1 v n xs) (c : Nat) : (Builtin.append_ #[t, t] ty #[v, .slice none 0 c]).run P w = .ok v w := by
  rcases hown.2 with ⟨rfl, rfl⟩ | ⟨g, cap, cur, rfl, _, _, hnc, _⟩
  · simp [Builtin.append_, run_underlying ht, sizeOf, typeInfo, hi, Builtin.lenOf, Builtin.firstCells]
  · simp [Builtin.append_, run_underlying ht, sizeOf, typeInfo, hi, Builtin.lenOf, Builtin.firstCells, hnc, storeCells]

theorem run_append_strs (base t ty e : Nat) (ht : P.underlying t = some (.slice e)) (hinfo : (P.info? e).map (fun i => (i.zero, i.size, i.bytes)) = some (some (.string ByteArray.empty), 1, 16))
    (v : Value) (n : Nat) (ss : List Str) (hown : w.ownsRow base e 1 v n (ss.map encStr)) (bound : Nat) (a : Option Addr) (m c : Nat) (ts : List Str) (hr : Strs w bound a m ts)
    (hlim : (n + m) * 16 ≤ 140737488351232) (hbase : base ≤ w.heap.size) :
    ∃ v' w', (Builtin.append_ #[t, t] ty #[v, .slice a m c]).run P w = .ok v' w' ∧ w'.ownsRow base e 1 v' (n + m) ((ss ++ ts).map encStr) ∧ w.grownBy w' v.ownBlock ∧
      (v'.ownBlock = v.ownBlock ∨ v'.ownBlock = some w.heap.size) := by
  obtain ⟨i, hi, hzz⟩ := Option.map_eq_some_iff.1 hinfo
  simp only [Prod.mk.injEq] at hzz
  obtain ⟨hz, hs, hb⟩ := hzz
  have hone : ∀ u ∈ ts.map encStr, u.oneCell' = true := by
    intro u hu
    obtain ⟨s, _, rfl⟩ := List.mem_map.1 hu
    rfl
  have hlen : (ts.map encStr).length = m * 1 := by simp [hr.1]
  rcases a with _ | ad
  · have hm : m = 0 := by
      rcases Nat.eq_zero_or_pos m with h0 | h0
      · exact h0
      · obtain ⟨b, off, h, _⟩ := hr.2.2.2 h0
        cases h
    subst hm
    have hts : ts = [] := List.eq_nil_of_length_eq_zero hr.1
    subst hts
    exact ⟨v, w, run_append_none w base t ty e i ht hi v n _ hown c, by simpa using hown, World.grownBy.refl w _, .inl rfl⟩
  · have hcells : ∀ j u, (ts.map encStr)[j]? = some u → w.cell? (ad.add j) = some u := by
      intro j u hu
      rw [List.getElem?_map] at hu
      obtain ⟨s, hs', rfl⟩ := Option.map_eq_some_iff.1 hu
      have hj : j < ts.length := by
        rcases Nat.lt_or_ge j ts.length with h | h
        · exact h
        · rw [List.getElem?_eq_none h] at hs'; cases hs'
      obtain ⟨b, off, h, _, hc⟩ := hr.2.2.2 (by have := hr.1; omega)
      injection h with h
      subst h
      rw [Go.WideShapes.add_plain]
      exact hc j s hs'
    obtain ⟨v', w', hrun, h2, h3, _, h5⟩ := run_append_own_at (P := P) w base t ty e i _ 1 16 ht hi hz hs hb rfl (by omega) v n _ hown ad m c _ hlen hcells hone (by unfold maxLen; omega) (by omega) hbase
    exact ⟨v', w', hrun, by rw [List.map_append]; exact h2, h3, h5⟩

theorem wp_append_strs {o : Oper} {a : Act} {K : Act → World → Prop} {Q : Exit → Act → World → Prop} (s x : Operand) (t : TypeId)
    (ho : o.op = .call { callee := .builtin .append, args := #[s, x], argTypes := #[t, t] })
    (base e : Nat) (ht : P.underlying t = some (.slice e)) (hinfo : (P.info? e).map (fun i => (i.zero, i.size, i.bytes)) = some (some (.string ByteArray.empty), 1, 16))
    (v : Value) (n : Nat) (ss : List Str) (hs : a.eval s = v) (hown : w.ownsRow base e 1 v n (ss.map encStr)) (bound : Nat) (ad : Option Addr) (m c : Nat) (ts : List Str)
    (hx : a.eval x = .slice ad m c) (hr : Strs w bound ad m ts) (hlim : (n + m) * 16 ≤ 140737488351232) (hbase : base ≤ w.heap.size)
    (h : ∀ v' w', w'.ownsRow base e 1 v' (n + m) ((ss ++ ts).map encStr) → w.grownBy w' v.ownBlock → (v'.ownBlock = v.ownBlock ∨ v'.ownBlock = some w.heap.size) → K (a.put o.dst v') w') : o.wp P a w K Q := by
  obtain ⟨v', w', hrun, h2, h3, h4⟩ := run_append_strs (P := P) w base t o.type e ht hinfo v n ss hown bound ad m c ts hr hlim hbase
  unfold Oper.wp execOp
  simp only [ho, resolve, invoke, builtin, Sem.run_bind, Sem.run_pure, Result.andThen_ok, List.map_toArray, List.map_cons, List.map_nil, hs, hx, hrun]
  exact h v' w' h2 h3 h4

/-- The append of a slice of strings to one that the call made, for the walk. -/
theorem wpList_append_strs {ops : Array Oper} {rest : List Oper} {o : Oper} {a : Act} {Q : Exit → Act → World → Prop} (hgd : o.guard = none) (s x : Operand) (t : TypeId)
    (ho : o.op = .call { callee := .builtin .append, args := #[s, x], argTypes := #[t, t] })
    (base e : Nat) (ht : P.underlying t = some (.slice e)) (hinfo : (P.info? e).map (fun i => (i.zero, i.size, i.bytes)) = some (some (.string ByteArray.empty), 1, 16))
    (v : Value) (n : Nat) (ss : List Str) (hs : a.eval s = v) (hown : w.ownsRow base e 1 v n (ss.map encStr)) (bound : Nat) (ad : Option Addr) (m c : Nat) (ts : List Str)
    (hx : a.eval x = .slice ad m c) (hr : Strs w bound ad m ts) (hlim : (n + m) * 16 ≤ 140737488351232) (hbase : base ≤ w.heap.size)
    (h : ∀ v' w', w'.ownsRow base e 1 v' (n + m) ((ss ++ ts).map encStr) → w.grownBy w' v.ownBlock → (v'.ownBlock = v.ownBlock ∨ v'.ownBlock = some w.heap.size) → wpList P ops Q rest (a.put o.dst v') w') :
    wpList P ops Q (o :: rest) a w :=
  wpList_plain hgd fun _ hK => wp_append_strs w s x t ho base e ht hinfo v n ss hs hown bound ad m c ts hx hr hlim hbase fun v' w' h2 h3 h4 => hK _ _ (h v' w' h2 h3 h4)
end
end Go.Proofs.Ytgefhgcpnfbigaa
