/- A slice of numbers that the call made: some more, and it may be read. -/
import Derived.Test.YthbakfceaaaamaaDtMem
namespace Go.Proofs.Ythbakfceaaaamaa
open Go.RowKit

def encI64 (x : Int) : Value := .int .i64 x
/-- The slice v, which the call made (its array lies at base or above), holds just these numbers. -/
def Ints (w : World) (base : Nat) (v : Value) (l : List Int) : Prop := w.ownsRow base 2 1 v l.length (l.map encI64)
theorem Ints.zero (w : World) (base : Nat) : Ints w base (.slice none 0 0) [] := World.ownsRow_nil w base 2 1
theorem Ints.alloc {w : World} {base : Nat} {v : Value} {l : List Int} (h : Ints w base v l) (o : Obj) : Ints (w.alloc o) base v l := World.ownsRow.alloc h o
theorem Ints.drewN {w : World} {base : Nat} {v : Value} {l : List Int} (h : Ints w base v l) (k : Nat) : Ints (w.drewN k) base v l := h
theorem Ints.below {w w' : World} {base B : Nat} {v : Value} {l : List Int} (h : Ints w base v l) (hb : Below B w w') (hB : w.heap.size ≤ B) : Ints w' base v l := by
  have hlt := h.lt
  rcases h.2 with h0 | ⟨g, cap, cur, rfl, hbase, hh, h1, h2, h3, h4⟩
  · exact ⟨h.1, .inl h0⟩
  · refine ⟨h.1, .inr ⟨g, cap, cur, rfl, hbase, ?_, h1, h2, h3, h4⟩⟩
    have := (hlt g rfl).2
    rw [hb.block g (by omega)]
    exact hh
theorem Ints.low {w : World} {base base' : Nat} {v : Value} {l : List Int} (h : Ints w base v l) (hb : base' ≤ base) : Ints w base' v l := by
  rcases h.2 with h0 | ⟨g, cap, cur, rfl, hbase, hh, h1, h2, h3, h4⟩
  · exact ⟨h.1, .inl h0⟩
  · exact ⟨h.1, .inr ⟨g, cap, cur, rfl, Nat.le_trans hb hbase, hh, h1, h2, h3, h4⟩⟩
theorem info_i64 : (Try.prog.info? 2).map (fun i => (i.zero, i.size, i.bytes)) = some (some (.int .i64 0), 1, 8) := by kernel_rfl
/-- Some numbers more, which the world holds in a new array. -/
theorem Ints.more {w : World} {base : Nat} {v : Value} {l : List Int} (h : Ints w base v l) (hb : base ≤ w.heap.size) (news : List Int) (hlen : l.length + news.length ≤ 7000000000000) (ty : Nat) :
    ∃ v' w', (Builtin.append_ #[31, 31] ty #[v, .slice (some ⟨w.heap.size, 0, none⟩) news.length news.length]).run Try.prog (w.alloc (.cells (news.map encI64).toArray 2)) = .ok v' w' ∧
      Ints w' base v' (l ++ news) ∧ ∀ B, B ≤ base → ∀ w0, Below B w0 w → Below B w0 w' := by
  obtain ⟨i0, hi0, hzz⟩ := Option.map_eq_some_iff.1 info_i64
  simp only [Prod.mk.injEq] at hzz
  obtain ⟨hz, hs1, hb1⟩ := hzz
  obtain ⟨v', w', hrun, hown, hgr, _, hat⟩ := run_append_own_at (P := Try.prog) (w.alloc (.cells (news.map encI64).toArray 2)) base 31 ty 2 i0 _ 1 8 Try.underlying31 hi0 hz hs1 hb1 rfl (by omega) v l.length (l.map encI64) (h.alloc _)
    ⟨w.heap.size, 0, none⟩ news.length news.length (news.map encI64) (by simp)
    (fun j u hu => by
      have hj : j < news.length := by
        rcases Nat.lt_or_ge j news.length with h | h
        · exact h
        · rw [List.getElem?_eq_none (by simpa using h)] at hu; cases hu
      rw [cell_alloc j (by simpa using hj)]
      rw [← hu, List.getElem?_eq_getElem (by simpa using hj)]
      simp)
    (fun u hu => by obtain ⟨c, _, rfl⟩ := List.mem_map.1 hu; rfl) (by unfold maxLen; omega) (by omega) (by simp; omega)
  refine ⟨v', w', hrun, ?_, fun B hB w0 hw0 => ?_⟩
  · unfold Ints
    rw [List.length_append, List.map_append]
    exact hown
  · exact (hw0.alloc (by omega) _).grown hgr (by simp; omega) (fun k hk => by
      have := (h.alloc (.cells (news.map encI64).toArray 2)).lt k hk
      omega)
theorem wpList_append_ints {ops : Array Oper} {rest : List Oper} {o : Oper} {a : Act} {Q : Exit → Act → World → Prop} {W : World} {cells : Array Value} (hgd : o.guard = none) (s x : Operand)
    (ho : o.op = .call { callee := .builtin .append, args := #[s, x], argTypes := #[31, 31] }) (base : Nat) (v : Value) (l : List Int) (n : Int) (hc : cells = #[.int .i64 n])
    (hs : a.eval s = v) {g : Nat} (hx : a.eval x = .slice (some ⟨g, 0, none⟩) 1 1) (hg : g = W.heap.size) (hB : Ints W base v l) (hb : base ≤ W.heap.size) (hlen : l.length ≤ 1000000000000)
    (w0 : World) (hw : Below base w0 W)
    (h : ∀ v' w', Ints w' base v' (l ++ [n]) → Below base w0 w' → wpList Try.prog ops Q rest (a.put o.dst v') w') : wpList Try.prog ops Q (o :: rest) a (W.alloc (.cells cells 2)) := by
  subst hc hg
  obtain ⟨v', w', hrun, hown, hbel⟩ := hB.more hb [n] (by simp; omega) o.type
  exact wpList_append_lx hgd s x _ ho _ _ _ hs hx hrun (h v' w' hown (hbel base (Nat.le_refl _) w0 hw))
/-- The slice's array lies at this block or above. -/
def From (base : Nat) (a : Option Addr) (n : Nat) : Prop := 0 < n → ∃ b off, a = some ⟨b, off, none⟩ ∧ base ≤ b
theorem From.zero (base : Nat) (a : Option Addr) : From base a 0 := fun h => absurd h (Nat.lt_irrefl 0)
theorem Nums.setOther {w : World} {bound base : Nat} {a : Option Addr} {n : Nat} {l : List Int} (h : Nums w bound a n l) (hf : From base a n) (p : Addr) (x : Value) (hp : p.block < base) : Nums (w.setCell p x) bound a n l :=
  ⟨h.1, h.2.1, fun hn => by
    obtain ⟨b, off, e, hb, hc⟩ := h.2.2 hn
    obtain ⟨b', off', e', hbb⟩ := hf hn
    rw [e] at e'
    injection e' with e'
    injection e' with e1 e2 _
    refine ⟨b, off, e, hb, fun j y hj => ?_⟩
    rw [World.cell?_setCell_other _ _ _ _ (fun e3 => by rw [e3] at hp; dsimp only at hp; omega)]
    exact hc j y hj⟩
/-- A slice of numbers that the call made may be read. -/
theorem Ints.sees {w : World} {base : Nat} {v : Value} {l : List Int} (h : Ints w base v l) :
    ∃ a cap, v = .slice a l.length cap ∧ l.length ≤ cap ∧ cap ≤ maxLen ∧ From base a l.length ∧ Nums w w.heap.size a l.length l := by
  have hlt := h.lt
  rcases h.2 with ⟨h0, h1⟩ | ⟨g, cap, cur, rfl, hbase, hh, h1, h2, h3, h4⟩
  · have hz : l = [] := by
      cases l with
      | nil => rfl
      | cons x l => simp at h1
    subst hz
    exact ⟨none, 0, h0, Nat.le_refl _, Nat.zero_le _, From.zero _ _, Nums.zero _ _ _⟩
  · refine ⟨_, cap, rfl, h1, h2, fun _ => ⟨g, 0, rfl, hbase⟩, rfl, by unfold maxLen at h2; omega, fun _ => ⟨g, 0, rfl, (hlt g rfl).2, fun j x hj => ?_⟩⟩
    have hj' : j < l.length := by
      rcases Nat.lt_or_ge j l.length with h | h
      · exact h
      · rw [List.getElem?_eq_none h] at hj; cases hj
    rw [cell_of_row w g _ cur 2 (0, 0) hh]
    have : (cur.toList.take (l.length * 1))[j]? = (l.map encI64)[j]? := by rw [h4]
    rw [List.getElem?_take, if_pos (by omega), List.getElem?_map, hj] at this
    rw [Nat.zero_add, ← Array.getElem?_toList, this]
    rfl
/-- A row of numbers that the statement just laid. -/
theorem Nums.made (w : World) (cs : Array Value) (l : List Int) (n : Nat) (hc : cs = (l.map encI64).toArray) (hn : l.length = n) (hl : n ≤ 100000) :
    Nums (w.alloc (.cells cs 2)) (w.heap.size + 1) (some ⟨w.heap.size, 0, none⟩) n l := by
  refine ⟨hn, by omega, fun _ => ⟨w.heap.size, 0, rfl, by omega, fun j x hj => ?_⟩⟩
  rw [cell_of_row _ _ _ _ _ _ (heap_alloc_new w _), hc, Nat.zero_add, List.getElem?_toArray, List.getElem?_map, hj]
  rfl
end Go.Proofs.Ythbakfceaaaamaa
