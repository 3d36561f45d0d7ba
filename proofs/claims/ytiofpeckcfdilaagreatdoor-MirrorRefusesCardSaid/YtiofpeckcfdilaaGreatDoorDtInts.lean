/- A slice of numbers that the call made: some more, and it may be read. -/
import Derived.Test.YtiofpeckcfdilaaGreatDoorDtMem
namespace Go.Proofs.YtiofpeckcfdilaaGreatDoor
open Go.RowKit

def encI64 (x : Int) : Value := .int .i64 x
/-- The slice v, which the call made (its array lies at base or above), holds just these numbers. -/
def Ints (w : World) (base : Nat) (v : Value) (l : List Int) : Prop := w.ownsRow base 2 1 v l.length (l.map encI64)
theorem Ints.zero (w : World) (base : Nat) : Ints w base (.slice none 0 0) [] := World.ownsRow_nil w base 2 1
theorem Ints.alloc {w : World} {base : Nat} {v : Value} {l : List Int} (h : Ints w base v l) (o : Obj) : Ints (w.alloc o) base v l := World.ownsRow.alloc h o
theorem Ints.drewN {w : World} {base : Nat} {v : Value} {l : List Int} (h : Ints w base v l) (k : Nat) : Ints (w.drewN k) base v l := h
theorem Ints.below {w w' : World} {base B : Nat} {v : Value} {l : List Int} (h : Ints w base v l) (hb : Below B w w') (hB : w.heap.size ≤ B) : Ints w' base v l := by
  have hlt := h.lt
  rcases h.2 with h0 | ⟨g, cap, cur, rfl, hbase, hh, h1, h2, h3, h4⟩
  · exact ⟨h.1, .inl h0⟩
  · refine ⟨h.1, .inr ⟨g, cap, cur, rfl, hbase, ?_, h1, h2, h3, h4⟩⟩
    have := (hlt g rfl).2
    rw [hb.block g (by omega)]
    exact hh
theorem Ints.low {w : World} {base base' : Nat} {v : Value} {l : List Int} (h : Ints w base v l) (hb : base' ≤ base) : Ints w base' v l := by
  rcases h.2 with h0 | ⟨g, cap, cur, rfl, hbase, hh, h1, h2, h3, h4⟩
  · exact ⟨h.1, .inl h0⟩
  · exact ⟨h.1, .inr ⟨g, cap, cur, rfl, Nat.le_trans hb hbase, hh, h1, h2, h3, h4⟩⟩
theorem info_i64 : (Tryz.prog.info? 2).map (fun i => (i.zero, i.size, i.bytes)) = some (some (.int .i64 0), 1, 8) := by kernel_rfl
/-- The slice's array lies at this block or above. -/
def From (base : Nat) (a : Option Addr) (n : Nat) : Prop := 0 < n → ∃ b off, a = some ⟨b, off, none⟩ ∧ base ≤ b
theorem From.zero (base : Nat) (a : Option Addr) : From base a 0 := fun h => absurd h (Nat.lt_irrefl 0)
theorem Nums.setOther {w : World} {bound base : Nat} {a : Option Addr} {n : Nat} {l : List Int} (h : Nums w bound a n l) (hf : From base a n) (p : Addr) (x : Value) (hp : p.block < base) : Nums (w.setCell p x) bound a n l :=
  ⟨h.1, h.2.1, fun hn => by
    obtain ⟨b, off, e, hb, hc⟩ := h.2.2 hn
    obtain ⟨b', off', e', hbb⟩ := hf hn
    rw [e] at e'
    injection e' with e'
    injection e' with e1 e2 _
    refine ⟨b, off, e, hb, fun j y hj => ?_⟩
    rw [World.cell?_setCell_other _ _ _ _ (fun e3 => by rw [e3] at hp; dsimp only at hp; omega)]
    exact hc j y hj⟩
/-- A slice of numbers that the call made may be read. -/
theorem Ints.sees {w : World} {base : Nat} {v : Value} {l : List Int} (h : Ints w base v l) :
    ∃ a cap, v = .slice a l.length cap ∧ l.length ≤ cap ∧ cap ≤ maxLen ∧ From base a l.length ∧ Nums w w.heap.size a l.length l := by
  have hlt := h.lt
  rcases h.2 with ⟨h0, h1⟩ | ⟨g, cap, cur, rfl, hbase, hh, h1, h2, h3, h4⟩
  · have hz : l = [] := by
      cases l with
      | nil => rfl
      | cons x l => simp at h1
    subst hz
    exact ⟨none, 0, h0, Nat.le_refl _, Nat.zero_le _, From.zero _ _, Nums.zero _ _ _⟩
  · refine ⟨_, cap, rfl, h1, h2, fun _ => ⟨g, 0, rfl, hbase⟩, rfl, by unfold maxLen at h2; omega, fun _ => ⟨g, 0, rfl, (hlt g rfl).2, fun j x hj => ?_⟩⟩
    have hj' : j < l.length := by
      rcases Nat.lt_or_ge j l.length with h | h
      · exact h
      · rw [List.getElem?_eq_none h] at hj; cases hj
    rw [cell_of_row w g _ cur 2 (0, 0) hh]
    have : (cur.toList.take (l.length * 1))[j]? = (l.map encI64)[j]? := by rw [h4]
    rw [List.getElem?_take, if_pos (by omega), List.getElem?_map, hj] at this
    rw [Nat.zero_add, ← Array.getElem?_toList, this]
    rfl
/-- A row of numbers that the statement just laid. -/
theorem Nums.made (w : World) (cs : Array Value) (l : List Int) (n : Nat) (hc : cs = (l.map encI64).toArray) (hn : l.length = n) (hl : n ≤ 100000) :
    Nums (w.alloc (.cells cs 2)) (w.heap.size + 1) (some ⟨w.heap.size, 0, none⟩) n l := by
  refine ⟨hn, by omega, fun _ => ⟨w.heap.size, 0, rfl, by omega, fun j x hj => ?_⟩⟩
  rw [cell_of_row _ _ _ _ _ _ (heap_alloc_new w _), hc, Nat.zero_add, List.getElem?_toArray, List.getElem?_map, hj]
  rfl
end Go.Proofs.YtiofpeckcfdilaaGreatDoor
