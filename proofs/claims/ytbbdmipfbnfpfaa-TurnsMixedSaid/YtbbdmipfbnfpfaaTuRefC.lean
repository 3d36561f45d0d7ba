/- Contract of the reference's LocalMay. -/
import Derived.Test.YtbbdmipfbnfpfaaTuRefB
namespace Go.Proofs.Ytbbdmipfbnfpfaa
open Go.RowKit

theorem locB_short {ts : List TurnL} (h : ts.length < 1 ∨ 40 < ts.length) : locB ts = false := by
  unfold locB
  rcases h with h | h
  · rw [decide_eq_false (show ¬ 1 ≤ ts.length by omega)]; rfl
  · rw [decide_eq_false (show ¬ ts.length ≤ 40 by omega), Bool.and_false]; rfl
theorem locB_bad {ts : List TurnL} {i : Nat} {t : TurnL} (h : ts[i]? = some t) (ht : turnB ts.length t = false) : locB ts = false := by
  unfold locB
  have : ts.all (turnB ts.length) = false := by
    rw [List.all_eq_false]
    exact ⟨t, List.mem_of_getElem? h, by rw [ht]; decide⟩
  rw [this, Bool.and_false]
theorem locB_end {ts : List TurnL} (h1 : 1 ≤ ts.length) (h2 : ts.length ≤ 40) (h : ∀ t ∈ ts, turnB ts.length t = true) : locB ts = true := by
  unfold locB
  rw [decide_eq_true h1, decide_eq_true h2, List.all_eq_true.2 h]
  rfl
theorem turns_step {n : Nat} {ts : List TurnL} {i : Nat} {t : TurnL} (h : ∀ t ∈ ts.take i, turnB n t = true) (ht : ts[i]? = some t) (hg : turnB n t = true) : ∀ t ∈ ts.take (i + 1), turnB n t = true := by
  intro x hx
  rw [tuTake_at ht, List.mem_append, List.mem_singleton] at hx
  rcases hx with hx | rfl
  · exact h x hx
  · exact hg
/-- Block g holds a local type. -/
def LBox (W : World) (g : Nat) (nm : ByteArray) (a : Option Addr) (n c : Nat) : Prop := W.heap[g]? = some (.cells #[.string nm, .slice a n c] 26 (0, 0))
theorem LBox.lt {W : World} {g : Nat} {nm : ByteArray} {a : Option Addr} {n c : Nat} (h : LBox W g nm a n c) : g < W.heap.size := by
  rcases Nat.lt_or_ge g W.heap.size with h1 | h1
  · exact h1
  · unfold LBox at h; rw [Array.getElem?_eq_none h1] at h; cases h
theorem LBox.new (w : World) (nm : ByteArray) (a : Option Addr) (n c : Nat) : LBox (w.alloc (.cells #[.string nm, .slice a n c] 26)) w.heap.size nm a n c := heap_alloc_new w _
theorem LBox.on {W W' : World} {g : Nat} {nm : ByteArray} {a : Option Addr} {n c : Nat} (h : LBox W g nm a n c) (hb : Below W.heap.size W W') : LBox W' g nm a n c := (hb.block g h.lt).trans h
theorem LBox.cells {W : World} {g : Nat} {nm : ByteArray} {a : Option Addr} {n c : Nat} (h : LBox W g nm a n c) : W.cell? ⟨g, 0, none⟩ = some (.string nm) ∧ W.cell? ⟨g, 1, none⟩ = some (.slice a n c) := by
  unfold LBox at h
  constructor
  all_goals (rw [cell_of_row _ _ _ _ _ _ h]; rfl)

end Go.Proofs.Ytbbdmipfbnfpfaa
