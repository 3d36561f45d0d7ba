/- A value that lies in memory, and what a call may read of it. -/
import Derived.Test.YtnanfmmafmcchaaGreatDoorDtFirst
namespace Go.Proofs.YtnanfmmafmcchaaGreatDoor
open Go.RowKit

/-- Block A holds this value. -/
def Box (W : World) (A : Nat) (k x : Int) (s : ByteArray) (a : Option Addr) (n c : Nat) : Prop :=
  A < W.heap.size ∧ W.cell? ⟨A, 0, none⟩ = some (.int .i64 k) ∧ W.cell? ⟨A, 1, none⟩ = some (.int .i64 x) ∧ W.cell? ⟨A, 2, none⟩ = some (.string s) ∧ W.cell? ⟨A, 3, none⟩ = some (.slice a n c)
theorem Box.below {W W' : World} {A : Nat} {k x : Int} {s : ByteArray} {a : Option Addr} {n c B : Nat} (h : Box W A k x s a n c) (hb : Below B W W') (hB : A < B) : Box W' A k x s a n c := by
  obtain ⟨h1, h2, h3, h4, h5⟩ := h
  exact ⟨Nat.lt_of_lt_of_le h1 hb.size, (hb.cell (p := ⟨A, 0, none⟩) hB).trans h2, (hb.cell (p := ⟨A, 1, none⟩) hB).trans h3, (hb.cell (p := ⟨A, 2, none⟩) hB).trans h4, (hb.cell (p := ⟨A, 3, none⟩) hB).trans h5⟩
theorem Box.next {W W' : World} {A : Nat} {k x : Int} {s : ByteArray} {a : Option Addr} {n c : Nat} (h : Box W A k x s a n c) (hb : Below W.heap.size W W') : Box W' A k x s a n c := h.below hb h.1
theorem Box.alloc {W : World} {A : Nat} {k x : Int} {s : ByteArray} {a : Option Addr} {n c : Nat} (h : Box W A k x s a n c) (o : Obj) : Box (W.alloc o) A k x s a n c := h.next ((Below.refl _ W).alloc (Nat.le_refl _) o)
theorem Box.drew {W : World} {A : Nat} {k x : Int} {s : ByteArray} {a : Option Addr} {n c : Nat} (h : Box W A k x s a n c) : Box W.drew A k x s a n c := h
theorem Box.new (W : World) (A : Nat) (hA : W.heap.size = A) (k x : Int) (s : ByteArray) (a : Option Addr) (n c : Nat) : Box (W.alloc (.cells #[.int .i64 k, .int .i64 x, .string s, .slice a n c] 24)) A k x s a n c := by
  subst hA
  exact ⟨by simp, by simp, by simp, by simp, by simp⟩
theorem below_next {w W wn : World} (h : Below w.heap.size w W) (hb : Below W.heap.size W wn) : Below w.heap.size w wn := h.trans (hb.mono h.size)
end Go.Proofs.YtnanfmmafmcchaaGreatDoor
