/- Contract of the statements' first: the chapter's example comes out as it says. -/
import Derived.Test.YtiofpeckcfdilaaGreatDoorTuTrimO
import Derived.Test.YtiofpeckcfdilaaGreatDoorTuRows
import Derived.Deep.RegionHeld3
namespace Go.Proofs.YtiofpeckcfdilaaGreatDoor
open Go.RowKit

def exA : List ArmL := [⟨[121], 1, [], 2⟩, ⟨[120], 1, [], 0⟩]
def exT : List TurnL := [⟨2, [98], exA⟩, ⟨0, [], []⟩, ⟨0, [], []⟩]
def exB : List ArmL := [⟨[120], 1, [], 0⟩, ⟨[121], 1, [], 1⟩]
theorem exT_ok : locB exT = true := by decide
theorem exT_trim : trimT exT = [⟨2, [98], exB⟩, ⟨0, [], []⟩] := by rfl
theorem exT_trimL : trimL exT = [⟨2, [98], exB⟩, ⟨0, [], []⟩] := by unfold trimL; rw [exT_ok, exT_trim]; rfl
theorem str1 (c : UInt8) : (⟨#[c]⟩ : ByteArray).toList = [c] := by rw [ByteArray.toList_eq]
theorem str0 : (⟨#[]⟩ : ByteArray).toList = [] := by rw [ByteArray.toList_eq]
theorem small1 (c : UInt8) : (⟨#[c]⟩ : ByteArray).size ≤ maxLen := by simp [maxLen, ByteArray.size]
theorem small0 : (⟨#[]⟩ : ByteArray).size ≤ maxLen := by simp [maxLen, ByteArray.size]
/-- Two arms as they are laid. -/
theorem two_arms {W : World} {bound b : Nat} (hb : b < bound) (c c' : UInt8) (k k' n n' : Int) (h : W.heap[b]? = some (.cells #[.string ⟨#[c]⟩, .int .i64 k, .string ⟨#[]⟩, .int .i64 n, .string ⟨#[c']⟩, .int .i64 k', .string ⟨#[]⟩, .int .i64 n'] 67 (0, 0))) :
    Arms W bound (some ⟨b, 0, none⟩) 2 [⟨[c], k, [], n⟩, ⟨[c'], k', [], n'⟩] := by
  refine ⟨rfl, by omega, fun _ => ⟨b, 0, rfl, hb, fun j x hj => ?_⟩⟩
  have hj2 : j = 0 ∨ j = 1 := by
    have := (List.getElem?_eq_some_iff.1 hj).1
    simp at this
    omega
  rcases hj2 with rfl | rfl
  · obtain rfl := Option.some.inj hj
    exact ⟨⟨#[c]⟩, ⟨#[]⟩, ⟨by rw [cell_of_row _ _ _ _ _ _ h]; rfl, by rw [cell_of_row _ _ _ _ _ _ h]; rfl, by rw [cell_of_row _ _ _ _ _ _ h]; rfl, by rw [cell_of_row _ _ _ _ _ _ h]; rfl⟩, str1 c, str0, small1 c, small0⟩
  · obtain rfl := Option.some.inj hj
    exact ⟨⟨#[c']⟩, ⟨#[]⟩, ⟨by rw [cell_of_row _ _ _ _ _ _ h]; rfl, by rw [cell_of_row _ _ _ _ _ _ h]; rfl, by rw [cell_of_row _ _ _ _ _ _ h]; rfl, by rw [cell_of_row _ _ _ _ _ _ h]; rfl⟩, str1 c', str0, small1 c', small0⟩
def exO1 : Obj := .cells #[.int .i64 1, .string ⟨#[]⟩] 65
def exO2 : Obj := .cells #[.string ⟨#[121]⟩, .int .i64 1, .string ⟨#[]⟩, .int .i64 2, .string ⟨#[120]⟩, .int .i64 1, .string ⟨#[]⟩, .int .i64 0] 67
def exO3 (b : Nat) : Obj := .cells #[.int .i64 2, .string ⟨#[98]⟩, .slice (some ⟨b, 0, none⟩) 2 2, .int .i64 0, .string ⟨#[]⟩, .slice none 0 0, .int .i64 0, .string ⟨#[]⟩, .slice none 0 0] 51
theorem ex_turns (w : World) : Turns (((w.alloc exO1).alloc exO2).alloc (exO3 (w.heap.size + 1))) (((w.alloc exO1).alloc exO2).alloc (exO3 (w.heap.size + 1))).heap.size (some ⟨w.heap.size + 2, 0, none⟩) 3 exT := by
  have h3 := heap_alloc_new ((w.alloc exO1).alloc exO2) (exO3 (w.heap.size + 1))
  have h2 := (tu1 ((w.alloc exO1).alloc exO2) (exO3 (w.heap.size + 1))).block (w.heap.size + 1) (by simp)
  have h1 := heap_alloc_new (w.alloc exO1) exO2
  rw [World.size_alloc] at h1 h3
  have hA := two_arms (W := ((w.alloc exO1).alloc exO2).alloc (exO3 (w.heap.size + 1))) (bound := (((w.alloc exO1).alloc exO2).alloc (exO3 (w.heap.size + 1))).heap.size) (b := w.heap.size + 1) (by simp) 121 120 1 1 2 0 (h2.trans h1)
  have hs : ((w.alloc exO1).alloc exO2).heap.size = w.heap.size + 2 := by simp
  have h3 : (((w.alloc exO1).alloc exO2).alloc (exO3 (w.heap.size + 1))).heap[w.heap.size + 2]? = some (.cells #[.int .i64 2, .string ⟨#[98]⟩, .slice (some ⟨w.heap.size + 1, 0, none⟩) 2 2, .int .i64 0, .string ⟨#[]⟩, .slice none 0 0, .int .i64 0, .string ⟨#[]⟩, .slice none 0 0] 51 (0, 0)) := by
    have := heap_alloc_new ((w.alloc exO1).alloc exO2) (exO3 (w.heap.size + 1))
    rw [hs] at this
    exact this
  refine ⟨rfl, by omega, fun _ => ⟨w.heap.size + 2, 0, rfl, by simp, fun j x hj => ?_⟩⟩
  have hj2 : j = 0 ∨ j = 1 ∨ j = 2 := by
    have := (List.getElem?_eq_some_iff.1 hj).1
    simp [exT] at this
    omega
  rcases hj2 with rfl | rfl | rfl
  · obtain rfl := Option.some.inj hj
    exact ⟨⟨#[98]⟩, some ⟨w.heap.size + 1, 0, none⟩, 2, 2, ⟨by rw [cell_of_row _ _ _ _ _ _ h3]; rfl, by rw [cell_of_row _ _ _ _ _ _ h3]; rfl, by rw [cell_of_row _ _ _ _ _ _ h3]; rfl⟩, str1 98, small1 98, hA⟩
  · obtain rfl := Option.some.inj hj
    exact ⟨⟨#[]⟩, none, 0, 0, ⟨by rw [cell_of_row _ _ _ _ _ _ h3]; rfl, by rw [cell_of_row _ _ _ _ _ _ h3]; rfl, by rw [cell_of_row _ _ _ _ _ _ h3]; rfl⟩, str0, small0, Arms.zero _ _ _⟩
  · obtain rfl := Option.some.inj hj
    exact ⟨⟨#[]⟩, none, 0, 0, ⟨by rw [cell_of_row _ _ _ _ _ _ h3]; rfl, by rw [cell_of_row _ _ _ _ _ _ h3]; rfl, by rw [cell_of_row _ _ _ _ _ _ h3]; rfl⟩, str0, small0, Arms.zero _ _ _⟩
end Go.Proofs.YtiofpeckcfdilaaGreatDoor
