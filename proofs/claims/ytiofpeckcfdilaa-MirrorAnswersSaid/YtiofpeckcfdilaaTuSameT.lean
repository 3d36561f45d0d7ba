/- Contract of the reference's SameTurns. -/
import Derived.Test.YtiofpeckcfdilaaTuRows
namespace Go.Proofs.Ytiofpeckcfdilaa
open Go.RowKit

def sameT1 (x y : TurnL) : Bool := x.kind == y.kind && x.peer == y.peer && sameAs x.arms y.arms
def sameTs : List TurnL → List TurnL → Bool
  | [], [] => true
  | x :: l, y :: m => sameT1 x y && sameTs l m
  | _, _ => false
theorem sameT1_iff {x y : TurnL} : sameT1 x y = true ↔ x = y := by
  obtain ⟨a, b, c⟩ := x
  obtain ⟨e, f, g⟩ := y
  simp [sameT1, sameAs_iff]
  grind
theorem sameTs_iff : ∀ {l m : List TurnL}, sameTs l m = true ↔ l = m
  | [], [] => by simp [sameTs]
  | [], _ :: _ => by simp [sameTs]
  | _ :: _, [] => by simp [sameTs]
  | x :: l, y :: m => by rw [sameTs, Bool.and_eq_true, sameT1_iff, sameTs_iff, List.cons.injEq]
theorem sameTs_len : ∀ {l m : List TurnL}, l.length ≠ m.length → sameTs l m = false := by
  intro l m h
  cases hs : sameTs l m
  · rfl
  · exact absurd (congrArg List.length (sameTs_iff.1 hs)) h
theorem sameTs_at {l m : List TurnL} {k : Nat} {x y : TurnL} (hx : l[k]? = some x) (hy : m[k]? = some y) : sameTs (l.drop k) (m.drop k) = (sameT1 x y && sameTs (l.drop (k + 1)) (m.drop (k + 1))) := by
  obtain ⟨h1, e1⟩ := List.getElem?_eq_some_iff.1 hx
  obtain ⟨h2, e2⟩ := List.getElem?_eq_some_iff.1 hy
  rw [List.drop_eq_getElem_cons h1, e1, List.drop_eq_getElem_cons h2, e2, sameTs]

theorem drewN_part {w w2 : World} {p r : Nat} (h : ∃ x, w2 = (w.drewN (p + r)).drewN x) : ∃ m, w2 = w.drewN (p + m) := by
  obtain ⟨x, rfl⟩ := h
  exact ⟨r + x, by rw [World.drewN_drewN, Nat.add_assoc]⟩

end Go.Proofs.Ytiofpeckcfdilaa
