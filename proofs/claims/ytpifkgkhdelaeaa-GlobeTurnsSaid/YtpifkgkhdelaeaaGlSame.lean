/- Contract of the statements' own samePoints. (Printed by gen/genGlS.py out of XTuSameT.) -/
import Derived.Test.YtpifkgkhdelaeaaGlMem
import Derived.Test.YtpifkgkhdelaeaaTuSameT
namespace Go.Proofs.Ytpifkgkhdelaeaa
open Go.RowKit

def sameP1 (x y : PointL) : Bool := x.src == y.src && x.dst == y.dst && sameAs x.arms y.arms
def samePs : List PointL → List PointL → Bool
  | [], [] => true
  | x :: l, y :: m => sameP1 x y && samePs l m
  | _, _ => false
theorem sameP1_iff {x y : PointL} : sameP1 x y = true ↔ x = y := by
  obtain ⟨a, b, c⟩ := x
  obtain ⟨e, f, g⟩ := y
  simp [sameP1, sameAs_iff]
  grind
theorem samePs_iff : ∀ {l m : List PointL}, samePs l m = true ↔ l = m
  | [], [] => by simp [samePs]
  | [], _ :: _ => by simp [samePs]
  | _ :: _, [] => by simp [samePs]
  | x :: l, y :: m => by rw [samePs, Bool.and_eq_true, sameP1_iff, samePs_iff, List.cons.injEq]
theorem samePs_len : ∀ {l m : List PointL}, l.length ≠ m.length → samePs l m = false := by
  intro l m h
  cases hs : samePs l m
  · rfl
  · exact absurd (congrArg List.length (samePs_iff.1 hs)) h
theorem samePs_at {l m : List PointL} {k : Nat} {x y : PointL} (hx : l[k]? = some x) (hy : m[k]? = some y) : samePs (l.drop k) (m.drop k) = (sameP1 x y && samePs (l.drop (k + 1)) (m.drop (k + 1))) := by
  obtain ⟨h1, e1⟩ := List.getElem?_eq_some_iff.1 hx
  obtain ⟨h2, e2⟩ := List.getElem?_eq_some_iff.1 hy
  rw [List.drop_eq_getElem_cons h1, e1, List.drop_eq_getElem_cons h2, e2, samePs]

end Go.Proofs.Ytpifkgkhdelaeaa
