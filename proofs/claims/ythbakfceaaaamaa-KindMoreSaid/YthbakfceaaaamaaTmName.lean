/- Plain: the names of a tree's variables; a list without repetitions inside another is no longer. -/
import Derived.Test.YthbakfceaaaamaaTmEval
namespace Go.Proofs.Ythbakfceaaaamaa
open Go.RowKit

/-- The names of the variables of a tree, as they stand. -/
def Exp.names : Exp → List Str
  | .leaf _ t => if t.kind = 0 then [t.name] else []
  | .one _ _ a => a.names
  | .two _ _ a b => a.names ++ b.names
theorem len_sub : ∀ (l m : List Nat), l.Nodup → (∀ x ∈ l, x ∈ m) → l.length ≤ m.length
  | [], _, _, _ => Nat.zero_le _
  | x :: l, m, hn, hs => by
    have hn' := List.nodup_cons.1 hn
    have hx := hs x (by simp)
    have := len_sub l (m.erase x) hn'.2 (fun y hy => (List.mem_erase_of_ne (fun e : y = x => hn'.1 (by rw [← e]; exact hy))).2 (hs y (by simp [hy])))
    rw [List.length_erase_of_mem hx] at this
    have := List.length_pos_of_mem hx
    simp only [List.length_cons]
    omega
end Go.Proofs.Ythbakfceaaaamaa
