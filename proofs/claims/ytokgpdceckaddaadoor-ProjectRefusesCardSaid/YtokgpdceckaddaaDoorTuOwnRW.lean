/- Contracts of the program's Reach, Peers and Walk. -/
import Derived.Test.YtokgpdceckaddaaDoorTuSearchs
import Derived.Test.YtokgpdceckaddaaDoorTuWalk
import Derived.Test.YtokgpdceckaddaaDoorTuOwnV
import Derived.Laws.EntriesVeiled
namespace Go.Proofs.YtokgpdceckaddaaDoor
open Go.RowKit Go.Sort

/-- Of a valid type's turns just the ends have no peer. -/
theorem peer_end {ts : List TurnL} (h : locB ts = true) {p : Nat} {t : TurnL} (hp : ts[p]? = some t) : (t.peer = [] ↔ t.kind = 0) := by
  rcases turnB_arms ((locB_one h).2.2 t (List.mem_of_getElem? hp)) with ⟨h1, h2, _⟩ | ⟨h1, h2, _⟩
  · simp [h1, h2]
  · constructor
    · intro e
      rw [e] at h2
      exact absurd h2 (by decide)
    · intro e
      omega
theorem reachL_valid {ts : List TurnL} {p : Nat} (h : p ∈ reachL ts) : locB ts = true := by
  unfold reachL at h
  cases hv : locB ts
  · rw [hv] at h; simp at h
  · rfl
end Go.Proofs.YtokgpdceckaddaaDoor

/- Contracts of slices.IndexFunc at arms by a label, and of the program's Walk. -/
namespace Go.Proofs.YtokgpdceckaddaaDoor
open Go.RowKit

/-- The first place of a label, from a place on. -/
def idxA (nm : Str) : List ArmL → Nat → Int
  | [], _ => -1
  | x :: r, i => if x.label = nm then (i : Int) else idxA nm r (i + 1)
theorem idxA_at {nm : Str} {l : List ArmL} {k : Nat} {x : ArmL} (h : l[k]? = some x) : idxA nm (l.drop k) k = if x.label = nm then (k : Int) else idxA nm (l.drop (k + 1)) (k + 1) := by
  obtain ⟨h1, e⟩ := List.getElem?_eq_some_iff.1 h
  rw [List.drop_eq_getElem_cons h1, e, idxA]
theorem idxA_find (nm : Str) : ∀ (l : List ArmL) (i : Nat), (idxA nm l i = -1 ∧ findA l nm = none) ∨ ∃ k x, idxA nm l i = ((i + k : Nat) : Int) ∧ l[k]? = some x ∧ findA l nm = some x
  | [], i => .inl ⟨rfl, rfl⟩
  | a :: r, i => by
    rw [idxA]
    unfold findA
    rw [List.find?_cons]
    by_cases h : a.label = nm
    · rw [if_pos h, beq_iff_eq.2 h]
      exact .inr ⟨0, a, rfl, rfl, rfl⟩
    · rw [if_neg h, beq_eq_false_iff_ne.2 h]
      rcases idxA_find nm r (i + 1) with ⟨h1, h2⟩ | ⟨k, x, h1, h2, h3⟩
      · exact .inl ⟨h1, h2⟩
      · exact .inr ⟨k + 1, x, by rw [h1]; congr 1; omega, by rw [List.getElem?_cons_succ]; exact h2, h3⟩
end Go.Proofs.YtokgpdceckaddaaDoor
