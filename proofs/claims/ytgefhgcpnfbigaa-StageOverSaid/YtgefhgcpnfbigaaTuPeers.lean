/- Contract of the reference's Peers. -/
import Derived.Test.YtgefhgcpnfbigaaTuRows
import Derived.Test.YtgefhgcpnfbigaaNmRefPutAll
namespace Go.Proofs.Ytgefhgcpnfbigaa
open Go.RowKit

/-- The peer of the turn at a place. -/
def peerAt (ts : List TurnL) (p : Nat) : Str := ((ts[p]?).map TurnL.peer).getD []
def peersF (ts : List TurnL) (row : List Nat) : List Str := row.foldl (fun out p => if peerAt ts p = [] then out else putS out (peerAt ts p)) []
def peersT (ts : List TurnL) : List Str := peersF ts (reachL ts)
theorem snoc_ind {α : Type} {P : List α → Prop} (h0 : P []) (hs : ∀ l x, P l → P (l ++ [x])) (l : List α) : P l := by
  rw [← List.reverse_reverse l]
  induction l.reverse with
  | nil => exact h0
  | cons x m ih => rw [List.reverse_cons]; exact hs _ _ ih
theorem peersF_snoc (ts : List TurnL) (row : List Nat) (p : Nat) : peersF ts (row ++ [p]) = if peerAt ts p = [] then peersF ts row else putS (peersF ts row) (peerAt ts p) := by
  unfold peersF
  rw [List.foldl_append]
  rfl
theorem mem_peersF {ts : List TurnL} {x : Str} {row : List Nat} : x ∈ peersF ts row ↔ x ≠ [] ∧ ∃ p ∈ row, peerAt ts p = x := by
  induction row using snoc_ind with
  | h0 => simp [peersF]
  | hs row p ih =>
    rw [peersF_snoc]
    by_cases h : peerAt ts p = []
    · rw [if_pos h, ih]
      constructor
      · rintro ⟨h1, q, h2, h3⟩; exact ⟨h1, q, by simp [h2], h3⟩
      · rintro ⟨h1, q, h2, h3⟩
        rw [List.mem_append, List.mem_singleton] at h2
        rcases h2 with h2 | rfl
        · exact ⟨h1, q, h2, h3⟩
        · exact absurd (h3.symm.trans h) h1
    · rw [if_neg h, mem_putS, ih]
      constructor
      · rintro (⟨h1, q, h2, h3⟩ | rfl)
        · exact ⟨h1, q, by simp [h2], h3⟩
        · exact ⟨h, p, by simp, rfl⟩
      · rintro ⟨h1, q, h2, h3⟩
        rw [List.mem_append, List.mem_singleton] at h2
        rcases h2 with h2 | rfl
        · exact .inl ⟨h1, q, h2, h3⟩
        · exact .inr h3.symm
theorem peersF_rises {ts : List TurnL} {row : List Nat} : Rises (peersF ts row) := by
  induction row using snoc_ind with
  | h0 => simp [peersF, Rises]
  | hs row p ih =>
    rw [peersF_snoc]
    by_cases h : peerAt ts p = []
    · rw [if_pos h]; exact ih
    · rw [if_neg h]; exact putS_rises _ _
theorem peersF_len (ts : List TurnL) (row : List Nat) : (peersF ts row).length ≤ row.length := by
  induction row using snoc_ind with
  | h0 => simp [peersF]
  | hs row p ih =>
    rw [peersF_snoc, List.length_append]
    by_cases h : peerAt ts p = []
    · rw [if_pos h]; simp; omega
    · rw [if_neg h]
      have := putS_len (peersF ts row) (peerAt ts p)
      simp; omega
theorem reachL_lt {ts : List TurnL} : ∀ p ∈ reachL ts, p < ts.length := by
  unfold reachL
  cases h : locB ts
  · simp
  · simpa using reach_lt h
theorem reachL_few (ts : List TurnL) : (reachL ts).length ≤ 40 := by
  unfold reachL
  cases h : locB ts
  · simp
  · have := reach_few h
    have := (locB_one h).2.1
    simp; omega
theorem rowI_at {row : List Nat} {k : Nat} {x : Int} (h : (rowI row)[k]? = some x) : ∃ p : Nat, x = (p : Int) ∧ row[k]? = some p := by
  unfold rowI at h
  rw [List.getElem?_map] at h
  obtain ⟨p, hp, rfl⟩ := Option.map_eq_some_iff.1 h
  exact ⟨p, rfl, hp⟩
theorem take_snoc {α : Type} {l : List α} {k : Nat} {x : α} (h : l[k]? = some x) : l.take (k + 1) = l.take k ++ [x] := by
  rw [List.take_add_one, h]
  rfl

end Go.Proofs.Ytgefhgcpnfbigaa
