/- Contract of the reference's Sorted. -/
import Derived.Test.YtiofpeckcfdilaaTuOwn
import Derived.Laws.Cover1
import Derived.Sort.Walk0
namespace Go.Proofs.Ytiofpeckcfdilaa
open Go.RowKit Go.Sort

theorem sortA_step {l : List ArmL} {j : Nat} {x : ArmL} (h : l[j]? = some x) : sortA (l.take (j + 1)) = insA x (sortA (l.take j)) := by
  rw [tuTake_at h]
  unfold sortA
  rw [List.foldl_append]
  rfl
theorem insA_at {x : ArmL} : ∀ {o : List ArmL} {k : Nat}, k ≤ o.length → (∀ y ∈ o.take k, ¬ x.label < y.label) → (∀ y ∈ o.drop k, x.label < y.label) → insA x o = o.take k ++ [x] ++ o.drop k
  | [], k, _, _, _ => by simp [insA]
  | b :: r, 0, _, _, hhi => by
    rw [insA, if_pos (hhi b (by simp))]
    rfl
  | b :: r, k + 1, hk, hlo, hhi => by
    rw [insA, if_neg (hlo b (by simp))]
    rw [insA_at (o := r) (k := k) (by simpa using hk) (fun y hy => hlo y (by simp [hy])) (fun y hy => hhi y (by simpa using hy))]
    simp
theorem low_of {x y : ArmL} {o : List ArmL} {k : Nat} (hu : UpA o) (hy : o[k]? = some y) (hn : ¬ x.label < y.label) : ∀ z ∈ o.take (k + 1), ¬ x.label < z.label := by
  intro z hz hlt
  rw [tuTake_at hy, List.mem_append, List.mem_singleton] at hz
  rcases hz with hz | rfl
  · obtain ⟨i, hi, rfl⟩ := List.mem_iff_getElem.1 hz
    rw [List.length_take] at hi
    obtain ⟨hk, e⟩ := List.getElem?_eq_some_iff.1 hy
    have := List.pairwise_iff_getElem.1 hu i k (by omega) hk (by omega)
    rw [e] at this
    rw [List.getElem_take] at hlt
    exact hn (List.not_le.1 fun hc => absurd hlt (List.not_lt.2 (List.le_trans this hc)))
  · exact hn hlt
theorem high_step {x y : ArmL} {o : List ArmL} {k : Nat} (hy : o[k]? = some y) (hlt : x.label < y.label) (h : ∀ z ∈ o.drop (k + 1), x.label < z.label) : ∀ z ∈ o.drop k, x.label < z.label := by
  intro z hz
  obtain ⟨hk, e⟩ := List.getElem?_eq_some_iff.1 hy
  rw [List.drop_eq_getElem_cons hk, e, List.mem_cons] at hz
  rcases hz with rfl | hz
  · exact hlt
  · exact h z hz
theorem greater_yes {y s : Str} (h : (!Op.bytesLess y s && !y == s) = true) : s < y := by
  rw [Bool.and_eq_true, bytesLess_eq] at h
  simp only [Bool.not_eq_true', decide_eq_false_iff_not, beq_eq_false_iff_ne] at h
  exact List.not_le.1 fun hc => h.2 (List.le_antisymm hc (List.not_lt.1 h.1))
theorem greater_no {y s : Str} (h : (!Op.bytesLess y s && !y == s) = false) : ¬ s < y := by
  intro hlt
  rw [Bool.and_eq_false_iff, bytesLess_eq] at h
  simp only [Bool.not_eq_false', decide_eq_true_eq, beq_iff_eq] at h
  rcases h with h | h
  · exact List.lt_irrefl _ (List.lt_trans hlt h)
  · subst h; exact List.lt_irrefl _ hlt
theorem sortA_len (l : List ArmL) : (sortA l).length = l.length := (sortA_perm l).length_eq

end Go.Proofs.Ytiofpeckcfdilaa
