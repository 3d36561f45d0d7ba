/- Contract of the reference's ArmsMay. -/
import Derived.Test.YtbbdmipfbnfpfaaTuRefA
namespace Go.Proofs.Ytbbdmipfbnfpfaa
open Go.RowKit

theorem armsB_bad {n : Nat} {l : List ArmL} {i : Nat} {x : ArmL} (h : l[i]? = some x) (hx : armB n x = false) : armsB n l = false := by
  unfold armsB
  have : l.all (armB n) = false := by
    rw [List.all_eq_false]
    exact ⟨x, List.mem_of_getElem? h, by rw [hx]; decide⟩
  rw [this]
  rfl
theorem armsB_twice {n : Nat} {l : List ArmL} {i k : Nat} {x y : ArmL} (hk : k < i) (h : l[i]? = some x) (h' : l[k]? = some y) (e : y.label = x.label) : armsB n l = false := by
  unfold armsB
  have : decide ((l.map ArmL.label).Nodup) = false := by
    rw [decide_eq_false_iff_not]
    intro hn
    obtain ⟨h1, e1⟩ := List.getElem?_eq_some_iff.1 h
    obtain ⟨h2, e2⟩ := List.getElem?_eq_some_iff.1 h'
    have := (List.pairwise_iff_getElem.1 hn) k i (by rw [List.length_map]; omega) (by rw [List.length_map]; exact h1) hk
    rw [List.getElem_map, List.getElem_map, e1, e2] at this
    exact this e
  rw [this, Bool.and_false]
  rfl
theorem armsB_end {n : Nat} {l : List ArmL} (h1 : ∀ a ∈ l, armB n a = true) (h2 : (l.map ArmL.label).Nodup) : armsB n l = (decide (1 ≤ (l.length : Int)) && decide ((l.length : Int) ≤ 6)) := by
  unfold armsB
  rw [List.all_eq_true.2 h1, decide_eq_true h2, Bool.true_and, Bool.true_and, Bool.eq_iff_iff]
  simp only [Bool.and_eq_true, decide_eq_true_eq]
  omega
/-- The arms so far are valid, and their labels differ. -/
def ArmsGood (n : Nat) (l : List ArmL) (i : Nat) : Prop := (∀ a ∈ l.take i, armB n a = true) ∧ ((l.take i).map ArmL.label).Nodup
theorem tuTake_at {α : Type} {l : List α} {k : Nat} {x : α} (h : l[k]? = some x) : l.take (k + 1) = l.take k ++ [x] := by
  obtain ⟨h1, e⟩ := List.getElem?_eq_some_iff.1 h
  rw [List.take_succ_eq_append_getElem h1, e]
theorem ArmsGood.step {n : Nat} {l : List ArmL} {i : Nat} {x : ArmL} (h : ArmsGood n l i) (hx : l[i]? = some x) (hg : armB n x = true) (hd : ∀ y ∈ l.take i, y.label ≠ x.label) : ArmsGood n l (i + 1) := by
  unfold ArmsGood
  rw [tuTake_at hx]
  refine ⟨fun a ha => ?_, ?_⟩
  · rcases List.mem_append.1 ha with ha | ha
    · exact h.1 a ha
    · rw [List.mem_singleton.1 ha]; exact hg
  · rw [List.map_append, List.nodup_append]
    refine ⟨h.2, by simp, fun a ha b hb e => ?_⟩
    obtain ⟨y, hy, rfl⟩ := List.mem_map.1 ha
    rw [List.map_cons, List.map_nil, List.mem_singleton] at hb
    exact hd y hy (e.trans hb)
theorem armB_ways {n : Nat} (s u : Str) (k x : Int) : armB n ⟨s, k, u, x⟩ = (may s && carriesB k u && decide (0 ≤ x) && decide (x < (n : Int))) := rfl

end Go.Proofs.Ytbbdmipfbnfpfaa
