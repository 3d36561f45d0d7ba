/- What the laws share: the name me, and all that is known of the mirror of a type that has no peer but a. -/
import Derived.Test.YtiofpeckcfdilaaMiFirst
import Derived.Test.YtiofpeckcfdilaaTuSameO
namespace Go.Proofs.Ytiofpeckcfdilaa
open Go.RowKit

theorem me_list : (⟨#[109, 101]⟩ : ByteArray).toList = [109, 101] := by rw [ByteArray.toList_eq]
theorem me_may : may [109, 101] = true := by decide
theorem me_small : (⟨#[109, 101]⟩ : ByteArray).size ≤ maxLen := by simp [maxLen, ByteArray.size]
/-- All that is known of the mirror of a type that has no peer but a. -/
theorem pair_facts {ts : List TurnL} (h : locB ts = true) (hx : ∀ t ∈ ts, t.kind ≠ 0 → t.peer = [97]) :
    mirE ts [109, 101] = 0 ∧ mirQ ts [109, 101] = mirL [109, 101] (trimT ts) ∧ locB (mirL [109, 101] (trimT ts)) = true ∧ mirE (mirL [109, 101] (trimT ts)) [97] = 0 ∧ mirQ (mirL [109, 101] (trimT ts)) [97] = trimT ts ∧ sameL (trimT ts) ts = true ∧
      (peersT (mirL [109, 101] (trimT ts)) = [] ∨ peersT (mirL [109, 101] (trimT ts)) = [[109, 101]]) := by
  have e1 : mirE ts [109, 101] = 0 := mirE_one h hx me_may (by decide)
  have hv : locB (mirL [109, 101] (trimT ts)) = true := mir_valid (trim_valid h) me_may
  have e2 : mirE (mirL [109, 101] (trimT ts)) [97] = 0 := mirE_one hv (mir_peer _ _) (by decide) (by decide)
  obtain ⟨t1, t2⟩ := mir_twice h (x := [97]) [109, 101] hx
  refine ⟨e1, by unfold mirQ; rw [if_pos e1], hv, e2, by unfold mirQ; rw [if_pos e2]; exact t1, t2, peers_one hv (mir_peer _ _)⟩
end Go.Proofs.Ytiofpeckcfdilaa
