/- Law: TurnsTrim. -/
import Derived.Test.YtiofpeckcfdilaaGreatDoorTuLawP
import Derived.Test.YtiofpeckcfdilaaGreatDoorTuPlains
import Derived.Test.YtiofpeckcfdilaaGreatDoorTuOwnRW
import Derived.Test.YtiofpeckcfdilaaGreatDoorTuSameL
import Derived.Deep.RegionHeld3
namespace Go.Proofs.YtiofpeckcfdilaaGreatDoor
open Go.RowKit

theorem trimL_trim {ts : List TurnL} (h : locB ts = true) : trimL (trimT ts) = trimT ts := by unfold trimL; rw [trim_valid h, trim_trim h]; rfl
theorem sameL_trim {ts : List TurnL} (h : locB ts = true) : sameL ts (trimT ts) = true := by
  unfold sameL
  rw [h, trim_valid h, trimL_trim h]
  unfold trimL
  rw [h]
  exact sameTs_iff.2 rfl
theorem strs_one_at (w : World) (g : Nat) (s : ByteArray) (hg : g = w.heap.size) (hs : s.size ≤ maxLen) : Strs (w.alloc (.cells #[.string s] 9)) (w.heap.size + 1) (some ⟨g, 0, none⟩) 1 [s.toList] := by
  subst hg
  exact strs_one w s hs
theorem lab_small (m : Nat) : (labB m).size ≤ maxLen := by simp [labB, maxLen, ByteArray.size]
theorem lab_at (w : World) (m : Nat) (hm : m < 4) : (w.alloc (.cells #[.string ⟨#[119]⟩, .string ⟨#[120]⟩, .string ⟨#[121]⟩, .string ⟨#[122]⟩] 9)).cell? ⟨w.heap.size, m, none⟩ = some (.string (labB m)) := by
  have := labObj_at w m
  rw [Nat.mod_eq_of_lt hm] at this
  exact this
theorem walk_pair {ts : List TurnL} (h : locB ts = true) {ls : List Str} {p : Nat} (e : walkT ts 0 ls = some p) :
    ∃ q, q < (reachT ts).length ∧ (reachT ts)[q]? = some p ∧ p < ts.length ∧ walkL (trimT ts) ls = some q ∧ ∀ t u, ts[p]? = some t → (trimT ts)[q]? = some u → u.kind = t.kind ∧ u.peer = t.peer := by
  obtain ⟨r, hr⟩ := reach_zero ts
  have hp := walk_in h ls 0 p (by rw [hr]; simp) e
  have hb := idx_back hp
  have hl := reach_lt h p hp
  refine ⟨(reachT ts).idxOf p, List.idxOf_lt_length_iff.2 hp, hb, hl, ?_, fun t u ht hu => ?_⟩
  · unfold walkL
    rw [trim_valid h, if_pos rfl, walk_trim h, e]
    rfl
  · obtain ⟨l, h1, _⟩ := (trim_sims h).turn p hp t ht
    rw [h1] at hu
    obtain rfl := Option.some.inj hu
    exact ⟨rfl, rfl⟩
theorem walk_miss {ts : List TurnL} (h : locB ts = true) {ls : List Str} (e : walkT ts 0 ls = none) : walkL (trimT ts) ls = none := by
  unfold walkL
  rw [trim_valid h, if_pos rfl, walk_trim h, e]
  rfl
theorem reachL_trim {ts : List TurnL} (h : locB ts = true) : (rowI (reachL (trimT ts))).length = (reachT ts).length := by
  rw [rowI_len, reachL_eq (trim_valid h), reach_trim h, List.length_range]
end Go.Proofs.YtiofpeckcfdilaaGreatDoor
