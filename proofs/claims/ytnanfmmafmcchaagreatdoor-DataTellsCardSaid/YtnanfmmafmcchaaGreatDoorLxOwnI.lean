/- Contract of the program's mayNegate. -/
import Derived.Test.YtnanfmmafmcchaaGreatDoorLxOwnH
namespace Go.Proofs.YtnanfmmafmcchaaGreatDoor
open Go.RowKit

/-- May a minus behind this token begin a number? (The kind as an int.) -/
def negI (k : Int) (t : Str) : Bool := if k == 0 then isKw t else if k == 3 then t != [41] else false
theorem negI_ends {k : Nat} {t : Str} (h : k ≤ 3) : negI k t = !endsT k t := by
  unfold negI endsT
  rcases (show k = 0 ∨ k = 1 ∨ k = 2 ∨ k = 3 by omega) with rfl | rfl | rfl | rfl
  · simp
  · rfl
  · rfl
  · show (t != [41]) = !(true && t == [41])
    rfl

theorem mayNegate_none (a : Option Addr) (c : Nat) (w : World) : Calls Tryz.prog 35 #[.slice a 0 c] w fun e w' => e = .returned (.bool true) ∧ w = w' := by
  go_enter Tryz.func35, Tryz.ntmps35
  go_wp2
  go_ret
  exact ⟨rfl, rfl⟩

set_option maxHeartbeats 2000000 in
theorem mayNegate_last (g o n cap : Nat) (k : Int) (t : ByteArray) (p : Int) (w : World) (hn : n + 1 ≤ cap) (hc : cap ≤ 9223372036854775807)
    (l0 : w.cell? ⟨g, o + n * 3, none⟩ = some (.int .i64 k)) (l1 : w.cell? ⟨g, o + n * 3 + 1, none⟩ = some (.string t)) (l2 : w.cell? ⟨g, o + n * 3 + 2, none⟩ = some (.int .i64 p)) :
    Calls Tryz.prog 35 #[.slice (some ⟨g, o, none⟩) (n + 1) cap] w fun e w' => e = .returned (.bool (negI k t.toList)) ∧ w' = w.alloc (.cells #[.int .i64 k, .string t, .int .i64 p] 41) := by
  cases z0 : (k == 0)
  · cases z3 : (k == 3)
    · have HF := Lib.hid (show false = negI k t.toList by unfold negI; rw [z0, z3]; rfl)
      go_enter Tryz.func35, Tryz.ntmps35
      go_wp2
      go_ret
      exact ⟨ret_bool HF.out, rfl⟩
    · cases z4 : (t.toList == [41])
      all_goals
        have HF := Lib.hid (show (!(t.toList == [41])) = negI k t.toList by unfold negI; rw [z0, z3]; rfl)
        rw [z4] at HF
        go_enter Tryz.func35, Tryz.ntmps35
        go_wp2
        go_ret
        exact ⟨ret_bool HF.out, rfl⟩
  · cases hkw : isKw t.toList
    all_goals
      have ck : ∀ W, Calls Tryz.prog 56 #[.string t] W fun e w' => e = .returned (.bool (isKw t.toList)) ∧ W = w' := fun W => keyword_any t W
      rw [hkw] at ck
      have CK := Lib.hid ck
      have HF := Lib.hid (show isKw t.toList = negI k t.toList by unfold negI; rw [z0]; rfl)
      rw [hkw] at HF
      clear ck hkw
      go_enter Tryz.func35, Tryz.ntmps35
      go_wp2_with (first | (go_at_call 56; (with_reducible refine (CK.out _).mono ?_); rintro e w9 ⟨rfl, rfl⟩) | fail)
      go_ret
      exact ⟨ret_bool HF.out, rfl⟩

theorem tok1_kind {after : Bool} {s : Str} {k : Nat} {t u : Str} (h : tok1 after s = .ok (k, t, u)) : k ≤ 3 := by
  unfold tok1 at h
  split at h
  · cases h
  · split at h
    · injection h with h; simp only [Prod.mk.injEq] at h; omega
    · split at h
      · split at h
        · injection h with h; simp only [Prod.mk.injEq] at h; omega
        · cases h
      · split at h
        · split at h
          · injection h with h; simp only [Prod.mk.injEq] at h; omega
          · cases h
        · split at h
          · cases h
          · injection h with h; simp only [Prod.mk.injEq] at h; omega
end Go.Proofs.YtnanfmmafmcchaaGreatDoor
