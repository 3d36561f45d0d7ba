/- Contracts of the leaves: Keyword, letter, digit, May, of the project and of the reference. -/
import Derived.Test.YtifinfmdjbglhaaDoorChecked
import Derived.Test.YtifinfmdjbglhaaDoorNmPlain
import Derived.WalkKit
import Derived.Below
namespace Go.Proofs.YtifinfmdjbglhaaDoor
open Go.RowKit

theorem isKw_mem {s : Str} {k : Str} (h : (s == k) = true) (hk : kws.contains k = true) : true = isKw s := by
  rw [beq_iff_eq] at h; subst h; exact hk.symm
theorem isKw_not {s : Str} (h : kws.all (fun k => !(s == k)) = true) : false = isKw s := by
  unfold isKw
  cases hc : kws.contains s
  · rfl
  · rw [List.contains_iff_mem] at hc
    have := List.all_eq_true.1 h s hc
    simp at this

set_option maxHeartbeats 2000000 in
set_option maxRecDepth 100000 in
theorem keyword_any (s : ByteArray) (w : World) : Calls Tryd.prog 31 #[.string s] w fun e w' => e = .returned (.bool (isKw s.toList)) ∧ w = w' := by
  go_enter Tryd.func31, Tryd.ntmps31
  go_wp2
  all_goals first
    | (rename_i a b; exact absurd (a.symm.trans b) (by decide))
    | (go_ret; exact ⟨ret_bool (isKw_mem (by assumption) rfl), rfl⟩)
    | (exfalso; simp_all; done)
    | (go_ret; exact ⟨ret_bool (isKw_not (by simp [kws, *])), rfl⟩)

set_option maxHeartbeats 2000000 in
set_option maxRecDepth 100000 in
theorem refKeyword_any (s : ByteArray) (w : World) : Calls Tryd.prog 38 #[.string s] w fun e w' => e = .returned (.bool (isKw s.toList)) ∧ w = w' := by
  go_enter Tryd.func38, Tryd.ntmps38
  go_wp2
  all_goals first
    | (rename_i a b; exact absurd (a.symm.trans b) (by decide))
    | (go_ret; exact ⟨ret_bool (isKw_mem (by assumption) rfl), rfl⟩)
    | (exfalso; simp_all; done)
    | (go_ret; exact ⟨ret_bool (isKw_not (by simp [kws, *])), rfl⟩)

theorem letter_any (n : Int) (w : World) : Calls Tryd.prog 29 #[.int .u8 n] w fun e w' => e = .returned (.bool (isLet n)) ∧ w = w' := by
  by_cases h1 : 97 ≤ n
  · by_cases h2 : n ≤ 122
    · go_enter Tryd.func29, Tryd.ntmps29
      go_wp2
      go_ret
      exact ⟨ret_bool (by simp [isLet, h1, h2]), rfl⟩
    · go_enter Tryd.func29, Tryd.ntmps29
      go_wp2
      go_ret
      exact ⟨ret_bool (by simp [isLet, h1, h2]), rfl⟩
  · go_enter Tryd.func29, Tryd.ntmps29
    go_wp2
    go_ret
    exact ⟨ret_bool (by simp [isLet]; omega), rfl⟩

theorem digit_any (n : Int) (w : World) : Calls Tryd.prog 30 #[.int .u8 n] w fun e w' => e = .returned (.bool (isDig n)) ∧ w = w' := by
  by_cases h1 : 48 ≤ n
  · by_cases h2 : n ≤ 57
    · go_enter Tryd.func30, Tryd.ntmps30
      go_wp2
      go_ret
      exact ⟨ret_bool (by simp [isDig, h1, h2]), rfl⟩
    · go_enter Tryd.func30, Tryd.ntmps30
      go_wp2
      go_ret
      exact ⟨ret_bool (by simp [isDig, h1, h2]), rfl⟩
  · go_enter Tryd.func30, Tryd.ntmps30
    go_wp2
    go_ret
    exact ⟨ret_bool (by simp [isDig]; omega), rfl⟩

theorem refLetter_any (n : Int) (w : World) : Calls Tryd.prog 39 #[.int .u8 n] w fun e w' => e = .returned (.bool (isLet n)) ∧ w = w' := by
  by_cases h1 : 97 ≤ n
  · by_cases h2 : n ≤ 122
    · go_enter Tryd.func39, Tryd.ntmps39
      go_wp2
      go_ret
      exact ⟨ret_bool (by simp [isLet, h1, h2]), rfl⟩
    · go_enter Tryd.func39, Tryd.ntmps39
      go_wp2
      go_ret
      exact ⟨ret_bool (by simp [isLet, h1, h2]), rfl⟩
  · go_enter Tryd.func39, Tryd.ntmps39
    go_wp2
    go_ret
    exact ⟨ret_bool (by simp [isLet]; omega), rfl⟩

theorem refDigit_any (n : Int) (w : World) : Calls Tryd.prog 41 #[.int .u8 n] w fun e w' => e = .returned (.bool (isDig n)) ∧ w = w' := by
  by_cases h1 : 48 ≤ n
  · by_cases h2 : n ≤ 57
    · go_enter Tryd.func41, Tryd.ntmps41
      go_wp2
      go_ret
      exact ⟨ret_bool (by simp [isDig, h1, h2]), rfl⟩
    · go_enter Tryd.func41, Tryd.ntmps41
      go_wp2
      go_ret
      exact ⟨ret_bool (by simp [isDig, h1, h2]), rfl⟩
  · go_enter Tryd.func41, Tryd.ntmps41
    go_wp2
    go_ret
    exact ⟨ret_bool (by simp [isDig]; omega), rfl⟩

end Go.Proofs.YtifinfmdjbglhaaDoor
