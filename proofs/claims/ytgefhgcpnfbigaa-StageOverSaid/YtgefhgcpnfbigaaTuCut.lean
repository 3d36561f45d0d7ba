/- Contracts of strings.Cut at a dot and of the program's validCarries. -/
import Derived.Test.YtgefhgcpnfbigaaTuRefs
import Derived.Test.YtgefhgcpnfbigaaRef2
import Derived.Test.YtgefhgcpnfbigaaShelf
import Derived.Lib.IndexLaws
namespace Go.Proofs.Ytgefhgcpnfbigaa
open Go.RowKit

theorem dot_ix (l : Str) : (Lib.indexByte l 46 = -1 ∧ dotS l = none) ∨ ∃ k : Nat, k < l.length ∧ Lib.indexByte l 46 = (k : Int) ∧ dotS l = some (l.take k, l.drop (k + 1)) := by
  induction l with
  | nil => exact .inl ⟨rfl, rfl⟩
  | cons c r ih =>
    rw [Lib.indexByte, dotS]
    by_cases hc : c = 46
    · subst hc
      exact .inr ⟨0, by simp, by simp, by simp⟩
    · rw [if_neg (by simpa using hc), if_neg hc]
      rcases ih with ⟨h1, h2⟩ | ⟨k, h1, h2, h3⟩
      · exact .inl ⟨by rw [h1]; rfl, by rw [h2]; rfl⟩
      · refine .inr ⟨k + 1, by rw [List.length_cons]; omega, ?_, ?_⟩
        · rw [h2, if_neg (by rw [beq_iff_eq]; omega)]
          omega
        · rw [h3]
          rfl
/-- What strings.Cut answers at a dot. -/
def cutT (s : ByteArray) : ByteArray × ByteArray × Bool := match dotS s.toList with
  | none => (s, ⟨#[]⟩, false)
  | some p => (s.extract 0 p.1.length, s.extract (p.1.length + 1) s.size, true)
theorem cutT_type (s : ByteArray) : typeB s.toList = (may (cutT s).1.toList && (!(cutT s).2.2 || may (cutT s).2.1.toList)) := by
  unfold cutT
  rcases dot_ix s.toList with ⟨_, h⟩ | ⟨k, hk, _, h⟩
  · rw [h, dot_none h]
    simp
  · rw [h, dot_some h]
    have hl : (s.toList.take k).length = k := by rw [List.length_take]; omega
    dsimp only
    rw [hl, head_list, tail_list]
    simp
theorem cutT_small {s : ByteArray} (hs : s.size ≤ maxLen) : (cutT s).1.size ≤ maxLen ∧ (cutT s).2.1.size ≤ maxLen := by
  unfold cutT
  rcases dotS s.toList with _ | p
  · exact ⟨hs, Nat.zero_le _⟩
  · dsimp only
    constructor <;> (rw [ByteArray.size_extract]; omega)
end Go.Proofs.Ytgefhgcpnfbigaa
