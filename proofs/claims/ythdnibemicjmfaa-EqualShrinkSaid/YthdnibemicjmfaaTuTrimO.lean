/- Contract of the program's Trim. -/
import Derived.Test.YthdnibemicjmfaaTuSearchs
import Derived.Test.YthdnibemicjmfaaTuTrim
import Derived.Test.YthdnibemicjmfaaTuRows
import Derived.Deep.Onto
namespace Go.Proofs.Ythdnibemicjmfaa
open Go.RowKit

theorem trimL_few (ts : List TurnL) : (trimL ts).length ≤ 40 := by
  unfold trimL
  cases hv : locB ts
  · simp
  · rw [if_pos rfl]
    unfold trimT
    rw [List.length_map]
    have := reach_few hv
    have := (locB_one hv).2.1
    omega
end Go.Proofs.Ythdnibemicjmfaa
