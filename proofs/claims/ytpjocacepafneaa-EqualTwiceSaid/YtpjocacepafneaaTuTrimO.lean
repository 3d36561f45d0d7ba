/- Contract of the program's Trim. -/
import Derived.Test.YtpjocacepafneaaTuSearchs
import Derived.Test.YtpjocacepafneaaTuTrim
import Derived.Test.YtpjocacepafneaaTuRows
import Derived.Deep.Onto
namespace Go.Proofs.Ytpjocacepafneaa
open Go.RowKit

theorem trimL_few (ts : List TurnL) : (trimL ts).length ≤ 40 := by
  unfold trimL
  cases hv : locB ts
  · simp
  · rw [if_pos rfl]
    unfold trimT
    rw [List.length_map]
    have := reach_few hv
    have := (locB_one hv).2.1
    omega
end Go.Proofs.Ytpjocacepafneaa
