/- Contract of the program's Trim. -/
import Derived.Test.YtgefhgcpnfbigaaTuSearchs
import Derived.Test.YtgefhgcpnfbigaaTuTrim
import Derived.Test.YtgefhgcpnfbigaaTuRows
import Derived.Deep.Onto
namespace Go.Proofs.Ytgefhgcpnfbigaa
open Go.RowKit

theorem trimL_few (ts : List TurnL) : (trimL ts).length ≤ 40 := by
  unfold trimL
  cases hv : locB ts
  · simp
  · rw [if_pos rfl]
    unfold trimT
    rw [List.length_map]
    have := reach_few hv
    have := (locB_one hv).2.1
    omega
end Go.Proofs.Ytgefhgcpnfbigaa
