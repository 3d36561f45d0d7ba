/- Contract of the reference's Put. -/
import Derived.Test.YtgefhgcpnfbigaaRef2
namespace Go.Proofs.Ytgefhgcpnfbigaa
open Go.RowKit Go.Sort

theorem putS_none (s : Str) : putS [] s = [s] := putS_only (by simp [Rises]) (fun x => by simp)
theorem putS_step (l : List Str) (s x : Str) : putS (putS l s) x = putS (l ++ [x]) s := by
  refine putS_only (putS_rises _ _) (fun y => ?_)
  rw [mem_putS, mem_putS, List.mem_append, List.mem_singleton]
  constructor
  · rintro ((h | h) | h)
    · exact .inl (.inl h)
    · exact .inr h
    · exact .inl (.inr h)
  · rintro ((h | h) | h)
    · exact .inl (.inl h)
    · exact .inr h
    · exact .inl (.inr h)
theorem putS_pos (l : List Str) (s : Str) : 0 < (putS l s).length := List.length_pos_of_mem ((mem_putS l s s).2 (.inr rfl))

end Go.Proofs.Ytgefhgcpnfbigaa
