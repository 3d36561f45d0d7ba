/-
  No cell of these rows narrows 'for every input' (looked for: loops, veiled, ifaces, maps, wideKeys, modest, calm, conditions, laid).
  DERIVED. THE GIVEN ROWS OF THIS SEAT. 7 by the template 'for every input the law returns true; each argument reads behind the call as it read before'; 0 by the template 'total and deterministic' (their statements: YtpjocacepafneaaTotals.lean).
  GIVEN WITH THE SEED: the statements are not yours to turn. If you find one false, say at which input.
  Laid BY PROGRAM, IN A SANDBOX (cutbox-rows.mjs): the forced cells as the released guide's own fill.sh prints them over the translation 42da79ac9ac58e03… (all of the seat's roots in one cut). By AI agents, Wed Nov 11 2026. No macro, syntax, notation, axiom, sorry.
-/
import Derived.Test.YtpjocacepafneaaChecked
import GoSem.Claim
import GoSem.ClaimJoined
import GoSem.ClaimMapViews
import Derived.JoinedTies
import Derived.KernelRfl
namespace Go.Proofs.Ytpjocacepafneaa
/- THE CELL 'sum', in the pinned program and in every row, IS THE sha256 OF THE DUMP (.gsa) THAT YtpjocacepafneaaProg.lean LOADS. Nothing in Lean hashes anything: it is a label: what it is worth is what the hold of that sum in a sandbox is worth. -/
noncomputable def Try.pinned : Pinned := { name := "ytpjocacepafneaa", sum := "42da79ac9ac58e03f4e5319fac38cf143e97efb675deef29c42a3084c6355ece", checked := Try.checked }
namespace Rows
def none {H : Type} : Left H := { results := [], args := [] }

/-- 'reparteelaw10.EqualTells': WHATEVER THE INPUT: true; the input reads as it did. -/
def equalTellsSpec : ChangeSpec := { name := "equalTells", fn := fun _ => fun
  | [d1, d2, d3, d4] => { results := [.lit (.bool true)], args := [d1, d2, d3, d4] }
  | _ => none }
def equalTellsRow : OpenClaim := { program := "ytpjocacepafneaa", sum := "42da79ac9ac58e03f4e5319fac38cf143e97efb675deef29c42a3084c6355ece", func := "repartee/reparteelaw10.EqualTells", spec := "equalTells", unfollowed := true, recurses := true, plainKeys := false, apart := false }
def EqualTellsSaid : Prop := equalTellsRow.holds Try.pinned (OpenSpec.ofChange equalTellsSpec)

/-- ITS FALSE NEIGHBOUR: 'it returns false'. Refute it at one input. -/
def equalTellsWrong : ChangeSpec := { name := "equalTells", fn := fun _ => fun
  | [d1, d2, d3, d4] => { results := [.lit (.bool false)], args := [d1, d2, d3, d4] }
  | _ => none }
def EqualTellsWrongFalsely : Prop := equalTellsRow.holds Try.pinned (OpenSpec.ofChange equalTellsWrong)

/-- 'reparteelaw10.EqualTwice': WHATEVER THE INPUT: true; the input reads as it did. -/
def equalTwiceSpec : ChangeSpec := { name := "equalTwice", fn := fun _ => fun
  | [d1, d2, d3] => { results := [.lit (.bool true)], args := [d1, d2, d3] }
  | _ => none }
def equalTwiceRow : OpenClaim := { program := "ytpjocacepafneaa", sum := "42da79ac9ac58e03f4e5319fac38cf143e97efb675deef29c42a3084c6355ece", func := "repartee/reparteelaw10.EqualTwice", spec := "equalTwice", unfollowed := true, recurses := true, plainKeys := false, apart := false }
def EqualTwiceSaid : Prop := equalTwiceRow.holds Try.pinned (OpenSpec.ofChange equalTwiceSpec)

/-- ITS FALSE NEIGHBOUR: 'it returns false'. Refute it at one input. -/
def equalTwiceWrong : ChangeSpec := { name := "equalTwice", fn := fun _ => fun
  | [d1, d2, d3] => { results := [.lit (.bool false)], args := [d1, d2, d3] }
  | _ => none }
def EqualTwiceWrongFalsely : Prop := equalTwiceRow.holds Try.pinned (OpenSpec.ofChange equalTwiceWrong)

/-- 'reparteelaw11.UnderRow': WHATEVER THE INPUT: true; the input reads as it did. -/
def underRowSpec : ChangeSpec := { name := "underRow", fn := fun _ => fun
  | [d1, d2, d3, d4] => { results := [.lit (.bool true)], args := [d1, d2, d3, d4] }
  | _ => none }
def underRowRow : OpenClaim := { program := "ytpjocacepafneaa", sum := "42da79ac9ac58e03f4e5319fac38cf143e97efb675deef29c42a3084c6355ece", func := "repartee/reparteelaw11.UnderRow", spec := "underRow", plainKeys := false, apart := false }
def UnderRowSaid : Prop := underRowRow.holds Try.pinned (OpenSpec.ofChange underRowSpec)

/-- ITS FALSE NEIGHBOUR: 'it returns false'. Refute it at one input. -/
def underRowWrong : ChangeSpec := { name := "underRow", fn := fun _ => fun
  | [d1, d2, d3, d4] => { results := [.lit (.bool false)], args := [d1, d2, d3, d4] }
  | _ => none }
def UnderRowWrongFalsely : Prop := underRowRow.holds Try.pinned (OpenSpec.ofChange underRowWrong)

/-- 'reparteelaw11.UnderEqual': WHATEVER THE INPUT: true; the input reads as it did. -/
def underEqualSpec : ChangeSpec := { name := "underEqual", fn := fun _ => fun
  | [d1, d2, d3, d4] => { results := [.lit (.bool true)], args := [d1, d2, d3, d4] }
  | _ => none }
def underEqualRow : OpenClaim := { program := "ytpjocacepafneaa", sum := "42da79ac9ac58e03f4e5319fac38cf143e97efb675deef29c42a3084c6355ece", func := "repartee/reparteelaw11.UnderEqual", spec := "underEqual", unfollowed := true, recurses := true, plainKeys := false, apart := false }
def UnderEqualSaid : Prop := underEqualRow.holds Try.pinned (OpenSpec.ofChange underEqualSpec)

/-- ITS FALSE NEIGHBOUR: 'it returns false'. Refute it at one input. -/
def underEqualWrong : ChangeSpec := { name := "underEqual", fn := fun _ => fun
  | [d1, d2, d3, d4] => { results := [.lit (.bool false)], args := [d1, d2, d3, d4] }
  | _ => none }
def UnderEqualWrongFalsely : Prop := underEqualRow.holds Try.pinned (OpenSpec.ofChange underEqualWrong)

/-- 'reparteelaw11.UnderPairs': WHATEVER THE INPUT: true; the input reads as it did. -/
def underPairsSpec : ChangeSpec := { name := "underPairs", fn := fun _ => fun
  | [d1, d2, d3, d4] => { results := [.lit (.bool true)], args := [d1, d2, d3, d4] }
  | _ => none }
def underPairsRow : OpenClaim := { program := "ytpjocacepafneaa", sum := "42da79ac9ac58e03f4e5319fac38cf143e97efb675deef29c42a3084c6355ece", func := "repartee/reparteelaw11.UnderPairs", spec := "underPairs", plainKeys := false, apart := false }
def UnderPairsSaid : Prop := underPairsRow.holds Try.pinned (OpenSpec.ofChange underPairsSpec)

/-- ITS FALSE NEIGHBOUR: 'it returns false'. Refute it at one input. -/
def underPairsWrong : ChangeSpec := { name := "underPairs", fn := fun _ => fun
  | [d1, d2, d3, d4] => { results := [.lit (.bool false)], args := [d1, d2, d3, d4] }
  | _ => none }
def UnderPairsWrongFalsely : Prop := underPairsRow.holds Try.pinned (OpenSpec.ofChange underPairsWrong)

/-- 'reparteelaw11.UnderSteps': WHATEVER THE INPUT: true; the input reads as it did. -/
def underStepsSpec : ChangeSpec := { name := "underSteps", fn := fun _ => fun
  | [d1, d2, d3, d4] => { results := [.lit (.bool true)], args := [d1, d2, d3, d4] }
  | _ => none }
def underStepsRow : OpenClaim := { program := "ytpjocacepafneaa", sum := "42da79ac9ac58e03f4e5319fac38cf143e97efb675deef29c42a3084c6355ece", func := "repartee/reparteelaw11.UnderSteps", spec := "underSteps", plainKeys := false, apart := false }
def UnderStepsSaid : Prop := underStepsRow.holds Try.pinned (OpenSpec.ofChange underStepsSpec)

/-- ITS FALSE NEIGHBOUR: 'it returns false'. Refute it at one input. -/
def underStepsWrong : ChangeSpec := { name := "underSteps", fn := fun _ => fun
  | [d1, d2, d3, d4] => { results := [.lit (.bool false)], args := [d1, d2, d3, d4] }
  | _ => none }
def UnderStepsWrongFalsely : Prop := underStepsRow.holds Try.pinned (OpenSpec.ofChange underStepsWrong)

/-- 'reparteelaw11.UnderFewer': WHATEVER THE INPUT: true; the input reads as it did. -/
def underFewerSpec : ChangeSpec := { name := "underFewer", fn := fun _ => fun
  | [d1, d2, d3] => { results := [.lit (.bool true)], args := [d1, d2, d3] }
  | _ => none }
def underFewerRow : OpenClaim := { program := "ytpjocacepafneaa", sum := "42da79ac9ac58e03f4e5319fac38cf143e97efb675deef29c42a3084c6355ece", func := "repartee/reparteelaw11.UnderFewer", spec := "underFewer", plainKeys := false, apart := false }
def UnderFewerSaid : Prop := underFewerRow.holds Try.pinned (OpenSpec.ofChange underFewerSpec)

/-- ITS FALSE NEIGHBOUR: 'it returns false'. Refute it at one input. -/
def underFewerWrong : ChangeSpec := { name := "underFewer", fn := fun _ => fun
  | [d1, d2, d3] => { results := [.lit (.bool false)], args := [d1, d2, d3] }
  | _ => none }
def UnderFewerWrongFalsely : Prop := underFewerRow.holds Try.pinned (OpenSpec.ofChange underFewerWrong)

/- THE SECOND FORM. 'bulk': how many values and letters a reading holds, each counted each time it is reached (what is shared counts as often as it is met; a slice's spare places count too). A statement '..UptoSaid' is the law's where the arguments, and the package variables that the reading takes, are together of bulk at most 1048576: NARROWER than '..Said'. Prove '..Said' where nothing that the law and all that it calls make is longer than what came in: it says more and counts as full. Else prove '..UptoSaid'. A law counts once. -/
mutual
def uptoBulk {H : Type} : DataW H → Nat
  | .lit (.string bytes) => bytes.length + 1
  | .lit _ => 1
  | .nil => 1
  | .ptr d => uptoBulk d + 1
  | .slice elems spare => uptoBulkAll elems + uptoBulkAll spare + 1
  | .agg parts => uptoBulkAll parts + 1
  | .iface _ d => uptoBulk d + 1
  | .map entries => uptoBulkEntries entries + 1
  | .held _ => 1
def uptoBulkAll {H : Type} : List (DataW H) → Nat
  | [] => 0
  | d :: r => uptoBulk d + uptoBulkAll r
def uptoBulkEntries {H : Type} : List (Lit × DataW H) → Nat
  | [] => 0
  | x :: r => uptoBulkEntry x + uptoBulkEntries r
def uptoBulkEntry {H : Type} : Lit × DataW H → Nat
  | (.string bytes, d) => bytes.length + uptoBulk d + 1
  | (_, d) => uptoBulk d + 1
 end
def uptoSmall : (H : Type) → List (DataW H) → Bool := fun _ ds => decide (uptoBulkAll ds ≤ 1048576)
def OpenSpec.upto (s : _root_.Go.ChangeSpec) : _root_.Go.OpenSpec := { _root_.Go.OpenSpec.ofChange s with cond := some uptoSmall }

/-- 'reparteelaw10.EqualTells', WHERE WHAT IT READS IS OF BULK AT MOST 1048576: true; the input reads as it did. -/
def equalTellsUptoRow : OpenClaim := { program := "ytpjocacepafneaa", sum := "42da79ac9ac58e03f4e5319fac38cf143e97efb675deef29c42a3084c6355ece", func := "repartee/reparteelaw10.EqualTells", spec := "equalTells", unfollowed := true, recurses := true, plainKeys := false, apart := false, narrowed := true }
def EqualTellsUptoSaid : Prop := equalTellsUptoRow.holds Try.pinned (OpenSpec.upto equalTellsSpec)

/-- 'reparteelaw10.EqualTwice', WHERE WHAT IT READS IS OF BULK AT MOST 1048576: true; the input reads as it did. -/
def equalTwiceUptoRow : OpenClaim := { program := "ytpjocacepafneaa", sum := "42da79ac9ac58e03f4e5319fac38cf143e97efb675deef29c42a3084c6355ece", func := "repartee/reparteelaw10.EqualTwice", spec := "equalTwice", unfollowed := true, recurses := true, plainKeys := false, apart := false, narrowed := true }
def EqualTwiceUptoSaid : Prop := equalTwiceUptoRow.holds Try.pinned (OpenSpec.upto equalTwiceSpec)

/-- 'reparteelaw11.UnderRow', WHERE WHAT IT READS IS OF BULK AT MOST 1048576: true; the input reads as it did. -/
def underRowUptoRow : OpenClaim := { program := "ytpjocacepafneaa", sum := "42da79ac9ac58e03f4e5319fac38cf143e97efb675deef29c42a3084c6355ece", func := "repartee/reparteelaw11.UnderRow", spec := "underRow", plainKeys := false, apart := false, narrowed := true }
def UnderRowUptoSaid : Prop := underRowUptoRow.holds Try.pinned (OpenSpec.upto underRowSpec)

/-- 'reparteelaw11.UnderEqual', WHERE WHAT IT READS IS OF BULK AT MOST 1048576: true; the input reads as it did. -/
def underEqualUptoRow : OpenClaim := { program := "ytpjocacepafneaa", sum := "42da79ac9ac58e03f4e5319fac38cf143e97efb675deef29c42a3084c6355ece", func := "repartee/reparteelaw11.UnderEqual", spec := "underEqual", unfollowed := true, recurses := true, plainKeys := false, apart := false, narrowed := true }
def UnderEqualUptoSaid : Prop := underEqualUptoRow.holds Try.pinned (OpenSpec.upto underEqualSpec)

/-- 'reparteelaw11.UnderPairs', WHERE WHAT IT READS IS OF BULK AT MOST 1048576: true; the input reads as it did. -/
def underPairsUptoRow : OpenClaim := { program := "ytpjocacepafneaa", sum := "42da79ac9ac58e03f4e5319fac38cf143e97efb675deef29c42a3084c6355ece", func := "repartee/reparteelaw11.UnderPairs", spec := "underPairs", plainKeys := false, apart := false, narrowed := true }
def UnderPairsUptoSaid : Prop := underPairsUptoRow.holds Try.pinned (OpenSpec.upto underPairsSpec)

/-- 'reparteelaw11.UnderSteps', WHERE WHAT IT READS IS OF BULK AT MOST 1048576: true; the input reads as it did. -/
def underStepsUptoRow : OpenClaim := { program := "ytpjocacepafneaa", sum := "42da79ac9ac58e03f4e5319fac38cf143e97efb675deef29c42a3084c6355ece", func := "repartee/reparteelaw11.UnderSteps", spec := "underSteps", plainKeys := false, apart := false, narrowed := true }
def UnderStepsUptoSaid : Prop := underStepsUptoRow.holds Try.pinned (OpenSpec.upto underStepsSpec)

/-- 'reparteelaw11.UnderFewer', WHERE WHAT IT READS IS OF BULK AT MOST 1048576: true; the input reads as it did. -/
def underFewerUptoRow : OpenClaim := { program := "ytpjocacepafneaa", sum := "42da79ac9ac58e03f4e5319fac38cf143e97efb675deef29c42a3084c6355ece", func := "repartee/reparteelaw11.UnderFewer", spec := "underFewer", plainKeys := false, apart := false, narrowed := true }
def UnderFewerUptoSaid : Prop := underFewerUptoRow.holds Try.pinned (OpenSpec.upto underFewerSpec)

end Rows
end Go.Proofs.Ytpjocacepafneaa
