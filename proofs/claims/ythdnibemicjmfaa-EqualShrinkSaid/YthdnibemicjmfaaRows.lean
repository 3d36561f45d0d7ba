/-
  No cell of these rows narrows 'for every input' (looked for: loops, veiled, ifaces, maps, wideKeys, modest, calm, conditions, laid).
  DERIVED. THE GIVEN ROWS OF THIS SEAT. 5 by the template 'for every input the law returns true; each argument reads behind the call as it read before'; 0 by the template 'total and deterministic' (their statements: YthdnibemicjmfaaTotals.lean).
  GIVEN WITH THE SEED: the statements are not yours to turn. If you find one false, say at which input.
  Laid BY PROGRAM, IN A SANDBOX (cutbox-rows.mjs): the forced cells as the released guide's own fill.sh prints them over the translation b3ece1b6d825b085… (all of the seat's roots in one cut). By AI agents, Wed Nov 11 2026. No macro, syntax, notation, axiom, sorry.
-/
import Derived.Test.YthdnibemicjmfaaChecked
import GoSem.Claim
import GoSem.ClaimJoined
import GoSem.ClaimMapViews
import Derived.JoinedTies
import Derived.KernelRfl
namespace Go.Proofs.Ythdnibemicjmfaa
/- THE CELL 'sum', in the pinned program and in every row, IS THE sha256 OF THE DUMP (.gsa) THAT YthdnibemicjmfaaProg.lean LOADS. Nothing in Lean hashes anything: it is a label: what it is worth is what the hold of that sum in a sandbox is worth. -/
noncomputable def Try.pinned : Pinned := { name := "ythdnibemicjmfaa", sum := "b3ece1b6d825b085c60bed1dc5c00b268b9a51813b156a0d97e0eb4006e1bd79", checked := Try.checked }
namespace Rows
def none {H : Type} : Left H := { results := [], args := [] }

/-- 'reparteelaw10.EqualTells': WHATEVER THE INPUT: true; the input reads as it did. -/
def equalTellsSpec : ChangeSpec := { name := "equalTells", fn := fun _ => fun
  | [d1, d2, d3, d4] => { results := [.lit (.bool true)], args := [d1, d2, d3, d4] }
  | _ => none }
def equalTellsRow : OpenClaim := { program := "ythdnibemicjmfaa", sum := "b3ece1b6d825b085c60bed1dc5c00b268b9a51813b156a0d97e0eb4006e1bd79", func := "repartee/reparteelaw10.EqualTells", spec := "equalTells", unfollowed := true, recurses := true, apart := false }
def EqualTellsSaid : Prop := equalTellsRow.holds Try.pinned (OpenSpec.ofChange equalTellsSpec)

/-- ITS FALSE NEIGHBOUR: 'it returns false'. Refute it at one input. -/
def equalTellsWrong : ChangeSpec := { name := "equalTells", fn := fun _ => fun
  | [d1, d2, d3, d4] => { results := [.lit (.bool false)], args := [d1, d2, d3, d4] }
  | _ => none }
def EqualTellsWrongFalsely : Prop := equalTellsRow.holds Try.pinned (OpenSpec.ofChange equalTellsWrong)

/-- 'reparteelaw10.EqualRow': WHATEVER THE INPUT: true; the input reads as it did. -/
def equalRowSpec : ChangeSpec := { name := "equalRow", fn := fun _ => fun
  | [d1, d2, d3, d4] => { results := [.lit (.bool true)], args := [d1, d2, d3, d4] }
  | _ => none }
def equalRowRow : OpenClaim := { program := "ythdnibemicjmfaa", sum := "b3ece1b6d825b085c60bed1dc5c00b268b9a51813b156a0d97e0eb4006e1bd79", func := "repartee/reparteelaw10.EqualRow", spec := "equalRow", unfollowed := true, recurses := true, apart := false }
def EqualRowSaid : Prop := equalRowRow.holds Try.pinned (OpenSpec.ofChange equalRowSpec)

/-- ITS FALSE NEIGHBOUR: 'it returns false'. Refute it at one input. -/
def equalRowWrong : ChangeSpec := { name := "equalRow", fn := fun _ => fun
  | [d1, d2, d3, d4] => { results := [.lit (.bool false)], args := [d1, d2, d3, d4] }
  | _ => none }
def EqualRowWrongFalsely : Prop := equalRowRow.holds Try.pinned (OpenSpec.ofChange equalRowWrong)

/-- 'reparteelaw10.EqualWalks': WHATEVER THE INPUT: true; the input reads as it did. -/
def equalWalksSpec : ChangeSpec := { name := "equalWalks", fn := fun _ => fun
  | [d1, d2, d3, d4] => { results := [.lit (.bool true)], args := [d1, d2, d3, d4] }
  | _ => none }
def equalWalksRow : OpenClaim := { program := "ythdnibemicjmfaa", sum := "b3ece1b6d825b085c60bed1dc5c00b268b9a51813b156a0d97e0eb4006e1bd79", func := "repartee/reparteelaw10.EqualWalks", spec := "equalWalks", unfollowed := true, recurses := true, apart := false }
def EqualWalksSaid : Prop := equalWalksRow.holds Try.pinned (OpenSpec.ofChange equalWalksSpec)

/-- ITS FALSE NEIGHBOUR: 'it returns false'. Refute it at one input. -/
def equalWalksWrong : ChangeSpec := { name := "equalWalks", fn := fun _ => fun
  | [d1, d2, d3, d4] => { results := [.lit (.bool false)], args := [d1, d2, d3, d4] }
  | _ => none }
def EqualWalksWrongFalsely : Prop := equalWalksRow.holds Try.pinned (OpenSpec.ofChange equalWalksWrong)

/-- 'reparteelaw10.EqualShrink': WHATEVER THE INPUT: true; the input reads as it did. -/
def equalShrinkSpec : ChangeSpec := { name := "equalShrink", fn := fun _ => fun
  | [d1, d2] => { results := [.lit (.bool true)], args := [d1, d2] }
  | _ => none }
def equalShrinkRow : OpenClaim := { program := "ythdnibemicjmfaa", sum := "b3ece1b6d825b085c60bed1dc5c00b268b9a51813b156a0d97e0eb4006e1bd79", func := "repartee/reparteelaw10.EqualShrink", spec := "equalShrink", unfollowed := true, recurses := true, apart := false }
def EqualShrinkSaid : Prop := equalShrinkRow.holds Try.pinned (OpenSpec.ofChange equalShrinkSpec)

/-- ITS FALSE NEIGHBOUR: 'it returns false'. Refute it at one input. -/
def equalShrinkWrong : ChangeSpec := { name := "equalShrink", fn := fun _ => fun
  | [d1, d2] => { results := [.lit (.bool false)], args := [d1, d2] }
  | _ => none }
def EqualShrinkWrongFalsely : Prop := equalShrinkRow.holds Try.pinned (OpenSpec.ofChange equalShrinkWrong)

/-- 'reparteelaw10.EqualTwice': WHATEVER THE INPUT: true; the input reads as it did. -/
def equalTwiceSpec : ChangeSpec := { name := "equalTwice", fn := fun _ => fun
  | [d1, d2, d3] => { results := [.lit (.bool true)], args := [d1, d2, d3] }
  | _ => none }
def equalTwiceRow : OpenClaim := { program := "ythdnibemicjmfaa", sum := "b3ece1b6d825b085c60bed1dc5c00b268b9a51813b156a0d97e0eb4006e1bd79", func := "repartee/reparteelaw10.EqualTwice", spec := "equalTwice", unfollowed := true, recurses := true, apart := false }
def EqualTwiceSaid : Prop := equalTwiceRow.holds Try.pinned (OpenSpec.ofChange equalTwiceSpec)

/-- ITS FALSE NEIGHBOUR: 'it returns false'. Refute it at one input. -/
def equalTwiceWrong : ChangeSpec := { name := "equalTwice", fn := fun _ => fun
  | [d1, d2, d3] => { results := [.lit (.bool false)], args := [d1, d2, d3] }
  | _ => none }
def EqualTwiceWrongFalsely : Prop := equalTwiceRow.holds Try.pinned (OpenSpec.ofChange equalTwiceWrong)

/- THE SECOND FORM. 'bulk': how many values and letters a reading holds, each counted each time it is reached (what is shared counts as often as it is met; a slice's spare places count too). A statement '..UptoSaid' is the law's where the arguments, and the package variables that the reading takes, are together of bulk at most 1048576: NARROWER than '..Said'. Prove '..Said' where nothing that the law and all that it calls make is longer than what came in: it says more and counts as full. Else prove '..UptoSaid'. A law counts once. -/
mutual
def uptoBulk {H : Type} : DataW H → Nat
  | .lit (.string bytes) => bytes.length + 1
  | .lit _ => 1
  | .nil => 1
  | .ptr d => uptoBulk d + 1
  | .slice elems spare => uptoBulkAll elems + uptoBulkAll spare + 1
  | .agg parts => uptoBulkAll parts + 1
  | .iface _ d => uptoBulk d + 1
  | .map entries => uptoBulkEntries entries + 1
  | .held _ => 1
def uptoBulkAll {H : Type} : List (DataW H) → Nat
  | [] => 0
  | d :: r => uptoBulk d + uptoBulkAll r
def uptoBulkEntries {H : Type} : List (Lit × DataW H) → Nat
  | [] => 0
  | x :: r => uptoBulkEntry x + uptoBulkEntries r
def uptoBulkEntry {H : Type} : Lit × DataW H → Nat
  | (.string bytes, d) => bytes.length + uptoBulk d + 1
  | (_, d) => uptoBulk d + 1
 end
def uptoSmall : (H : Type) → List (DataW H) → Bool := fun _ ds => decide (uptoBulkAll ds ≤ 1048576)
def OpenSpec.upto (s : _root_.Go.ChangeSpec) : _root_.Go.OpenSpec := { _root_.Go.OpenSpec.ofChange s with cond := some uptoSmall }

/-- 'reparteelaw10.EqualTells', WHERE WHAT IT READS IS OF BULK AT MOST 1048576: true; the input reads as it did. -/
def equalTellsUptoRow : OpenClaim := { program := "ythdnibemicjmfaa", sum := "b3ece1b6d825b085c60bed1dc5c00b268b9a51813b156a0d97e0eb4006e1bd79", func := "repartee/reparteelaw10.EqualTells", spec := "equalTells", unfollowed := true, recurses := true, apart := false, narrowed := true }
def EqualTellsUptoSaid : Prop := equalTellsUptoRow.holds Try.pinned (OpenSpec.upto equalTellsSpec)

/-- 'reparteelaw10.EqualRow', WHERE WHAT IT READS IS OF BULK AT MOST 1048576: true; the input reads as it did. -/
def equalRowUptoRow : OpenClaim := { program := "ythdnibemicjmfaa", sum := "b3ece1b6d825b085c60bed1dc5c00b268b9a51813b156a0d97e0eb4006e1bd79", func := "repartee/reparteelaw10.EqualRow", spec := "equalRow", unfollowed := true, recurses := true, apart := false, narrowed := true }
def EqualRowUptoSaid : Prop := equalRowUptoRow.holds Try.pinned (OpenSpec.upto equalRowSpec)

/-- 'reparteelaw10.EqualWalks', WHERE WHAT IT READS IS OF BULK AT MOST 1048576: true; the input reads as it did. -/
def equalWalksUptoRow : OpenClaim := { program := "ythdnibemicjmfaa", sum := "b3ece1b6d825b085c60bed1dc5c00b268b9a51813b156a0d97e0eb4006e1bd79", func := "repartee/reparteelaw10.EqualWalks", spec := "equalWalks", unfollowed := true, recurses := true, apart := false, narrowed := true }
def EqualWalksUptoSaid : Prop := equalWalksUptoRow.holds Try.pinned (OpenSpec.upto equalWalksSpec)

/-- 'reparteelaw10.EqualShrink', WHERE WHAT IT READS IS OF BULK AT MOST 1048576: true; the input reads as it did. -/
def equalShrinkUptoRow : OpenClaim := { program := "ythdnibemicjmfaa", sum := "b3ece1b6d825b085c60bed1dc5c00b268b9a51813b156a0d97e0eb4006e1bd79", func := "repartee/reparteelaw10.EqualShrink", spec := "equalShrink", unfollowed := true, recurses := true, apart := false, narrowed := true }
def EqualShrinkUptoSaid : Prop := equalShrinkUptoRow.holds Try.pinned (OpenSpec.upto equalShrinkSpec)

/-- 'reparteelaw10.EqualTwice', WHERE WHAT IT READS IS OF BULK AT MOST 1048576: true; the input reads as it did. -/
def equalTwiceUptoRow : OpenClaim := { program := "ythdnibemicjmfaa", sum := "b3ece1b6d825b085c60bed1dc5c00b268b9a51813b156a0d97e0eb4006e1bd79", func := "repartee/reparteelaw10.EqualTwice", spec := "equalTwice", unfollowed := true, recurses := true, apart := false, narrowed := true }
def EqualTwiceUptoSaid : Prop := equalTwiceUptoRow.holds Try.pinned (OpenSpec.upto equalTwiceSpec)

end Rows
end Go.Proofs.Ythdnibemicjmfaa
