/-
  No cell of these rows narrows 'for every input' (looked for: loops, veiled, ifaces, maps, wideKeys, modest, calm, conditions, laid).
  DERIVED. THE GIVEN ROWS OF THIS SEAT. 4 by the template 'for every input the law returns true; each argument reads behind the call as it read before'; 0 by the template 'total and deterministic' (their statements: YtbbdmipfbnfpfaaTotals.lean).
  GIVEN WITH THE SEED: the statements are not yours to turn. If you find one false, say at which input.
  Laid BY PROGRAM, IN A SANDBOX (cutbox-rows.mjs): the forced cells as the released guide's own fill.sh prints them over the translation 839d7130414bc315… (all of the seat's roots in one cut). By AI agents, Wed Nov 11 2026. No macro, syntax, notation, axiom, sorry.
-/
import Derived.Test.YtbbdmipfbnfpfaaChecked
import GoSem.Claim
import GoSem.ClaimJoined
import GoSem.ClaimMapViews
import Derived.JoinedTies
import Derived.KernelRfl
namespace Go.Proofs.Ytbbdmipfbnfpfaa
/- THE CELL 'sum', in the pinned program and in every row, IS THE sha256 OF THE DUMP (.gsa) THAT YtbbdmipfbnfpfaaProg.lean LOADS. Nothing in Lean hashes anything: it is a label: what it is worth is what the hold of that sum in a sandbox is worth. -/
noncomputable def Try.pinned : Pinned := { name := "ytbbdmipfbnfpfaa", sum := "839d7130414bc3156f52da397d9c16657db00f8b0c68144e32183e12329d0c28", checked := Try.checked }
namespace Rows
def none {H : Type} : Left H := { results := [], args := [] }

/-- 'reparteelaw6.TurnsTrim': WHATEVER THE INPUT: true; the input reads as it did. -/
def turnsTrimSpec : ChangeSpec := { name := "turnsTrim", fn := fun _ => fun
  | [d1, d2] => { results := [.lit (.bool true)], args := [d1, d2] }
  | _ => none }
def turnsTrimRow : OpenClaim := { program := "ytbbdmipfbnfpfaa", sum := "839d7130414bc3156f52da397d9c16657db00f8b0c68144e32183e12329d0c28", func := "repartee/reparteelaw6.TurnsTrim", spec := "turnsTrim", inPlace := ["internal/bytealg.IndexByteString", "internal/bytealg.IndexString"], unfollowed := true, recurses := true, named := ["internal/bytealg.MaxLen"], apart := false }
def TurnsTrimSaid : Prop := turnsTrimRow.holds Try.pinned (OpenSpec.ofChange turnsTrimSpec)

/-- ITS FALSE NEIGHBOUR: 'it returns false'. Refute it at one input. -/
def turnsTrimWrong : ChangeSpec := { name := "turnsTrim", fn := fun _ => fun
  | [d1, d2] => { results := [.lit (.bool false)], args := [d1, d2] }
  | _ => none }
def TurnsTrimWrongFalsely : Prop := turnsTrimRow.holds Try.pinned (OpenSpec.ofChange turnsTrimWrong)

/-- 'reparteelaw6.TurnsMixed': WHATEVER THE INPUT: true; the input reads as it did. -/
def turnsMixedSpec : ChangeSpec := { name := "turnsMixed", fn := fun _ => fun
  | [d1, d2] => { results := [.lit (.bool true)], args := [d1, d2] }
  | _ => none }
def turnsMixedRow : OpenClaim := { program := "ytbbdmipfbnfpfaa", sum := "839d7130414bc3156f52da397d9c16657db00f8b0c68144e32183e12329d0c28", func := "repartee/reparteelaw6.TurnsMixed", spec := "turnsMixed", inPlace := ["internal/bytealg.IndexByteString", "internal/bytealg.IndexString"], unfollowed := true, recurses := true, named := ["internal/bytealg.MaxLen"], apart := false }
def TurnsMixedSaid : Prop := turnsMixedRow.holds Try.pinned (OpenSpec.ofChange turnsMixedSpec)

/-- ITS FALSE NEIGHBOUR: 'it returns false'. Refute it at one input. -/
def turnsMixedWrong : ChangeSpec := { name := "turnsMixed", fn := fun _ => fun
  | [d1, d2] => { results := [.lit (.bool false)], args := [d1, d2] }
  | _ => none }
def TurnsMixedWrongFalsely : Prop := turnsMixedRow.holds Try.pinned (OpenSpec.ofChange turnsMixedWrong)

/-- 'reparteelaw6.TurnsWrong': WHATEVER THE INPUT: true; the input reads as it did. -/
def turnsWrongSpec : ChangeSpec := { name := "turnsWrong", fn := fun _ => fun
  | [d1, d2, d3] => { results := [.lit (.bool true)], args := [d1, d2, d3] }
  | _ => none }
def turnsWrongRow : OpenClaim := { program := "ytbbdmipfbnfpfaa", sum := "839d7130414bc3156f52da397d9c16657db00f8b0c68144e32183e12329d0c28", func := "repartee/reparteelaw6.TurnsWrong", spec := "turnsWrong", inPlace := ["internal/bytealg.IndexByteString", "internal/bytealg.IndexString"], unfollowed := true, recurses := true, named := ["internal/bytealg.MaxLen"], apart := false }
def TurnsWrongSaid : Prop := turnsWrongRow.holds Try.pinned (OpenSpec.ofChange turnsWrongSpec)

/-- ITS FALSE NEIGHBOUR: 'it returns false'. Refute it at one input. -/
def turnsWrongWrong : ChangeSpec := { name := "turnsWrong", fn := fun _ => fun
  | [d1, d2, d3] => { results := [.lit (.bool false)], args := [d1, d2, d3] }
  | _ => none }
def TurnsWrongWrongFalsely : Prop := turnsWrongRow.holds Try.pinned (OpenSpec.ofChange turnsWrongWrong)

/-- 'reparteelaw6.TurnsPeers': WHATEVER THE INPUT: true; the input reads as it did. -/
def turnsPeersSpec : ChangeSpec := { name := "turnsPeers", fn := fun _ => fun
  | [d] => { results := [.lit (.bool true)], args := [d] }
  | _ => none }
def turnsPeersRow : OpenClaim := { program := "ytbbdmipfbnfpfaa", sum := "839d7130414bc3156f52da397d9c16657db00f8b0c68144e32183e12329d0c28", func := "repartee/reparteelaw6.TurnsPeers", spec := "turnsPeers", inPlace := ["internal/bytealg.IndexByteString", "internal/bytealg.IndexString"], unfollowed := true, recurses := true, named := ["internal/bytealg.MaxLen"], apart := false }
def TurnsPeersSaid : Prop := turnsPeersRow.holds Try.pinned (OpenSpec.ofChange turnsPeersSpec)

/-- ITS FALSE NEIGHBOUR: 'it returns false'. Refute it at one input. -/
def turnsPeersWrong : ChangeSpec := { name := "turnsPeers", fn := fun _ => fun
  | [d] => { results := [.lit (.bool false)], args := [d] }
  | _ => none }
def TurnsPeersWrongFalsely : Prop := turnsPeersRow.holds Try.pinned (OpenSpec.ofChange turnsPeersWrong)

/- THE SECOND FORM. 'bulk': how many values and letters a reading holds, each counted each time it is reached (what is shared counts as often as it is met; a slice's spare places count too). A statement '..UptoSaid' is the law's where the arguments, and the package variables that the reading takes, are together of bulk at most 1048576: NARROWER than '..Said'. Prove '..Said' where nothing that the law and all that it calls make is longer than what came in: it says more and counts as full. Else prove '..UptoSaid'. A law counts once. -/
mutual
def uptoBulk {H : Type} : DataW H → Nat
  | .lit (.string bytes) => bytes.length + 1
  | .lit _ => 1
  | .nil => 1
  | .ptr d => uptoBulk d + 1
  | .slice elems spare => uptoBulkAll elems + uptoBulkAll spare + 1
  | .agg parts => uptoBulkAll parts + 1
  | .iface _ d => uptoBulk d + 1
  | .map entries => uptoBulkEntries entries + 1
  | .held _ => 1
def uptoBulkAll {H : Type} : List (DataW H) → Nat
  | [] => 0
  | d :: r => uptoBulk d + uptoBulkAll r
def uptoBulkEntries {H : Type} : List (Lit × DataW H) → Nat
  | [] => 0
  | x :: r => uptoBulkEntry x + uptoBulkEntries r
def uptoBulkEntry {H : Type} : Lit × DataW H → Nat
  | (.string bytes, d) => bytes.length + uptoBulk d + 1
  | (_, d) => uptoBulk d + 1
 end
def uptoSmall : (H : Type) → List (DataW H) → Bool := fun _ ds => decide (uptoBulkAll ds ≤ 1048576)
def OpenSpec.upto (s : _root_.Go.ChangeSpec) : _root_.Go.OpenSpec := { _root_.Go.OpenSpec.ofChange s with cond := some uptoSmall }

/-- 'reparteelaw6.TurnsTrim', WHERE WHAT IT READS IS OF BULK AT MOST 1048576: true; the input reads as it did. -/
def turnsTrimUptoRow : OpenClaim := { program := "ytbbdmipfbnfpfaa", sum := "839d7130414bc3156f52da397d9c16657db00f8b0c68144e32183e12329d0c28", func := "repartee/reparteelaw6.TurnsTrim", spec := "turnsTrim", inPlace := ["internal/bytealg.IndexByteString", "internal/bytealg.IndexString"], unfollowed := true, recurses := true, named := ["internal/bytealg.MaxLen"], apart := false, narrowed := true }
def TurnsTrimUptoSaid : Prop := turnsTrimUptoRow.holds Try.pinned (OpenSpec.upto turnsTrimSpec)

/-- 'reparteelaw6.TurnsMixed', WHERE WHAT IT READS IS OF BULK AT MOST 1048576: true; the input reads as it did. -/
def turnsMixedUptoRow : OpenClaim := { program := "ytbbdmipfbnfpfaa", sum := "839d7130414bc3156f52da397d9c16657db00f8b0c68144e32183e12329d0c28", func := "repartee/reparteelaw6.TurnsMixed", spec := "turnsMixed", inPlace := ["internal/bytealg.IndexByteString", "internal/bytealg.IndexString"], unfollowed := true, recurses := true, named := ["internal/bytealg.MaxLen"], apart := false, narrowed := true }
def TurnsMixedUptoSaid : Prop := turnsMixedUptoRow.holds Try.pinned (OpenSpec.upto turnsMixedSpec)

/-- 'reparteelaw6.TurnsWrong', WHERE WHAT IT READS IS OF BULK AT MOST 1048576: true; the input reads as it did. -/
def turnsWrongUptoRow : OpenClaim := { program := "ytbbdmipfbnfpfaa", sum := "839d7130414bc3156f52da397d9c16657db00f8b0c68144e32183e12329d0c28", func := "repartee/reparteelaw6.TurnsWrong", spec := "turnsWrong", inPlace := ["internal/bytealg.IndexByteString", "internal/bytealg.IndexString"], unfollowed := true, recurses := true, named := ["internal/bytealg.MaxLen"], apart := false, narrowed := true }
def TurnsWrongUptoSaid : Prop := turnsWrongUptoRow.holds Try.pinned (OpenSpec.upto turnsWrongSpec)

/-- 'reparteelaw6.TurnsPeers', WHERE WHAT IT READS IS OF BULK AT MOST 1048576: true; the input reads as it did. -/
def turnsPeersUptoRow : OpenClaim := { program := "ytbbdmipfbnfpfaa", sum := "839d7130414bc3156f52da397d9c16657db00f8b0c68144e32183e12329d0c28", func := "repartee/reparteelaw6.TurnsPeers", spec := "turnsPeers", inPlace := ["internal/bytealg.IndexByteString", "internal/bytealg.IndexString"], unfollowed := true, recurses := true, named := ["internal/bytealg.MaxLen"], apart := false, narrowed := true }
def TurnsPeersUptoSaid : Prop := turnsPeersUptoRow.holds Try.pinned (OpenSpec.upto turnsPeersSpec)

end Rows
end Go.Proofs.Ytbbdmipfbnfpfaa
