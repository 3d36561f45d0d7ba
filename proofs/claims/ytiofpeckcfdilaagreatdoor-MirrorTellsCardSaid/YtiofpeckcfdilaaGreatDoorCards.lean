/-
  DERIVED. GIVEN WITH THE SEED: THE CARDS: each row of YtiofpeckcfdilaaGreatDoorRows.lean that lists a variable, with what it lists TIED to the program's text (the seventh form; the later family's looks); each row that meets fmt, with fmt's text TOLD by the authors' own Lean function (tested against real Go, not proved from fmt's source: count such statements apart). THE CARD IS WHAT COUNTS. Prove the row's statement (the work); the ties are given (YtiofpeckcfdilaaGreatDoorTie.lean); close each card by the builder's one call (the guide's Derived/Test/ToyasCard.lean, 'card_holds'). Laid BY PROGRAM, IN A SANDBOX (cutbox-door.mjs). By AI agents, Wed Nov 11 2026. No macro, syntax, notation, axiom, sorry.
-/
import Derived.Test.YtiofpeckcfdilaaGreatDoorRows
import GoSem.ClaimSeven
namespace Go.Proofs.YtiofpeckcfdilaaGreatDoor
namespace Rows

/-- THE TIED CARD OF 'reparteelaw12.MirrorTells'. -/
def mirrorTellsCard : Claim7 := { stood := { row := mirrorTellsRow, standIns := [], harness := (true, "b8a95d203c27d90b64d3559653369418d340965cf52ffd96ceae6471d247e550"), looks := false }, kinds := [], alts := [], laidByText := true, laidKinds := [.data, .data, .data], laidTests := true, laidLooks := .later }
def MirrorTellsCardSaid : Prop := Claim7.holds Tryz.pinned (.plain (OpenSpec.ofChange mirrorTellsSpec)) mirrorTellsCard

/-- THE TIED CARD OF 'reparteelaw12.MirrorLifts'. -/
def mirrorLiftsCard : Claim7 := { stood := { row := mirrorLiftsRow, standIns := [], harness := (true, "b8a95d203c27d90b64d3559653369418d340965cf52ffd96ceae6471d247e550"), looks := false }, kinds := [], alts := [], laidByText := true, laidKinds := [.data, .data, .data], laidTests := true, laidLooks := .later }
def MirrorLiftsCardSaid : Prop := Claim7.holds Tryz.pinned (.plain (OpenSpec.ofChange mirrorLiftsSpec)) mirrorLiftsCard

/-- THE TIED CARD OF 'reparteelaw12.MirrorProject'. -/
def mirrorProjectCard : Claim7 := { stood := { row := mirrorProjectRow, standIns := [], harness := (true, "b8a95d203c27d90b64d3559653369418d340965cf52ffd96ceae6471d247e550"), looks := false }, kinds := [], alts := [], laidByText := true, laidKinds := [.data, .data, .data], laidTests := true, laidLooks := .later }
def MirrorProjectCardSaid : Prop := Claim7.holds Tryz.pinned (.plain (OpenSpec.ofChange mirrorProjectSpec)) mirrorProjectCard

/-- THE TIED CARD OF 'reparteelaw12.MirrorRefuses'. -/
def mirrorRefusesCard : Claim7 := { stood := { row := mirrorRefusesRow, standIns := [], harness := (true, "b8a95d203c27d90b64d3559653369418d340965cf52ffd96ceae6471d247e550"), looks := false }, kinds := [], alts := [], laidByText := true, laidKinds := [.data, .data, .data], laidTests := true, laidLooks := .later }
def MirrorRefusesCardSaid : Prop := Claim7.holds Tryz.pinned (.plain (OpenSpec.ofChange mirrorRefusesSpec)) mirrorRefusesCard

/-- THE SECOND FORM's CARD OF 'reparteelaw12.MirrorTells'. -/
def mirrorTellsUptoCard : Claim7 := { stood := { row := mirrorTellsUptoRow, standIns := [], harness := (true, "b8a95d203c27d90b64d3559653369418d340965cf52ffd96ceae6471d247e550"), looks := false }, kinds := [], alts := [], laidByText := true, laidKinds := [.data, .data, .data], laidTests := true, laidLooks := .later }
def MirrorTellsUptoCardSaid : Prop := Claim7.holds Tryz.pinned (.plain (OpenSpec.upto mirrorTellsSpec)) mirrorTellsUptoCard

/-- THE SECOND FORM's CARD OF 'reparteelaw12.MirrorLifts'. -/
def mirrorLiftsUptoCard : Claim7 := { stood := { row := mirrorLiftsUptoRow, standIns := [], harness := (true, "b8a95d203c27d90b64d3559653369418d340965cf52ffd96ceae6471d247e550"), looks := false }, kinds := [], alts := [], laidByText := true, laidKinds := [.data, .data, .data], laidTests := true, laidLooks := .later }
def MirrorLiftsUptoCardSaid : Prop := Claim7.holds Tryz.pinned (.plain (OpenSpec.upto mirrorLiftsSpec)) mirrorLiftsUptoCard

/-- THE SECOND FORM's CARD OF 'reparteelaw12.MirrorProject'. -/
def mirrorProjectUptoCard : Claim7 := { stood := { row := mirrorProjectUptoRow, standIns := [], harness := (true, "b8a95d203c27d90b64d3559653369418d340965cf52ffd96ceae6471d247e550"), looks := false }, kinds := [], alts := [], laidByText := true, laidKinds := [.data, .data, .data], laidTests := true, laidLooks := .later }
def MirrorProjectUptoCardSaid : Prop := Claim7.holds Tryz.pinned (.plain (OpenSpec.upto mirrorProjectSpec)) mirrorProjectUptoCard

/-- THE SECOND FORM's CARD OF 'reparteelaw12.MirrorRefuses'. -/
def mirrorRefusesUptoCard : Claim7 := { stood := { row := mirrorRefusesUptoRow, standIns := [], harness := (true, "b8a95d203c27d90b64d3559653369418d340965cf52ffd96ceae6471d247e550"), looks := false }, kinds := [], alts := [], laidByText := true, laidKinds := [.data, .data, .data], laidTests := true, laidLooks := .later }
def MirrorRefusesUptoCardSaid : Prop := Claim7.holds Tryz.pinned (.plain (OpenSpec.upto mirrorRefusesSpec)) mirrorRefusesUptoCard
end Rows
end Go.Proofs.YtiofpeckcfdilaaGreatDoor
