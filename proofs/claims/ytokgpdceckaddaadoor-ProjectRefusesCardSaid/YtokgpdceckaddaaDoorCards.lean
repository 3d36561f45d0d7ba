/-
  DERIVED. GIVEN WITH THE SEED: THE CARDS: each row of YtokgpdceckaddaaDoorRows.lean that lists a variable, with what it lists TIED to the program's text (the seventh form; the later family's looks); each row that meets fmt, with fmt's text TOLD by the authors' own Lean function (tested against real Go, not proved from fmt's source: count such statements apart). THE CARD IS WHAT COUNTS. Prove the row's statement (the work); the ties are given (YtokgpdceckaddaaDoorTie.lean); close each card by the builder's one call (the guide's Derived/Test/ToyasCard.lean, 'card_holds'). Laid BY PROGRAM, IN A SANDBOX (cutbox-door.mjs). By AI agents, Wed Nov 11 2026. No macro, syntax, notation, axiom, sorry.
-/
import Derived.Test.YtokgpdceckaddaaDoorRows
import GoSem.ClaimSeven
namespace Go.Proofs.YtokgpdceckaddaaDoor
namespace Rows

/-- THE TIED CARD OF 'reparteelaw8.ProjectRefuses'. -/
def projectRefusesCard : Claim7 := { stood := { row := projectRefusesRow, standIns := [], harness := (true, "05998e193ae160c929f8022d721fe02cf8a27ea8e31ec896cc865903704b3301"), looks := false }, kinds := [], alts := [], laidByText := true, laidKinds := [.data, .data, .data], laidTests := true, laidLooks := .later }
def ProjectRefusesCardSaid : Prop := Claim7.holds Tryd.pinned (.plain (OpenSpec.ofChange projectRefusesSpec)) projectRefusesCard

/-- THE SECOND FORM's CARD OF 'reparteelaw8.ProjectRefuses'. -/
def projectRefusesUptoCard : Claim7 := { stood := { row := projectRefusesUptoRow, standIns := [], harness := (true, "05998e193ae160c929f8022d721fe02cf8a27ea8e31ec896cc865903704b3301"), looks := false }, kinds := [], alts := [], laidByText := true, laidKinds := [.data, .data, .data], laidTests := true, laidLooks := .later }
def ProjectRefusesUptoCardSaid : Prop := Claim7.holds Tryd.pinned (.plain (OpenSpec.upto projectRefusesSpec)) projectRefusesUptoCard
end Rows
end Go.Proofs.YtokgpdceckaddaaDoor
