/- Contract of the reference's LocalWalk. -/
import Derived.Test.YtiofpeckcfdilaaGreatDoorTuRows
namespace Go.Proofs.YtiofpeckcfdilaaGreatDoor
open Go.RowKit

/-- LocalWalk's answer. -/
def walkL (ts : List TurnL) (ls : List Str) : Option Nat := if locB ts then walkT ts 0 ls else none
end Go.Proofs.YtiofpeckcfdilaaGreatDoor
