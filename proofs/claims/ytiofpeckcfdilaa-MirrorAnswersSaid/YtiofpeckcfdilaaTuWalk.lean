/- Contract of the reference's LocalWalk. -/
import Derived.Test.YtiofpeckcfdilaaTuRows
namespace Go.Proofs.Ytiofpeckcfdilaa
open Go.RowKit

/-- LocalWalk's answer. -/
def walkL (ts : List TurnL) (ls : List Str) : Option Nat := if locB ts then walkT ts 0 ls else none
end Go.Proofs.Ytiofpeckcfdilaa
