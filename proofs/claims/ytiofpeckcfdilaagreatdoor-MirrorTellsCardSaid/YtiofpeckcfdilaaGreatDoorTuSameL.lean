/- Contract of the statements' own same: two local types, with their names. -/
import Derived.Test.YtiofpeckcfdilaaGreatDoorTuTrimO
import Derived.Test.YtiofpeckcfdilaaGreatDoorTuSameT
namespace Go.Proofs.YtiofpeckcfdilaaGreatDoor
open Go.RowKit

end Go.Proofs.YtiofpeckcfdilaaGreatDoor
