/- Contract of the program's fits. -/
import Derived.Test.YtnanfmmafmcchaaGreatDoorLxOwnK
namespace Go.Proofs.YtnanfmmafmcchaaGreatDoor
open Go.RowKit

end Go.Proofs.YtnanfmmafmcchaaGreatDoor
