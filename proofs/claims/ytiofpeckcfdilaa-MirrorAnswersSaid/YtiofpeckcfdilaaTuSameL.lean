/- Contract of the statements' own same: two local types, with their names. -/
import Derived.Test.YtiofpeckcfdilaaTuTrimO
import Derived.Test.YtiofpeckcfdilaaTuSameT
namespace Go.Proofs.Ytiofpeckcfdilaa
open Go.RowKit

end Go.Proofs.Ytiofpeckcfdilaa
