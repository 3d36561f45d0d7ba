/- The sort library, for what this seat has none of. -/
import Derived.Sort.LotA
import Derived.Sort.Grow
import Derived.Sort.Statements
import Derived.Shelf.SlSortCmp.Insertion
import Derived.Shelf.GgSortFunc.RowK
import Derived.Test.YtpjocacepafneaaProg
namespace Go.Proofs
end Go.Proofs
