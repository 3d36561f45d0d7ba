/- No contract of a sort is wanted here. -/
import Derived.Sort.LotA
import Derived.Sort.Grow
import Derived.Sort.Statements
import Derived.Shelf.SlSortCmp.Insertion
import Derived.Shelf.GgSortFunc.RowK
import Derived.Test.YtgefhgcpnfbigaaProg
namespace Go.Proofs.Ytgefhgcpnfbigaa
end Go.Proofs.Ytgefhgcpnfbigaa
