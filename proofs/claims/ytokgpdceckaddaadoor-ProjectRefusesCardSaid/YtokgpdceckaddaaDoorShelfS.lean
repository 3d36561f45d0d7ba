/- This seat sorts no structs. -/
import Derived.Shelf.SlSortCmp.NoneTotal
import Derived.Test.YtokgpdceckaddaaDoorProg
namespace Go.Proofs.YtokgpdceckaddaaDoor
end Go.Proofs.YtokgpdceckaddaaDoor
