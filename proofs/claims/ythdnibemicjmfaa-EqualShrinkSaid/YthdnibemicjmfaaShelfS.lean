/- Nothing of slices.SortFunc is wanted here. -/
import Derived.Shelf.SlSortCmp.NoneTotal
import Derived.Test.YthdnibemicjmfaaProg
namespace Go.Proofs.Ythdnibemicjmfaa
end Go.Proofs.Ythdnibemicjmfaa
