/- The library's contracts at this translation: the shelf's theorems applied to this program's numbers, in plain words (made with the kit's lay-shelf and lay-plain). -/
import Derived.Shelf.Lay
import Derived.Shelf.LaySoft

import Derived.Test.YtpjocacepafneaaProg
namespace Go.Proofs
open Go.Shelf
shelf_tried
end Go.Proofs
