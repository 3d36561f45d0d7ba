/- Plain facts on names, as lists of bytes: what a keyword and a name are. No program stands in this text. -/
import Derived.WalkKit
namespace Go.Proofs.YtifinfmdjbglhaaDoor
open Go.RowKit

/-- A string as the list of its bytes. -/
abbrev Str := List UInt8

/-- The 39 keywords, in the order of the document. -/
def kws : List Str := [[97, 110, 100], [97, 115], [97, 116], [98, 111, 111, 108], [99, 97, 108, 108], [99, 104, 97, 110], [100, 114, 111, 112], [101, 108, 115, 101], [101, 109, 112, 116, 121], [101, 110, 100], [102, 97, 105, 108], [102, 97, 108, 115, 101], [102, 114, 111, 109], [104, 101, 97, 114], [105, 102], [105, 110, 116], [106, 111, 105, 110], [108, 101, 110], [108, 101, 116], [108, 105, 115, 116], [108, 111, 99, 97, 108], [108, 111, 115, 116], [109, 111, 100], [110, 111, 116], [111, 112, 101, 110], [111, 114], [112, 114, 105, 110, 116], [112, 114, 111, 99], [112, 114, 111, 116, 111, 99, 111, 108], [112, 117, 115, 104], [114, 111, 108, 101, 115], [115, 97, 121], [115, 112, 97, 119, 110], [115, 116, 111, 112], [116, 101, 120, 116], [116, 111], [116, 114, 117, 101], [117, 110, 105, 116], [119, 105, 116, 104]]

def isKw (s : Str) : Bool := kws.contains s
def isLet (n : Int) : Bool := decide (97 ≤ n) && decide (n ≤ 122)
def isDig (n : Int) : Bool := decide (48 ≤ n) && decide (n ≤ 57)
/-- A byte that a name may have. -/
def okB (c : UInt8) : Bool := isLet c.toNat || isDig c.toNat
def may (s : Str) : Bool := decide (1 ≤ s.length) && decide (s.length ≤ 12) && isLet (s.getD 0 0).toNat && s.all okB && !isKw s

theorem ret_int {k : IntKind} {a b : Int} (h : a = b) : Ending.returned (.int k a) = .returned (.int k b) := by rw [h]
theorem ret_bool {a b : Bool} (h : a = b) : Ending.returned (.bool a) = .returned (.bool b) := by rw [h]
theorem ret_str {a b : ByteArray} (h : a = b) : Ending.returned (.string a) = .returned (.string b) := by rw [h]
end Go.Proofs.YtifinfmdjbglhaaDoor
