/- For the contract of the reference's LocalTrim: its boxes and what it answers. -/
import Derived.Test.YtgefhgcpnfbigaaTuRows
import Derived.Test.YtgefhgcpnfbigaaTuPeers
import Derived.Deep.RegionHeld3
import Derived.Deep.RegionLaw
namespace Go.Proofs.Ytgefhgcpnfbigaa
open Go.RowKit

def trim1 (ts : List TurnL) (p : Nat) : TurnL := ⟨(turnOf ts p).kind, (turnOf ts p).peer, movedA (reachT ts) (turnOf ts p).arms⟩
def trimL (ts : List TurnL) : List TurnL := if locB ts then trimT ts else []
def trimName (ts : List TurnL) (nm : ByteArray) : ByteArray := if locB ts then nm else ⟨#[]⟩
end Go.Proofs.Ytgefhgcpnfbigaa
