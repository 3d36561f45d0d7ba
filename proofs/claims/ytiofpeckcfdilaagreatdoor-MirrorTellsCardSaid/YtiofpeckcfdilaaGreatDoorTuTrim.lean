/- For the contract of the reference's LocalTrim: its boxes and what it answers. -/
import Derived.Test.YtiofpeckcfdilaaGreatDoorTuRows
import Derived.Test.YtiofpeckcfdilaaGreatDoorTuPeers
import Derived.Deep.RegionHeld3
import Derived.Deep.RegionLaw
namespace Go.Proofs.YtiofpeckcfdilaaGreatDoor
open Go.RowKit

theorem LBox.set {W : World} {g : Nat} {nm : ByteArray} {a a' : Option Addr} {n c n' c' : Nat} (h : LBox W g nm a n c) : LBox (W.setCell ⟨g, 1, none⟩ (.slice a' n' c')) g nm a' n' c' := by
  unfold LBox at h ⊢
  obtain ⟨hlt, hk⟩ := Array.getElem?_eq_some_iff.1 h
  show (W.heap.modify g _)[g]? = _
  rw [Array.getElem?_eq_getElem (by rw [Array.size_modify]; exact hlt), Array.getElem_modify_self, hk]
  rfl
theorem AOwn.lies {w : World} {base : Nat} {a : Option Addr} {n c : Nat} {l : List ArmL} (h : AOwn w base (.slice a n c) l) : ∀ b off, a = some ⟨b, off, none⟩ → base ≤ b ∧ b < w.heap.size := by
  intro b off e
  subst e
  obtain ⟨ts, h, _⟩ := h
  have hlt := h.lt
  rcases h.2 with ⟨h0, _⟩ | ⟨g, cap, cur, h0, hbase, _⟩
  · cases h0
  · injection h0 with e1 _ _
    injection e1 with e1
    injection e1 with e1 _ _
    subst e1
    exact ⟨hbase, (hlt b rfl).2⟩
theorem TOwn.lies {w : World} {base : Nat} {v : Value} {f : List TurnL} (h : TOwn w base v f) : ∀ b, v.ownBlock = some b → base ≤ b ∧ b < w.heap.size := by
  intro b e
  obtain ⟨ts, h, _⟩ := h
  have hlt := h.lt b e
  exact ⟨hlt.1, hlt.2⟩
def trim1 (ts : List TurnL) (p : Nat) : TurnL := ⟨(turnOf ts p).kind, (turnOf ts p).peer, movedA (reachT ts) (turnOf ts p).arms⟩
def trimL (ts : List TurnL) : List TurnL := if locB ts then trimT ts else []
def trimName (ts : List TurnL) (nm : ByteArray) : ByteArray := if locB ts then nm else ⟨#[]⟩
end Go.Proofs.YtiofpeckcfdilaaGreatDoor
