/- Law: TurnsPeers. -/
import Derived.Test.YtiofpeckcfdilaaGreatDoorTuFirst
import Derived.Test.YtiofpeckcfdilaaGreatDoorTuMakes
import Derived.Test.YtiofpeckcfdilaaGreatDoorTuOwnRW
import Derived.Test.YtiofpeckcfdilaaGreatDoorTuSames
namespace Go.Proofs.YtiofpeckcfdilaaGreatDoor
open Go.RowKit

theorem reach_end {ts : List TurnL} (h : locB ts = true) {t : TurnL} (ht : ts[0]? = some t) (hk : t.kind = 0) : reachT ts = [0] ∧ peersT ts = [] := by
  have ha : t.arms = [] := by
    rcases turnB_arms ((locB_one h).2.2 t (List.mem_of_getElem? ht)) with ⟨_, _, e⟩ | ⟨e, _⟩
    · exact e
    · omega
  have hn : nextsOf ts 0 = [] := by unfold nextsOf armsOf; rw [ht]; simp [ha, sortA]
  have hr : reachT ts = [0] := by
    unfold reachT
    obtain ⟨n, hlen⟩ : ∃ n, ts.length = n + 1 := ⟨ts.length - 1, by have := (locB_one h).1; omega⟩
    rw [hlen, bfs_some n (show ([0] : List Nat)[0]? = some 0 from rfl), hn]
    exact bfs_none _ (by simp [addN])
  refine ⟨hr, ?_⟩
  unfold peersT reachL
  rw [h, if_pos rfl, hr]
  have hp : peerAt ts 0 = [] := by
    unfold peerAt
    rw [ht]
    exact (peer_end h ht).2 hk
  show (if peerAt ts 0 = [] then [] else putS [] (peerAt ts 0)) = []
  rw [if_pos hp]
theorem reachL_eq {ts : List TurnL} (h : locB ts = true) : reachL ts = reachT ts := by unfold reachL; rw [h]; rfl
theorem peer_has {ts : List TurnL} (h : locB ts = true) {p : Nat} {t : TurnL} (hp : p ∈ reachT ts) (ht : ts[p]? = some t) (hk : t.kind ≠ 0) : t.peer ∈ peersT ts := by
  unfold peersT
  refine mem_peersF.2 ⟨fun e => hk ((peer_end h ht).1 e), p, by rw [reachL_eq h]; exact hp, ?_⟩
  unfold peerAt
  rw [ht]
  rfl
theorem peers_may {ts : List TurnL} (h : locB ts = true) {s : Str} (hs : s ∈ peersT ts) : may s = true := by
  unfold peersT at hs
  obtain ⟨hne, p, hp, e⟩ := mem_peersF.1 hs
  unfold peerAt at e
  rcases ht : ts[p]? with _ | t
  · rw [ht] at e; exact absurd e.symm hne
  · rw [ht] at e
    have e : t.peer = s := e
    rcases turnB_arms ((locB_one h).2.2 t (List.mem_of_getElem? ht)) with ⟨_, e2, _⟩ | ⟨_, e2, _⟩
    · exact absurd (e.symm.trans e2) hne
    · rw [← e]; exact e2
theorem peers_rise (ts : List TurnL) : Rises (peersT ts) := peersF_rises
theorem peers_once (ts : List TurnL) : once (peersT ts) = true := (once_iff _).2 (rises_nodup (peers_rise ts))
theorem rise_at {l : List Str} (h : Rises l) {k : Nat} {x y : Str} (hk : 0 < k) (hx : l[k - 1]? = some x) (hy : l[k]? = some y) : x < y := by
  obtain ⟨h1, e1⟩ := List.getElem?_eq_some_iff.1 hx
  obtain ⟨h2, e2⟩ := List.getElem?_eq_some_iff.1 hy
  have := List.pairwise_iff_getElem.1 h (k - 1) k h1 h2 (by omega)
  rwa [e1, e2] at this
theorem peers_few (ts : List TurnL) : (peersT ts).length ≤ 40 := Nat.le_trans (peersF_len _ _) (reachL_few ts)
theorem made_local {g : Nat} {w : World} (hD : Dice w g) : Calls Tryz.prog 9 #[.pointer (some ⟨g, 0, none⟩), .string ⟨#[116]⟩, .slice none 0 0] w fun e w' => LocalRet ⟨#[116]⟩ w e w' ∧ Beside g w w' := local_any g ⟨#[116]⟩ w hD
theorem MRow.sees {w : World} {base S : Nat} {a : Option Addr} {n c : Nat} {f : List TurnL} (h : MRow w base S (.slice a n c) f) (hl : f.length ≤ 1000000) : Turns w w.heap.size a n f := by
  obtain ⟨a2, c2, hv, ht⟩ := h.towns.sees hl
  obtain ⟨e1, e2, e3⟩ := Value.slice.inj hv
  rw [e1, e2]
  exact ht
end Go.Proofs.YtiofpeckcfdilaaGreatDoor
