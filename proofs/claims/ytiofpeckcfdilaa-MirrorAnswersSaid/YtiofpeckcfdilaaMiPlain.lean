/- Plain: the other side of a local type with one peer. No program stands in this text. -/
import Derived.Test.YtiofpeckcfdilaaTuLawP
import Derived.Test.YtiofpeckcfdilaaTuSameL
import Derived.Test.YtiofpeckcfdilaaTuWalk
namespace Go.Proofs.Ytiofpeckcfdilaa
open Go.RowKit

def mirT (me : Str) (t : TurnL) : TurnL := if t.kind = 1 then ⟨2, me, t.arms⟩ else if t.kind = 2 then ⟨1, me, t.arms⟩ else ⟨0, [], []⟩
def mirL (me : Str) (ts : List TurnL) : List TurnL := ts.map (mirT me)
/-- The first reason why there is no other side. -/
def mirE (ts : List TurnL) (me : Str) : Int := if locB ts && may me then (if decide (1 < (peersT ts).length) || hasS (peersT ts) me then 1201 else 0) else 1200
theorem mirT_arms {n : Nat} {t : TurnL} (h : turnB n t = true) (me : Str) : (mirT me t).arms = t.arms := by
  unfold mirT
  rcases turnB_arms h with ⟨h1, _, h3⟩ | ⟨h1 | h1, _, _⟩
  · rw [if_neg (by omega), if_neg (by omega), h3]
  · rw [if_pos h1]
  · rw [if_neg (by omega), if_pos h1]
theorem mirT_valid {n : Nat} {t : TurnL} (h : turnB n t = true) {me : Str} (hm : may me = true) : turnB n (mirT me t) = true := by
  unfold mirT
  rcases turnB_arms h with ⟨h1, _, h3⟩ | ⟨h1 | h1, _, h4⟩
  · rw [if_neg (by omega), if_neg (by omega)]; rfl
  · rw [if_pos h1]
    unfold turnB
    rw [if_neg (by show ¬ ((2 : Int) = 0); decide), if_pos (by show (2 : Int) = 1 ∨ (2 : Int) = 2; decide), hm, h4]
    rfl
  · rw [if_neg (by omega), if_pos h1]
    unfold turnB
    rw [if_neg (by show ¬ ((1 : Int) = 0); decide), if_pos (by show (1 : Int) = 1 ∨ (1 : Int) = 2; decide), hm, h4]
    rfl
theorem mir_at (me : Str) (ts : List TurnL) (p : Nat) : (mirL me ts)[p]? = (ts[p]?).map (mirT me) := by unfold mirL; rw [List.getElem?_map]
theorem mir_len (me : Str) (ts : List TurnL) : (mirL me ts).length = ts.length := by unfold mirL; rw [List.length_map]
section
variable {ts : List TurnL} (h : locB ts = true)
include h
theorem mir_valid {me : Str} (hm : may me = true) : locB (mirL me ts) = true := by
  obtain ⟨h1, h40, hall⟩ := locB_one h
  unfold locB
  rw [mir_len]
  simp only [Bool.and_eq_true, decide_eq_true_eq, List.all_eq_true]
  refine ⟨⟨h1, h40⟩, fun t ht => ?_⟩
  unfold mirL at ht
  obtain ⟨u, hu, rfl⟩ := List.mem_map.1 ht
  exact mirT_valid (hall u hu) hm
theorem mir_arms (me : Str) (p : Nat) : armsOf (mirL me ts) p = armsOf ts p := by
  unfold armsOf
  rw [mir_at]
  rcases hp : ts[p]? with _ | t
  · rfl
  · exact mirT_arms ((locB_one h).2.2 t (List.mem_of_getElem? hp)) me
theorem mir_reach (me : Str) : reachT (mirL me ts) = reachT ts := by
  have hn : nextsOf (mirL me ts) = nextsOf ts := funext fun p => by unfold nextsOf; rw [mir_arms h]
  unfold reachT
  rw [hn, mir_len]
theorem mir_trim (me : Str) : trimT (mirL me ts) = mirL me (trimT ts) := by
  unfold trimT mirL
  rw [List.map_map]
  have hr := mir_reach h me
  unfold mirL at hr
  rw [hr]
  refine List.map_congr_left fun p hp => ?_
  have hlt := reach_lt h p hp
  have hv := (locB_one h).2.2 _ (List.getElem_mem hlt)
  have e : turnOf (ts.map (mirT me)) p = mirT me ts[p] := by rw [turnOf_lt (by rw [List.length_map]; exact hlt), List.getElem_map]
  show TurnL.mk (turnOf (ts.map (mirT me)) p).kind _ _ = mirT me (TurnL.mk _ _ _)
  rw [e, turnOf_lt hlt, mirT_arms hv]
  unfold mirT
  dsimp only
  rcases turnB_arms hv with ⟨h1, _, h3⟩ | ⟨h1 | h1, _, _⟩
  · rw [if_neg (by omega), if_neg (by omega), if_neg (by omega), if_neg (by omega), h3]; rfl
  · rw [if_pos h1, if_pos h1]
  · rw [if_neg (by omega), if_pos h1, if_neg (by omega), if_pos h1]
theorem mir_walk (me : Str) : ∀ (ls : List Str) (p : Nat), walkT (mirL me ts) p ls = walkT ts p ls
  | [], _ => rfl
  | s :: r, p => by
    rw [walkT, walkT, mir_arms h]
    rcases findA (armsOf ts p) s with _ | a
    · rfl
    · exact mir_walk me r _
theorem mir_mir (me you : Str) (hy : ∀ t ∈ ts, t.kind ≠ 0 → t.peer = you) : mirL you (mirL me ts) = ts := by
  unfold mirL
  rw [List.map_map]
  conv => rhs; rw [← List.map_id ts]
  refine List.map_congr_left fun t ht => ?_
  have hv := (locB_one h).2.2 t ht
  have hp := hy t ht
  obtain ⟨k, s, l⟩ := t
  show mirT you (mirT me ⟨k, s, l⟩) = ⟨k, s, l⟩
  rcases turnB_arms hv with ⟨h1, h2, h3⟩ | ⟨h1 | h1, _, _⟩
  · dsimp only at h1 h2 h3
    subst h1 h2 h3
    rfl
  · dsimp only at h1
    subst h1
    have e : s = you := hp (show (1 : Int) ≠ 0 by decide)
    subst e
    rfl
  · dsimp only at h1
    subst h1
    have e : s = you := hp (show (2 : Int) ≠ 0 by decide)
    subst e
    rfl
end
theorem peer_in {ts : List TurnL} {s : Str} (hs : s ∈ peersT ts) : ∃ t ∈ ts, t.peer = s ∧ s ≠ [] := by
  unfold peersT at hs
  obtain ⟨h1, p, hp, e⟩ := mem_peersF.1 hs
  have hlt := reachL_lt p hp
  unfold peerAt at e
  rw [List.getElem?_eq_getElem hlt] at e
  exact ⟨ts[p], List.getElem_mem hlt, e, h1⟩
theorem peer_in_kind {ts : List TurnL} (h : locB ts = true) {s : Str} (hs : s ∈ peersT ts) : ∃ t ∈ ts, t.peer = s ∧ t.kind ≠ 0 := by
  obtain ⟨t, ht, e, hne⟩ := peer_in hs
  refine ⟨t, ht, e, fun hk => ?_⟩
  rcases turnB_arms ((locB_one h).2.2 t ht) with ⟨_, h2, _⟩ | ⟨h1, _⟩
  · exact hne (e.symm.trans h2)
  · omega
theorem rises_one {l : List Str} (h : Rises l) {x : Str} (hx : ∀ s ∈ l, s = x) : l = [] ∨ l = [x] := by
  rcases l with _ | ⟨a, _ | ⟨b, r⟩⟩
  · exact .inl rfl
  · exact .inr (by rw [hx a (by simp)])
  · have e1 := hx a (by simp)
    have e2 := hx b (by simp)
    have := rises_nodup h
    rw [e1, e2] at this
    simp at this
theorem peers_one {ts : List TurnL} (h : locB ts = true) {x : Str} (hx : ∀ t ∈ ts, t.kind ≠ 0 → t.peer = x) : peersT ts = [] ∨ peersT ts = [x] :=
  rises_one (peers_rise ts) fun s hs => by
    obtain ⟨t, ht, e, hk⟩ := peer_in_kind h hs
    rw [← e, hx t ht hk]
theorem mirT_peer {me : Str} {t : TurnL} (hk : (mirT me t).kind ≠ 0) : (mirT me t).peer = me := by
  unfold mirT at hk ⊢
  by_cases h1 : t.kind = 1
  · rw [if_pos h1]
  · rw [if_neg h1] at hk ⊢
    by_cases h2 : t.kind = 2
    · rw [if_pos h2]
    · rw [if_neg h2] at hk
      exact absurd rfl hk
theorem mir_peer (me : Str) (ts : List TurnL) : ∀ t ∈ mirL me ts, t.kind ≠ 0 → t.peer = me := by
  intro t ht hk
  unfold mirL at ht
  obtain ⟨u, _, rfl⟩ := List.mem_map.1 ht
  exact mirT_peer hk
theorem mirE_one {ts : List TurnL} (h : locB ts = true) {x me : Str} (hx : ∀ t ∈ ts, t.kind ≠ 0 → t.peer = x) (hm : may me = true) (hne : x ≠ me) : mirE ts me = 0 := by
  unfold mirE
  rw [h, hm]
  rcases peers_one h hx with e | e
  · rw [e]; rfl
  · rw [e]
    have : hasS [x] me = false := by
      unfold hasS
      rw [← Bool.not_eq_true, List.contains_iff_mem, List.mem_singleton]
      exact fun e => hne e.symm
    rw [this]
    rfl
/-- Peers of a trim are peers of the type. -/
theorem trim_peer {ts : List TurnL} (h : locB ts = true) {x : Str} (hx : ∀ t ∈ ts, t.kind ≠ 0 → t.peer = x) : ∀ t ∈ trimT ts, t.kind ≠ 0 → t.peer = x := by
  intro t ht hk
  unfold trimT at ht
  obtain ⟨p, hp, rfl⟩ := List.mem_map.1 ht
  have hlt := reach_lt h p hp
  dsimp only at hk ⊢
  rw [turnOf_lt hlt] at hk ⊢
  exact hx _ (List.getElem_mem hlt) hk
theorem trimL_of {ts : List TurnL} (h : locB ts = true) : trimL ts = trimT ts := by unfold trimL; rw [h]; rfl
theorem trimName_of {ts : List TurnL} (h : locB ts = true) (nm : ByteArray) : trimName ts nm = nm := by unfold trimName; rw [h]; rfl
theorem walkL_of {ts : List TurnL} (h : locB ts = true) (ls : List Str) : walkL ts ls = walkT ts 0 ls := by unfold walkL; rw [h]; rfl
/-- The mirror of the mirror of a type with one peer is its trim, so the same type. -/
theorem mir_twice {ts : List TurnL} (h : locB ts = true) {x : Str} (me : Str) (hx : ∀ t ∈ ts, t.kind ≠ 0 → t.peer = x) :
    mirL x (trimT (mirL me (trimT ts))) = trimT ts ∧ sameL (trimT ts) ts = true := by
  have hv := trim_valid h
  refine ⟨by rw [mir_trim hv, trim_trim h, mir_mir hv me x (trim_peer h hx)], ?_⟩
  unfold sameL
  rw [hv, h, trimL_of hv, trimL_of h, trim_trim h]
  exact sameTs_iff.2 rfl
end Go.Proofs.Ytiofpeckcfdilaa
