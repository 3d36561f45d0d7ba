/- Plain: the projections of the lifted protocol walk as the type and its mirror do. -/
import Derived.Test.YtiofpeckcfdilaaGreatDoorMiAll
import Derived.Test.YtiofpeckcfdilaaGreatDoorMiLifts
import Derived.Test.YtiofpeckcfdilaaGreatDoorPjSpecs
namespace Go.Proofs.YtiofpeckcfdilaaGreatDoor
open Go.RowKit

theorem two_lift {ts : List TurnL} (h : locB ts = true) {me x r : Str} (hx : ∀ t ∈ ts, t.kind ≠ 0 → t.peer = x) (hr : r = me ∨ r = x) : Two8 (pntL me ts) r := fun k => by
  unfold pointOf
  rw [pnt_at]
  rcases hk : ts[k]? with _ | t
  · exact .inl rfl
  · show (pntT me t).arms = [] ∨ inP (pntT me t) r = true
    have hm := List.mem_of_getElem? hk
    have hv := (locB_one h).2.2 t hm
    unfold pntT inP
    rcases turnB_arms hv with ⟨h1, _, _⟩ | ⟨h1 | h1, _, _⟩
    · rw [if_neg (by omega), if_neg (by omega)]; exact .inl rfl
    · have e := hx t hm (by omega)
      rw [if_pos h1, e]
      rcases hr with rfl | rfl <;> simp
    · have e := hx t hm (by omega)
      rw [if_neg (by omega), if_pos h1, e]
      rcases hr with rfl | rfl <;> simp
/-- The peer of the lifted protocol. -/
theorem lift_peer {ts : List TurnL} (h : locB ts = true) (hx : ∀ t ∈ ts, t.kind ≠ 0 → t.peer = [97]) :
    may (liftR ts [109, 101]) = true ∧ liftR ts [109, 101] ≠ [109, 101] ∧ ∀ t ∈ trimT ts, t.kind ≠ 0 → t.peer = liftR ts [109, 101] ∧ liftR ts [109, 101] = [97] := by
  have ht := trim_peer h hx
  unfold liftR
  rcases peers_one h hx with e | e
  · rw [e]
    have hf : freshS [[109, 101]] peerS = peerS := by decide +kernel
    refine ⟨by rw [hf]; decide, by rw [hf]; decide, fun t hm hk => ?_⟩
    unfold trimT at hm
    obtain ⟨p, hp, rfl⟩ := List.mem_map.1 hm
    have hl := reach_lt h p hp
    dsimp only at hk
    rw [turnOf_lt hl] at hk
    have := peer_has h hp (List.getElem?_eq_getElem hl) hk
    rw [e] at this
    cases this
  · rw [e]
    exact ⟨by decide, by decide, fun t hm hk => ⟨ht t hm hk, rfl⟩⟩
section
variable {ts : List TurnL} (h : locB ts = true) (hf : ts.length ≤ 6) (hx : ∀ t ∈ ts, t.kind ≠ 0 → t.peer = [97])
include h hf hx
theorem lifts_prot : protB [116] [[109, 101], liftR ts [109, 101]] (pntL [109, 101] (trimT ts)) = true := by
  obtain ⟨h1, h2, h3⟩ := lift_peer h hx
  have h24 : (trimT ts).length ≤ 24 := by rw [trim_len]; have := reach_few h; omega
  exact lift_valid (trim_valid h) h24 (by decide) me_may h1 h2 (fun t ht hk => (h3 t ht hk).1)
theorem lifts_zero : liftE ts [109, 101] = 0 := by
  have e := mirE_one h hx me_may (by decide)
  unfold liftE
  rw [if_pos e, if_neg]
  rw [trimL_of h, trim_len]
  have := reach_few h
  omega
/-- What stands at a place of the lifted protocol, seen by one of its roles. -/
theorem lifts_at {r : Str} (hr : r = [109, 101] ∨ r = liftR ts [109, 101]) {A : List TurnL} {ns : List (List Nat)} (hA : RoleOk (pntL [109, 101] (trimT ts)) r A ns) {q u : Nat} (ha : At8 (pntL [109, 101] (trimT ts)) r ns q u) :
    ∃ t v, (trimT ts)[q]? = some t ∧ A[u]? = some v ∧ (t.kind = 0 ↔ v.kind = 0) ∧ (t.kind ≠ 0 → (r = [109, 101] → v.kind = t.kind ∧ v.peer = liftR ts [109, 101]) ∧ (r = liftR ts [109, 101] → v.kind = 3 - t.kind ∧ v.peer = [109, 101])) := by
  obtain ⟨h1, h2, h3⟩ := lift_peer h hx
  have hp := lifts_prot h hf hx
  have hv := trim_valid h
  have hrs : hasS [[109, 101], liftR ts [109, 101]] r = true := by
    unfold hasS
    rw [List.contains_iff_mem]
    rcases hr with rfl | rfl <;> simp
  obtain ⟨tt, g1, g2, g3, _⟩ := duo_at hp hrs (two_lift hv (fun t ht hk => (h3 t ht hk).1) hr) hA ha
  have hq : q < (trimT ts).length := by have := ha.1; rwa [pnt_len] at this
  have ht := List.getElem?_eq_getElem hq
  have hm := List.getElem_mem hq
  have hpo : pointOf (pntL [109, 101] (trimT ts)) q = pntT [109, 101] (trimT ts)[q] := by unfold pointOf; rw [pnt_at, ht]; rfl
  have hw := turnB_arms ((locB_one hv).2.2 _ hm)
  rw [hpo, pnt_arms ((locB_one hv).2.2 _ hm)] at g2
  have hz : (trimT ts)[q].kind = 0 ↔ tt.kind = 0 := by
    rw [g2]
    rcases hw with ⟨e1, _, e3⟩ | ⟨e1, _, e3⟩
    · exact ⟨fun _ => e3, fun _ => e1⟩
    · refine ⟨fun e => by omega, fun e => ?_⟩
      have := (armsB_all e3).2.2.1
      rw [e] at this
      simp at this
  refine ⟨_, tt, ht, g1, hz, fun hk => ?_⟩
  have hk2 : tt.kind ≠ 0 := fun e => hk (hz.2 e)
  have hpe := (h3 _ hm hk).1
  have hkd := g3 hk2
  rw [hpo] at hkd
  obtain ⟨p1, p2⟩ := role_peers hp hrs hA (List.mem_of_getElem? g1) hk2
  unfold kindP at hkd
  rw [show pointOf [pntT [109, 101] (trimT ts)[q]] 0 = pntT [109, 101] (trimT ts)[q] from rfl] at hkd
  have hmem : tt.peer = [109, 101] ∨ tt.peer = liftR ts [109, 101] := by
    rcases List.mem_cons.1 p2 with e | e
    · exact .inl e
    · exact .inr (List.mem_singleton.1 e)
  have hkk : (trimT ts)[q].kind = 1 ∨ (trimT ts)[q].kind = 2 := by rcases hw with ⟨e, _, _⟩ | ⟨e, _, _⟩ <;> omega
  refine ⟨fun e => ?_, fun e => ?_⟩
  · subst e
    refine ⟨?_, hmem.resolve_left p1⟩
    rw [hkd]
    unfold pntT
    rcases hkk with e1 | e1
    · rw [if_pos e1, hpe, if_neg (by simpa using h2), e1]
    · rw [if_neg (show ¬ (trimT ts)[q].kind = 1 by omega), if_pos e1, if_pos (by simp), e1]
  · subst e
    refine ⟨?_, hmem.resolve_right p1⟩
    rw [hkd]
    unfold pntT
    rcases hkk with e1 | e1
    · rw [if_pos e1, hpe, if_pos (by simp), e1]; rfl
    · rw [if_neg (show ¬ (trimT ts)[q].kind = 1 by omega), if_pos e1, if_neg (by simpa using fun e => h2 e.symm), e1]; rfl
/-- Along any labels: the type, its projection, the mirror and the mirror's projection. -/
theorem lifts_way {A B : List TurnL} {ns ms : List (List Nat)} (hA : RoleOk (pntL [109, 101] (trimT ts)) [109, 101] A ns) (hB : RoleOk (pntL [109, 101] (trimT ts)) (liftR ts [109, 101]) B ms) (ws : List Str) :
    (walkT ts 0 ws = none ∧ walkT A 0 ws = none ∧ walkT (mirL [109, 101] (trimT ts)) 0 ws = none ∧ walkT B 0 ws = none) ∨
    ∃ (p u q v : Nat) (t ta tm tb : TurnL), (walkT ts 0 ws = some p ∧ walkT A 0 ws = some u ∧ walkT (mirL [109, 101] (trimT ts)) 0 ws = some q ∧ walkT B 0 ws = some v) ∧ (ts[p]? = some t ∧ A[u]? = some ta ∧ (mirL [109, 101] (trimT ts))[q]? = some tm ∧ B[v]? = some tb) ∧
      ta.kind = t.kind ∧ tb.kind = tm.kind ∧ (ta.kind ≠ 0 → ta.peer = [97] ∧ tb.peer = [109, 101]) := by
  obtain ⟨h1, h2, h3⟩ := lift_peer h hx
  have hp := lifts_prot h hf hx
  have hv := trim_valid h
  have hpx : ∀ t ∈ trimT ts, t.kind ≠ 0 → t.peer = liftR ts [109, 101] := fun t ht hk => (h3 t ht hk).1
  have hr1 : hasS [[109, 101], liftR ts [109, 101]] [109, 101] = true := by unfold hasS; rw [List.contains_iff_mem]; simp
  have hr2 : hasS [[109, 101], liftR ts [109, 101]] (liftR ts [109, 101]) = true := by unfold hasS; rw [List.contains_iff_mem]; simp
  have t1 := two_lift (me := [109, 101]) hv hpx (r := [109, 101]) (.inl rfl)
  have t2 := two_lift (me := [109, 101]) hv hpx (r := liftR ts [109, 101]) (.inr rfl)
  have w1 := duo_walk hp hr1 t1 hA ws 0 0 (duo_start hp hA)
  have w2 := duo_walk hp hr2 t2 hB ws 0 0 (duo_start hp hB)
  rw [lift_walk hv] at w1 w2
  have wm := mir_walk hv [109, 101] ws 0
  have wt := walk_trim h ws
  rcases w1 with ⟨a1, a2⟩ | ⟨q, u, a1, a2, a3⟩
  · rcases w2 with ⟨b1, b2⟩ | ⟨_, _, b1, _⟩
    · refine .inl ⟨?_, a2, wm.trans a1, b2⟩
      rw [a1] at wt
      rcases e : walkT ts 0 ws with _ | p
      · rfl
      · rw [e] at wt; cases wt
    · rw [a1] at b1; cases b1
  · rcases w2 with ⟨b1, _⟩ | ⟨q', v, b1, b2, b3⟩
    · rw [a1] at b1; cases b1
    · rw [a1] at b1
      obtain rfl := Option.some.inj b1
      rw [a1] at wt
      rcases e : walkT ts 0 ws with _ | p
      · rw [e] at wt; cases wt
      · rw [e] at wt
        have hqp : q = (reachT ts).idxOf p := Option.some.inj wt
        obtain ⟨r0, hr0⟩ := reach_zero ts
        have hpr := walk_in h ws 0 p (by rw [hr0]; simp) e
        have hpl := reach_lt h p hpr
        have hTq : (trimT ts)[q]? = some ⟨ts[p].kind, ts[p].peer, movedA (reachT ts) ts[p].arms⟩ := by
          unfold trimT
          rw [hqp, List.getElem?_map, idx_back hpr, Option.map_some, turnOf_lt hpl]
        obtain ⟨t, ta, c1, c2, c3, c4⟩ := lifts_at h hf hx (.inl rfl) hA a3
        obtain ⟨t', tb, d1, d2, d3, d4⟩ := lifts_at h hf hx (.inr rfl) hB b3
        rw [hTq] at c1 d1
        obtain rfl := Option.some.inj c1
        obtain rfl := Option.some.inj d1
        dsimp only at c3 c4 d3 d4
        refine .inr ⟨p, u, q, v, ts[p], ta, _, tb, ⟨rfl, a2, wm.trans a1, b2⟩, ⟨List.getElem?_eq_getElem hpl, c2, by rw [mir_at, hTq]; rfl, d2⟩, ?_, ?_, fun hk => ?_⟩
        · by_cases h0 : ts[p].kind = 0
          · rw [h0, c3.1 h0]
          · exact ((c4 h0).1 rfl).1
        · unfold mirT
          dsimp only
          rcases turnB_arms ((locB_one h).2.2 _ (List.getElem_mem hpl)) with ⟨e1, _, _⟩ | ⟨e1 | e1, _, _⟩
          · rw [if_neg (by omega), if_neg (by omega), d3.1 e1]
          · rw [if_pos e1, ((d4 (by omega)).2 rfl).1, e1]; rfl
          · rw [if_neg (by omega), if_pos e1, ((d4 (by omega)).2 rfl).1, e1]; rfl
        · have h0 : ts[p].kind ≠ 0 := fun e0 => hk (c3.1 e0)
          refine ⟨?_, ((d4 h0).2 rfl).2⟩
          rw [((c4 h0).1 rfl).2]
          exact (h3 _ (List.mem_of_getElem? hTq) h0).2
end
end Go.Proofs.YtiofpeckcfdilaaGreatDoor
