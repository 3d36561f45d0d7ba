/- Plain: what follows for local types: a trim is valid, its own trim, and walks as the type does. No program stands in this text. -/
import Derived.Test.YtiofpeckcfdilaaGreatDoorTuPlain
namespace Go.Proofs.YtiofpeckcfdilaaGreatDoor
open Go.RowKit

theorem moved_labels (row : List Nat) (l : List ArmL) : (movedA row l).map ArmL.label = (sortA l).map ArmL.label := by
  unfold movedA
  rw [List.map_map]
  rfl
theorem moved_len (row : List Nat) (l : List ArmL) : (movedA row l).length = l.length := by
  unfold movedA
  rw [List.length_map, (sortA_perm l).length_eq]
theorem moved_up (row : List Nat) (l : List ArmL) : UpA (movedA row l) := by
  unfold movedA UpA
  rw [List.pairwise_map]
  exact sortA_up l
theorem moved_sort {row : List Nat} {l : List ArmL} (hn : (l.map ArmL.label).Nodup) : sortA (movedA row l) = movedA row l :=
  sortA_of_up (by rw [moved_labels]; exact labels_sort hn) (moved_up row l)
theorem turnOf_lt {ts : List TurnL} {p : Nat} (h : p < ts.length) : turnOf ts p = ts[p] := by unfold turnOf; rw [List.getElem?_eq_getElem h]; rfl
theorem armsOf_lt {ts : List TurnL} {p : Nat} (h : p < ts.length) : armsOf ts p = ts[p].arms := by unfold armsOf; rw [List.getElem?_eq_getElem h]; rfl
theorem trim_len (ts : List TurnL) : (trimT ts).length = (reachT ts).length := by unfold trimT; rw [List.length_map]
theorem trim_valid {ts : List TurnL} (h : locB ts = true) : locB (trimT ts) = true := by
  obtain ⟨h1, h40, hall⟩ := locB_one h
  obtain ⟨r, hr⟩ := reach_zero ts
  have hle := reach_few h
  unfold locB
  rw [trim_len]
  simp only [Bool.and_eq_true, decide_eq_true_eq, List.all_eq_true]
  refine ⟨⟨by rw [hr]; simp, by omega⟩, fun t ht => ?_⟩
  unfold trimT at ht
  obtain ⟨p, hp, rfl⟩ := List.mem_map.1 ht
  have hlt := reach_lt h p hp
  have hv := hall _ (List.getElem_mem hlt)
  rw [turnOf_lt hlt]
  rcases turnB_arms hv with ⟨e1, e2, e3⟩ | ⟨e1, e2, e3⟩
  · unfold turnB
    rw [if_pos e1, e2, e3]
    rfl
  · obtain ⟨a1, a2, a3, a4⟩ := armsB_all e3
    unfold turnB
    rw [if_neg (by dsimp only; omega), if_pos e1]
    simp only [Bool.and_eq_true]
    refine ⟨e2, ?_⟩
    unfold armsB
    simp only [Bool.and_eq_true, decide_eq_true_eq, List.all_eq_true]
    refine ⟨⟨⟨fun b hb => ?_, by rw [moved_labels]; exact labels_sort a2⟩, by rw [moved_len]; exact a3⟩, by rw [moved_len]; exact a4⟩
    unfold movedA at hb
    obtain ⟨a, ha, rfl⟩ := List.mem_map.1 hb
    have ha' := mem_sortA.1 ha
    obtain ⟨b1, b2, b3, b4⟩ := armB_all (a1 a ha')
    have hn := reach_closed h p hp a (by rw [armsOf_lt hlt]; exact ha')
    have := List.idxOf_lt_length_of_mem hn
    unfold armB toA
    simp only [Bool.and_eq_true, decide_eq_true_eq]
    exact ⟨⟨⟨b1, b2⟩, by omega⟩, by omega⟩
theorem idx_back {l : List Nat} {x : Nat} (h : x ∈ l) : l[l.idxOf x]? = some x := by
  have hl := List.idxOf_lt_length_of_mem h
  rw [List.getElem?_eq_getElem hl, List.getElem_idxOf hl]
theorem trim_sims {ts : List TurnL} (h : locB ts = true) : Sims ts (trimT ts) (fun p => (reachT ts).idxOf p) where
  zero := by
    obtain ⟨r, hr⟩ := reach_zero ts
    rw [hr]
    simp
  inj := fun p hp q hq e => by
    have h1 := idx_back hp
    have h2 := idx_back hq
    rw [e, h2] at h1
    exact (Option.some.inj h1).symm
  turn := fun p hp t ht => by
    have hlt := reach_lt h p hp
    rw [List.getElem?_eq_getElem hlt] at ht
    obtain rfl := Option.some.inj ht
    refine ⟨movedA (reachT ts) ts[p].arms, ?_, ?_⟩
    · show (trimT ts)[(reachT ts).idxOf p]? = _
      unfold trimT
      rw [List.getElem?_map, idx_back hp, Option.map_some, turnOf_lt hlt]
    · have hn := (arms_ok h p).2
      rw [armsOf_lt hlt] at hn
      rw [moved_sort hn]
      rfl
theorem reach_trim {ts : List TurnL} (h : locB ts = true) : reachT (trimT ts) = List.range (reachT ts).length := by
  rw [(trim_sims h).reach h (trim_valid h)]
  refine List.ext_getElem? fun i => ?_
  rw [List.getElem?_map]
  rcases Nat.lt_or_ge i (reachT ts).length with hi | hi
  · rw [List.getElem?_eq_getElem hi, List.getElem?_range hi, Option.map_some, (reach_nodup ts).idxOf_getElem]
  · rw [List.getElem?_eq_none hi, List.getElem?_eq_none (by rw [List.length_range]; exact hi)]; rfl
theorem trim_trim {ts : List TurnL} (h : locB ts = true) : trimT (trimT ts) = trimT ts := (trim_sims h).trim h (trim_valid h)
theorem trim_zero {ts : List TurnL} : (trimT ts)[0]?.map (fun t => (t.kind, t.peer)) = some ((turnOf ts 0).kind, (turnOf ts 0).peer) := by
  obtain ⟨r, hr⟩ := reach_zero ts
  unfold trimT
  rw [List.getElem?_map, hr]
  rfl

/-- The arm of a label. -/
def findA (l : List ArmL) (s : Str) : Option ArmL := l.find? fun a => a.label == s
theorem findA_some {l : List ArmL} {s : Str} {a : ArmL} (hn : (l.map ArmL.label).Nodup) : findA l s = some a ↔ a ∈ l ∧ a.label = s := by
  induction l with
  | nil => simp [findA]
  | cons b l ih =>
    rw [List.map_cons, List.nodup_cons] at hn
    unfold findA at ih ⊢
    rw [List.find?_cons]
    by_cases hb : b.label = s
    · rw [beq_iff_eq.2 hb]
      constructor
      · intro e
        obtain rfl := Option.some.inj e
        exact ⟨by simp, hb⟩
      · rintro ⟨h1, h2⟩
        rcases List.mem_cons.1 h1 with rfl | h1
        · rfl
        · exact absurd (List.mem_map.2 ⟨a, h1, h2.trans hb.symm⟩) hn.1
    · rw [beq_eq_false_iff_ne.2 hb]
      show l.find? _ = _ ↔ _
      rw [ih hn.2, List.mem_cons]
      constructor
      · rintro ⟨h1, h2⟩; exact ⟨.inr h1, h2⟩
      · rintro ⟨rfl | h1, h2⟩
        · exact absurd h2 hb
        · exact ⟨h1, h2⟩
theorem findA_perm {l m : List ArmL} (hn : (l.map ArmL.label).Nodup) (h : l.Perm m) (s : Str) : findA l s = findA m s := by
  have hn' : (m.map ArmL.label).Nodup := (h.map ArmL.label).nodup_iff.1 hn
  refine Option.ext fun a => ?_
  rw [findA_some hn, findA_some hn', h.mem_iff]
theorem findA_map {f : ArmL → ArmL} (hl : ∀ a, (f a).label = a.label) (s : Str) : ∀ l : List ArmL, findA (l.map f) s = (findA l s).map f
  | [] => rfl
  | a :: l => by
    have ih := findA_map hl s l
    unfold findA at ih ⊢
    rw [List.map_cons, List.find?_cons, List.find?_cons, hl]
    cases a.label == s
    · exact ih
    · rfl
/-- Where labels lead from a place. -/
def walkT (ts : List TurnL) : Nat → List Str → Option Nat
  | p, [] => some p
  | p, s :: r => match findA (armsOf ts p) s with
    | none => none
    | some a => walkT ts a.next.toNat r
theorem walk_in {ts : List TurnL} (h : locB ts = true) : ∀ (ls : List Str) (p q : Nat), p ∈ reachT ts → walkT ts p ls = some q → q ∈ reachT ts
  | [], p, q, hp, e => by
    obtain rfl := Option.some.inj e
    exact hp
  | s :: r, p, q, hp, e => by
    rw [walkT] at e
    rcases hf : findA (armsOf ts p) s with _ | a
    · rw [hf] at e; cases e
    · rw [hf] at e
      have ha := ((findA_some (arms_ok h p).2).1 hf).1
      exact walk_in h r _ q (reach_closed h p hp a ha) e
theorem Sims.walk {ts us : List TurnL} {f : Nat → Nat} (s : Sims ts us f) (h : locB ts = true) (h' : locB us = true) : ∀ (ls : List Str) (p : Nat), p ∈ reachT ts → walkT us (f p) ls = (walkT ts p ls).map f
  | [], _, _ => rfl
  | x :: r, p, hp => by
    have hlt := reach_lt h p hp
    obtain ⟨l, h1, h2⟩ := s.turn p hp _ (List.getElem?_eq_getElem hlt)
    have hn := (arms_ok h p).2
    have hn' := (arms_ok h' (f p)).2
    have e1 : armsOf us (f p) = l := by unfold armsOf; rw [h1]; rfl
    have e2 : armsOf ts p = ts[p].arms := armsOf_lt hlt
    rw [e1] at hn'
    rw [e2] at hn
    rw [walkT, walkT, e1, e2]
    have hf : findA l x = (findA ts[p].arms x).map fun a => toA a (f a.next.toNat) := by
      rw [findA_perm hn' (sortA_perm l).symm, h2, findA_map (f := fun a => toA a (f a.next.toNat)) (fun a => rfl), ← findA_perm hn (sortA_perm _).symm]
    rw [hf]
    rcases hg : findA ts[p].arms x with _ | a
    · rfl
    · have ha := ((findA_some hn).1 hg).1
      have hr := reach_closed h p hp a (by rw [e2]; exact ha)
      have := Sims.walk s h h' r a.next.toNat hr
      show walkT us (toA a (f a.next.toNat)).next.toNat r = _
      unfold toA
      simp only [Int.toNat_natCast]
      exact this
theorem walk_trim {ts : List TurnL} (h : locB ts = true) (ls : List Str) : walkT (trimT ts) 0 ls = (walkT ts 0 ls).map fun p => (reachT ts).idxOf p := by
  obtain ⟨r, hr⟩ := reach_zero ts
  have h0 : (0 : Nat) ∈ reachT ts := by rw [hr]; simp
  have := (trim_sims h).walk h (trim_valid h) ls 0 h0
  rwa [(trim_sims h).zero] at this
end Go.Proofs.YtiofpeckcfdilaaGreatDoor
