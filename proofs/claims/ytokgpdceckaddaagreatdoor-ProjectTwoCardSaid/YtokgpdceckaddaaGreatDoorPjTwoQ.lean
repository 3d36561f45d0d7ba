/- Plain: the projections to two roles have the same arms, and face each other. No program stands in this text. -/
import Derived.Test.YtokgpdceckaddaaGreatDoorPjSpecs
import Derived.Test.YtokgpdceckaddaaGreatDoorGlFirsts
namespace Go.Proofs.YtokgpdceckaddaaGreatDoor
open Go.RowKit

/-- One turn faces another: the same arms; one sends where the other receives. -/
def Faces (t u : TurnL) : Prop := u.arms = t.arms ∧ (t.kind = 0 ↔ u.kind = 0) ∧ (t.kind ≠ 0 → t.kind ≠ u.kind)
def AllFaces (ts us : List TurnL) : Prop := us.length = ts.length ∧ ∀ (j : Nat) (t : TurnL), ts[j]? = some t → ∃ u, us[j]? = some u ∧ Faces t u
theorem AllFaces.snoc {ts us : List TurnL} {t u : TurnL} (h : AllFaces ts us) (hf : Faces t u) : AllFaces (ts ++ [t]) (us ++ [u]) := by
  refine ⟨by simp [h.1], fun j x hj => ?_⟩
  rcases Nat.lt_or_ge j ts.length with hlt | hge
  · rw [List.getElem?_append_left hlt] at hj
    rw [List.getElem?_append_left (by rw [h.1]; exact hlt)]
    exact h.2 j x hj
  · rw [List.getElem?_append_right hge] at hj
    rw [List.getElem?_append_right (by rw [h.1]; exact hge), h.1]
    have h0 : j - ts.length = 0 := by
      obtain ⟨h1, _⟩ := List.getElem?_eq_some_iff.1 hj
      simpa using h1
    rw [h0] at hj ⊢
    obtain rfl : t = x := by simpa using hj
    exact ⟨u, rfl, hf⟩
theorem faces_arms {ts us : List TurnL} (h : AllFaces ts us) (p : Nat) : Go.Proofs.YtokgpdceckaddaaGreatDoor.armsOf us p = Go.Proofs.YtokgpdceckaddaaGreatDoor.armsOf ts p := by
  unfold Go.Proofs.YtokgpdceckaddaaGreatDoor.armsOf
  cases ht : ts[p]? with
  | none =>
    rw [List.getElem?_eq_none (by rw [h.1]; exact List.getElem?_eq_none_iff.1 ht)]
  | some t =>
    obtain ⟨u, hu, hf⟩ := h.2 p t ht
    rw [hu]
    exact hf.1
theorem faces_walk {ts us : List TurnL} (h : AllFaces ts us) : ∀ (way : List Str) (p : Nat), walkT us p way = walkT ts p way
  | [], _ => rfl
  | s :: w, p => by
    rw [walkT, walkT, faces_arms h]
    cases findA (Go.Proofs.YtokgpdceckaddaaGreatDoor.armsOf ts p) s with
    | none => rfl
    | some a => exact faces_walk h w _
section
variable {nm : Str} {rs : List Str} {ps : List PointL} {r q : Str} (hp : protB nm rs ps = true) (hr : hasS rs r = true) (hq : hasS rs q = true) (h2 : Two8 ps r) (h3 : Two8 ps q)
include hp h2 h3 hr hq
omit hq h2 in
theorem duo_both {k : Nat} (hk : k < ps.length) (hi : inP (pointOf ps k) r = true) : inP (pointOf ps k) q = true := by
  rcases h3 k with h | h
  · have hl0 := (armsB_all (pt_role hp hr hk hi).2.2.2).2.2.1
    rw [h] at hl0
    simp at hl0
  · exact h
theorem duo_same {k : Nat} (hk : k < ps.length) : nearP ps r [k] = nearP ps q [k] := by
  rcases duo_near hp h2 hk with ⟨hi, e⟩ | ⟨hi, e0, e⟩ <;> rcases duo_near hp h3 hk with ⟨hj, f⟩ | ⟨hj, f0, f⟩
  · rw [e, f]
  · rw [duo_both hp hr h3 hk hi] at hj; cases hj
  · rw [duo_both hp hq h2 hk hj] at hi; cases hi
  · rw [e, f]
theorem duo_look2 {k : Nat} (hk : k < ps.length) (ns : List (List Nat)) : lookP ps r ns [k] = lookP ps q ns [k] := by
  unfold lookP
  rw [duo_mixed hp h2 hk, duo_mixed hp h3 hk, duo_same hp hr hq h2 h3 hk]
theorem duo_arms2 {k : Nat} (hk : k < ps.length) : ∀ (ls : List Str), (∀ s ∈ ls, s ∈ labelsP (ptsOf ps [k])) → ∀ (out : List ArmL) (ns : List (List Nat)), armsP ps r (ptsOf ps [k]) ls out ns = armsP ps q (ptsOf ps [k]) ls out ns
  | [], _, _, _ => rfl
  | s :: ls, hls, out, ns => by
    obtain ⟨a, ha, _, e⟩ := duo_one hp hk (hls s (by simp))
    have hx : armP ps r (ptsOf ps [k]) s ns = armP ps q (ptsOf ps [k]) s ns := by
      unfold armP
      rw [show nextsP (armsAt (ptsOf ps [k]) s) = [a.next.toNat] by rw [e]; rfl, duo_look2 hp hr hq h2 h3 (pt_next hp hk ha).2.1]
    unfold armsP
    rw [hx]
    cases armP ps q (ptsOf ps [k]) s ns with
    | error e => rfl
    | ok p => exact duo_arms2 hk ls (fun t ht => hls t (by simp [ht])) _ _
variable (hne : r ≠ q)
include hne
omit hq h2 in
theorem duo_kinds {k : Nat} (hk : k < ps.length) (hi : inP (pointOf ps k) r = true) : (kindP r (ptsOf ps [k]) = 0 ↔ kindP q (ptsOf ps [k]) = 0) ∧ kindP r (ptsOf ps [k]) ≠ kindP q (ptsOf ps [k]) := by
  have hj := duo_both hp hr h3 hk hi
  unfold inP at hi hj
  simp only [Bool.or_eq_true, beq_iff_eq] at hi hj
  show ((if (pointOf ps k).dst == r then (2 : Int) else 1) = 0 ↔ (if (pointOf ps k).dst == q then (2 : Int) else 1) = 0) ∧ (if (pointOf ps k).dst == r then (2 : Int) else 1) ≠ (if (pointOf ps k).dst == q then (2 : Int) else 1)
  by_cases d1 : (pointOf ps k).dst = r
  · have d2 : ¬ (pointOf ps k).dst = q := fun e => hne (d1.symm.trans e)
    rw [if_pos (beq_iff_eq.2 d1), if_neg (fun c => d2 (beq_iff_eq.1 c))]
    decide
  · have d2 : (pointOf ps k).dst = q := by
      rcases hi with hi | hi
      · rcases hj with hj | hj
        · exact absurd (hi.symm.trans hj) hne
        · exact hj
      · exact absurd hi d1
    rw [if_neg (fun c => d1 (beq_iff_eq.1 c)), if_pos (beq_iff_eq.2 d2)]
    decide
theorem duo_turn2 {near : List Nat} {ns : List (List Nat)} {t : TurnL} {ns' : List (List Nat)} (hl : near = [] ∨ ∃ k, k < ps.length ∧ near = [k] ∧ inP (pointOf ps k) r = true) (h : turnP ps r near ns = .ok (t, ns')) : ∃ u, turnP ps q near ns = .ok (u, ns') ∧ Faces t u := by
  unfold turnP at h ⊢
  rcases hl with rfl | ⟨k, hk, rfl, hi⟩
  · rw [if_pos rfl] at h ⊢
    cases h
    exact ⟨_, rfl, rfl, Iff.rfl, fun c => absurd rfl c⟩
  · have hj := duo_both hp hr h3 hk hi
    rw [if_neg (by simp), if_neg (by rw [duo_fault hp hr hk hi]; simp)] at h
    rw [if_neg (by simp), if_neg (by rw [duo_fault hp hq hk hj]; simp)]
    rw [duo_arms2 hp hr hq h2 h3 hk _ (fun s hs => hs)] at h
    obtain ⟨e1, e2⟩ := duo_kinds hp hr h3 hne hk hi
    cases hx : armsP ps q (ptsOf ps [k]) (labelsP (ptsOf ps [k])) [] ns with
    | error e => rw [hx] at h; cases h
    | ok p =>
      rw [hx] at h
      cases h
      exact ⟨_, rfl, rfl, e1, fun _ => e2⟩
theorem duo_turns2 : ∀ (fuel i : Nat) (out out' : List TurnL) (ns : List (List Nat)) (ts : List TurnL), Few8 ps ns → Shape8 ps r ns → AllFaces out out' → turnsP ps r fuel i out ns = .ok ts → ∃ us, turnsP ps q fuel i out' ns = .ok us ∧ AllFaces ts us
  | 0, i, out, out', ns, ts, _, _, _, h => by
    unfold turnsP at h
    cases h
  | fuel + 1, i, out, out', ns, ts, hn, hs, hf, h => by
    unfold turnsP at h ⊢
    cases hg : ns[i]? with
    | none =>
      rw [hg] at h
      cases h
      exact ⟨out', rfl, hf⟩
    | some near =>
      rw [hg] at h
      have h : (match turnP ps r near ns with
        | .error e => Except.error e
        | .ok (t, ns') => turnsP ps r fuel (i + 1) (out ++ [t]) ns') = .ok ts := h
      have hmem := List.mem_of_getElem? hg
      have hl : near = [] ∨ ∃ k, k < ps.length ∧ near = [k] ∧ inP (pointOf ps k) r = true := by
        rcases hn.2 near hmem with h | ⟨k, hk, h⟩
        · exact .inl h
        · obtain ⟨s, e⟩ := hs.2.2 near hmem
          exact .inr ⟨k, hk, h, near_in_it (s := s) (by rw [← e, h]; simp)⟩
      obtain ⟨t, ns1, h5, h6⟩ := duo_turn hp hr h2 hn hl
      rw [h5] at h
      obtain ⟨p1, p2, _, _⟩ := turnP_spec h5
      obtain ⟨u, h7, h8⟩ := duo_turn2 hp hr hq h2 h3 hne hl h5
      obtain ⟨us, h9, h10⟩ := duo_turns2 fuel (i + 1) (out ++ [t]) (out' ++ [u]) ns1 ts h6 (p2 hs) (hf.snoc h8) h
      refine ⟨us, ?_, h10⟩
      show (match turnP ps q near ns with
        | .error e => Except.error e
        | .ok (t, ns') => turnsP ps q fuel (i + 1) (out' ++ [t]) ns') = _
      rw [h7]
      exact h9
theorem duo_role2 {ts : List TurnL} (h : roleP ps r = .ok ts) : ∃ us, roleP ps q = .ok us ∧ AllFaces ts us := by
  have h0 : 0 < ps.length := (protB_all hp).2.2.1
  obtain ⟨j, ns, h4, h5⟩ := duo_look hp h2 h0 (ns := []) ⟨by simp, fun l hl => by cases hl⟩
  obtain ⟨a1, a2, a3, a4⟩ := lookP_spec h4
  unfold roleP at h ⊢
  rw [← duo_look2 hp hr hq h2 h3 h0]
  rw [h4] at h ⊢
  exact duo_turns2 hp hr hq h2 h3 hne 41 0 [] [] ns ts h5 (a4 ⟨by simp, by simp, fun l hl => by cases hl⟩) ⟨rfl, fun j t hj => by cases hj⟩ h
omit hq h3 hne in
/-- Behind a walk: both are at turns that face each other. -/
theorem duo_round {ts us : List TurnL} {ns : List (List Nat)} (h : RoleOk ps r ts ns) (hf : AllFaces ts us) (way : List Str) :
    (walkT (ps.map asT) 0 way = none ∧ walkT ts 0 way = none ∧ walkT us 0 way = none) ∨ ∃ k u t x, walkT (ps.map asT) 0 way = some k ∧ walkT ts 0 way = some u ∧ walkT us 0 way = some u ∧ k < ps.length ∧ ts[u]? = some t ∧ us[u]? = some x ∧ Faces t x ∧ (t.kind = 0 ↔ (pointOf ps k).arms = []) := by
  rcases duo_walk hp hr h2 h way 0 0 (duo_start hp h) with ⟨e1, e2⟩ | ⟨k, u, e1, e2, e3⟩
  · exact .inl ⟨e1, e2, by rw [faces_walk hf]; exact e2⟩
  · obtain ⟨t, e4, e5, _⟩ := duo_at hp hr h2 h e3
    obtain ⟨x, e6, e7⟩ := hf.2 u t e4
    exact .inr ⟨k, u, t, x, e1, e2, by rw [faces_walk hf]; exact e2, e3.1, e4, e6, e7, e5⟩
end
/-- Of two roles each takes part in each point that is no end. -/
theorem two_in {nm : Str} {ps : List PointL} (hp : protB nm (rolesL 2) ps = true) {i : Nat} (hi : i < 2) : Two8 ps (rolS i).toList := fun k => by
  rcases Nat.lt_or_ge k ps.length with hk | hk
  · rw [pointOf_lt hk]
    rcases pointB_ways ((protB_all hp).2.2.2.2 _ (List.getElem_mem hk)) with h0 | ⟨_, h1, h2, h3, h4⟩
    · exact .inl (endB_iff.1 h0).2.2
    · right
      have hrl : rolesL 2 = [(rolS 0).toList, (rolS 1).toList] := by rw [rolS_list, rolS_list]; rfl
      rw [hrl] at h2 h3
      unfold inP
      simp only [Bool.or_eq_true, beq_iff_eq]
      simp only [List.mem_cons, List.not_mem_nil, or_false] at h2 h3
      have : i = 0 ∨ i = 1 := by omega
      rcases this with rfl | rfl
      · rcases h2 with h2 | h2
        · exact .inl h2
        · rcases h3 with h3 | h3
          · exact .inr h3
          · exact absurd (h2.trans h3.symm) h1
      · rcases h2 with h2 | h2
        · rcases h3 with h3 | h3
          · exact absurd (h2.trans h3.symm) h1
          · exact .inr h3
        · exact .inl h2
  · left
    unfold pointOf
    rw [List.getElem?_eq_none hk]
    rfl
end Go.Proofs.YtokgpdceckaddaaGreatDoor
