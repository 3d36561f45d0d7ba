/- Plain: what a projection is made of: the near set of each turn, its arms, and where they lead; it is valid and its own trim. No program stands in this text. -/
import Derived.Test.YtiofpeckcfdilaaGreatDoorPjMid
namespace Go.Proofs.YtiofpeckcfdilaaGreatDoor
open Go.RowKit

theorem labelsP_rises (f : List PointL) : Rises (labelsP f) := by
  unfold labelsP
  exact upTo_rises _ (up_of_pairwise (sortS_up _)) _ (Nat.le_refl _)
theorem labelsP_ext {f g : List PointL} (h : ∀ s, s ∈ labs8 f ↔ s ∈ labs8 g) : labelsP f = labelsP g :=
  sorted_ext _ _ (labelsP_rises f) (labelsP_rises g) fun s => by rw [mem_labelsP, mem_labelsP]; exact h s
theorem up_of_rises {l : List ArmL} (h : Rises (l.map ArmL.label)) : UpA l := by
  have h1 : (l.map ArmL.label).Pairwise (fun a b => a < b) := h
  rw [List.pairwise_map] at h1
  exact h1.imp (fun hab => List.le_of_lt hab)
theorem addN_one8 (o : List Nat) (x : Nat) (l : List Nat) : addN o (x :: l) = addN (addN o [x]) l := by
  by_cases h : x ∈ o
  · rw [addN, if_pos h, addN, if_pos h, addN]
  · rw [addN, if_neg h, addN, if_neg h, addN]
section
variable (ps : List PointL) (r : Str)
/-- Turn k is what is found by looking at some places. -/
def AtP (ns : List (List Nat)) (k : Nat) (s : List Nat) : Prop := mixedP ps r s = false ∧ ns[k]? = some (nearP ps r s)
/-- An arm of a turn with these points. -/
def ArmOk (ns : List (List Nat)) (f : List PointL) (a : ArmL) : Prop := a.ck = (firstA (armsAt f a.label)).ck ∧ a.cn = (firstA (armsAt f a.label)).cn ∧ 0 ≤ a.next ∧ AtP ps r ns a.next.toNat (nextsP (armsAt f a.label))
/-- A turn with this near set. -/
def TurnOk (ns : List (List Nat)) (near : List Nat) (t : TurnL) : Prop :=
  (near = [] ∧ t = ⟨0, [], []⟩) ∨ (near ≠ [] ∧ faultP (kindP r (ptsOf ps near)) (ptsOf ps near) (labelsP (ptsOf ps near)) = 0 ∧ t.kind = kindP r (ptsOf ps near) ∧ t.peer = peerP r (ptsOf ps near) ∧ t.arms.map ArmL.label = labelsP (ptsOf ps near) ∧ ∀ a ∈ t.arms, ArmOk ps r ns (ptsOf ps near) a)
/-- Near sets of places. -/
def Shape8 (ns : List (List Nat)) : Prop := ns.length ≤ 40 ∧ ns.Nodup ∧ ∀ l ∈ ns, ∃ s, l = nearP ps r s
end
section
variable {ps : List PointL} {r : Str}
theorem AtP.more {ns ns' : List (List Nat)} {k : Nat} {s : List Nat} (h : AtP ps r ns k s) (hp : ns <+: ns') : AtP ps r ns' k s := by
  obtain ⟨t, rfl⟩ := hp
  exact ⟨h.1, by rw [List.getElem?_append_left (List.getElem?_eq_some_iff.1 h.2).1]; exact h.2⟩
theorem AtP.lt {ns : List (List Nat)} {k : Nat} {s : List Nat} (h : AtP ps r ns k s) : k < ns.length := (List.getElem?_eq_some_iff.1 h.2).1
theorem ArmOk.more {ns ns' : List (List Nat)} {f : List PointL} {a : ArmL} (h : ArmOk ps r ns f a) (hp : ns <+: ns') : ArmOk ps r ns' f a := ⟨h.1, h.2.1, h.2.2.1, h.2.2.2.more hp⟩
theorem TurnOk.more {ns ns' : List (List Nat)} {near : List Nat} {t : TurnL} (h : TurnOk ps r ns near t) (hp : ns <+: ns') : TurnOk ps r ns' near t := by
  rcases h with h | ⟨h1, h2, h3, h4, h5, h6⟩
  · exact .inl h
  · exact .inr ⟨h1, h2, h3, h4, h5, fun a ha => (h6 a ha).more hp⟩
theorem lookP_spec {ns : List (List Nat)} {s : List Nat} {k : Nat} {ns' : List (List Nat)} (h : lookP ps r ns s = .ok (k, ns')) :
    AtP ps r ns' k s ∧ ns <+: ns' ∧ addN (List.range ns.length) [k] = List.range ns'.length ∧ (Shape8 ps r ns → Shape8 ps r ns') := by
  unfold lookP at h
  split at h
  · cases h
  · rename_i hm
    rw [Bool.not_eq_true] at hm
    split at h
    · rename_i hin
      cases h
      have hl := List.idxOf_lt_length_of_mem hin
      exact ⟨⟨hm, by rw [List.getElem?_eq_getElem hl, List.getElem_idxOf hl]⟩, List.prefix_refl _, by rw [addN, if_pos (List.mem_range.2 hl), addN], fun h => h⟩
    · rename_i hin
      split at h
      · cases h
      · rename_i h40
        cases h
        refine ⟨⟨hm, by simp⟩, List.prefix_append _ _, by rw [addN, if_neg (by simp), addN, List.length_append, List.length_singleton, List.range_succ], fun ⟨h1, h2, h3⟩ => ⟨?_, ?_, ?_⟩⟩
        · rw [List.length_append, List.length_singleton]; omega
        · refine List.nodup_append.2 ⟨h2, by simp, ?_⟩
          intro a ha b hb e
          rw [List.mem_singleton] at hb
          subst hb e
          exact hin ha
        · intro l hl
          rcases List.mem_append.1 hl with hl | hl
          · exact h3 l hl
          · exact ⟨s, List.mem_singleton.1 hl⟩
theorem armP_spec {f : List PointL} {s : Str} {ns : List (List Nat)} {a : ArmL} {ns' : List (List Nat)} (h : armP ps r f s ns = .ok (a, ns')) :
    a.label = s ∧ ArmOk ps r ns' f a ∧ ns <+: ns' ∧ addN (List.range ns.length) [a.next.toNat] = List.range ns'.length ∧ (Shape8 ps r ns → Shape8 ps r ns') := by
  unfold armP at h
  cases hk : lookP ps r ns (nextsP (armsAt f s)) with
  | error e => rw [hk] at h; cases h
  | ok p =>
    obtain ⟨k, ns1⟩ := p
    rw [hk] at h
    cases h
    obtain ⟨h1, h2, h3, h4⟩ := lookP_spec hk
    exact ⟨rfl, ⟨rfl, rfl, Int.natCast_nonneg _, h1⟩, h2, h3, h4⟩
theorem armsP_spec {f : List PointL} : ∀ (ls : List Str) (out : List ArmL) (ns : List (List Nat)) (l : List ArmL) (ns' : List (List Nat)), armsP ps r f ls out ns = .ok (l, ns') →
    ns <+: ns' ∧ (Shape8 ps r ns → Shape8 ps r ns') ∧ ∃ l', l = out ++ l' ∧ l'.map ArmL.label = ls ∧ (∀ a ∈ l', ArmOk ps r ns' f a) ∧ addN (List.range ns.length) (l'.map fun a => a.next.toNat) = List.range ns'.length
  | [], out, ns, l, ns', h => by
    unfold armsP at h
    cases h
    exact ⟨List.prefix_refl _, fun h => h, [], by simp, rfl, by simp, rfl⟩
  | s :: ls, out, ns, l, ns', h => by
    unfold armsP at h
    cases hk : armP ps r f s ns with
    | error e => rw [hk] at h; cases h
    | ok p =>
      obtain ⟨a, ns1⟩ := p
      rw [hk] at h
      dsimp only at h
      obtain ⟨e1, e2, e3, e4, e5⟩ := armP_spec hk
      obtain ⟨p1, p2, l2, rfl, m1, m2, m3⟩ := armsP_spec ls (out ++ [a]) ns1 l ns' h
      refine ⟨e3.trans p1, fun h => p2 (e5 h), a :: l2, by simp, by rw [List.map_cons, m1, e1], fun b hb => ?_, ?_⟩
      · rcases List.mem_cons.1 hb with rfl | hb
        · exact e2.more p1
        · exact m2 b hb
      · rw [List.map_cons, addN_one8, e4]
        exact m3
theorem turnP_spec {near : List Nat} {ns : List (List Nat)} {t : TurnL} {ns' : List (List Nat)} (h : turnP ps r near ns = .ok (t, ns')) :
    ns <+: ns' ∧ (Shape8 ps r ns → Shape8 ps r ns') ∧ TurnOk ps r ns' near t ∧ addN (List.range ns.length) (t.arms.map fun a => a.next.toNat) = List.range ns'.length := by
  unfold turnP at h
  split at h
  · rename_i h0
    cases h
    exact ⟨List.prefix_refl _, fun h => h, .inl ⟨h0, rfl⟩, rfl⟩
  · rename_i h0
    split at h
    · cases h
    · rename_i hf
      rw [ne_eq, Classical.not_not] at hf
      cases hk : armsP ps r (ptsOf ps near) (labelsP (ptsOf ps near)) [] ns with
      | error e => rw [hk] at h; cases h
      | ok p =>
        obtain ⟨l, ns1⟩ := p
        rw [hk] at h
        cases h
        obtain ⟨p1, p2, l2, rfl, m1, m2, m3⟩ := armsP_spec _ _ _ _ _ hk
        exact ⟨p1, p2, .inr ⟨h0, hf, rfl, rfl, m1, m2⟩, m3⟩
theorem TurnOk.sorted {ns : List (List Nat)} {near : List Nat} {t : TurnL} (h : TurnOk ps r ns near t) : (t.arms.map ArmL.label).Nodup ∧ sortA t.arms = t.arms := by
  rcases h with ⟨_, rfl⟩ | ⟨_, _, _, _, h5, _⟩
  · exact ⟨by simp, rfl⟩
  · have hr := labelsP_rises (ptsOf ps near)
    rw [← h5] at hr
    exact ⟨rises_nodup hr, sortA_of_up (rises_nodup hr) (up_of_rises hr)⟩
theorem turnsP_spec : ∀ (fuel i : Nat) (out : List TurnL) (ns : List (List Nat)) (ts : List TurnL), turnsP ps r fuel i out ns = .ok ts → out.length = i → i ≤ ns.length → Shape8 ps r ns →
    (∀ (j : Nat) (t : TurnL), out[j]? = some t → ∃ near : List Nat, ns[j]? = some near ∧ TurnOk ps r ns near t) →
    ∃ ns' : List (List Nat), ns <+: ns' ∧ ns'.length = ts.length ∧ Shape8 ps r ns' ∧ out <+: ts ∧ (∀ (j : Nat) (t : TurnL), ts[j]? = some t → ∃ near : List Nat, ns'[j]? = some near ∧ TurnOk ps r ns' near t) ∧
      ∀ fuel' : Nat, ts.length ≤ i + fuel' → bfs (nextsOf ts) fuel' i (List.range ns.length) = List.range ts.length
  | 0, i, out, ns, ts, h, _, _, _, _ => by
    unfold turnsP at h
    cases h
  | fuel + 1, i, out, ns, ts, h, hl, hi, hs, ho => by
    unfold turnsP at h
    cases hn : ns[i]? with
    | none =>
      rw [hn] at h
      cases h
      have hle : ns.length ≤ i := by
        rcases Nat.lt_or_ge i ns.length with h1 | h1
        · rw [List.getElem?_eq_getElem h1] at hn; cases hn
        · exact h1
      have e : ns.length = i := by omega
      exact ⟨ns, List.prefix_refl _, by omega, hs, List.prefix_refl _, ho, fun f' _ => by rw [bfs_none _ (by rw [List.length_range]; omega), e, hl]⟩
    | some near =>
      rw [hn] at h
      dsimp only at h
      cases hk : turnP ps r near ns with
      | error e => rw [hk] at h; cases h
      | ok p =>
        obtain ⟨t, ns1⟩ := p
        rw [hk] at h
        dsimp only at h
        obtain ⟨p1, p2, p3, p4⟩ := turnP_spec hk
        have hin : i < ns.length := (List.getElem?_eq_some_iff.1 hn).1
        have hlen := p1.length_le
        have hget : ∀ (j : Nat) (x : List Nat), ns[j]? = some x → ns1[j]? = some x := fun j x hx => by
          obtain ⟨z, rfl⟩ := p1
          rw [List.getElem?_append_left (List.getElem?_eq_some_iff.1 hx).1]
          exact hx
        obtain ⟨ns', q1, q2, q3, q4, q5, q6⟩ := turnsP_spec fuel (i + 1) (out ++ [t]) ns1 ts h (by rw [List.length_append, hl]; rfl) (by omega) (p2 hs) (fun j u hj => by
          rcases Nat.lt_or_ge j out.length with h1 | h1
          · rw [List.getElem?_append_left h1] at hj
            obtain ⟨n2, a1, a2⟩ := ho j u hj
            exact ⟨n2, hget j n2 a1, a2.more p1⟩
          · rw [List.getElem?_append_right h1] at hj
            have h2 : j - out.length = 0 := by
              have := (List.getElem?_eq_some_iff.1 hj).1
              rw [List.length_singleton] at this
              omega
            rw [h2] at hj
            obtain rfl := Option.some.inj hj
            have e : j = i := by omega
            subst e
            exact ⟨near, hget _ near hn, p3⟩)
        have hti : ts[i]? = some t := by
          obtain ⟨z, rfl⟩ := q4
          rw [List.getElem?_append_left (by rw [List.length_append, List.length_singleton]; omega), List.getElem?_append_right (by omega), hl, Nat.sub_self]
          rfl
        have hilt := (List.getElem?_eq_some_iff.1 hti).1
        refine ⟨ns', p1.trans q1, q2, q3, (List.prefix_append _ _).trans q4, q5, fun f' hf => ?_⟩
        obtain ⟨f2, rfl⟩ : ∃ f2, f' = f2 + 1 := ⟨f' - 1, by omega⟩
        rw [bfs_some f2 (show (List.range ns.length)[i]? = some i from List.getElem?_range hin)]
        have hno : nextsOf ts i = t.arms.map fun a => a.next.toNat := by
          unfold nextsOf armsOf
          rw [hti]
          simp only [Option.map_some, Option.getD_some]
          rw [p3.sorted.2]
        rw [hno, p4]
        exact q6 f2 (by omega)
/-- What a projection is. -/
def RoleOk (ps : List PointL) (r : Str) (ts : List TurnL) (ns : List (List Nat)) : Prop :=
  ns.length = ts.length ∧ 1 ≤ ts.length ∧ Shape8 ps r ns ∧ AtP ps r ns 0 [0] ∧ (∀ (j : Nat) (t : TurnL), ts[j]? = some t → ∃ near : List Nat, ns[j]? = some near ∧ TurnOk ps r ns near t) ∧ reachT ts = List.range ts.length
theorem roleP_spec {ts : List TurnL} (h : roleP ps r = .ok ts) : ∃ ns, RoleOk ps r ts ns := by
  unfold roleP at h
  cases hk : lookP ps r [] [0] with
  | error e => rw [hk] at h; cases h
  | ok p =>
    obtain ⟨k, ns⟩ := p
    rw [hk] at h
    dsimp only at h
    obtain ⟨a1, a2, a3, a4⟩ := lookP_spec hk
    have hs := a4 ⟨by simp, by simp, fun l hl => by cases hl⟩
    have hk0 : k = 0 ∧ ns.length = 1 := by
      have h1 := congrArg List.length a3
      rw [List.length_range, List.length_nil, List.range_zero, addN, if_neg (by simp), addN] at h1
      have h2 := a1.lt
      simp at h1
      omega
    obtain ⟨rfl, hn1⟩ := hk0
    obtain ⟨ns', q1, q2, q3, q4, q5, q6⟩ := turnsP_spec _ _ _ _ _ h rfl (Nat.zero_le _) hs (fun j t hj => by cases hj)
    have h1 := q1.length_le
    refine ⟨ns', q2, by omega, q3, a1.more q1, q5, ?_⟩
    have := q6 ts.length (by omega)
    rw [hn1] at this
    exact this
end
end Go.Proofs.YtiofpeckcfdilaaGreatDoor

/- Plain: along every walk of a protocol its projection goes along; what its turn is at each point. No program stands in this text. -/
namespace Go.Proofs.YtiofpeckcfdilaaGreatDoor
open Go.RowKit

theorem faultP_zero {k : Int} {f : List PointL} {ls : List Str} (h : faultP k f ls = 0) : sameRolesP f = true ∧ (k = 1 → sameLabelsP f ls = true) ∧ ls.length ≤ 6 ∧ sameCarriesP f ls = true := by
  unfold faultP at h
  split at h
  · exact absurd h (by decide)
  · rename_i h1
    split at h
    · exact absurd h (by decide)
    · rename_i h2
      split at h
      · exact absurd h (by decide)
      · rename_i h3
        split at h
        · exact absurd h (by decide)
        · rename_i h4
          rw [Bool.not_eq_false] at h1 h4
          refine ⟨h1, fun hk => ?_, by omega, h4⟩
          cases hc : sameLabelsP f ls
          · exact absurd ⟨hk, hc⟩ h2
          · rfl
theorem armsOf_asT (ps : List PointL) (k : Nat) : Go.Proofs.YtiofpeckcfdilaaGreatDoor.armsOf (ps.map asT) k = (pointOf ps k).arms := by
  unfold Go.Proofs.YtiofpeckcfdilaaGreatDoor.armsOf pointOf
  rw [List.getElem?_map]
  cases ps[k]? with
  | none => rfl
  | some x => exact asT_arms x
theorem role_some {nm : Str} {rs : List Str} {ps : List PointL} {r : Str} (hp : protB nm rs ps = true) (hr : hasS rs r = true) : r ≠ [] ∧ r ∈ rs := by
  have hm := (hasS_iff _ _).1 hr
  have h1 := (rolesB_all (protB_all hp).2.1).2.2.2 r hm
  exact ⟨fun e => (by rw [e, may_nil] at h1; cases h1), hm⟩
theorem pt_role {nm : Str} {rs : List Str} {ps : List PointL} {r : Str} (hp : protB nm rs ps = true) (hr : hasS rs r = true) {k : Nat} (hk : k < ps.length) (hi : inP (pointOf ps k) r = true) :
    (pointOf ps k).src ≠ (pointOf ps k).dst ∧ (pointOf ps k).src ∈ rs ∧ (pointOf ps k).dst ∈ rs ∧ armsB ps.length (pointOf ps k).arms = true := by
  rw [pointOf_lt hk] at hi ⊢
  rcases pointB_ways ((protB_all hp).2.2.2.2 _ (List.getElem_mem hk)) with h0 | ⟨_, h1, h2, h3, h4⟩
  · obtain ⟨e1, e2, _⟩ := endB_iff.1 h0
    unfold inP at hi
    rw [e1, e2, Bool.or_self, beq_iff_eq] at hi
    exact absurd hi.symm (role_some hp hr).1
  · exact ⟨h1, h2, h3, h4⟩
theorem pt_next {nm : Str} {rs : List Str} {ps : List PointL} (hp : protB nm rs ps = true) {k : Nat} (hk : k < ps.length) {a : ArmL} (ha : a ∈ (pointOf ps k).arms) : armB ps.length a = true ∧ a.next.toNat < ps.length ∧ ((pointOf ps k).arms.map ArmL.label).Nodup := by
  rw [pointOf_lt hk] at ha ⊢
  rcases pointB_ways ((protB_all hp).2.2.2.2 _ (List.getElem_mem hk)) with h0 | ⟨_, _, _, _, h4⟩
  · rw [(endB_iff.1 h0).2.2] at ha
    cases ha
  · obtain ⟨h5, h6, _⟩ := armsB_all h4
    have := (armB_all (h5 a ha)).2.2
    exact ⟨h5 a ha, by omega, h6⟩
section
variable (ps : List PointL) (r : Str)
/-- What a turn knows of a place. -/
def Sees8 (ns : List (List Nat)) (k t : Nat) : Prop := ∃ near, ns[t]? = some near ∧ (∀ x, Met (outsP ps r) [k] x → inP (pointOf ps x) r = true → x ∈ near) ∧ (near ≠ [] → ∀ x, Met (outsP ps r) [k] x → nearP ps r [x] ≠ [])
/-- Of a walk's labels those of points in which the role is. -/
def ownP : Nat → List Str → Option (List Str)
  | _, [] => some []
  | k, s :: w => match findA (pointOf ps k).arms s with
    | none => none
    | some a => (ownP a.next.toNat w).map fun l => if inP (pointOf ps k) r then s :: l else l
end
theorem one_sub {k : Nat} {s : List Nat} (h : k ∈ s) : ∀ x ∈ [k], x ∈ s := fun x hx => by rw [List.mem_singleton.1 hx]; exact h
section
variable {nm : Str} {rs : List Str} {ps : List PointL} {r : Str} (hp : protB nm rs ps = true) (hr : hasS rs r = true)
include hp
theorem AtP.sees {ns : List (List Nat)} {t : Nat} {s : List Nat} (h : AtP ps r ns t s) (hs : ∀ x ∈ s, x < ps.length) {k : Nat} (hk : k ∈ s) : Sees8 ps r ns k t := by
  refine ⟨nearP ps r s, h.2, fun x hx hi => (mem_nearP hp r hs).2 ⟨hx.sub (one_sub hk), hi⟩, fun hne x hx he => ?_⟩
  obtain ⟨z, hz⟩ := List.exists_mem_of_ne_nil _ hne
  obtain ⟨hz1, hz2⟩ := (mem_nearP hp r hs).1 hz
  have hzl := near_lt hz
  have e1 : nearP ps r [z] = [z] := near_in hp r hzl hz2 (fun y => by simp)
  have m1 : z ∈ metL (outsP ps r) ps.length s := (mem_metL (outs_lt hp r) hs).2 hz1
  have m2 : x ∈ metL (outsP ps r) ps.length s := (mem_metL (outs_lt hp r) hs).2 (hx.sub (one_sub hk))
  have hc : mixedP ps r s = true := by
    unfold mixedP
    rw [Bool.and_eq_true, List.any_eq_true, List.any_eq_true]
    exact ⟨⟨x, m2, by unfold lostP; rw [he]; rfl⟩, ⟨z, m1, by unfold lostP; rw [e1]; rfl⟩⟩
  rw [h.1] at hc
  cases hc
omit hp in
theorem Sees8.out {ns : List (List Nat)} {k t : Nat} (h : Sees8 ps r ns k t) (hi : inP (pointOf ps k) r = false) {a : ArmL} (ha : a ∈ (pointOf ps k).arms) : Sees8 ps r ns a.next.toNat t := by
  obtain ⟨near, h1, h2, h3⟩ := h
  have hsub : ∀ x, Met (outsP ps r) [a.next.toNat] x → Met (outsP ps r) [k] x := fun x hx => Met.one.2 (.inr (hx.sub (one_sub (by
    unfold outsP
    rw [if_neg (by rw [hi]; simp)]
    exact List.mem_map.2 ⟨a, ha, rfl⟩))))
  exact ⟨near, h1, fun x hx => h2 x (hsub x hx), fun hn x hx => h3 hn x (hsub x hx)⟩
omit hp in
theorem Sees8.here {ns : List (List Nat)} {k t : Nat} (h : Sees8 ps r ns k t) (hi : inP (pointOf ps k) r = true) : ∃ near, ns[t]? = some near ∧ k ∈ near := by
  obtain ⟨near, h1, h2, _⟩ := h
  exact ⟨near, h1, h2 k (.base (by simp)) hi⟩
omit hp in
theorem Sees8.lt {ns : List (List Nat)} {k t : Nat} (h : Sees8 ps r ns k t) : t < ns.length := by
  obtain ⟨near, h1, _⟩ := h
  exact (List.getElem?_eq_some_iff.1 h1).1
omit hp in
theorem mem_pts {near : List Nat} {k : Nat} (h : k ∈ near) : pointOf ps k ∈ ptsOf ps near := List.mem_map.2 ⟨k, h, rfl⟩
omit hp in
theorem mem_labs {f : List PointL} {x : PointL} {a : ArmL} (hx : x ∈ f) (ha : a ∈ x.arms) : a.label ∈ labs8 f := List.mem_flatMap.2 ⟨x, hx, List.mem_map.2 ⟨a, ha, rfl⟩⟩
omit hp in
theorem mem_at {f : List PointL} {x : PointL} {a : ArmL} (hx : x ∈ f) (ha : a ∈ x.arms) : a ∈ armsAt f a.label := List.mem_filter.2 ⟨List.mem_flatMap.2 ⟨x, hx, ha⟩, by simp⟩
theorem nexts_in {near : List Nat} (hn : ∀ x ∈ near, x < ps.length) (s : Str) : ∀ x ∈ nextsP (armsAt (ptsOf ps near) s), x < ps.length := by
  intro x hx
  unfold nextsP at hx
  obtain ⟨a, ha, rfl⟩ := List.mem_map.1 hx
  obtain ⟨y, hy, ha2⟩ := mem_armsAt ha
  obtain ⟨i, hi, rfl⟩ := List.mem_map.1 hy
  exact (pt_next hp (hn i hi) ha2).2.1
section
variable {ts : List TurnL} {ns : List (List Nat)} (h : RoleOk ps r ts ns)
include h
omit hp in
theorem RoleOk.low {t : Nat} {near : List Nat} (hn : ns[t]? = some near) : ∀ x ∈ near, x < ps.length ∧ inP (pointOf ps x) r = true := by
  obtain ⟨s, hs⟩ := h.2.2.1.2.2 near (List.mem_of_getElem? hn)
  intro x hx
  rw [hs] at hx
  exact ⟨near_lt hx, near_in_it hx⟩
omit hp in
/-- The turn of a near set. -/
theorem RoleOk.turn {t : Nat} {near : List Nat} (hn : ns[t]? = some near) : ∃ tt, ts[t]? = some tt ∧ TurnOk ps r ns near tt := by
  have hlt : t < ts.length := by rw [← h.1]; exact (List.getElem?_eq_some_iff.1 hn).1
  obtain ⟨n2, h1, h2⟩ := h.2.2.2.2.1 t _ (List.getElem?_eq_getElem hlt)
  rw [hn] at h1
  obtain rfl := Option.some.inj h1
  exact ⟨_, List.getElem?_eq_getElem hlt, h2⟩
theorem Sees8.inn {k t : Nat} (hs : Sees8 ps r ns k t) (_hk : k < ps.length) (hi : inP (pointOf ps k) r = true) {a : ArmL} (ha : a ∈ (pointOf ps k).arms) :
    ∃ tt b, ts[t]? = some tt ∧ b ∈ tt.arms ∧ b.label = a.label ∧ Sees8 ps r ns a.next.toNat b.next.toNat := by
  obtain ⟨near, hn, hkn⟩ := hs.here hi
  obtain ⟨tt, ht, hok⟩ := h.turn hn
  rcases hok with ⟨rfl, _⟩ | ⟨_, _, _, _, h5, h6⟩
  · cases hkn
  · have hl : a.label ∈ tt.arms.map ArmL.label := by rw [h5, mem_labelsP]; exact mem_labs (mem_pts hkn) ha
    obtain ⟨b, hb, hbl⟩ := List.mem_map.1 hl
    have hA := (h6 b hb).2.2.2
    rw [hbl] at hA
    exact ⟨tt, b, ht, hb, hbl, hA.sees hp (nexts_in hp (fun x hx => (h.low hn x hx).1) _) (List.mem_map.2 ⟨a, mem_at (mem_pts hkn) ha, rfl⟩)⟩
theorem way_sees : ∀ (way : List Str) (k t q : Nat), k < ps.length → Sees8 ps r ns k t → walkT (ps.map asT) k way = some q →
    ∃ l u, ownP ps r k way = some l ∧ walkT ts t l = some u ∧ Sees8 ps r ns q u ∧ q < ps.length
  | [], k, t, q, hk, hs, hw => by
    rw [walkT] at hw
    obtain rfl := Option.some.inj hw
    exact ⟨[], t, rfl, rfl, hs, hk⟩
  | s :: w, k, t, q, hk, hs, hw => by
    rw [walkT, armsOf_asT] at hw
    rw [ownP]
    cases hf : findA (pointOf ps k).arms s with
    | none => rw [hf] at hw; cases hw
    | some a =>
      rw [hf] at hw
      dsimp only at hw ⊢
      have ham : a ∈ (pointOf ps k).arms ∧ a.label = s := by
        unfold findA at hf
        exact ⟨List.mem_of_find?_eq_some hf, by simpa using List.find?_some hf⟩
      have hnx := pt_next hp hk ham.1
      cases hi : inP (pointOf ps k) r with
      | false =>
        obtain ⟨l, u, h1, h2, h3, h4⟩ := way_sees w a.next.toNat t q hnx.2.1 (hs.out hi ham.1) hw
        exact ⟨l, u, by rw [h1]; rfl, h2, h3, h4⟩
      | true =>
        obtain ⟨tt, b, ht, hb, hbl, hsb⟩ := Sees8.inn hp h hs hk hi ham.1
        obtain ⟨l, u, h1, h2, h3, h4⟩ := way_sees w a.next.toNat b.next.toNat q hnx.2.1 hsb hw
        have hnd : (tt.arms.map ArmL.label).Nodup := by
          obtain ⟨n2, _, h8⟩ := h.2.2.2.2.1 t tt ht
          exact h8.sorted.1
        refine ⟨s :: l, u, by rw [h1]; rfl, ?_, h3, h4⟩
        rw [walkT, show Go.Proofs.YtiofpeckcfdilaaGreatDoor.armsOf ts t = tt.arms by unfold Go.Proofs.YtiofpeckcfdilaaGreatDoor.armsOf; rw [ht]; rfl, (findA_some hnd).2 ⟨hb, hbl.trans ham.2⟩]
        exact h2
theorem start_sees (h0 : 0 < ps.length) : Sees8 ps r ns 0 0 := h.2.2.2.1.sees hp (fun x hx => by rw [List.mem_singleton.1 hx]; exact h0) (by simp)
theorem walk_sees {way : List Str} {q : Nat} (hw : walkP ps way = some q) : ∃ l u, ownP ps r 0 way = some l ∧ walkT ts 0 l = some u ∧ Sees8 ps r ns q u ∧ q < ps.length := by
  have h0 : 0 < ps.length := (protB_all hp).2.2.1
  exact way_sees hp h way 0 0 q h0 (start_sees hp h h0) hw
include hr
/-- What the turn is where the role takes part. -/
theorem sees_point {q u : Nat} (hs : Sees8 ps r ns q u) (hq : q < ps.length) {t : TurnL} (ht : ts[u]? = some t) :
    ((pointOf ps q).src = r → t.kind = 1 ∧ t.peer = (pointOf ps q).dst ∧ t.arms.length = (pointOf ps q).arms.length) ∧
    ((pointOf ps q).dst = r → t.kind = 2 ∧ t.peer = (pointOf ps q).src ∧ (pointOf ps q).arms.length ≤ t.arms.length) := by
  have key : inP (pointOf ps q) r = true → (pointOf (ptsOf ps [q]) 0 = pointOf ps q) ∧ ∃ near, ns[u]? = some near ∧ q ∈ near ∧ faultP (kindP r (ptsOf ps near)) (ptsOf ps near) (labelsP (ptsOf ps near)) = 0 ∧ t.kind = kindP r (ptsOf ps near) ∧ t.peer = peerP r (ptsOf ps near) ∧ t.arms.map ArmL.label = labelsP (ptsOf ps near) := fun hi => by
    refine ⟨rfl, ?_⟩
    obtain ⟨near, hn, hqn⟩ := hs.here hi
    obtain ⟨tt, h1, h2⟩ := h.turn hn
    rw [ht] at h1
    obtain rfl := Option.some.inj h1
    rcases h2 with ⟨rfl, _⟩ | ⟨_, h3, h4, h5, h6, _⟩
    · cases hqn
    · exact ⟨near, hn, hqn, h3, h4, h5, h6⟩
  have same : ∀ near, q ∈ near → sameRolesP (ptsOf ps near) = true → (pointOf ps q).src = (pointOf (ptsOf ps near) 0).src ∧ (pointOf ps q).dst = (pointOf (ptsOf ps near) 0).dst := fun near hqn hsr => by
    unfold sameRolesP at hsr
    have := List.all_eq_true.1 hsr _ (mem_pts hqn)
    simpa using this
  constructor
  · intro hsrc
    have hi : inP (pointOf ps q) r = true := by unfold inP; rw [hsrc]; simp
    obtain ⟨_, near, hn, hqn, hf, hk, hpe, hl⟩ := key hi
    obtain ⟨f1, f2, f3, f4⟩ := faultP_zero hf
    obtain ⟨s1, s2⟩ := same near hqn f1
    have hne := (pt_role hp hr hq hi).1
    have hd : ((pointOf (ptsOf ps near) 0).dst == r) = false := by
      rw [beq_eq_false_iff_ne, ← s2, ← hsrc]
      exact fun e => hne e.symm
    have hk1 : kindP r (ptsOf ps near) = 1 := by unfold kindP; rw [hd]; rfl
    refine ⟨hk.trans hk1, ?_, ?_⟩
    · rw [hpe]
      unfold peerP
      rw [hd, s2]
      rfl
    · have h7 := f2 hk1
      unfold sameLabelsP at h7
      have h8 := List.all_eq_true.1 h7 _ (mem_pts hqn)
      rw [decide_eq_true_eq] at h8
      have h9 := congrArg List.length hl
      rw [List.length_map] at h9
      rw [h9, h8]
  · intro hdst
    have hi : inP (pointOf ps q) r = true := by unfold inP; rw [hdst]; simp
    obtain ⟨_, near, hn, hqn, hf, hk, hpe, hl⟩ := key hi
    obtain ⟨f1, f2, f3, f4⟩ := faultP_zero hf
    obtain ⟨s1, s2⟩ := same near hqn f1
    have hd : ((pointOf (ptsOf ps near) 0).dst == r) = true := by rw [← s2, hdst]; simp
    refine ⟨?_, ?_, ?_⟩
    · rw [hk]
      unfold kindP
      rw [hd]
      rfl
    · rw [hpe]
      unfold peerP
      rw [hd, s1]
      rfl
    · have h9 := congrArg List.length hl
      rw [List.length_map] at h9
      rw [h9]
      have hnd := (armsB_all (pt_role hp hr hq hi).2.2.2).2.1
      have := len_of_sub ((pointOf ps q).arms.map ArmL.label) (labelsP (ptsOf ps near)) hnd (fun s hs2 => by
        obtain ⟨a, ha, rfl⟩ := List.mem_map.1 hs2
        rw [mem_labelsP]
        exact mem_labs (mem_pts hqn) ha)
      rwa [List.length_map] at this
omit hr in
/-- Where it is over for the role. -/
theorem sees_end {q u : Nat} (hs : Sees8 ps r ns q u) (hq : q < ps.length) {t : TurnL} (ht : ts[u]? = some t) : (nearP ps r [q] = [] ∧ t.kind = 0) ∨ (nearP ps r [q] ≠ [] ∧ t.kind ≠ 0) := by
  obtain ⟨near, hn, h2, h3⟩ := hs
  obtain ⟨tt, h4, h5⟩ := h.turn hn
  rw [ht] at h4
  obtain rfl := Option.some.inj h4
  rcases h5 with ⟨rfl, rfl⟩ | ⟨hne, _, h6, _⟩
  · refine .inl ⟨?_, rfl⟩
    cases hc : nearP ps r [q] with
    | nil => rfl
    | cons x l =>
      have hx : x ∈ nearP ps r [q] := by rw [hc]; simp
      obtain ⟨h7, h8⟩ := (mem_nearP hp r (fun y hy => by rw [List.mem_singleton.1 hy]; exact hq)).1 hx
      have := h2 x h7 h8
      cases this
  · refine .inr ⟨h3 hne q (.base (by simp)), ?_⟩
    rw [h6]
    unfold kindP
    split <;> decide
end
end
end Go.Proofs.YtiofpeckcfdilaaGreatDoor

/- Plain: a projection is valid and its own trim; its peers are other roles. No program stands in this text. -/
namespace Go.Proofs.YtiofpeckcfdilaaGreatDoor
open Go.RowKit

theorem firstA_mem {l : List ArmL} (h : 0 < l.length) : firstA l ∈ l := by
  cases l with
  | nil => exact absurd h (Nat.lt_irrefl 0)
  | cons a l => exact List.mem_cons_self
theorem idx_range {n k : Nat} (h : k < n) : (List.range n).idxOf k = k := by
  have h1 := (List.nodup_range (n := n)).idxOf_getElem k (by rw [List.length_range]; exact h)
  rwa [List.getElem_range] at h1
section
variable {nm : Str} {rs : List Str} {ps : List PointL} {r : Str} (hp : protB nm rs ps = true) (hr : hasS rs r = true) {ts : List TurnL} {ns : List (List Nat)} (h : RoleOk ps r ts ns)
include hp hr h
/-- A turn that is no end: its peer is another role, its arms are valid. -/
theorem turn_valid {j : Nat} {t : TurnL} (ht : ts[j]? = some t) : t = ⟨0, [], []⟩ ∨ ((t.kind = 1 ∨ t.kind = 2) ∧ t.peer ∈ rs ∧ t.peer ≠ r ∧ armsB ts.length t.arms = true) := by
  obtain ⟨near, hn, hok⟩ := h.2.2.2.2.1 j t ht
  have hsd := hok.sorted.1
  have hlow := h.low hn
  rcases hok with ⟨_, e⟩ | ⟨hne, hf, hk, hpe, hl, ha⟩
  · exact .inl e
  · refine .inr ?_
    obtain ⟨f1, f2, f3, f4⟩ := faultP_zero hf
    obtain ⟨y, rest, rfl⟩ : ∃ y rest, near = y :: rest := by
      cases near with
      | nil => exact absurd rfl hne
      | cons y rest => exact ⟨y, rest, rfl⟩
    have hy := hlow y (by simp)
    have hpo : pointOf (ptsOf ps (y :: rest)) 0 = pointOf ps y := rfl
    obtain ⟨q1, q2, q3, q4⟩ := pt_role hp hr hy.1 hy.2
    refine ⟨?_, ?_, ?_, ?_⟩
    · rw [hk]
      unfold kindP
      split
      · exact .inr rfl
      · exact .inl rfl
    · rw [hpe]
      unfold peerP
      rw [hpo]
      split
      · exact q2
      · exact q3
    · rw [hpe]
      unfold peerP
      rw [hpo]
      split
      · rename_i hd
        rw [beq_iff_eq] at hd
        rw [← hd]
        exact q1
      · rename_i hd
        rw [beq_iff_eq] at hd
        exact hd
    · have hlen : t.arms.length = (labelsP (ptsOf ps (y :: rest))).length := by rw [← hl, List.length_map]
      unfold armsB
      simp only [Bool.and_eq_true, decide_eq_true_eq, List.all_eq_true]
      refine ⟨⟨⟨fun a ham => ?_, hsd⟩, ?_⟩, by rw [hlen]; exact f3⟩
      · have hal : a.label ∈ labs8 (ptsOf ps (y :: rest)) := by
          rw [← mem_labelsP, ← hl]
          exact List.mem_map.2 ⟨a, ham, rfl⟩
        obtain ⟨k1, k2, k3, k4⟩ := ha a ham
        have hfm := firstA_mem (armsAt_pos hal)
        obtain ⟨x, hx, hxa⟩ := mem_armsAt hfm
        obtain ⟨i, hi, rfl⟩ := List.mem_map.1 hx
        have hb := armB_all (pt_next hp (hlow i hi).1 hxa).1
        have hfl : (firstA (armsAt (ptsOf ps (y :: rest)) a.label)).label = a.label := by simpa using (List.mem_filter.1 hfm).2
        have hlt := k4.lt
        rw [h.1] at hlt
        unfold armB
        simp only [Bool.and_eq_true, decide_eq_true_eq]
        exact ⟨⟨⟨by rw [← hfl]; exact hb.1, by rw [k1, k2]; exact hb.2.1⟩, k3⟩, by omega⟩
      · rw [hlen]
        obtain ⟨a, haa⟩ := List.exists_mem_of_length_pos (show 0 < (pointOf ps y).arms.length from (armsB_all q4).2.2.1)
        have : a.label ∈ labelsP (ptsOf ps (y :: rest)) := by rw [mem_labelsP]; exact mem_labs (mem_pts (by simp)) haa
        exact List.length_pos_of_mem this
theorem role_valid : locB ts = true := by
  unfold locB
  simp only [Bool.and_eq_true, decide_eq_true_eq, List.all_eq_true]
  refine ⟨⟨h.2.1, by rw [← h.1]; exact h.2.2.1.1⟩, fun t ht => ?_⟩
  obtain ⟨j, hj⟩ := List.getElem?_of_mem ht
  rcases turn_valid hp hr h hj with rfl | ⟨h1, h2, _, h4⟩
  · rfl
  · unfold turnB
    rw [if_neg (by omega), if_pos h1, (rolesB_all (protB_all hp).2.1).2.2.2 _ h2, h4]
    rfl
theorem role_own_trim : trimT ts = ts := by
  refine List.ext_getElem? fun p => ?_
  unfold trimT
  rw [h.2.2.2.2.2, List.getElem?_map]
  rcases Nat.lt_or_ge p ts.length with hlt | hge
  · rw [List.getElem?_range hlt, Option.map_some, turnOf_lt hlt, List.getElem?_eq_getElem hlt]
    congr 1
    obtain ⟨near, _, hok⟩ := h.2.2.2.2.1 p _ (List.getElem?_eq_getElem hlt)
    have hm : movedA (List.range ts.length) ts[p].arms = ts[p].arms := by
      unfold movedA
      rw [hok.sorted.2]
      conv => rhs; rw [← List.map_id ts[p].arms]
      refine List.map_congr_left fun a ha => ?_
      have hb := (armB_all ((turn_ok ((locB_one (role_valid hp hr h)).2.2 _ (List.getElem_mem hlt))).1 a ha)).2.2
      rw [idx_range (show a.next.toNat < ts.length by omega)]
      unfold toA
      rw [show ((a.next.toNat : Nat) : Int) = a.next by omega]
      rfl
    rw [hm]
  · rw [List.getElem?_eq_none (by rw [List.length_range]; exact hge), List.getElem?_eq_none hge]
    rfl
theorem role_peers {t : TurnL} (ht : t ∈ ts) (hk : t.kind ≠ 0) : t.peer ≠ r ∧ t.peer ∈ rs := by
  obtain ⟨j, hj⟩ := List.getElem?_of_mem ht
  rcases turn_valid hp hr h hj with rfl | ⟨_, h2, h3, _⟩
  · exact absurd rfl hk
  · exact ⟨h3, h2⟩
end
end Go.Proofs.YtiofpeckcfdilaaGreatDoor

/- Plain: points under other numbers: the projection is the same. No program stands in this text. -/
namespace Go.Proofs.YtiofpeckcfdilaaGreatDoor
open Go.RowKit

/-- The places in R of ps stand, under f, in qs. -/
structure Ren (ps qs : List PointL) (R : List Nat) (f : Nat → Nat) : Prop where
  lt : ∀ k ∈ R, k < ps.length ∧ f k < qs.length
  inj : ∀ p ∈ R, ∀ q ∈ R, f p = f q → p = q
  closed : ∀ k ∈ R, ∀ a ∈ (pointOf ps k).arms, a.next.toNat ∈ R
  pt : ∀ k ∈ R, (pointOf qs (f k)).src = (pointOf ps k).src ∧ (pointOf qs (f k)).dst = (pointOf ps k).dst ∧ (pointOf qs (f k)).arms.length = (pointOf ps k).arms.length ∧ ∀ b, b ∈ (pointOf qs (f k)).arms ↔ ∃ a ∈ (pointOf ps k).arms, b = toA a (f a.next.toNat)
def Im8 (f : Nat → Nat) (s s' : List Nat) : Prop := ∀ x, x ∈ s' ↔ ∃ y ∈ s, f y = x
def gS8 (n : Nat) (f : Nat → Nat) (l : List Nat) : List Nat := (List.range n).filter fun j => decide (j ∈ l.map f)
theorem idx_mapG {α β : Type} [BEq α] [LawfulBEq α] [BEq β] [LawfulBEq β] {g : α → β} : ∀ (l : List α) (x : α), x ∈ l → (∀ p ∈ l, ∀ q ∈ l, g p = g q → p = q) → (l.map g).idxOf (g x) = l.idxOf x
  | [], _, h, _ => by cases h
  | y :: l, x, h, hi => by
    rw [List.map_cons, List.idxOf_cons, List.idxOf_cons]
    by_cases e : y = x
    · subst e; simp
    · have e2 : g y ≠ g x := fun k => e (hi y (by simp) x h k)
      have hx : x ∈ l := by
        rcases List.mem_cons.1 h with k | k
        · exact absurd k.symm e
        · exact k
      rw [beq_eq_false_iff_ne.2 e, beq_eq_false_iff_ne.2 e2, cond_false, cond_false, idx_mapG l x hx (fun p hp q hq => hi p (by simp [hp]) q (by simp [hq]))]
theorem near_ext {ps : List PointL} {r : Str} {s t : List Nat} (h : ∀ x, x ∈ nearP ps r s ↔ x ∈ nearP ps r t) : nearP ps r s = nearP ps r t := by
  unfold nearP spanP at h ⊢
  rw [List.filter_filter, List.filter_filter] at h ⊢
  refine List.filter_congr fun x hx => ?_
  have h1 := h x
  rw [List.mem_filter, List.mem_filter] at h1
  rw [Bool.eq_iff_iff]
  exact ⟨fun k => (h1.1 ⟨hx, k⟩).2, fun k => (h1.2 ⟨hx, k⟩).2⟩
theorem sameRoles_iff (f : List PointL) : sameRolesP f = true ↔ ∀ x ∈ f, ∀ y ∈ f, x.src = y.src ∧ x.dst = y.dst := by
  unfold sameRolesP
  rw [List.all_eq_true]
  constructor
  · intro h x hx y hy
    have h1 := h x hx
    have h2 := h y hy
    simp only [Bool.and_eq_true, beq_iff_eq] at h1 h2
    exact ⟨h1.1.trans h2.1.symm, h1.2.trans h2.2.symm⟩
  · intro h x hx
    cases f with
    | nil => cases hx
    | cons y l =>
      have := h x hx y (by simp)
      show (x.src == y.src && x.dst == y.dst) = true
      rw [this.1, this.2]
      simp
theorem sameCarries_iff (f : List PointL) (ls : List Str) : sameCarriesP f ls = true ↔ ∀ s ∈ ls, ∀ a ∈ armsAt f s, ∀ b ∈ armsAt f s, a.ck = b.ck ∧ a.cn = b.cn := by
  unfold sameCarriesP
  rw [List.all_eq_true]
  constructor
  · intro h s hs a ha b hb
    have h1 := List.all_eq_true.1 (h s hs) a ha
    have h2 := List.all_eq_true.1 (h s hs) b hb
    simp only [Bool.and_eq_true, decide_eq_true_eq, beq_iff_eq] at h1 h2
    exact ⟨h1.1.trans h2.1.symm, h1.2.trans h2.2.symm⟩
  · intro h s hs
    rw [List.all_eq_true]
    intro a ha
    have := h s hs a ha _ (firstA_mem (List.length_pos_of_mem ha))
    rw [this.1, this.2]
    simp
def mapL8 (g : List Nat → List Nat) {α : Type} (x : Except Int (α × List (List Nat))) : Except Int (α × List (List Nat)) := match x with
  | .error e => .error e
  | .ok (k, ns) => .ok (k, ns.map g)
section
variable {nm nm' : Str} {rs rs' : List Str} {ps qs : List PointL} {R : List Nat} {f : Nat → Nat} {r : Str} (hp : protB nm rs ps = true) (hq : protB nm' rs' qs = true) (M : Ren ps qs R f)
include M
theorem Ren.inp {k : Nat} (hk : k ∈ R) : inP (pointOf qs (f k)) r = inP (pointOf ps k) r := by
  unfold inP
  rw [(M.pt k hk).1, (M.pt k hk).2.1]
theorem Ren.outs {k : Nat} (hk : k ∈ R) (x : Nat) : x ∈ outsP qs r (f k) ↔ ∃ y ∈ outsP ps r k, f y = x := by
  unfold outsP
  rw [M.inp hk]
  cases inP (pointOf ps k) r with
  | true => simp
  | false =>
    rw [if_neg (by simp), if_neg (by simp), List.mem_map]
    constructor
    · rintro ⟨b, hb, rfl⟩
      obtain ⟨a, ha, rfl⟩ := ((M.pt k hk).2.2.2 b).1 hb
      exact ⟨a.next.toNat, List.mem_map.2 ⟨a, ha, rfl⟩, (Int.toNat_natCast _).symm⟩
    · rintro ⟨y, hy, rfl⟩
      obtain ⟨a, ha, rfl⟩ := List.mem_map.1 hy
      exact ⟨toA a (f a.next.toNat), ((M.pt k hk).2.2.2 _).2 ⟨a, ha, rfl⟩, Int.toNat_natCast _⟩
theorem Ren.met {s s' : List Nat} (hs : ∀ x ∈ s, x ∈ R) (hi : Im8 f s s') : (∀ y, Met (outsP ps r) s y → y ∈ R ∧ Met (outsP qs r) s' (f y)) ∧ ∀ x, Met (outsP qs r) s' x → ∃ y, Met (outsP ps r) s y ∧ f y = x := by
  have h1 : ∀ y, Met (outsP ps r) s y → y ∈ R ∧ Met (outsP qs r) s' (f y) := fun y hy => by
    induction hy with
    | base h => exact ⟨hs _ h, .base ((hi _).2 ⟨_, h, rfl⟩)⟩
    | step _ h2 ih =>
      refine ⟨?_, .step ih.2 ((M.outs ih.1 _).2 ⟨_, h2, rfl⟩)⟩
      unfold outsP at h2
      split at h2
      · cases h2
      · obtain ⟨a, ha, rfl⟩ := List.mem_map.1 h2
        exact M.closed _ ih.1 a ha
  refine ⟨h1, fun x hx => ?_⟩
  induction hx with
  | base h =>
    obtain ⟨y, hy, rfl⟩ := (hi _).1 h
    exact ⟨y, .base hy, rfl⟩
  | step _ h2 ih =>
    obtain ⟨y, hy, rfl⟩ := ih
    obtain ⟨z, hz, rfl⟩ := (M.outs (h1 y hy).1 _).1 h2
    exact ⟨z, .step hy hz, rfl⟩
include hp hq
theorem Ren.near {s s' : List Nat} (hs : ∀ x ∈ s, x ∈ R) (hi : Im8 f s s') : nearP qs r s' = gS8 qs.length f (nearP ps r s) := by
  have hsl : ∀ x ∈ s, x < ps.length := fun x hx => (M.lt x (hs x hx)).1
  have hsl' : ∀ x ∈ s', x < qs.length := fun x hx => by
    obtain ⟨y, hy, rfl⟩ := (hi x).1 hx
    exact (M.lt y (hs y hy)).2
  obtain ⟨m1, m2⟩ := M.met (r := r) hs hi
  have hm : ∀ x, x ∈ nearP qs r s' ↔ ∃ y ∈ nearP ps r s, f y = x := fun x => by
    rw [mem_nearP hq r hsl']
    constructor
    · rintro ⟨h1, h2⟩
      obtain ⟨y, hy, rfl⟩ := m2 x h1
      rw [M.inp (m1 y hy).1] at h2
      exact ⟨y, (mem_nearP hp r hsl).2 ⟨hy, h2⟩, rfl⟩
    · rintro ⟨y, hy, rfl⟩
      obtain ⟨h1, h2⟩ := (mem_nearP hp r hsl).1 hy
      exact ⟨(m1 y h1).2, by rw [M.inp (m1 y h1).1]; exact h2⟩
  unfold nearP spanP at hm
  unfold gS8
  unfold nearP spanP
  rw [List.filter_filter] at hm ⊢
  refine List.filter_congr fun x hx => ?_
  have h1 := hm x
  rw [List.mem_filter] at h1
  rw [Bool.eq_iff_iff, decide_eq_true_eq, List.mem_map]
  exact ⟨fun k => h1.1 ⟨hx, k⟩, fun k => (h1.2 k).2⟩
omit hp hq in
theorem Ren.mem_g {l : List Nat} (hl : ∀ x ∈ l, x ∈ R) (x : Nat) : x ∈ gS8 qs.length f l ↔ ∃ y ∈ l, f y = x := by
  unfold gS8
  rw [List.mem_filter, decide_eq_true_eq, List.mem_map, List.mem_range]
  constructor
  · exact fun h => h.2
  · rintro ⟨y, hy, rfl⟩
    exact ⟨(M.lt y (hl y hy)).2, y, hy, rfl⟩
omit hp hq in
theorem Ren.g_nil {l : List Nat} (hl : ∀ x ∈ l, x ∈ R) : (gS8 qs.length f l).isEmpty = l.isEmpty := by
  cases l with
  | nil =>
    unfold gS8
    rw [List.filter_eq_nil_iff.2 (fun x _ => by simp)]
  | cons y l =>
    have : f y ∈ gS8 qs.length f (y :: l) := (M.mem_g hl _).2 ⟨y, by simp, rfl⟩
    cases hc : gS8 qs.length f (y :: l) with
    | nil => rw [hc] at this; cases this
    | cons _ _ => rfl
/-- Near sets of places in R. -/
def InR8 (ps : List PointL) (r : Str) (R : List Nat) (ns : List (List Nat)) : Prop := ∀ l ∈ ns, (∃ s, l = nearP ps r s) ∧ ∀ x ∈ l, x ∈ R
omit hp hq in
theorem Ren.g_inj {l m : List Nat} (hl : (∃ s, l = nearP ps r s) ∧ ∀ x ∈ l, x ∈ R) (hm : (∃ s, m = nearP ps r s) ∧ ∀ x ∈ m, x ∈ R) (he : gS8 qs.length f l = gS8 qs.length f m) : l = m := by
  have key : ∀ {a b : List Nat}, (∀ x ∈ a, x ∈ R) → (∀ x ∈ b, x ∈ R) → gS8 qs.length f a = gS8 qs.length f b → ∀ x ∈ a, x ∈ b := fun {a b} ha hb hab x hx => by
    have h1 : f x ∈ gS8 qs.length f b := by rw [← hab]; exact (M.mem_g ha _).2 ⟨x, hx, rfl⟩
    obtain ⟨y, hy, e⟩ := (M.mem_g hb _).1 h1
    rw [← M.inj y (hb y hy) x (ha x hx) e]
    exact hy
  obtain ⟨⟨s, rfl⟩, h1⟩ := hl
  obtain ⟨⟨t, rfl⟩, h2⟩ := hm
  exact near_ext fun x => ⟨key h1 h2 he x, key h2 h1 he.symm x⟩
theorem Ren.lost {k : Nat} (hk : k ∈ R) : lostP qs r (f k) = lostP ps r k := by
  have hs : ∀ x ∈ [k], x ∈ R := fun x hx => by rw [List.mem_singleton.1 hx]; exact hk
  unfold lostP
  rw [M.near hp hq hs (s' := [f k]) (fun x => by simp [eq_comm]), M.g_nil fun x hx => ?_]
  exact ((M.met (r := r) hs (s' := [f k]) (fun x => by simp [eq_comm])).1 x ((mem_nearP hp r (fun y hy => (M.lt y (hs y hy)).1)).1 hx).1).1
theorem Ren.mixed {s s' : List Nat} (hs : ∀ x ∈ s, x ∈ R) (hi : Im8 f s s') : mixedP qs r s' = mixedP ps r s := by
  have hsl : ∀ x ∈ s, x < ps.length := fun x hx => (M.lt x (hs x hx)).1
  have hsl' : ∀ x ∈ s', x < qs.length := fun x hx => by
    obtain ⟨y, hy, rfl⟩ := (hi x).1 hx
    exact (M.lt y (hs y hy)).2
  obtain ⟨m1, m2⟩ := M.met (r := r) hs hi
  have key : ∀ (b : Bool → Bool), (metL (outsP qs r) qs.length s').any (fun k => b (lostP qs r k)) = (metL (outsP ps r) ps.length s).any (fun k => b (lostP ps r k)) := fun b => by
    rw [Bool.eq_iff_iff, List.any_eq_true, List.any_eq_true]
    constructor
    · rintro ⟨x, hx, hb⟩
      obtain ⟨y, hy, rfl⟩ := m2 x ((mem_metL (outs_lt hq r) hsl').1 hx)
      rw [M.lost hp hq (m1 y hy).1] at hb
      exact ⟨y, (mem_metL (outs_lt hp r) hsl).2 hy, hb⟩
    · rintro ⟨y, hy, hb⟩
      have hy2 := (mem_metL (outs_lt hp r) hsl).1 hy
      rw [← M.lost hp hq (m1 y hy2).1] at hb
      exact ⟨f y, (mem_metL (outs_lt hq r) hsl').2 (m1 y hy2).2, hb⟩
  unfold mixedP
  have h1 := key id
  have h2 := key (fun b => !b)
  simp only [id_eq] at h1
  rw [show (metL (outsP qs r) qs.length s').any (lostP qs r) = (metL (outsP ps r) ps.length s).any (lostP ps r) from h1, h2]
omit hq in
theorem Ren.near_R {s : List Nat} (hs : ∀ x ∈ s, x ∈ R) : ∀ x ∈ nearP ps r s, x ∈ R := fun x hx =>
  ((M.met (r := r) hs (s' := s.map f) (fun x => by rw [List.mem_map])).1 x ((mem_nearP hp r (fun y hy => (M.lt y (hs y hy)).1)).1 hx).1).1
theorem Ren.look {s s' : List Nat} (hs : ∀ x ∈ s, x ∈ R) (hi : Im8 f s s') {ns : List (List Nat)} (hns : InR8 ps r R ns) :
    lookP qs r (ns.map (gS8 qs.length f)) s' = mapL8 (gS8 qs.length f) (lookP ps r ns s) ∧ ∀ k ns', lookP ps r ns s = .ok (k, ns') → InR8 ps r R ns' := by
  have hnr : (∃ t, nearP ps r s = nearP ps r t) ∧ ∀ x ∈ nearP ps r s, x ∈ R := ⟨⟨s, rfl⟩, M.near_R hp hs⟩
  have hmem : nearP qs r s' ∈ ns.map (gS8 qs.length f) ↔ nearP ps r s ∈ ns := by
    rw [M.near hp hq hs hi, List.mem_map]
    constructor
    · rintro ⟨l, hl, e⟩
      rw [← M.g_inj (hns l hl) hnr e]
      exact hl
    · exact fun h => ⟨_, h, rfl⟩
  unfold lookP
  rw [M.mixed hp hq hs hi]
  cases mixedP ps r s with
  | true => exact ⟨rfl, fun k ns' h => by cases h⟩
  | false =>
    simp only [Bool.false_eq_true, if_false]
    by_cases h1 : nearP ps r s ∈ ns
    · rw [if_pos h1, if_pos (hmem.2 h1)]
      refine ⟨?_, fun k ns' h => by cases h; exact hns⟩
      unfold mapL8
      rw [M.near hp hq hs hi, idx_mapG ns _ h1 (fun p hp2 q hq2 e => M.g_inj (hns p hp2) (hns q hq2) e)]
    · rw [if_neg h1, if_neg (fun k => h1 (hmem.1 k)), List.length_map]
      by_cases h2 : ns.length = 40
      · rw [if_pos h2, if_pos h2]
        exact ⟨rfl, fun k ns' h => by cases h⟩
      · rw [if_neg h2, if_neg h2]
        refine ⟨?_, fun k ns' h => ?_⟩
        · unfold mapL8
          dsimp only
          rw [List.map_append, List.map_singleton, M.near hp hq hs hi]
        · cases h
          intro l hl
          rcases List.mem_append.1 hl with hl | hl
          · exact hns l hl
          · rw [List.mem_singleton.1 hl]
            exact hnr
section
variable {l : List Nat} (hl : (∃ s, l = nearP ps r s) ∧ ∀ x ∈ l, x ∈ R)
include hl
omit hp hq in
theorem Ren.pts : (∀ y ∈ ptsOf qs (gS8 qs.length f l), ∃ k ∈ l, y = pointOf qs (f k)) ∧ ∀ k ∈ l, pointOf qs (f k) ∈ ptsOf qs (gS8 qs.length f l) := by
  constructor
  · intro y hy
    obtain ⟨x, hx, rfl⟩ := List.mem_map.1 hy
    obtain ⟨k, hk, rfl⟩ := (M.mem_g hl.2 x).1 hx
    exact ⟨k, hk, rfl⟩
  · intro k hk
    exact mem_pts ((M.mem_g hl.2 _).2 ⟨k, hk, rfl⟩)
omit hp hq in
theorem Ren.labs (s : Str) : s ∈ labs8 (ptsOf qs (gS8 qs.length f l)) ↔ s ∈ labs8 (ptsOf ps l) := by
  obtain ⟨p1, p2⟩ := M.pts hl
  constructor
  · intro h
    obtain ⟨y, hy, b, hb, rfl⟩ := mem_labs8 h
    obtain ⟨k, hk, rfl⟩ := p1 y hy
    obtain ⟨a, ha, rfl⟩ := ((M.pt k (hl.2 k hk)).2.2.2 b).1 hb
    show a.label ∈ _
    exact mem_labs (mem_pts hk) ha
  · intro h
    obtain ⟨x, hx, a, ha, rfl⟩ := mem_labs8 h
    obtain ⟨k, hk, rfl⟩ := List.mem_map.1 hx
    exact mem_labs (a := toA a (f a.next.toNat)) (p2 k hk) (((M.pt k (hl.2 k hk)).2.2.2 _).2 ⟨a, ha, rfl⟩)
omit hp hq in
theorem Ren.at_ (s : Str) (b : ArmL) : b ∈ armsAt (ptsOf qs (gS8 qs.length f l)) s ↔ ∃ a ∈ armsAt (ptsOf ps l) s, b = toA a (f a.next.toNat) := by
  obtain ⟨p1, p2⟩ := M.pts hl
  constructor
  · intro h
    obtain ⟨y, hy, hb⟩ := mem_armsAt h
    have hbl : b.label = s := by simpa using (List.mem_filter.1 h).2
    obtain ⟨k, hk, rfl⟩ := p1 y hy
    obtain ⟨a, ha, rfl⟩ := ((M.pt k (hl.2 k hk)).2.2.2 b).1 hb
    refine ⟨a, ?_, rfl⟩
    rw [← hbl]
    exact mem_at (a := a) (mem_pts hk) ha
  · rintro ⟨a, h, rfl⟩
    obtain ⟨x, hx, ha⟩ := mem_armsAt h
    have hal : a.label = s := by simpa using (List.mem_filter.1 h).2
    obtain ⟨k, hk, rfl⟩ := List.mem_map.1 hx
    have := mem_at (a := toA a (f a.next.toNat)) (p2 k hk) (((M.pt k (hl.2 k hk)).2.2.2 _).2 ⟨a, ha, rfl⟩)
    rwa [show (toA a (f a.next.toNat)).label = s from hal] at this
omit hp hq in
theorem Ren.labels : labelsP (ptsOf qs (gS8 qs.length f l)) = labelsP (ptsOf ps l) := labelsP_ext (M.labs hl)
omit hp hq in
theorem Ren.roles : sameRolesP (ptsOf qs (gS8 qs.length f l)) = sameRolesP (ptsOf ps l) := by
  obtain ⟨p1, p2⟩ := M.pts hl
  rw [Bool.eq_iff_iff, sameRoles_iff, sameRoles_iff]
  constructor
  · intro h x hx y hy
    obtain ⟨k, hk, rfl⟩ := List.mem_map.1 hx
    obtain ⟨j, hj, rfl⟩ := List.mem_map.1 hy
    have := h _ (p2 k hk) _ (p2 j hj)
    rw [(M.pt k (hl.2 k hk)).1, (M.pt k (hl.2 k hk)).2.1, (M.pt j (hl.2 j hj)).1, (M.pt j (hl.2 j hj)).2.1] at this
    exact this
  · intro h x hx y hy
    obtain ⟨k, hk, rfl⟩ := p1 x hx
    obtain ⟨j, hj, rfl⟩ := p1 y hy
    rw [(M.pt k (hl.2 k hk)).1, (M.pt k (hl.2 k hk)).2.1, (M.pt j (hl.2 j hj)).1, (M.pt j (hl.2 j hj)).2.1]
    exact h _ (mem_pts hk) _ (mem_pts hj)
omit hp hq in
theorem Ren.sameLabels (ls : List Str) : sameLabelsP (ptsOf qs (gS8 qs.length f l)) ls = sameLabelsP (ptsOf ps l) ls := by
  obtain ⟨p1, p2⟩ := M.pts hl
  unfold sameLabelsP
  rw [Bool.eq_iff_iff, List.all_eq_true, List.all_eq_true]
  constructor
  · intro h x hx
    obtain ⟨k, hk, rfl⟩ := List.mem_map.1 hx
    have := h _ (p2 k hk)
    rwa [(M.pt k (hl.2 k hk)).2.2.1] at this
  · intro h x hx
    obtain ⟨k, hk, rfl⟩ := p1 x hx
    rw [(M.pt k (hl.2 k hk)).2.2.1]
    exact h _ (mem_pts hk)
omit hp hq in
theorem Ren.carries (ls : List Str) : sameCarriesP (ptsOf qs (gS8 qs.length f l)) ls = sameCarriesP (ptsOf ps l) ls := by
  rw [Bool.eq_iff_iff, sameCarries_iff, sameCarries_iff]
  constructor
  · intro h s hs a ha b hb
    have := h s hs (toA a (f a.next.toNat)) ((M.at_ hl s _).2 ⟨a, ha, rfl⟩) (toA b (f b.next.toNat)) ((M.at_ hl s _).2 ⟨b, hb, rfl⟩)
    exact this
  · intro h s hs a ha b hb
    obtain ⟨a', ha', rfl⟩ := (M.at_ hl s a).1 ha
    obtain ⟨b', hb', rfl⟩ := (M.at_ hl s b).1 hb
    have := h s hs a' ha' b' hb'
    exact this
omit hp hq in
/-- The first points have the same ends, where all have. -/
theorem Ren.head (hne : l ≠ []) (h : sameRolesP (ptsOf ps l) = true) : (pointOf (ptsOf qs (gS8 qs.length f l)) 0).src = (pointOf (ptsOf ps l) 0).src ∧ (pointOf (ptsOf qs (gS8 qs.length f l)) 0).dst = (pointOf (ptsOf ps l) 0).dst := by
  obtain ⟨p1, p2⟩ := M.pts hl
  cases l with
  | nil => exact absurd rfl hne
  | cons y rest =>
    cases hg : gS8 qs.length f (y :: rest) with
    | nil =>
      have := (M.mem_g hl.2 (f y)).2 ⟨y, by simp, rfl⟩
      rw [hg] at this
      cases this
    | cons z zs =>
      rw [hg] at p1
      obtain ⟨k, hk, e⟩ := p1 (pointOf qs z) (by unfold ptsOf; simp)
      have h1 : pointOf (ptsOf qs (z :: zs)) 0 = pointOf qs z := rfl
      have h2 : pointOf (ptsOf ps (y :: rest)) 0 = pointOf ps y := rfl
      rw [h1, h2, e, (M.pt k (hl.2 k hk)).1, (M.pt k (hl.2 k hk)).2.1]
      exact (sameRoles_iff _).1 h _ (mem_pts hk) _ (mem_pts (by simp))
omit hp hq in
theorem Ren.fault (hne : l ≠ []) : faultP (kindP r (ptsOf qs (gS8 qs.length f l))) (ptsOf qs (gS8 qs.length f l)) (labelsP (ptsOf qs (gS8 qs.length f l))) = faultP (kindP r (ptsOf ps l)) (ptsOf ps l) (labelsP (ptsOf ps l)) := by
  unfold faultP
  rw [M.labels hl, M.roles hl, M.sameLabels hl, M.carries hl]
  cases hc : sameRolesP (ptsOf ps l) with
  | false => rfl
  | true =>
    have hk : kindP r (ptsOf qs (gS8 qs.length f l)) = kindP r (ptsOf ps l) := by
      unfold kindP
      rw [(M.head hl hne hc).2]
    rw [hk]
theorem Ren.arm {s : Str} (hs : s ∈ labelsP (ptsOf ps l)) (hc : sameCarriesP (ptsOf ps l) (labelsP (ptsOf ps l)) = true) {ns : List (List Nat)} (hns : InR8 ps r R ns) :
    armP qs r (ptsOf qs (gS8 qs.length f l)) s (ns.map (gS8 qs.length f)) = mapL8 (gS8 qs.length f) (armP ps r (ptsOf ps l) s ns) ∧ ∀ k ns', armP ps r (ptsOf ps l) s ns = .ok (k, ns') → InR8 ps r R ns' := by
  have hsR : ∀ x ∈ nextsP (armsAt (ptsOf ps l) s), x ∈ R := fun x hx => by
    unfold nextsP at hx
    obtain ⟨a, ha, rfl⟩ := List.mem_map.1 hx
    obtain ⟨y, hy, ha2⟩ := mem_armsAt ha
    obtain ⟨k, hk, rfl⟩ := List.mem_map.1 hy
    exact M.closed k (hl.2 k hk) a ha2
  have hi : Im8 f (nextsP (armsAt (ptsOf ps l) s)) (nextsP (armsAt (ptsOf qs (gS8 qs.length f l)) s)) := fun x => by
    unfold nextsP
    rw [List.mem_map]
    constructor
    · rintro ⟨b, hb, rfl⟩
      obtain ⟨a, ha, rfl⟩ := (M.at_ hl s b).1 hb
      exact ⟨a.next.toNat, List.mem_map.2 ⟨a, ha, rfl⟩, (Int.toNat_natCast _).symm⟩
    · rintro ⟨y, hy, rfl⟩
      obtain ⟨a, ha, rfl⟩ := List.mem_map.1 hy
      exact ⟨toA a (f a.next.toNat), (M.at_ hl s _).2 ⟨a, ha, rfl⟩, Int.toNat_natCast _⟩
  have hpos := armsAt_pos ((mem_labelsP _ _).1 hs)
  have hfm := firstA_mem hpos
  have hposq : 0 < (armsAt (ptsOf qs (gS8 qs.length f l)) s).length := List.length_pos_of_mem ((M.at_ hl s _).2 ⟨_, hfm, rfl⟩)
  obtain ⟨a, ha, e⟩ := (M.at_ hl s _).1 (firstA_mem hposq)
  have hcc := (sameCarries_iff _ _).1 hc s hs a ha _ hfm
  obtain ⟨l1, l2⟩ := M.look hp hq hsR hi hns
  unfold armP
  rw [l1, e]
  cases hk : lookP ps r ns (nextsP (armsAt (ptsOf ps l) s)) with
  | error er => exact ⟨rfl, fun k ns' h => by cases h⟩
  | ok p =>
    obtain ⟨k, ns1⟩ := p
    refine ⟨?_, fun k' ns' h => by cases h; exact l2 k ns1 hk⟩
    show Except.ok ((⟨s, (toA a (f a.next.toNat)).ck, (toA a (f a.next.toNat)).cn, (k : Int)⟩ : ArmL), ns1.map (gS8 qs.length f)) = _
    rw [show (toA a (f a.next.toNat)).ck = (firstA (armsAt (ptsOf ps l) s)).ck from hcc.1, show (toA a (f a.next.toNat)).cn = (firstA (armsAt (ptsOf ps l) s)).cn from hcc.2]
    rfl
theorem Ren.arms (hc : sameCarriesP (ptsOf ps l) (labelsP (ptsOf ps l)) = true) : ∀ (ls : List Str), (∀ s ∈ ls, s ∈ labelsP (ptsOf ps l)) → ∀ (out : List ArmL) (ns : List (List Nat)), InR8 ps r R ns →
    armsP qs r (ptsOf qs (gS8 qs.length f l)) ls out (ns.map (gS8 qs.length f)) = mapL8 (gS8 qs.length f) (armsP ps r (ptsOf ps l) ls out ns) ∧ ∀ k ns', armsP ps r (ptsOf ps l) ls out ns = .ok (k, ns') → InR8 ps r R ns'
  | [], _, out, ns, hns => ⟨rfl, fun k ns' h => by unfold armsP at h; cases h; exact hns⟩
  | s :: ls, hls, out, ns, hns => by
    obtain ⟨a1, a2⟩ := M.arm hp hq hl (hls s (by simp)) hc hns
    unfold armsP
    rw [a1]
    cases hk : armP ps r (ptsOf ps l) s ns with
    | error er => exact ⟨rfl, fun k ns' h => by cases h⟩
    | ok p =>
      obtain ⟨a, ns1⟩ := p
      exact Ren.arms hc ls (fun t ht => hls t (by simp [ht])) (out ++ [a]) ns1 (a2 a ns1 hk)
theorem Ren.turn {ns : List (List Nat)} (hns : InR8 ps r R ns) : turnP qs r (gS8 qs.length f l) (ns.map (gS8 qs.length f)) = mapL8 (gS8 qs.length f) (turnP ps r l ns) ∧ ∀ k ns', turnP ps r l ns = .ok (k, ns') → InR8 ps r R ns' := by
  have hg := M.g_nil hl.2
  unfold turnP
  by_cases h0 : l = []
  · subst h0
    rw [List.isEmpty_nil, List.isEmpty_iff] at hg
    rw [if_pos hg, if_pos rfl]
    exact ⟨rfl, fun k ns' h => by cases h; exact hns⟩
  · have hg0 : gS8 qs.length f l ≠ [] := fun e => by
      rw [e, List.isEmpty_nil] at hg
      exact h0 (List.isEmpty_iff.1 hg.symm)
    rw [if_neg h0, if_neg hg0, M.fault hl h0]
    by_cases hf : faultP (kindP r (ptsOf ps l)) (ptsOf ps l) (labelsP (ptsOf ps l)) = 0
    · rw [if_neg (fun k => k hf), if_neg (fun k => k hf), M.labels hl]
      obtain ⟨f1, _, _, f4⟩ := faultP_zero hf
      obtain ⟨a1, a2⟩ := M.arms hp hq hl f4 (labelsP (ptsOf ps l)) (fun s hs => hs) [] ns hns
      rw [a1]
      have hk : kindP r (ptsOf qs (gS8 qs.length f l)) = kindP r (ptsOf ps l) ∧ peerP r (ptsOf qs (gS8 qs.length f l)) = peerP r (ptsOf ps l) := by
        unfold kindP peerP
        rw [(M.head hl h0 f1).1, (M.head hl h0 f1).2]
        exact ⟨rfl, rfl⟩
      rw [hk.1, hk.2]
      cases hka : armsP ps r (ptsOf ps l) (labelsP (ptsOf ps l)) [] ns with
      | error er => exact ⟨rfl, fun k ns' h => by cases h⟩
      | ok p =>
        obtain ⟨a, ns1⟩ := p
        exact ⟨rfl, fun k ns' h => by cases h; exact a2 a ns1 hka⟩
    · rw [if_pos hf, if_pos hf]
      exact ⟨rfl, fun k ns' h => by cases h⟩
end
theorem Ren.turns : ∀ (fuel i : Nat) (out : List TurnL) (ns : List (List Nat)), InR8 ps r R ns → turnsP qs r fuel i out (ns.map (gS8 qs.length f)) = turnsP ps r fuel i out ns
  | 0, _, _, _, _ => rfl
  | fuel + 1, i, out, ns, hns => by
    unfold turnsP
    rw [List.getElem?_map]
    cases hn : ns[i]? with
    | none => rfl
    | some l =>
      obtain ⟨t1, t2⟩ := M.turn hp hq (hns l (List.mem_of_getElem? hn)) hns
      show (match turnP qs r (gS8 qs.length f l) (ns.map (gS8 qs.length f)) with
        | .error e => Except.error e
        | .ok (t, ns') => turnsP qs r fuel (i + 1) (out ++ [t]) ns') = (match turnP ps r l ns with
        | .error e => Except.error e
        | .ok (t, ns') => turnsP ps r fuel (i + 1) (out ++ [t]) ns')
      rw [t1]
      cases hk : turnP ps r l ns with
      | error e => rfl
      | ok p =>
        obtain ⟨t, ns1⟩ := p
        exact Ren.turns fuel (i + 1) (out ++ [t]) ns1 (t2 t ns1 hk)
/-- The projection is the same under other numbers. -/
theorem Ren.role (hz : 0 ∈ R ∧ f 0 = 0) : roleP qs r = roleP ps r := by
  have hs : ∀ x ∈ [0], x ∈ R := fun x hx => by rw [List.mem_singleton.1 hx]; exact hz.1
  obtain ⟨l1, l2⟩ := M.look (r := r) hp hq (s := [0]) (s' := [0]) hs (fun x => by simp [hz.2, eq_comm]) (ns := []) (fun l hl => by cases hl)
  unfold roleP
  rw [List.map_nil] at l1
  rw [l1]
  cases hk : lookP ps r [] [0] with
  | error e => rfl
  | ok p =>
    obtain ⟨k, ns1⟩ := p
    exact M.turns hp hq 41 0 [] ns1 (l2 k ns1 hk)
end
/-- The projection of a protocol is that of its trim. -/
theorem role_trim {nm : Str} {rs : List Str} {ps : List PointL} {r : Str} (hp : protB nm rs ps = true) : roleP (trimP ps) r = roleP ps r := by
  have hv := prot_loc hp
  obtain ⟨rest, hr0⟩ := reach_zero (ps.map asT)
  have hidx : ∀ k ∈ reachP ps, (reachP ps).idxOf k < (trimP ps).length := fun k hk => by rw [trimP_len]; exact List.idxOf_lt_length_of_mem hk
  refine Ren.role (R := reachP ps) (f := fun k => (reachP ps).idxOf k) hp (trimP_valid hp) ⟨fun k hk => ⟨reachP_lt hv hk, hidx k hk⟩, fun p hp2 q hq2 e => ?_, fun k hk a ha => ?_, fun k hk => ?_⟩ ⟨by unfold reachP; rw [hr0]; simp, by unfold reachP; rw [hr0]; simp⟩
  · have h1 := idx_back hp2
    have h2 := idx_back hq2
    rw [show (reachP ps).idxOf p = (reachP ps).idxOf q from e, h2] at h1
    exact (Option.some.inj h1).symm
  · exact reach_closed hv k hk a (by rw [armsOf_asT]; exact ha)
  · have h1 : pointOf (trimP ps) ((reachP ps).idxOf k) = ⟨(pointOf ps k).src, (pointOf ps k).dst, movedA (reachP ps) (pointOf ps k).arms⟩ := by
      unfold pointOf
      rw [trimP_at (idx_back hk)]
      rfl
    rw [h1]
    refine ⟨rfl, rfl, moved_len _ _, fun b => ?_⟩
    show b ∈ movedA (reachP ps) (pointOf ps k).arms ↔ _
    unfold movedA
    rw [List.mem_map]
    constructor
    · rintro ⟨a, ha, rfl⟩
      exact ⟨a, mem_sortA.1 ha, rfl⟩
    · rintro ⟨a, ha, rfl⟩
      exact ⟨a, mem_sortA.2 ha, rfl⟩
end Go.Proofs.YtiofpeckcfdilaaGreatDoor

/- Plain: a protocol of two roles is projected to both, one's turns facing the other's. No program stands in this text. -/
namespace Go.Proofs.YtiofpeckcfdilaaGreatDoor
open Go.RowKit

/-- Each point is an end, or both roles are in it. -/
def Two8 (ps : List PointL) (r : Str) : Prop := ∀ k, (pointOf ps k).arms = [] ∨ inP (pointOf ps k) r = true
theorem duo_outs {ps : List PointL} {r : Str} (h : Two8 ps r) (k : Nat) : outsP ps r k = [] := by
  unfold outsP
  rcases h k with h1 | h1
  · rw [h1]
    split <;> rfl
  · rw [if_pos h1]
section
variable {nm : Str} {rs : List Str} {ps : List PointL} {r : Str} (hp : protB nm rs ps = true) (hr : hasS rs r = true) (h2 : Two8 ps r)
include h2
theorem duo_met {s : List Nat} {x : Nat} : Met (outsP ps r) s x ↔ x ∈ s := by
  constructor
  · intro h
    cases h with
    | base h => exact h
    | step _ hx => rw [duo_outs h2] at hx; cases hx
  · exact .base
include hp
theorem duo_near {k : Nat} (hk : k < ps.length) : (inP (pointOf ps k) r = true ∧ nearP ps r [k] = [k]) ∨ (inP (pointOf ps k) r = false ∧ (pointOf ps k).arms = [] ∧ nearP ps r [k] = []) := by
  cases hi : inP (pointOf ps k) r with
  | true => exact .inl ⟨rfl, near_in hp r hk hi (fun y => by simp)⟩
  | false =>
    refine .inr ⟨rfl, ?_, ?_⟩
    · rcases h2 k with h | h
      · exact h
      · rw [hi] at h; cases h
    · cases hc : nearP ps r [k] with
      | nil => rfl
      | cons x l =>
        have hx : x ∈ nearP ps r [k] := by rw [hc]; simp
        obtain ⟨h1, h3⟩ := (mem_nearP hp r (fun y hy => by rw [List.mem_singleton.1 hy]; exact hk)).1 hx
        rw [duo_met h2, List.mem_singleton] at h1
        subst h1
        rw [hi] at h3
        cases h3
theorem duo_mixed {k : Nat} (hk : k < ps.length) : mixedP ps r [k] = false := by
  have hm : ∀ x, x ∈ metL (outsP ps r) ps.length [k] ↔ x = k := fun x => by
    rw [mem_metL (outs_lt hp r) (fun y hy => by rw [List.mem_singleton.1 hy]; exact hk), duo_met h2, List.mem_singleton]
  cases hc : mixedP ps r [k] with
  | false => rfl
  | true =>
    unfold mixedP at hc
    rw [Bool.and_eq_true, List.any_eq_true, List.any_eq_true] at hc
    obtain ⟨⟨x, hx, h3⟩, ⟨y, hy, h4⟩⟩ := hc
    rw [(hm x).1 hx] at h3
    rw [(hm y).1 hy, h3] at h4
    cases h4
/-- Near sets of one place, or none. -/
def Few8 (ps : List PointL) (ns : List (List Nat)) : Prop := ns.Nodup ∧ ∀ l ∈ ns, l = [] ∨ ∃ k, k < ps.length ∧ l = [k]
omit hp h2 in
theorem Few8.len {ns : List (List Nat)} (h : Few8 ps ns) : ns.length ≤ ps.length + 1 := by
  have hinj : (ns.map fun l => l.headD ps.length).Nodup := by
    rw [List.Nodup, List.pairwise_map]
    refine h.1.imp_of_mem ?_
    intro a b ha hb hne e
    rcases h.2 a ha with rfl | ⟨k, hk, rfl⟩ <;> rcases h.2 b hb with rfl | ⟨j, hj, rfl⟩
    · exact hne rfl
    · simp at e; omega
    · simp at e; omega
    · simp at e; exact hne (by rw [e])
  have := nodup_few (n := ps.length + 1) hinj (fun x hx => by
    obtain ⟨l, hl, rfl⟩ := List.mem_map.1 hx
    rcases h.2 l hl with rfl | ⟨k, hk, rfl⟩
    · simp
    · simp; omega)
  rwa [List.length_map] at this
theorem duo_look {k : Nat} (hk : k < ps.length) {ns : List (List Nat)} (hn : Few8 ps ns) : ∃ j ns', lookP ps r ns [k] = .ok (j, ns') ∧ Few8 ps ns' := by
  have h24 := (protB_all hp).2.2.2.1
  have hlen := hn.len
  unfold lookP
  rw [duo_mixed hp h2 hk, if_neg (by simp)]
  by_cases h1 : nearP ps r [k] ∈ ns
  · rw [if_pos h1]
    exact ⟨_, _, rfl, hn⟩
  · rw [if_neg h1, if_neg (by omega)]
    refine ⟨_, _, rfl, List.nodup_append.2 ⟨hn.1, by simp, fun a ha b hb e => ?_⟩, fun l hl => ?_⟩
    · rw [List.mem_singleton] at hb
      subst hb e
      exact h1 ha
    · rcases List.mem_append.1 hl with hl | hl
      · exact hn.2 l hl
      · rw [List.mem_singleton.1 hl]
        rcases duo_near hp h2 hk with ⟨_, e⟩ | ⟨_, _, e⟩
        · exact .inr ⟨k, hk, e⟩
        · exact .inl e
omit h2 in
/-- The arms of one point with a label: one. -/
theorem duo_one {k : Nat} (hk : k < ps.length) {s : Str} (hs : s ∈ labelsP (ptsOf ps [k])) : ∃ a ∈ (pointOf ps k).arms, a.label = s ∧ armsAt (ptsOf ps [k]) s = [a] := by
  obtain ⟨x, hx, a, ha, rfl⟩ := mem_labs8 ((mem_labelsP _ _).1 hs)
  have hxe : x = pointOf ps k := by unfold ptsOf at hx; simpa using hx
  subst hxe
  have hnd := (pt_next hp hk ha).2.2
  refine ⟨a, ha, rfl, ?_⟩
  have e : armsAt (ptsOf ps [k]) a.label = (pointOf ps k).arms.filter fun b => b.label == a.label := by
    unfold armsAt ptsOf
    simp
  rw [e]
  have key : ∀ l : List ArmL, (l.map ArmL.label).Nodup → a ∈ l → (l.filter fun b => b.label == a.label) = [a] := fun l => by
    induction l with
    | nil => intro _ h; cases h
    | cons b l ih =>
      intro hn hm
      rw [List.map_cons, List.nodup_cons] at hn
      rcases List.mem_cons.1 hm with rfl | hm
      · rw [List.filter_cons_of_pos (by simp), List.filter_eq_nil_iff.2]
        intro c hc he
        exact hn.1 (List.mem_map.2 ⟨c, hc, beq_iff_eq.1 he⟩)
      · rw [List.filter_cons_of_neg, ih hn.2 hm]
        intro he
        exact hn.1 (List.mem_map.2 ⟨a, hm, (beq_iff_eq.1 he).symm⟩)
  exact key _ hnd ha
omit h2 in
include hr in
theorem duo_fault {k : Nat} (hk : k < ps.length) (hi : inP (pointOf ps k) r = true) (kd : Int) : faultP kd (ptsOf ps [k]) (labelsP (ptsOf ps [k])) = 0 := by
  have hab := armsB_all (pt_role hp hr hk hi).2.2.2
  have hl : (labelsP (ptsOf ps [k])).length = (pointOf ps k).arms.length := by
    have h1 := len_of_sub (labelsP (ptsOf ps [k])) ((pointOf ps k).arms.map ArmL.label) (rises_nodup (labelsP_rises _)) (fun s hs => by
      obtain ⟨a, ha, e, _⟩ := duo_one hp hk hs
      exact List.mem_map.2 ⟨a, ha, e⟩)
    have h2 := len_of_sub ((pointOf ps k).arms.map ArmL.label) (labelsP (ptsOf ps [k])) hab.2.1 (fun s hs => by
      obtain ⟨a, ha, rfl⟩ := List.mem_map.1 hs
      rw [mem_labelsP]
      exact mem_labs (mem_pts (by simp)) ha)
    rw [List.length_map] at h1 h2
    omega
  have e1 : sameRolesP (ptsOf ps [k]) = true := by
    rw [sameRolesP, List.all_eq_true]
    intro x hx
    have hxe : x = pointOf ps k := by unfold ptsOf at hx; simpa using hx
    subst hxe
    show ((pointOf ps k).src == (pointOf ps k).src && (pointOf ps k).dst == (pointOf ps k).dst) = true
    simp
  have e2 : sameLabelsP (ptsOf ps [k]) (labelsP (ptsOf ps [k])) = true := by
    unfold sameLabelsP
    rw [List.all_eq_true]
    intro x hx
    have hxe : x = pointOf ps k := by unfold ptsOf at hx; simpa using hx
    subst hxe
    rw [hl]
    simp
  have e3 : sameCarriesP (ptsOf ps [k]) (labelsP (ptsOf ps [k])) = true := by
    unfold sameCarriesP
    rw [List.all_eq_true]
    intro s hs
    obtain ⟨a, _, _, e⟩ := duo_one hp hk hs
    rw [e]
    simp [firstA]
  unfold faultP
  rw [e1, e2, e3, hl]
  have := hab.2.2.2
  simp
  omega
theorem duo_arms {k : Nat} (hk : k < ps.length) : ∀ (ls : List Str), (∀ s ∈ ls, s ∈ labelsP (ptsOf ps [k])) → ∀ (out : List ArmL) (ns : List (List Nat)), Few8 ps ns → ∃ l ns', armsP ps r (ptsOf ps [k]) ls out ns = .ok (l, ns') ∧ Few8 ps ns'
  | [], _, out, ns, hn => ⟨out, ns, rfl, hn⟩
  | s :: ls, hls, out, ns, hn => by
    obtain ⟨a, ha, _, e⟩ := duo_one hp hk (hls s (by simp))
    obtain ⟨j, ns1, h3, h4⟩ := duo_look hp h2 (pt_next hp hk ha).2.1 hn
    obtain ⟨l, ns', h5, h6⟩ := duo_arms hk ls (fun t ht => hls t (by simp [ht])) (out ++ [⟨s, (firstA (armsAt (ptsOf ps [k]) s)).ck, (firstA (armsAt (ptsOf ps [k]) s)).cn, (j : Int)⟩]) ns1 h4
    refine ⟨l, ns', ?_, h6⟩
    unfold armsP armP
    rw [show nextsP (armsAt (ptsOf ps [k]) s) = [a.next.toNat] by rw [e]; rfl, h3]
    exact h5
include hr
theorem duo_turn {near : List Nat} {ns : List (List Nat)} (hn : Few8 ps ns) (hl : near = [] ∨ ∃ k, k < ps.length ∧ near = [k] ∧ inP (pointOf ps k) r = true) : ∃ t ns', turnP ps r near ns = .ok (t, ns') ∧ Few8 ps ns' := by
  unfold turnP
  rcases hl with rfl | ⟨k, hk, rfl, hi⟩
  · rw [if_pos rfl]
    exact ⟨_, _, rfl, hn⟩
  · rw [if_neg (by simp), if_neg (by rw [duo_fault hp hr hk hi]; simp)]
    obtain ⟨l, ns', h5, h6⟩ := duo_arms hp h2 hk (labelsP (ptsOf ps [k])) (fun s hs => hs) [] ns hn
    rw [h5]
    exact ⟨_, _, rfl, h6⟩
theorem duo_turns : ∀ (fuel i : Nat) (out : List TurnL) (ns : List (List Nat)), Few8 ps ns → Shape8 ps r ns → i ≤ ns.length → ps.length + 2 ≤ fuel + i → ∃ ts, turnsP ps r fuel i out ns = .ok ts
  | 0, i, out, ns, hn, _, hi, hf => by have := hn.len; omega
  | fuel + 1, i, out, ns, hn, hs, hi, hf => by
    unfold turnsP
    cases hg : ns[i]? with
    | none => exact ⟨out, rfl⟩
    | some near =>
      have hmem := List.mem_of_getElem? hg
      have hl : near = [] ∨ ∃ k, k < ps.length ∧ near = [k] ∧ inP (pointOf ps k) r = true := by
        rcases hn.2 near hmem with h | ⟨k, hk, h⟩
        · exact .inl h
        · obtain ⟨s, e⟩ := hs.2.2 near hmem
          exact .inr ⟨k, hk, h, near_in_it (s := s) (by rw [← e, h]; simp)⟩
      obtain ⟨t, ns1, h3, h4⟩ := duo_turn hp hr h2 hn hl
      obtain ⟨p1, p2, _, _⟩ := turnP_spec h3
      have hlt := (List.getElem?_eq_some_iff.1 hg).1
      have hle := p1.length_le
      obtain ⟨ts, h5⟩ := duo_turns fuel (i + 1) (out ++ [t]) ns1 h4 (p2 hs) (by omega) (by omega)
      refine ⟨ts, ?_⟩
      show (match turnP ps r near ns with
        | .error e => Except.error e
        | .ok (t, ns') => turnsP ps r fuel (i + 1) (out ++ [t]) ns') = _
      rw [h3]
      exact h5
theorem duo_role : ∃ ts, roleP ps r = .ok ts := by
  have h0 : 0 < ps.length := (protB_all hp).2.2.1
  have h24 := (protB_all hp).2.2.2.1
  obtain ⟨j, ns, h3, h4⟩ := duo_look hp h2 h0 (ns := []) ⟨by simp, fun l hl => by cases hl⟩
  obtain ⟨a1, a2, a3, a4⟩ := lookP_spec h3
  obtain ⟨ts, h5⟩ := duo_turns hp hr h2 41 0 [] ns h4 (a4 ⟨by simp, by simp, fun l hl => by cases hl⟩) (Nat.zero_le _) (by omega)
  refine ⟨ts, ?_⟩
  unfold roleP
  rw [h3]
  exact h5
end
/-- A turn's near set is that of a place. -/
def At8 (ps : List PointL) (r : Str) (ns : List (List Nat)) (k t : Nat) : Prop := k < ps.length ∧ ns[t]? = some (nearP ps r [k])
section
variable {nm : Str} {rs : List Str} {ps : List PointL} {r : Str} (hp : protB nm rs ps = true) (hr : hasS rs r = true) (h2 : Two8 ps r) {ts : List TurnL} {ns : List (List Nat)} (h : RoleOk ps r ts ns)
include hp hr h2 h
/-- The turn at a place: its labels and what they carry are the point's. -/
theorem duo_at {k t : Nat} (ha : At8 ps r ns k t) : ∃ tt, ts[t]? = some tt ∧ (tt.kind = 0 ↔ (pointOf ps k).arms = []) ∧ (tt.kind ≠ 0 → tt.kind = kindP r [pointOf ps k]) ∧ tt.arms.map ArmL.label = labelsP [pointOf ps k] ∧
    (∀ b ∈ tt.arms, ∃ a ∈ (pointOf ps k).arms, a.label = b.label ∧ b.ck = a.ck ∧ b.cn = a.cn ∧ At8 ps r ns a.next.toNat b.next.toNat) := by
  obtain ⟨hk, hn⟩ := ha
  obtain ⟨tt, h3, h4⟩ := h.turn hn
  refine ⟨tt, h3, ?_⟩
  rcases duo_near hp h2 hk with ⟨hi, e⟩ | ⟨hi, e0, e⟩
  · rw [e] at h4
    rcases h4 with ⟨h5, _⟩ | ⟨_, _, h6, _, h8, h9⟩
    · cases h5
    · have hl0 := (armsB_all (pt_role hp hr hk hi).2.2.2).2.2.1
      have hk0 : tt.kind ≠ 0 := by
        rw [h6]
        unfold kindP
        split <;> decide
      refine ⟨⟨fun c => absurd c hk0, fun c => ?_⟩, fun _ => h6, h8, fun b hb => ?_⟩
      · rw [c] at hl0
        simp at hl0
      · have hbl : b.label ∈ labelsP (ptsOf ps [k]) := by rw [← h8]; exact List.mem_map.2 ⟨b, hb, rfl⟩
        obtain ⟨a, ha, e1, e2⟩ := duo_one hp hk hbl
        obtain ⟨q1, q2, q3, q4⟩ := h9 b hb
        rw [e2] at q1 q2 q4
        exact ⟨a, ha, e1, q1, q2, (pt_next hp hk ha).2.1, q4.2⟩
  · rw [e] at h4
    rcases h4 with ⟨_, rfl⟩ | ⟨h5, _⟩
    · refine ⟨⟨fun _ => e0, fun _ => rfl⟩, fun c => absurd rfl c, ?_, fun b hb => by cases hb⟩
      have : labs8 [pointOf ps k] = [] := by unfold labs8; simp [e0]
      cases hc : labelsP [pointOf ps k] with
      | nil => rfl
      | cons s l =>
        have hs : s ∈ labs8 [pointOf ps k] := (mem_labelsP _ _).1 (by rw [hc]; simp)
        rw [this] at hs
        cases hs
    · exact absurd rfl h5
theorem duo_walk : ∀ (way : List Str) (k t : Nat), At8 ps r ns k t → (walkT (ps.map asT) k way = none ∧ walkT ts t way = none) ∨ ∃ q u, walkT (ps.map asT) k way = some q ∧ walkT ts t way = some u ∧ At8 ps r ns q u
  | [], k, t, ha => .inr ⟨k, t, rfl, rfl, ha⟩
  | s :: w, k, t, ha => by
    obtain ⟨tt, h3, _, _, h5, h6⟩ := duo_at hp hr h2 h ha
    have hnd : (tt.arms.map ArmL.label).Nodup := by rw [h5]; exact rises_nodup (labelsP_rises _)
    have e1 : Go.Proofs.YtiofpeckcfdilaaGreatDoor.armsOf ts t = tt.arms := by unfold Go.Proofs.YtiofpeckcfdilaaGreatDoor.armsOf; rw [h3]; rfl
    rw [walkT, walkT, armsOf_asT, e1]
    cases hf : findA tt.arms s with
    | none =>
      have hno : findA (pointOf ps k).arms s = none := by
        cases hg : findA (pointOf ps k).arms s with
        | none => rfl
        | some a =>
          have ha2 : a ∈ (pointOf ps k).arms ∧ a.label = s := by
            unfold findA at hg
            exact ⟨List.mem_of_find?_eq_some hg, by simpa using List.find?_some hg⟩
          have : s ∈ tt.arms.map ArmL.label := by
            rw [h5, mem_labelsP, ← ha2.2]
            exact mem_labs (f := [pointOf ps k]) (by simp) ha2.1
          obtain ⟨b, hb, e⟩ := List.mem_map.1 this
          rw [(findA_some hnd).2 ⟨hb, e⟩] at hf
          cases hf
      rw [hno]
      exact .inl ⟨rfl, rfl⟩
    | some b =>
      obtain ⟨hb, e⟩ := (findA_some hnd).1 hf
      obtain ⟨a, ha2, e2, _, _, e5⟩ := h6 b hb
      rw [(findA_some (pt_next hp ha.1 ha2).2.2).2 ⟨ha2, e2.trans e⟩]
      exact duo_walk w _ _ e5
omit hr h2 in
theorem duo_start : At8 ps r ns 0 0 := ⟨(protB_all hp).2.2.1, h.2.2.2.1.2⟩
end
end Go.Proofs.YtiofpeckcfdilaaGreatDoor

/- Plain: a role that is in no point, and roles under new names. No program stands in this text. -/
namespace Go.Proofs.YtiofpeckcfdilaaGreatDoor
open Go.RowKit

def idleS : Str := [105, 100, 108, 101]
theorem idle_may : may idleS = true := by decide
/-- The projection to a role that is in no point. -/
theorem role_idle {ps : List PointL} {r : Str} (hin : ∀ k, inP (pointOf ps k) r = false) : roleP ps r = .ok [⟨0, [], []⟩] := by
  have hn : ∀ s, nearP ps r s = [] := fun s => by
    unfold nearP
    rw [List.filter_eq_nil_iff]
    intro x _
    rw [hin x]
    decide
  have hm : ∀ s, mixedP ps r s = false := fun s => by
    unfold mixedP
    have : (metL (outsP ps r) ps.length s).any (fun k => !lostP ps r k) = false := by
      rw [List.any_eq_false]
      intro k _
      unfold lostP
      rw [hn]
      decide
    rw [this, Bool.and_false]
  unfold roleP
  rw [show lookP ps r [] [0] = .ok (0, [[]]) by unfold lookP; rw [hm, hn]; rfl]
  rfl
theorem prot_idle {nm : Str} {rs : List Str} {ps : List PointL} (hp : protB nm rs ps = true) (h4 : rs.length ≤ 4) (hi : idleS ∉ rs) : protB nm (rs ++ [idleS]) ps = true ∧ ∀ k, inP (pointOf ps k) idleS = false := by
  obtain ⟨h1, h2, h3, h24, hall⟩ := protB_all hp
  obtain ⟨r1, r2, r3, r5⟩ := rolesB_all h2
  constructor
  · unfold protB
    rw [h1, decide_eq_true h3, decide_eq_true h24]
    have hr : rolesB (rs ++ [idleS]) = true := by
      unfold rolesB
      simp only [Bool.and_eq_true, decide_eq_true_eq, List.all_eq_true, List.length_append, List.length_singleton]
      refine ⟨⟨⟨by omega, by omega⟩, List.nodup_append.2 ⟨r3, by simp, fun a ha b hb e => ?_⟩⟩, fun s hs => ?_⟩
      · rw [List.mem_singleton] at hb
        subst hb e
        exact hi ha
      · rcases List.mem_append.1 hs with hs | hs
        · exact r5 s hs
        · rw [List.mem_singleton.1 hs]
          exact idle_may
    rw [hr]
    simp only [Bool.true_and, List.all_eq_true]
    intro x hx
    have := hall x hx
    unfold pointB at this ⊢
    simp only [Bool.or_eq_true, Bool.and_eq_true, decide_eq_true_eq, List.mem_append] at this ⊢
    rcases this with h | ⟨⟨⟨a1, a2⟩, a3⟩, a4⟩
    · exact .inl h
    · exact .inr ⟨⟨⟨a1, .inl a2⟩, .inl a3⟩, a4⟩
  · intro k
    unfold inP pointOf
    cases hk : ps[k]? with
    | none => rfl
    | some x =>
      show (x.src == idleS || x.dst == idleS) = false
      rcases pointB_ways (hall x (List.mem_of_getElem? hk)) with h0 | ⟨_, _, b2, b3, _⟩
      · obtain ⟨e1, e2, _⟩ := endB_iff.1 h0
        rw [e1, e2]
        rfl
      · rw [Bool.or_eq_false_iff, beq_eq_false_iff_ne, beq_eq_false_iff_ne]
        exact ⟨fun e => hi (by rw [← e]; exact b2), fun e => hi (by rw [← e]; exact b3)⟩
/-- A name with an r ahead. -/
def rS (s : Str) : Str := 114 :: s
def renP (x : PointL) : PointL := if x.arms.isEmpty then x else ⟨rS x.src, rS x.dst, x.arms⟩
def renT (t : TurnL) : TurnL := ⟨t.kind, if t.kind = 0 then t.peer else rS t.peer, t.arms⟩
def renE (x : Except Int (List TurnL)) : Except Int (List TurnL) := match x with
  | .ok ts => .ok (ts.map renT)
  | .error e => .error e
end Go.Proofs.YtiofpeckcfdilaaGreatDoor

/- Plain: roles under new names: the projection is the same but for the peers' names. No program stands in this text. -/
namespace Go.Proofs.YtiofpeckcfdilaaGreatDoor
open Go.RowKit

theorem rS_inj {a b : Str} : rS a = rS b ↔ a = b := ⟨fun h => (List.cons.inj h).2, fun h => by rw [h]⟩
theorem rS_beq (a b : Str) : (rS a == rS b) = (a == b) := by
  rw [Bool.eq_iff_iff, beq_iff_eq, beq_iff_eq, rS_inj]
theorem renP_arms (x : PointL) : (renP x).arms = x.arms := by
  unfold renP
  split <;> rfl
theorem renP_in {x : PointL} (h : 0 < x.arms.length) : renP x = ⟨rS x.src, rS x.dst, x.arms⟩ := by
  unfold renP
  rw [if_neg]
  intro e
  rw [List.isEmpty_iff] at e
  rw [e] at h
  simp at h
theorem pointOf_ren (ps : List PointL) (k : Nat) : pointOf (ps.map renP) k = renP (pointOf ps k) := by
  unfold pointOf
  rw [List.getElem?_map]
  cases ps[k]? with
  | none => rfl
  | some x => rfl
theorem ptsOf_ren (ps : List PointL) (l : List Nat) : ptsOf (ps.map renP) l = (ptsOf ps l).map renP := by
  unfold ptsOf
  rw [List.map_map]
  exact List.map_congr_left fun k _ => pointOf_ren ps k
theorem labs_ren (f : List PointL) : labs8 (f.map renP) = labs8 f := by
  unfold labs8
  rw [List.flatMap_map]
  congr 1
  funext x
  rw [renP_arms]
theorem labels_ren (f : List PointL) : labelsP (f.map renP) = labelsP f := labelsP_ext fun s => by rw [labs_ren]
theorem at_ren (f : List PointL) (s : Str) : armsAt (f.map renP) s = armsAt f s := by
  unfold armsAt
  rw [List.flatMap_map]
  congr 2
  funext x
  exact renP_arms x
section
variable {nm : Str} {rs : List Str} {ps : List PointL} {r : Str} (hp : protB nm rs ps = true) (hr : hasS rs r = true)
include hp hr
theorem in_ren (k : Nat) : inP (pointOf (ps.map renP) k) (rS r) = inP (pointOf ps k) r := by
  rw [pointOf_ren]
  by_cases h : 0 < (pointOf ps k).arms.length
  · rw [renP_in h]
    unfold inP
    rw [rS_beq, rS_beq]
  · have h0 : (pointOf ps k).arms = [] := List.eq_nil_of_length_eq_zero (by omega)
    have e : renP (pointOf ps k) = pointOf ps k := by unfold renP; rw [h0]; rfl
    rw [e]
    have hend : (pointOf ps k).src = [] ∧ (pointOf ps k).dst = [] := by
      rcases Nat.lt_or_ge k ps.length with hk | hk
      · rw [pointOf_lt hk] at h0 ⊢
        rcases pointB_ways ((protB_all hp).2.2.2.2 _ (List.getElem_mem hk)) with h1 | ⟨_, _, _, _, h4⟩
        · obtain ⟨e1, e2, _⟩ := endB_iff.1 h1
          exact ⟨e1, e2⟩
        · have := (armsB_all h4).2.2.1
          rw [h0] at this
          simp at this
      · unfold pointOf
        rw [List.getElem?_eq_none hk]
        exact ⟨rfl, rfl⟩
    have hne := (role_some hp hr).1
    unfold inP
    rw [hend.1, hend.2, Bool.or_self, Bool.or_self, beq_eq_false_iff_ne.2 (fun e => by cases e), beq_eq_false_iff_ne.2 (fun e => hne e.symm)]
theorem outs_ren : outsP (ps.map renP) (rS r) = outsP ps r := by
  funext k
  unfold outsP
  rw [in_ren hp hr, pointOf_ren, renP_arms]
theorem near_ren (s : List Nat) : nearP (ps.map renP) (rS r) s = nearP ps r s := by
  unfold nearP spanP
  rw [outs_ren hp hr, List.length_map]
  congr 1
  funext k
  exact in_ren hp hr k
theorem look_ren (ns : List (List Nat)) (s : List Nat) : lookP (ps.map renP) (rS r) ns s = lookP ps r ns s := by
  have hm : mixedP (ps.map renP) (rS r) s = mixedP ps r s := by
    have hl : lostP (ps.map renP) (rS r) = lostP ps r := by
      funext k
      unfold lostP
      rw [near_ren hp hr]
    unfold mixedP
    rw [outs_ren hp hr, List.length_map, hl]
  unfold lookP
  rw [hm, near_ren hp hr]
theorem arms_ren (f : List PointL) : ∀ (ls : List Str) (out : List ArmL) (ns : List (List Nat)), armsP (ps.map renP) (rS r) (f.map renP) ls out ns = armsP ps r f ls out ns
  | [], _, _ => rfl
  | s :: ls, out, ns => by
    have ha : armP (ps.map renP) (rS r) (f.map renP) s ns = armP ps r f s ns := by
      unfold armP
      rw [at_ren, look_ren hp hr]
    unfold armsP
    rw [ha]
    cases armP ps r f s ns with
    | error e => rfl
    | ok p => exact arms_ren f ls _ _
omit hp hr in
theorem head_ren {f : List PointL} (hf : f ≠ []) (ha : ∀ x ∈ f, 0 < x.arms.length) : pointOf (f.map renP) 0 = ⟨rS (pointOf f 0).src, rS (pointOf f 0).dst, (pointOf f 0).arms⟩ := by
  cases f with
  | nil => exact absurd rfl hf
  | cons x l =>
    show renP x = _
    rw [renP_in (ha x (by simp))]
    rfl
omit hp hr in
theorem kind_ren {f : List PointL} (hf : f ≠ []) (ha : ∀ x ∈ f, 0 < x.arms.length) : kindP (rS r) (f.map renP) = kindP r f ∧ peerP (rS r) (f.map renP) = rS (peerP r f) := by
  unfold kindP peerP
  rw [head_ren hf ha]
  dsimp only
  rw [rS_beq]
  cases (pointOf f 0).dst == r with
  | true => exact ⟨rfl, rfl⟩
  | false => exact ⟨rfl, rfl⟩
omit hp hr in
theorem fault_ren {f : List PointL} (ha : ∀ x ∈ f, 0 < x.arms.length) (k : Int) (ls : List Str) : faultP k (f.map renP) ls = faultP k f ls := by
  have h1 : sameRolesP (f.map renP) = sameRolesP f := by
    rw [Bool.eq_iff_iff, sameRoles_iff, sameRoles_iff]
    constructor
    · intro h x hx y hy
      have := h (renP x) (List.mem_map.2 ⟨x, hx, rfl⟩) (renP y) (List.mem_map.2 ⟨y, hy, rfl⟩)
      rw [renP_in (ha x hx), renP_in (ha y hy)] at this
      exact ⟨rS_inj.1 this.1, rS_inj.1 this.2⟩
    · intro h x' hx' y' hy'
      obtain ⟨x, hx, rfl⟩ := List.mem_map.1 hx'
      obtain ⟨y, hy, rfl⟩ := List.mem_map.1 hy'
      rw [renP_in (ha x hx), renP_in (ha y hy)]
      exact ⟨rS_inj.2 (h x hx y hy).1, rS_inj.2 (h x hx y hy).2⟩
  have h2 : sameLabelsP (f.map renP) ls = sameLabelsP f ls := by
    unfold sameLabelsP
    rw [List.all_map]
    congr 1
    funext x
    show decide ((renP x).arms.length = ls.length) = _
    rw [renP_arms]
  have h3 : sameCarriesP (f.map renP) ls = sameCarriesP f ls := by
    unfold sameCarriesP
    congr 1
    funext s
    rw [at_ren]
  unfold faultP
  rw [h1, h2, h3]
def renE1 (x : Except Int (TurnL × List (List Nat))) : Except Int (TurnL × List (List Nat)) := match x with
  | .error e => .error e
  | .ok (t, ns) => .ok (renT t, ns)
theorem turn_ren {l : List Nat} (ha : ∀ x ∈ l, 0 < (pointOf ps x).arms.length) (ns : List (List Nat)) : turnP (ps.map renP) (rS r) l ns = renE1 (turnP ps r l ns) := by
  have hpt : ∀ x ∈ ptsOf ps l, 0 < x.arms.length := fun x hx => by
    obtain ⟨k, hk, rfl⟩ := List.mem_map.1 hx
    exact ha k hk
  unfold turnP
  by_cases h0 : l = []
  · rw [if_pos h0, if_pos h0]
    rfl
  · have hf0 : ptsOf ps l ≠ [] := fun e => h0 (List.map_eq_nil_iff.1 e)
    rw [if_neg h0, if_neg h0, ptsOf_ren, (kind_ren hf0 hpt).1, (kind_ren hf0 hpt).2, labels_ren, fault_ren hpt]
    by_cases hf : faultP (kindP r (ptsOf ps l)) (ptsOf ps l) (labelsP (ptsOf ps l)) = 0
    · rw [if_neg (fun k => k hf), if_neg (fun k => k hf), arms_ren hp hr]
      cases armsP ps r (ptsOf ps l) (labelsP (ptsOf ps l)) [] ns with
      | error e => rfl
      | ok p =>
        obtain ⟨a, ns1⟩ := p
        show Except.ok (_, _) = Except.ok (renT _, _)
        unfold renT
        dsimp only
        rw [if_neg (show ¬ kindP r (ptsOf ps l) = 0 by unfold kindP; split <;> decide)]
    · rw [if_pos hf, if_pos hf]
      rfl
theorem turns_ren : ∀ (fuel i : Nat) (out : List TurnL) (ns : List (List Nat)), NearOk ps ns → turnsP (ps.map renP) (rS r) fuel i (out.map renT) ns = renE (turnsP ps r fuel i out ns)
  | 0, _, _, _, _ => rfl
  | fuel + 1, i, out, ns, hns => by
    unfold turnsP
    cases hn : ns[i]? with
    | none => rfl
    | some l =>
      show (match turnP (ps.map renP) (rS r) l ns with
        | .error e => Except.error e
        | .ok (t, ns') => turnsP (ps.map renP) (rS r) fuel (i + 1) (out.map renT ++ [t]) ns') = renE (match turnP ps r l ns with
        | .error e => Except.error e
        | .ok (t, ns') => turnsP ps r fuel (i + 1) (out ++ [t]) ns')
      rw [turn_ren hp hr (hns l (List.mem_of_getElem? hn)).2]
      cases hk : turnP ps r l ns with
      | error e => rfl
      | ok p =>
        obtain ⟨t, ns1⟩ := p
        have := turns_ren fuel (i + 1) (out ++ [t]) ns1 (turnP_near hp hr hk hns)
        rw [List.map_append, List.map_singleton] at this
        exact this
theorem role_ren : roleP (ps.map renP) (rS r) = renE (roleP ps r) := by
  unfold roleP
  rw [look_ren hp hr]
  cases hk : lookP ps r [] [0] with
  | error e => rfl
  | ok p =>
    obtain ⟨k, ns1⟩ := p
    exact turns_ren hp hr 41 0 [] ns1 (lookP_near hp hr hk (fun l hl => by cases hl))
omit hr in
theorem prot_ren (hs : rolesB (rs.map rS) = true) : protB nm (rs.map rS) (ps.map renP) = true := by
  obtain ⟨h1, h2, h3, h24, hall⟩ := protB_all hp
  unfold protB
  rw [h1, hs, List.length_map, decide_eq_true h3, decide_eq_true h24]
  simp only [Bool.true_and, List.all_eq_true]
  intro y hy
  obtain ⟨x, hx, rfl⟩ := List.mem_map.1 hy
  rcases pointB_ways (hall x hx) with h | ⟨_, b1, b2, b3, b4⟩
  · obtain ⟨e1, e2, e3⟩ := endB_iff.1 h
    have : renP x = x := by unfold renP; rw [e3]; rfl
    rw [this]
    unfold pointB
    rw [h]
    rfl
  · rw [renP_in (by have := (armsB_all b4).2.2.1; omega)]
    unfold pointB
    rw [decide_eq_true (show rS x.src ≠ rS x.dst from fun e => b1 (rS_inj.1 e)), decide_eq_true (show rS x.src ∈ rs.map rS from List.mem_map.2 ⟨_, b2, rfl⟩), decide_eq_true (show rS x.dst ∈ rs.map rS from List.mem_map.2 ⟨_, b3, rfl⟩), b4]
    simp
end
end Go.Proofs.YtiofpeckcfdilaaGreatDoor
