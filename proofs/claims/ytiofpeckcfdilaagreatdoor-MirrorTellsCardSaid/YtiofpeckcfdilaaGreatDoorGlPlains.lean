/- Plain: protocols: valid points, trims, near points. No program stands in this text. -/
import Derived.Test.YtiofpeckcfdilaaGreatDoorTuPlains
import Derived.Test.YtiofpeckcfdilaaGreatDoorRef2
namespace Go.Proofs.YtiofpeckcfdilaaGreatDoor
open Go.RowKit

structure PointL where
  src : Str
  dst : Str
  arms : List ArmL
/-- No role, no arm. -/
def endB (x : PointL) : Bool := x.src.isEmpty && x.dst.isEmpty && x.arms.isEmpty
def pointB (roles : List Str) (n : Nat) (x : PointL) : Bool := endB x || (decide (x.src ≠ x.dst) && decide (x.src ∈ roles) && decide (x.dst ∈ roles) && armsB n x.arms)
def rolesB (roles : List Str) : Bool := decide (2 ≤ roles.length) && decide (roles.length ≤ 5) && decide roles.Nodup && roles.all may
def protB (nm : Str) (roles : List Str) (ps : List PointL) : Bool := may nm && rolesB roles && decide (1 ≤ ps.length) && decide (ps.length ≤ 24) && ps.all (pointB roles ps.length)
/-- A point as a turn: its arms are those of the point. -/
def asT (x : PointL) : TurnL := if endB x then ⟨0, [], []⟩ else ⟨1, x.src, x.arms⟩
theorem endB_iff {x : PointL} : endB x = true ↔ x.src = [] ∧ x.dst = [] ∧ x.arms = [] := by
  unfold endB
  simp only [Bool.and_eq_true, List.isEmpty_iff, and_assoc]
theorem asT_arms (x : PointL) : (asT x).arms = x.arms := by
  unfold asT
  split
  · rename_i h
    exact (endB_iff.1 h).2.2.symm
  · rfl
theorem protB_all {nm : Str} {roles : List Str} {ps : List PointL} (h : protB nm roles ps = true) : may nm = true ∧ rolesB roles = true ∧ 1 ≤ ps.length ∧ ps.length ≤ 24 ∧ ∀ x ∈ ps, pointB roles ps.length x = true := by
  unfold protB at h
  simp only [Bool.and_eq_true, decide_eq_true_eq, List.all_eq_true] at h
  exact ⟨h.1.1.1.1, h.1.1.1.2, h.1.1.2, h.1.2, h.2⟩
theorem rolesB_all {roles : List Str} (h : rolesB roles = true) : 2 ≤ roles.length ∧ roles.length ≤ 5 ∧ roles.Nodup ∧ ∀ r ∈ roles, may r = true := by
  unfold rolesB at h
  simp only [Bool.and_eq_true, decide_eq_true_eq, List.all_eq_true] at h
  exact ⟨h.1.1.1, h.1.1.2, h.1.2, h.2⟩
theorem pointB_ways {roles : List Str} {n : Nat} {x : PointL} (h : pointB roles n x = true) : endB x = true ∨ (endB x = false ∧ x.src ≠ x.dst ∧ x.src ∈ roles ∧ x.dst ∈ roles ∧ armsB n x.arms = true) := by
  unfold pointB at h
  cases he : endB x
  · rw [he] at h
    simp only [Bool.false_or, Bool.and_eq_true, decide_eq_true_eq] at h
    exact .inr ⟨rfl, h.1.1.1, h.1.1.2, h.1.2, h.2⟩
  · exact .inl rfl
theorem may_nil : may [] = false := by decide
/-- The points of a valid protocol, as turns, are a valid local type. -/
theorem prot_loc {nm : Str} {roles : List Str} {ps : List PointL} (h : protB nm roles ps = true) : locB (ps.map asT) = true := by
  obtain ⟨_, hr, h1, h24, hall⟩ := protB_all h
  unfold locB
  rw [List.length_map]
  simp only [Bool.and_eq_true, decide_eq_true_eq, List.all_eq_true]
  refine ⟨⟨h1, by omega⟩, fun t ht => ?_⟩
  obtain ⟨x, hx, rfl⟩ := List.mem_map.1 ht
  unfold asT
  rcases pointB_ways (hall x hx) with he | ⟨he, _, hs, _, ha⟩
  · rw [if_pos he]
    rfl
  · rw [if_neg (by rw [he]; simp)]
    unfold turnB
    rw [if_neg (by show ¬ ((1 : Int) = 0); decide), if_pos (by show (1 : Int) = 1 ∨ (1 : Int) = 2; decide), (rolesB_all hr).2.2.2 _ hs, ha]
    rfl
def reachP (ps : List PointL) : List Nat := reachT (ps.map asT)
def pointOf (ps : List PointL) (p : Nat) : PointL := (ps[p]?).getD ⟨[], [], []⟩
def trimP (ps : List PointL) : List PointL := (reachP ps).map fun p => ⟨(pointOf ps p).src, (pointOf ps p).dst, movedA (reachP ps) (pointOf ps p).arms⟩
theorem pointOf_lt {ps : List PointL} {p : Nat} (h : p < ps.length) : pointOf ps p = ps[p] := by unfold pointOf; rw [List.getElem?_eq_getElem h]; rfl
theorem turnOf_asT {ps : List PointL} {p : Nat} (h : p < ps.length) : turnOf (ps.map asT) p = asT ps[p] := by
  rw [turnOf_lt (by rw [List.length_map]; exact h), List.getElem_map]
theorem reachP_lt {ps : List PointL} (hv : locB (ps.map asT) = true) {p : Nat} (h : p ∈ reachP ps) : p < ps.length := by
  have := reach_lt hv p h
  rwa [List.length_map] at this
theorem trimP_len (ps : List PointL) : (trimP ps).length = (reachP ps).length := by unfold trimP; rw [List.length_map]
theorem moved_nil (row : List Nat) : movedA row [] = [] := rfl
theorem moved_isEmpty (row : List Nat) (l : List ArmL) : (movedA row l).isEmpty = l.isEmpty := by
  have := moved_len row l
  cases l with
  | nil => rfl
  | cons a r =>
    cases hm : movedA row (a :: r) with
    | nil => rw [hm] at this; simp at this
    | cons _ _ => rfl
/-- What is trimmed, as turns, is the trim of the turns. -/
theorem trimP_asT {ps : List PointL} (hv : locB (ps.map asT) = true) : (trimP ps).map asT = trimT (ps.map asT) := by
  unfold trimP trimT
  rw [List.map_map]
  refine List.map_congr_left fun p hp => ?_
  have hlt := reachP_lt hv hp
  show asT ⟨(pointOf ps p).src, (pointOf ps p).dst, movedA (reachP ps) (pointOf ps p).arms⟩ = _
  rw [turnOf_asT hlt, pointOf_lt hlt]
  have he : endB ⟨ps[p].src, ps[p].dst, movedA (reachP ps) ps[p].arms⟩ = endB ps[p] := by unfold endB; rw [moved_isEmpty]
  unfold asT
  rw [he]
  split
  · rfl
  · rfl
theorem trimP_valid {nm : Str} {roles : List Str} {ps : List PointL} (h : protB nm roles ps = true) : protB nm roles (trimP ps) = true := by
  obtain ⟨hn, hr, h1, h24, hall⟩ := protB_all h
  have hv := prot_loc h
  have hle : (reachP ps).length ≤ ps.length := by have := reach_few hv; rwa [List.length_map] at this
  obtain ⟨r, hr0⟩ := reach_zero (ps.map asT)
  have hpos : 1 ≤ (reachP ps).length := by unfold reachP; rw [hr0]; simp
  have htv := (locB_one (trim_valid hv)).2.2
  rw [← trimP_asT hv] at htv
  unfold protB
  rw [hn, hr]
  simp only [Bool.true_and, Bool.and_eq_true, decide_eq_true_eq, List.all_eq_true]
  refine ⟨⟨by rw [trimP_len]; omega, by rw [trimP_len]; omega⟩, fun y hy => ?_⟩
  have hty := htv (asT y) (List.mem_map.2 ⟨y, hy, rfl⟩)
  rw [List.length_map] at hty
  unfold trimP at hy
  obtain ⟨p, hp, rfl⟩ := List.mem_map.1 hy
  have hlt := reachP_lt hv hp
  rw [pointOf_lt hlt] at hty ⊢
  have he : endB ⟨ps[p].src, ps[p].dst, movedA (reachP ps) ps[p].arms⟩ = endB ps[p] := by unfold endB; rw [moved_isEmpty]
  rcases pointB_ways (hall _ (List.getElem_mem hlt)) with h0 | ⟨h0, a1, a2, a3, a4⟩
  · unfold pointB
    rw [he, h0]
    rfl
  · unfold asT at hty
    rw [he, h0] at hty
    rw [if_neg (by simp)] at hty
    rcases turnB_arms hty with ⟨k0, _⟩ | ⟨_, _, k3⟩
    · exact absurd k0 (by show ¬ ((1 : Int) = 0); decide)
    · unfold pointB
      rw [decide_eq_true a1, decide_eq_true a2, decide_eq_true a3]
      dsimp only at k3 ⊢
      rw [k3]
      simp
theorem reachP_trim {ps : List PointL} (hv : locB (ps.map asT) = true) : reachP (trimP ps) = List.range (reachP ps).length := by
  unfold reachP
  rw [trimP_asT hv]
  exact reach_trim hv
theorem trimP_at {ps : List PointL} {q p : Nat} (hq : (reachP ps)[q]? = some p) : (trimP ps)[q]? = some ⟨(pointOf ps p).src, (pointOf ps p).dst, movedA (reachP ps) (pointOf ps p).arms⟩ := by
  unfold trimP
  rw [List.getElem?_map, hq]
  rfl
theorem trimP_trim {nm : Str} {roles : List Str} {ps : List PointL} (h : protB nm roles ps = true) : trimP (trimP ps) = trimP ps := by
  have hv := prot_loc h
  have hv2 := prot_loc (trimP_valid h)
  have ht : trimT ((trimP ps).map asT) = (trimP ps).map asT := by rw [trimP_asT hv, trim_trim hv]
  refine List.ext_getElem? fun i => ?_
  rcases Nat.lt_or_ge i (trimP ps).length with hi | hi
  · have hi2 : i < (reachP ps).length := by rw [← trimP_len]; exact hi
    have hr : (reachP (trimP ps))[i]? = some i := by rw [reachP_trim hv, List.getElem?_range hi2]
    rw [trimP_at hr, pointOf_lt hi, List.getElem?_eq_getElem hi]
    have h1 : (trimT ((trimP ps).map asT))[i]? = some (asT (trimP ps)[i]) := by rw [ht, List.getElem?_map, List.getElem?_eq_getElem hi]; rfl
    unfold trimT at h1
    rw [List.getElem?_map] at h1
    unfold reachP at hr
    rw [hr, Option.map_some, turnOf_asT hi] at h1
    have h2 := congrArg TurnL.arms (Option.some.inj h1)
    dsimp only at h2
    rw [asT_arms] at h2
    congr 1
    show PointL.mk _ _ (movedA (reachT ((trimP ps).map asT)) _) = _
    rw [h2]
  · have e : (trimP (trimP ps)).length = (trimP ps).length := by rw [trimP_len, reachP_trim hv, List.length_range, trimP_len]
    rw [List.getElem?_eq_none (by omega), List.getElem?_eq_none hi]
/-- Where labels lead. -/
def walkP (ps : List PointL) (ls : List Str) : Option Nat := walkT (ps.map asT) 0 ls
theorem walkP_trim {ps : List PointL} (hv : locB (ps.map asT) = true) (ls : List Str) : walkP (trimP ps) ls = (walkP ps ls).map fun p => (reachP ps).idxOf p := by
  unfold walkP
  rw [trimP_asT hv]
  exact walk_trim hv ls
theorem walkP_in {ps : List PointL} (hv : locB (ps.map asT) = true) {ls : List Str} {p : Nat} (e : walkP ps ls = some p) : p ∈ reachP ps := by
  obtain ⟨r, hr⟩ := reach_zero (ps.map asT)
  exact walk_in hv ls 0 p (by rw [hr]; simp) e
end Go.Proofs.YtiofpeckcfdilaaGreatDoor

/- Plain: near points: what is met from some places, and which of it a role is in. No program stands in this text. -/
namespace Go.Proofs.YtiofpeckcfdilaaGreatDoor
open Go.RowKit

/-- What is met from some places. -/
inductive Met (g : Nat → List Nat) (s : List Nat) : Nat → Prop
  | base {x : Nat} (h : x ∈ s) : Met g s x
  | step {p x : Nat} (h : Met g s p) (hx : x ∈ g p) : Met g s x
theorem Met.sub {g : Nat → List Nat} {s t : List Nat} (h : ∀ x ∈ s, x ∈ t) {x : Nat} (hx : Met g s x) : Met g t x := by
  induction hx with
  | base h1 => exact .base (h _ h1)
  | step _ h2 ih => exact .step ih h2
theorem Met.append {g : Nat → List Nat} {s t : List Nat} {x : Nat} : Met g (s ++ t) x ↔ Met g s x ∨ Met g t x := by
  constructor
  · intro h
    induction h with
    | base h1 =>
      rcases List.mem_append.1 h1 with h | h
      · exact .inl (.base h)
      · exact .inr (.base h)
    | step _ h2 ih =>
      rcases ih with h | h
      · exact .inl (.step h h2)
      · exact .inr (.step h h2)
  · rintro (h | h)
    · exact h.sub (fun x hx => List.mem_append_left _ hx)
    · exact h.sub (fun x hx => List.mem_append_right _ hx)
theorem Met.one {g : Nat → List Nat} {k x : Nat} : Met g [k] x ↔ x = k ∨ Met g (g k) x := by
  constructor
  · intro h
    induction h with
    | base h1 => exact .inl (List.mem_singleton.1 h1)
    | step _ h2 ih =>
      rcases ih with rfl | h
      · exact .inr (.base h2)
      · exact .inr (.step h h2)
  · rintro (rfl | h)
    · exact .base (by simp)
    · induction h with
      | base h1 => exact .step (.base (by simp)) h1
      | step _ h2 ih => exact .step ih h2
theorem Met.lt {g : Nat → List Nat} {s : List Nat} {n : Nat} (hg : ∀ p < n, ∀ x ∈ g p, x < n) (hs : ∀ x ∈ s, x < n) {x : Nat} (h : Met g s x) : x < n := by
  induction h with
  | base h1 => exact hs _ h1
  | step _ h2 ih => exact hg _ ih _ h2
theorem met_bfs {g : Nat → List Nat} {s : List Nat} : ∀ (fuel i : Nat) (out : List Nat), (∀ x ∈ out, Met g s x) → ∀ x ∈ bfs g fuel i out, Met g s x
  | 0, _, _, h => h
  | fuel + 1, i, out, h => by
    rcases hi : out[i]? with _ | p
    · rw [bfs, hi]; exact h
    · rw [bfs_some fuel hi]
      refine met_bfs fuel (i + 1) _ fun x hx => ?_
      rcases (addN_mem x _ _).1 hx with hx | hx
      · exact h x hx
      · exact .step (h p (List.mem_of_getElem? hi)) hx
/-- The places met, breadth first. -/
def metL (g : Nat → List Nat) (n : Nat) (s : List Nat) : List Nat := bfs g n 0 (addN [] s)
theorem mem_metL {g : Nat → List Nat} {n : Nat} {s : List Nat} (hg : ∀ p < n, ∀ x ∈ g p, x < n) (hs : ∀ x ∈ s, x < n) {x : Nat} : x ∈ metL g n s ↔ Met g s x := by
  have hm : ∀ y, y ∈ addN [] s ↔ y ∈ s := fun y => by rw [addN_mem]; simp
  constructor
  · exact met_bfs _ _ _ (fun y hy => .base ((hm y).1 hy)) x
  · intro h
    induction h with
    | base h1 => exact bfs_sub ((hm _).2 h1)
    | step _ h2 ih => exact bfs_closed hg n 0 (addN [] s) (addN_nodup _ _ (by simp)) (fun y hy => hs y ((hm y).1 hy)) (by omega) (fun j hj => by omega) _ ih _ h2
/-- A role is in a point. -/
def inP (x : PointL) (r : Str) : Bool := x.src == r || x.dst == r
/-- Where a step leads that leaves a point in which the role is not. -/
def outsP (ps : List PointL) (r : Str) (p : Nat) : List Nat := if inP (pointOf ps p) r then [] else (pointOf ps p).arms.map fun a => a.next.toNat
/-- The places that are met. -/
def spanP (ps : List PointL) (r : Str) (s : List Nat) : List Nat := (List.range ps.length).filter fun p => decide (p ∈ metL (outsP ps r) ps.length s)
def nearP (ps : List PointL) (r : Str) (s : List Nat) : List Nat := (spanP ps r s).filter fun p => inP (pointOf ps p) r
/-- The indices of points among some numbers. -/
def startP (n : Nat) (l : List Int) : List Nat := (l.filter fun x => decide (0 ≤ x) && decide (x < (n : Int))).map Int.toNat
theorem startP_lt {n : Nat} {l : List Int} : ∀ x ∈ startP n l, x < n := by
  intro x hx
  unfold startP at hx
  obtain ⟨y, hy, rfl⟩ := List.mem_map.1 hx
  have := (List.mem_filter.1 hy).2
  simp only [Bool.and_eq_true, decide_eq_true_eq] at this
  omega
theorem mem_startP {n : Nat} {l : List Int} {x : Nat} : x ∈ startP n l ↔ x < n ∧ (x : Int) ∈ l := by
  unfold startP
  rw [List.mem_map]
  constructor
  · rintro ⟨y, hy, rfl⟩
    obtain ⟨h1, h2⟩ := List.mem_filter.1 hy
    simp only [Bool.and_eq_true, decide_eq_true_eq] at h2
    exact ⟨by omega, by rw [show ((y.toNat : Nat) : Int) = y by omega]; exact h1⟩
  · rintro ⟨h1, h2⟩
    exact ⟨(x : Int), List.mem_filter.2 ⟨h2, by simp only [Bool.and_eq_true, decide_eq_true_eq]; omega⟩, by omega⟩
section
variable {nm : Str} {roles : List Str} {ps : List PointL} (h : protB nm roles ps = true) (r : Str)
include h
theorem outs_lt : ∀ p < ps.length, ∀ x ∈ outsP ps r p, x < ps.length := by
  intro p hp x hx
  unfold outsP at hx
  split at hx
  · cases hx
  · obtain ⟨a, ha, rfl⟩ := List.mem_map.1 hx
    rw [pointOf_lt hp] at ha
    rcases pointB_ways ((protB_all h).2.2.2.2 _ (List.getElem_mem hp)) with h0 | ⟨_, _, _, _, h4⟩
    · rw [(endB_iff.1 h0).2.2] at ha
      cases ha
    · have := (armB_all ((armsB_all h4).1 a ha)).2.2
      omega
theorem mem_spanP {s : List Nat} (hs : ∀ x ∈ s, x < ps.length) {x : Nat} : x ∈ spanP ps r s ↔ Met (outsP ps r) s x := by
  unfold spanP
  rw [List.mem_filter, decide_eq_true_eq, mem_metL (outs_lt h r) hs, List.mem_range]
  exact ⟨fun k => k.2, fun k => ⟨k.lt (outs_lt h r) hs, k⟩⟩
theorem mem_nearP {s : List Nat} (hs : ∀ x ∈ s, x < ps.length) {x : Nat} : x ∈ nearP ps r s ↔ Met (outsP ps r) s x ∧ inP (pointOf ps x) r = true := by
  unfold nearP
  rw [List.mem_filter, mem_spanP h r hs]
theorem span_congr {s t : List Nat} (hs : ∀ x ∈ s, x < ps.length) (ht : ∀ x ∈ t, x < ps.length) (he : ∀ x, Met (outsP ps r) s x ↔ Met (outsP ps r) t x) : spanP ps r s = spanP ps r t := by
  unfold spanP
  refine List.filter_congr fun x _ => ?_
  rw [decide_eq_decide, mem_metL (outs_lt h r) hs, mem_metL (outs_lt h r) ht]
  exact he x
/-- Of a point in which the role is: the point alone. -/
theorem near_in {k : Nat} (hk : k < ps.length) (hi : inP (pointOf ps k) r = true) {s : List Nat} (hs : ∀ x, x ∈ s ↔ x = k) : nearP ps r s = [k] := by
  have hsl : ∀ x ∈ s, x < ps.length := fun x hx => by rw [(hs x).1 hx]; exact hk
  have hm : ∀ x, Met (outsP ps r) s x ↔ x = k := fun x => by
    constructor
    · intro hm
      induction hm with
      | base h1 => exact (hs _).1 h1
      | step _ h2 ih =>
        subst ih
        unfold outsP at h2
        rw [if_pos hi] at h2
        cases h2
    · rintro rfl
      exact .base ((hs _).2 rfl)
  have e : nearP ps r s = (List.range ps.length).filter fun p => decide (p = k) := by
    unfold nearP spanP
    rw [List.filter_filter]
    refine List.filter_congr fun x _ => ?_
    have h1 := mem_metL (outs_lt h r) hsl (x := x)
    rw [hm] at h1
    by_cases hx : x = k
    · subst hx
      rw [hi, decide_eq_true (h1.2 rfl), decide_eq_true rfl]
      rfl
    · rw [decide_eq_false (fun c => hx (h1.1 c)), decide_eq_false hx, Bool.and_false]
  rw [e]
  have key : ∀ n, k < n → (List.range n).filter (fun p => decide (p = k)) = [k] := fun n => by
    induction n with
    | zero => intro h; omega
    | succ n ih =>
      intro hkn
      rw [List.range_succ, List.filter_append]
      by_cases hkn2 : k < n
      · rw [ih hkn2, List.filter_cons_of_neg (by simp; omega)]
        rfl
      · have : k = n := by omega
        subst this
        rw [List.filter_cons_of_pos (by simp), List.filter_eq_nil_iff.2 (fun x hx => by have := List.mem_range.1 hx; simp; omega)]
        rfl
  exact key _ hk
/-- Of a point in which the role is not: the near points of all its Nexts. -/
theorem near_step {k : Nat} (hk : k < ps.length) (hi : inP (pointOf ps k) r = false) : nearP ps r [k] = nearP ps r (outsP ps r k) := by
  have hs1 : ∀ x ∈ [k], x < ps.length := fun x hx => by rw [List.mem_singleton.1 hx]; exact hk
  have hs2 := outs_lt h r k hk
  unfold nearP spanP
  rw [List.filter_filter, List.filter_filter]
  refine List.filter_congr fun x _ => ?_
  by_cases hx : inP (pointOf ps x) r = true
  · have hne : x ≠ k := fun e => by rw [e, hi] at hx; cases hx
    rw [hx, Bool.true_and, Bool.true_and, decide_eq_decide, mem_metL (outs_lt h r) hs1, mem_metL (outs_lt h r) hs2, Met.one]
    exact ⟨fun k => k.resolve_left hne, .inr⟩
  · rw [Bool.not_eq_true] at hx
    rw [hx, Bool.false_and, Bool.false_and]
theorem near_mono {s t : List Nat} (ht : ∀ x ∈ t, x < ps.length) (hst : ∀ x ∈ s, x ∈ t) {x : Nat} (hx : x ∈ nearP ps r s) : x ∈ nearP ps r t := by
  obtain ⟨h1, h2⟩ := (mem_nearP h r (fun y hy => ht y (hst y hy))).1 hx
  exact (mem_nearP h r ht).2 ⟨h1.sub hst, h2⟩
end
theorem near_up (ps : List PointL) (r : Str) (s : List Nat) : (nearP ps r s).Pairwise (· < ·) := by
  unfold nearP spanP
  rw [List.filter_filter]
  exact List.pairwise_lt_range.filter _
theorem near_lt {ps : List PointL} {r : Str} {s : List Nat} {x : Nat} (hx : x ∈ nearP ps r s) : x < ps.length := by
  unfold nearP spanP at hx
  exact List.mem_range.1 (List.mem_filter.1 (List.mem_filter.1 hx).1).1
theorem near_in_it {ps : List PointL} {r : Str} {s : List Nat} {x : Nat} (hx : x ∈ nearP ps r s) : inP (pointOf ps x) r = true := (List.mem_filter.1 hx).2
theorem near_nil (ps : List PointL) (r : Str) : nearP ps r [] = [] := by
  unfold nearP spanP
  rw [List.filter_filter, List.filter_eq_nil_iff]
  intro x _
  have h0 : metL (outsP ps r) ps.length [] = [] := by
    unfold metL
    exact bfs_none _ (by simp [addN])
  rw [h0]
  simp
theorem near_sum {nm : Str} {roles : List Str} {ps : List PointL} (h : protB nm roles ps = true) (r : Str) {s t u : List Nat} (hs : ∀ x ∈ s, x < ps.length) (ht : ∀ x ∈ t, x < ps.length) (hu : ∀ x, x ∈ u ↔ x ∈ s ∨ x ∈ t) : (nearP ps r u).length ≤ (nearP ps r s).length + (nearP ps r t).length := by
  rw [← List.length_append]
  refine few_sub _ _ ((near_up ps r u).imp (fun h => Nat.ne_of_lt h)) fun x hx => ?_
  have hul : ∀ y ∈ u, y < ps.length := fun y hy => by
    rcases (hu y).1 hy with k | k
    · exact hs y k
    · exact ht y k
  obtain ⟨h1, h2⟩ := (mem_nearP h r hul).1 hx
  have h3 : Met (outsP ps r) (s ++ t) x := h1.sub (fun y hy => List.mem_append.2 ((hu y).1 hy))
  rcases Met.append.1 h3 with k | k
  · exact List.mem_append_left _ ((mem_nearP h r hs).2 ⟨k, h2⟩)
  · exact List.mem_append_right _ ((mem_nearP h r ht).2 ⟨k, h2⟩)
/-- Near of some places is empty just where near of each one is. -/
theorem near_empty {nm : Str} {roles : List Str} {ps : List PointL} (h : protB nm roles ps = true) (r : Str) {s : List Nat} (hs : ∀ x ∈ s, x < ps.length) : nearP ps r s = [] ↔ ∀ k ∈ s, nearP ps r [k] = [] := by
  constructor
  · intro he k hk
    cases hc : nearP ps r [k] with
    | nil => rfl
    | cons x l =>
      have hx : x ∈ nearP ps r [k] := by rw [hc]; simp
      have := near_mono h r hs (fun y hy => by rw [List.mem_singleton.1 hy]; exact hk) hx
      rw [he] at this
      cases this
  · intro ha
    cases hc : nearP ps r s with
    | nil => rfl
    | cons x l =>
      have hx : x ∈ nearP ps r s := by rw [hc]; simp
      obtain ⟨h1, h2⟩ := (mem_nearP h r hs).1 hx
      have key : ∀ y, Met (outsP ps r) s y → ∃ k ∈ s, Met (outsP ps r) [k] y := fun y hy => by
        induction hy with
        | base h1 => exact ⟨_, h1, .base (by simp)⟩
        | step _ h2 ih =>
          obtain ⟨k, hk, hm⟩ := ih
          exact ⟨k, hk, .step hm h2⟩
      obtain ⟨k, hk, hm⟩ := key x h1
      have := (mem_nearP h r (fun y hy => by rw [List.mem_singleton.1 hy]; exact hs k hk)).2 ⟨hm, h2⟩
      rw [ha k hk] at this
      cases this
end Go.Proofs.YtiofpeckcfdilaaGreatDoor

/- Plain: when roles and points make no protocol. No program stands in this text. -/
namespace Go.Proofs.YtiofpeckcfdilaaGreatDoor
open Go.RowKit

section
variable {nm : Str} {rs : List Str} {ps : List PointL}
theorem protB_name (h : may nm = false) : protB nm rs ps = false := by unfold protB; rw [h]; rfl
theorem protB_roles (h : rolesB rs = false) : protB nm rs ps = false := by unfold protB; rw [h]; simp
theorem rolesB_few (h : rs.length < 2 ∨ 5 < rs.length) : rolesB rs = false := by
  unfold rolesB
  rcases h with h | h
  · rw [decide_eq_false (show ¬ 2 ≤ rs.length by omega)]; rfl
  · rw [decide_eq_false (show ¬ rs.length ≤ 5 by omega)]; simp
theorem rolesB_twice (h : once rs = false) : rolesB rs = false := by
  unfold rolesB
  rw [decide_eq_false (show ¬ rs.Nodup from fun c => by rw [(once_iff rs).2 c] at h; cases h)]
  simp
theorem rolesB_one {k : Nat} {r : Str} (hk : rs[k]? = some r) (h : may r = false) : rolesB rs = false := by
  unfold rolesB
  rw [show rs.all may = false from List.all_eq_false.2 ⟨r, List.mem_of_getElem? hk, by rw [h]; simp⟩]
  simp
theorem rolesB_good (h2 : 2 ≤ rs.length) (h5 : rs.length ≤ 5) (ho : once rs = true) (h : ∀ j r, j < rs.length → rs[j]? = some r → may r = true) : rolesB rs = true := by
  unfold rolesB
  rw [decide_eq_true h2, decide_eq_true h5, decide_eq_true ((once_iff rs).1 ho), show rs.all may = true from List.all_eq_true.2 (fun r hr => by
    obtain ⟨j, hj⟩ := List.mem_iff_getElem?.1 hr
    exact h j r (List.getElem?_eq_some_iff.1 hj).1 hj)]
  rfl
theorem protB_few (h : ps.length < 1 ∨ 24 < ps.length) : protB nm rs ps = false := by
  unfold protB
  rcases h with h | h
  · rw [decide_eq_false (show ¬ 1 ≤ ps.length by omega)]; simp
  · rw [decide_eq_false (show ¬ ps.length ≤ 24 by omega)]; simp
theorem protB_bad {n k : Nat} {x : PointL} (hn : ps.length = n) (hk : ps[k]? = some x) (h : pointB rs n x = false) : protB nm rs ps = false := by
  subst hn
  unfold protB
  rw [show ps.all (pointB rs ps.length) = false from List.all_eq_false.2 ⟨x, List.mem_of_getElem? hk, by rw [h]; simp⟩]
  simp
theorem protB_good {n : Nat} (hn : ps.length = n) (h0 : may nm = true) (hr : rolesB rs = true) (h1 : 1 ≤ n) (h24 : n ≤ 24) (h : ∀ j x, j < n → ps[j]? = some x → pointB rs n x = true) : protB nm rs ps = true := by
  subst hn
  unfold protB
  rw [h0, hr, decide_eq_true h1, decide_eq_true h24, show ps.all (pointB rs ps.length) = true from List.all_eq_true.2 (fun x hx => by
    obtain ⟨j, hj⟩ := List.mem_iff_getElem?.1 hx
    exact h j x (List.getElem?_eq_some_iff.1 hj).1 hj)]
  rfl
theorem pointB_form (n : Nat) (q s : Str) (l : List ArmL) : pointB rs n ⟨q, s, l⟩ = (endB ⟨q, s, l⟩ || (decide (q ≠ s) && hasS rs q && hasS rs s && armsB n l)) := by
  unfold pointB hasS
  have e : ∀ x : Str, decide (x ∈ rs) = rs.contains x := fun x => by
    rw [Bool.eq_iff_iff, decide_eq_true_eq, List.contains_iff_mem]
  rw [e, e]
end
end Go.Proofs.YtiofpeckcfdilaaGreatDoor

/- Plain: what the program asks of a protocol's points makes it valid; trims, as the program makes them. No program stands in this text. -/
namespace Go.Proofs.YtiofpeckcfdilaaGreatDoor
open Go.RowKit

/-- A point whose ends are two roles, or none. -/
def seatB (roles : List Str) (x : PointL) : Bool := endB x || (decide (x.src ∈ roles) && decide (x.dst ∈ roles) && decide (x.src ≠ x.dst))
def ptsB (roles : List Str) (ps : List PointL) : Bool := decide (1 ≤ ps.length) && decide (ps.length ≤ 24) && ps.all (seatB roles) && locB (ps.map asT)
theorem ptsB_all {roles : List Str} {ps : List PointL} : ptsB roles ps = true ↔ 1 ≤ ps.length ∧ ps.length ≤ 24 ∧ (∀ x ∈ ps, seatB roles x = true) ∧ locB (ps.map asT) = true := by
  unfold ptsB
  simp only [Bool.and_eq_true, decide_eq_true_eq, List.all_eq_true, and_assoc]
theorem seatB_ways {roles : List Str} {x : PointL} : seatB roles x = true ↔ endB x = true ∨ (x.src ∈ roles ∧ x.dst ∈ roles ∧ x.src ≠ x.dst) := by
  unfold seatB
  simp only [Bool.or_eq_true, Bool.and_eq_true, decide_eq_true_eq, and_assoc]
theorem ptsB_iff {nm : Str} {roles : List Str} {ps : List PointL} (hn : may nm = true) (hr : rolesB roles = true) : ptsB roles ps = true ↔ protB nm roles ps = true := by
  constructor
  · intro h
    obtain ⟨h1, h24, hs, hl⟩ := ptsB_all.1 h
    unfold protB
    rw [hn, hr, decide_eq_true h1, decide_eq_true h24]
    simp only [Bool.true_and, List.all_eq_true]
    intro x hx
    unfold pointB
    rcases seatB_ways.1 (hs x hx) with he | ⟨h2, h3, h4⟩
    · rw [he]; rfl
    · have ht := (locB_one hl).2.2 (asT x) (List.mem_map.2 ⟨x, hx, rfl⟩)
      rw [List.length_map] at ht
      cases he : endB x
      · unfold asT at ht
        rw [if_neg (by rw [he]; simp)] at ht
        rcases turnB_arms ht with ⟨h5, _⟩ | ⟨_, _, h5⟩
        · exact absurd h5 (by show ¬ ((1 : Int) = 0); decide)
        · rw [decide_eq_true h2, decide_eq_true h3, decide_eq_true h4]
          dsimp only at h5
          rw [h5]
          rfl
      · rfl
  · intro h
    obtain ⟨_, _, h1, h24, hs⟩ := protB_all h
    refine ptsB_all.2 ⟨h1, h24, fun x hx => seatB_ways.2 ?_, prot_loc h⟩
    rcases pointB_ways (hs x hx) with he | ⟨_, h2, h3, h4, _⟩
    · exact .inl he
    · exact .inr ⟨h3, h4, h2⟩
theorem ptsB_prot {nm : Str} {roles : List Str} {ps : List PointL} (hn : may nm = true) (hr : rolesB roles = true) : protB nm roles ps = ptsB roles ps := by
  rw [Bool.eq_iff_iff]
  exact (ptsB_iff hn hr).symm
theorem ptsB_few {roles : List Str} {ps : List PointL} (h : ps.length < 1 ∨ 24 < ps.length) : ptsB roles ps = false := by
  unfold ptsB
  rcases h with h | h
  · rw [decide_eq_false (show ¬ 1 ≤ ps.length by omega)]; rfl
  · rw [decide_eq_false (show ¬ ps.length ≤ 24 by omega), Bool.and_false]; rfl
theorem ptsB_bad {roles : List Str} {ps : List PointL} {k : Nat} {x : PointL} (hx : ps[k]? = some x) (h : seatB roles x = false) : ptsB roles ps = false := by
  cases hp : ptsB roles ps
  · rfl
  · have := (ptsB_all.1 hp).2.2.1 x (List.mem_of_getElem? hx)
    rw [h] at this
    cases this
theorem ptsB_end {roles : List Str} {ps : List PointL} (h1 : 1 ≤ ps.length) (h24 : ps.length ≤ 24) (hs : ∀ x ∈ ps, seatB roles x = true) : ptsB roles ps = locB (ps.map asT) := by
  unfold ptsB
  rw [decide_eq_true h1, decide_eq_true h24, List.all_eq_true.2 hs]
  rfl
/-- Trims, with the case of a protocol that is none. -/
def trimQ (nm : Str) (rs : List Str) (ps : List PointL) : List PointL := if protB nm rs ps then trimP ps else []
def nearQ (nm : Str) (rs : List Str) (ps : List PointL) (r : Str) (l : List Int) : List Nat := if protB nm rs ps && hasS rs r then nearP ps r (startP ps.length l) else []
def lostQ (nm : Str) (rs : List Str) (ps : List PointL) (r : Str) (k : Int) : Bool := protB nm rs ps && hasS rs r && decide (0 ≤ k) && decide (k < (ps.length : Int)) && (nearP ps r [k.toNat]).isEmpty
theorem trimP_turn {ps : List PointL} (hv : locB (ps.map asT) = true) {k : Nat} {t : TurnL} (ht : (trimT (ps.map asT))[k]? = some t) : ∃ p, (reachP ps)[k]? = some p ∧ p < ps.length ∧ (trimP ps)[k]? = some ⟨(pointOf ps p).src, (pointOf ps p).dst, t.arms⟩ := by
  rw [← trimP_asT hv, List.getElem?_map] at ht
  obtain ⟨x, hx, rfl⟩ := Option.map_eq_some_iff.1 ht
  have hk := (List.getElem?_eq_some_iff.1 hx).1
  rw [trimP_len] at hk
  have hp := List.getElem?_eq_getElem hk
  refine ⟨_, hp, reachP_lt hv (List.mem_of_getElem? hp), ?_⟩
  have h2 := trimP_at hp
  rw [hx] at h2
  have h3 := Option.some.inj h2
  rw [hx, asT_arms, h3]
def reachQ (nm : Str) (rs : List Str) (ps : List PointL) : List Nat := if protB nm rs ps then reachP ps else []
def walkQ (nm : Str) (rs : List Str) (ps : List PointL) (ls : List Str) : Option Nat := if protB nm rs ps then walkP ps ls else none
end Go.Proofs.YtiofpeckcfdilaaGreatDoor
