/- Plain: the chapter's example, projected. -/
import Derived.Test.YtiofpeckcfdilaaGreatDoorPjMid
import Derived.Test.YtiofpeckcfdilaaGreatDoorTuTrimO
import Derived.Test.YtiofpeckcfdilaaGreatDoorTuSameT
import Derived.Test.YtiofpeckcfdilaaGreatDoorPjSpecs
import Derived.Test.YtiofpeckcfdilaaGreatDoorGlFirsts
import Derived.Test.YtiofpeckcfdilaaGreatDoorPjLow
import Derived.Deep.CutRange
import Derived.Test.YtiofpeckcfdilaaGreatDoorTuRows
namespace Go.Proofs.YtiofpeckcfdilaaGreatDoor
open Go.RowKit

def exRoles8 : List Str := [[97], [98], [99]]
def exPts8 : List PointL := [⟨[97], [98], [⟨[120], 0, [], 2⟩, ⟨[121], 0, [], 1⟩]⟩, ⟨[98], [99], [⟨[122], 0, [], 2⟩]⟩, ⟨[], [], []⟩]
theorem ex8_ok : protB [112] exRoles8 exPts8 = true := by decide
theorem sort2 (x y : Str) : sortS [x, y] = if x ≤ y then [x, y] else [y, x] := by
  unfold sortS
  by_cases h : x ≤ y
  · rw [if_pos h]
    simp [List.mergeSort, List.MergeSort.Internal.splitInTwo, h]
  · rw [if_neg h]
    simp [List.mergeSort, List.MergeSort.Internal.splitInTwo, h]
theorem sort1 (x : Str) : sortS [x] = [x] := by simp [sortS]
theorem ex8_lab : labelsP [(⟨[97], [98], [⟨[120], 0, [], 2⟩, ⟨[121], 0, [], 1⟩]⟩ : PointL)] = [[120], [121]] := by
  unfold labelsP
  simp only [List.flatMap_cons, List.flatMap_nil, List.map_cons, List.map_nil, List.append_nil]
  rw [sort2]
  decide
theorem ex8_c : roleQ [112] exRoles8 exPts8 [99] = .error 801 := by kernel_rfl
theorem ex8_t0 : turnP exPts8 [97] [0] [[0]] = .ok (⟨1, [98], [⟨[120], 0, [], 1⟩, ⟨[121], 0, [], 1⟩]⟩, [[0], []]) := by
  unfold turnP
  rw [if_neg (by decide), show labelsP (ptsOf exPts8 [0]) = [[120], [121]] from ex8_lab]
  kernel_rfl
theorem ex8_a : roleQ [112] exRoles8 exPts8 [97] = .ok [⟨1, [98], [⟨[120], 0, [], 1⟩, ⟨[121], 0, [], 1⟩]⟩, ⟨0, [], []⟩] := by
  unfold roleQ
  rw [if_pos (by decide)]
  unfold roleP
  rw [show lookP exPts8 [97] [] [0] = .ok (0, [[0]]) from by kernel_rfl]
  dsimp only
  unfold turnsP
  rw [show ([[0]] : List (List Nat))[0]? = some [0] from rfl]
  dsimp only
  rw [ex8_t0]
  kernel_rfl
end Go.Proofs.YtiofpeckcfdilaaGreatDoor

/- Contracts of the statements' given and first (layer 8). -/
namespace Go.Proofs.YtiofpeckcfdilaaGreatDoor
open Go.RowKit

theorem str18 (c : UInt8) : (⟨#[c]⟩ : ByteArray).toList = [c] := by rw [ByteArray.toList_eq]
theorem str08 : (⟨#[]⟩ : ByteArray).toList = [] := by rw [ByteArray.toList_eq]
theorem small18 (c : UInt8) : (⟨#[c]⟩ : ByteArray).size ≤ maxLen := by simp [maxLen, ByteArray.size]
theorem small08 : (⟨#[]⟩ : ByteArray).size ≤ maxLen := by simp [maxLen, ByteArray.size]
theorem heap_keep8 {W : World} {k : Nat} {x : Obj} (o : Obj) (h : W.heap[k]? = some x) : (W.alloc o).heap[k]? = some x := ((tu1 W o).block k (Array.getElem?_eq_some_iff.1 h).1).trans h
theorem heap_new_at8 {W : World} {k : Nat} {cs : Array Value} {t : TypeId} (hk : k = W.heap.size) : (W.alloc (.cells cs t)).heap[k]? = some (.cells cs t (0, 0)) := by rw [hk]; exact heap_alloc_new W _
/-- A row of arms in memory. -/
theorem arms_row8 {W : World} {bound b : Nat} (hb : b < bound) (ts : List AR) (hn : ts.length ≤ 1000) (hok : ∀ t ∈ ts, okR t) (h : W.heap[b]? = some (.cells (ts.flatMap encAR).toArray 67 (0, 0))) :
    Arms W bound (some ⟨b, 0, none⟩) ts.length (ts.map armR) := by
  refine ⟨by simp, by omega, fun _ => ⟨b, 0, rfl, hb, fun j x hj => ?_⟩⟩
  rw [List.getElem?_map] at hj
  obtain ⟨t, ht, rfl⟩ := Option.map_eq_some_iff.1 hj
  have hc : ∀ i u, i < 4 → (encAR t)[i]? = some u → W.cell? ⟨b, 0 + j * 4 + i, none⟩ = some u := fun i u hi hu => by
    rw [cell_of_row _ _ _ _ _ _ h, Nat.zero_add, ← Array.getElem?_toList]
    rw [flatA_at ts j t ht i hi]
    exact hu
  have hm := hok t (List.mem_of_getElem? ht)
  exact ⟨t.s, t.u, ⟨hc 0 _ (by omega) rfl, hc 1 _ (by omega) rfl, hc 2 _ (by omega) rfl, hc 3 _ (by omega) rfl⟩, rfl, rfl, hm.1, hm.2⟩
def exG8 (W : World) (S : Nat) : Prop :=
  W.heap[S + 1]? = some (.cells #[.string ⟨#[97]⟩, .string ⟨#[98]⟩, .string ⟨#[99]⟩] 9 (0, 0)) ∧
  W.heap[S + 2]? = some (.cells #[.string ⟨#[120]⟩, .int .i64 0, .string ⟨#[]⟩, .int .i64 2, .string ⟨#[121]⟩, .int .i64 0, .string ⟨#[]⟩, .int .i64 1] 67 (0, 0)) ∧
  W.heap[S + 3]? = some (.cells #[.string ⟨#[122]⟩, .int .i64 0, .string ⟨#[]⟩, .int .i64 2] 67 (0, 0)) ∧
  W.heap[S + 4]? = some (.cells #[.string ⟨#[97]⟩, .string ⟨#[98]⟩, .slice (some ⟨S + 2, 0, none⟩) 2 2, .string ⟨#[98]⟩, .string ⟨#[99]⟩, .slice (some ⟨S + 3, 0, none⟩) 1 1, .string ⟨#[]⟩, .string ⟨#[]⟩, .slice none 0 0] 82 (0, 0))
theorem exG8_in {W : World} {S : Nat} (h : exG8 W S) : PIn W ⟨#[112]⟩ (some ⟨S + 1, 0, none⟩) 3 exRoles8 (some ⟨S + 4, 0, none⟩) 3 exPts8 := by
  obtain ⟨h1, h2, h3, h4⟩ := h
  have l1 := (Array.getElem?_eq_some_iff.1 h1).1
  have l4 := (Array.getElem?_eq_some_iff.1 h4).1
  have hA2 := arms_row8 (bound := W.heap.size) (by omega) [⟨⟨#[120]⟩, 0, ⟨#[]⟩, 2⟩, ⟨⟨#[121]⟩, 0, ⟨#[]⟩, 1⟩] (by simp) (fun t ht => by
    simp only [List.mem_cons, List.not_mem_nil, or_false] at ht
    rcases ht with rfl | rfl
    · exact ⟨small18 120, small08⟩
    · exact ⟨small18 121, small08⟩) h2
  have hA3 := arms_row8 (bound := W.heap.size) (by omega) [⟨⟨#[122]⟩, 0, ⟨#[]⟩, 2⟩] (by simp) (fun t ht => by
    rw [List.mem_singleton.1 ht]
    exact ⟨small18 122, small08⟩) h3
  simp only [List.map_cons, List.map_nil, armR, str18, str08, List.length_cons, List.length_nil, Nat.zero_add, Nat.reduceAdd] at hA2 hA3
  refine ⟨small18 112, ⟨rfl, by omega, by simp [exRoles8, maxLen], fun _ => ⟨S + 1, 0, rfl, l1, fun j s hj => ?_⟩⟩, ⟨rfl, by omega, fun _ => ⟨S + 4, 0, rfl, l4, fun j x hj => ?_⟩⟩⟩
  · have hj2 : j = 0 ∨ j = 1 ∨ j = 2 := by
      have := (List.getElem?_eq_some_iff.1 hj).1
      simp [exRoles8] at this
      omega
    rcases hj2 with rfl | rfl | rfl
    all_goals
      obtain rfl := Option.some.inj hj
      rw [cell_of_row _ _ _ _ _ _ h1]
      rfl
  · have hj2 : j = 0 ∨ j = 1 ∨ j = 2 := by
      have := (List.getElem?_eq_some_iff.1 hj).1
      simp [exPts8] at this
      omega
    rcases hj2 with rfl | rfl | rfl
    · obtain rfl := Option.some.inj hj
      exact ⟨⟨#[97]⟩, ⟨#[98]⟩, some ⟨S + 2, 0, none⟩, 2, 2, ⟨by rw [cell_of_row _ _ _ _ _ _ h4]; rfl, by rw [cell_of_row _ _ _ _ _ _ h4]; rfl, by rw [cell_of_row _ _ _ _ _ _ h4]; rfl⟩, str18 97, str18 98, small18 97, small18 98, hA2⟩
    · obtain rfl := Option.some.inj hj
      exact ⟨⟨#[98]⟩, ⟨#[99]⟩, some ⟨S + 3, 0, none⟩, 1, 1, ⟨by rw [cell_of_row _ _ _ _ _ _ h4]; rfl, by rw [cell_of_row _ _ _ _ _ _ h4]; rfl, by rw [cell_of_row _ _ _ _ _ _ h4]; rfl⟩, str18 98, str18 99, small18 98, small18 99, hA3⟩
    · obtain rfl := Option.some.inj hj
      exact ⟨⟨#[]⟩, ⟨#[]⟩, none, 0, 0, ⟨by rw [cell_of_row _ _ _ _ _ _ h4]; rfl, by rw [cell_of_row _ _ _ _ _ _ h4]; rfl, by rw [cell_of_row _ _ _ _ _ _ h4]; rfl⟩, str08, str08, small08, small08, ⟨rfl, by omega, fun h => absurd h (Nat.lt_irrefl 0)⟩⟩
/-- What given answers. -/
def Given8Ret (w : World) (e : Ending) (w' : World) : Prop := ∃ xa xb, e = .returned (.agg #[.string ⟨#[112]⟩, .slice xa 3 3, .slice xb 3 3]) ∧ PIn w' ⟨#[112]⟩ xa 3 exRoles8 xb 3 exPts8 ∧ Below w.heap.size w w'
end Go.Proofs.YtiofpeckcfdilaaGreatDoor

/- Contract of the statements' first (layer 8). -/
namespace Go.Proofs.YtiofpeckcfdilaaGreatDoor
open Go.RowKit

end Go.Proofs.YtiofpeckcfdilaaGreatDoor

/- Contract of the statements' own same: two local types, with their names. -/
namespace Go.Proofs.YtiofpeckcfdilaaGreatDoor
open Go.RowKit

end Go.Proofs.YtiofpeckcfdilaaGreatDoor

/- What Role answers, refused or not, in one form. -/
namespace Go.Proofs.YtiofpeckcfdilaaGreatDoor
open Go.RowKit

def errU (x : Except Int (List TurnL)) : Int := match x with
  | .error e => e
  | .ok _ => 0
def turnsU (x : Except Int (List TurnL)) : List TurnL := match x with
  | .error _ => []
  | .ok ts => ts
def nameU (nm r : Str) (x : Except Int (List TurnL)) : Str := match x with
  | .error _ => []
  | .ok _ => nm ++ 46 :: r
/-- A name and turns, in memory. -/
structure LIn (W : World) (s : ByteArray) (a : Option Addr) (n : Nat) (nm : Str) (ts : List TurnL) : Prop where
  name : s.toList = nm
  small : s.size ≤ maxLen
  turns : Turns W W.heap.size a n ts
theorem LIn.on {W W' : World} {s : ByteArray} {a : Option Addr} {n : Nat} {nm : Str} {ts : List TurnL} (h : LIn W s a n nm ts) (hb : Below W.heap.size W W') : LIn W' s a n nm ts := ⟨h.name, h.small, h.turns.on hb⟩
def RoleAns (w : World) (nm r : Str) (x : Except Int (List TurnL)) (e : Ending) (w' : World) : Prop :=
  ∃ (s : ByteArray) (a : Option Addr) (n c : Nat), e = .returned (.tuple #[.agg #[.string s, .slice a n c], .int .i64 (errU x)]) ∧ LIn w' s a n (nameU nm r x) (turnsU x) ∧ Below w.heap.size w w'
theorem lookP_some {ps : List PointL} {r : Str} {ts : List TurnL} (h : roleP ps r = .ok ts) : ts.length ≤ 40 := by
  obtain ⟨ns, h1, _, h3, _⟩ := roleP_spec h
  have := h3.1
  omega
theorem roleU_any (nm : ByteArray) (ra : Option Addr) (rn rc : Nat) (rs : List Str) (a : Option Addr) (n c : Nat) (ps : List PointL) (r : ByteArray) (w : World) (hP : PIn w nm ra rn rs a n ps) :
    Calls Tryz.prog 20 #[.agg #[.string nm, .slice ra rn rc, .slice a n c], .string r] w fun e w' => RoleAns w nm.toList r.toList (roleQ nm.toList rs ps r.toList) e w' :=
  (role_any nm ra rn rc rs a n c ps r w hP).mono fun e w' h => by
    unfold RoleRet at h
    obtain ⟨h1, h2⟩ := h
    cases hx : roleQ nm.toList rs ps r.toList with
    | error er =>
      rw [hx] at h1
      exact ⟨⟨#[]⟩, none, 0, 0, h1, ⟨by rw [ByteArray.toList_eq]; rfl, by simp [maxLen, ByteArray.size], Turns.zero _ _ _⟩, h2⟩
    | ok ts =>
      rw [hx] at h1
      obtain ⟨s, a, n, c, e1, e2, e3, base, _, e5⟩ := h1
      have hl : ts.length ≤ 40 := by
        unfold roleQ at hx
        split at hx
        · exact lookP_some hx
        · cases hx
      obtain ⟨a2, c2, e6, e7⟩ := e5.sees (by omega)
      obtain ⟨f1, f2, f3⟩ := Value.slice.inj e6
      subst f1 f2 f3
      exact ⟨s, a, ts.length, c, e1, ⟨e2, e3, e7⟩, h2⟩
theorem roleQ_in {nm : Str} {rs : List Str} {ps : List PointL} {r : Str} (hp : protB nm rs ps = true) (hr : hasS rs r = true) : roleQ nm rs ps r = roleP ps r := by
  unfold roleQ
  rw [hp, hr]
  rfl
theorem hasS_made {many i : Nat} (h : i < many) : hasS (rolesL many) (rolS i).toList = true := List.contains_iff_mem.2 (List.mem_of_getElem? (rolesL_at h))
theorem GIn.role {w0 W : World} {g many : Nat} {ra : Option Addr} {rc : Nat} {sa : Option Addr} {sn sc : Nat} {ps : List PointL} (h : GIn w0 W g many ra rc sa sn sc ps) (hm : GMade many sn ps) {i : Nat} (hi : i < many) :
    Calls Tryz.prog 20 #[.agg #[.string ⟨#[112]⟩, .slice ra many rc, .slice sa sn sc], .string (rolS i)] W fun e w' => RoleAns W [112] (rolS i).toList (roleP ps (rolS i).toList) e w' := by
  have := roleU_any ⟨#[112]⟩ ra many rc (rolesL many) sa sn sc ps (rolS i) W h.pin
  rw [prot_one, roleQ_in hm.ok (hasS_made hi)] at this
  exact this
end Go.Proofs.YtiofpeckcfdilaaGreatDoor

/- Plain: one label more on a walk; what a role's errors are. No program stands in this text. -/
namespace Go.Proofs.YtiofpeckcfdilaaGreatDoor
open Go.RowKit

theorem turnsP_err {ps : List PointL} {r : Str} : ∀ (fuel i : Nat) (out : List TurnL) (ns : List (List Nat)) (e : Int), turnsP ps r fuel i out ns = .error e → e ≠ 0
  | 0, i, out, ns, e, h => by
    unfold turnsP at h
    cases h
    decide
  | fuel + 1, i, out, ns, e, h => by
    unfold turnsP at h
    cases hn : ns[i]? with
    | none => rw [hn] at h; cases h
    | some near =>
      rw [hn] at h
      dsimp only at h
      cases hk : turnP ps r near ns with
      | error e2 =>
        rw [hk] at h
        cases h
        exact turnP_err hk
      | ok p =>
        obtain ⟨t, ns1⟩ := p
        rw [hk] at h
        exact turnsP_err fuel (i + 1) _ ns1 e h
theorem roleP_err {ps : List PointL} {r : Str} {e : Int} (h : roleP ps r = .error e) : e ≠ 0 := by
  unfold roleP at h
  cases hk : lookP ps r [] [0] with
  | error e2 =>
    rw [hk] at h
    cases h
    rcases lookP_err hk with rfl | rfl <;> decide
  | ok p =>
    obtain ⟨k, ns⟩ := p
    rw [hk] at h
    exact turnsP_err _ _ _ _ _ h
theorem walkT_snoc (ts : List TurnL) (s : Str) : ∀ (w : List Str) (p : Nat), walkT ts p (w ++ [s]) = match walkT ts p w with
    | none => none
    | some q => match findA (Go.Proofs.YtiofpeckcfdilaaGreatDoor.armsOf ts q) s with
      | none => none
      | some a => some a.next.toNat
  | [], p => by
    show (match findA (Go.Proofs.YtiofpeckcfdilaaGreatDoor.armsOf ts p) s with
      | none => none
      | some a => walkT ts a.next.toNat []) = match findA (Go.Proofs.YtiofpeckcfdilaaGreatDoor.armsOf ts p) s with
      | none => none
      | some a => some a.next.toNat
    rfl
  | t :: w, p => by
    rw [List.cons_append, walkT, walkT]
    cases findA (Go.Proofs.YtiofpeckcfdilaaGreatDoor.armsOf ts p) t with
    | none => rfl
    | some a => exact walkT_snoc ts s w _
section
variable {nm : Str} {rs : List Str} {ps : List PointL} (hp : protB nm rs ps = true)
include hp
theorem walkP_lt {w : List Str} {q : Nat} (h : walkP ps w = some q) : q < ps.length := reachP_lt (prot_loc hp) (walkP_in (prot_loc hp) h)
theorem walkP_snoc {w : List Str} {q : Nat} (h : walkP ps w = some q) {a : ArmL} (ha : a ∈ (pointOf ps q).arms) : walkP ps (w ++ [a.label]) = some a.next.toNat := by
  have hnd := (pt_next hp (walkP_lt hp h) ha).2.2
  unfold walkP at h ⊢
  rw [walkT_snoc, h]
  dsimp only
  rw [armsOf_asT, (findA_some hnd).2 ⟨ha, rfl⟩]
end
end Go.Proofs.YtiofpeckcfdilaaGreatDoor

/- Contract of the statements' own: of a walk's labels those that a role says or hears. -/
namespace Go.Proofs.YtiofpeckcfdilaaGreatDoor
open Go.RowKit

/-- Where the last arm of a label leads. -/
def toW (s : Str) (l : List ArmL) : Int := l.foldl (fun t a => if a.label == s then a.next else t) (-1)
theorem toW_more {s : Str} {l : List ArmL} {k : Nat} {x : ArmL} (h : l[k]? = some x) : toW s (l.take (k + 1)) = if x.label == s then x.next else toW s (l.take k) := by
  unfold toW
  rw [tuTake_at h, List.foldl_append]
  rfl
theorem toW_none {s : Str} : ∀ (l : List ArmL) (t : Int), s ∉ l.map ArmL.label → l.foldl (fun t a => if a.label == s then a.next else t) t = t
  | [], _, _ => rfl
  | b :: l, t, h => by
    rw [List.map_cons, List.mem_cons] at h
    rw [List.foldl_cons, if_neg (by rw [beq_iff_eq]; exact fun e => h (.inl e.symm)), toW_none l t (fun k => h (.inr k))]
theorem toW_find {s : Str} {a : ArmL} : ∀ (l : List ArmL) (t : Int), (l.map ArmL.label).Nodup → findA l s = some a → l.foldl (fun t a => if a.label == s then a.next else t) t = a.next
  | [], _, _, h => by cases h
  | b :: l, t, hn, h => by
    rw [List.map_cons, List.nodup_cons] at hn
    unfold findA at h
    rw [List.find?_cons] at h
    rw [List.foldl_cons]
    cases hb : b.label == s with
    | true =>
      rw [hb] at h
      obtain rfl := Option.some.inj h
      rw [if_pos rfl]
      refine toW_none l _ ?_
      rw [← beq_iff_eq.1 hb]
      exact hn.1
    | false =>
      rw [hb] at h
      rw [if_neg (by simp)]
      exact toW_find l t hn.2 h
theorem ownP_cons {ps : List PointL} {r : Str} {k : Nat} {s : Str} {w L : List Str} (h : ownP ps r k (s :: w) = some L) : ∃ a L3, findA (pointOf ps k).arms s = some a ∧ ownP ps r a.next.toNat w = some L3 ∧ L = if inP (pointOf ps k) r then s :: L3 else L3 := by
  rw [ownP] at h
  cases hf : findA (pointOf ps k).arms s with
  | none => rw [hf] at h; cases h
  | some a =>
    rw [hf] at h
    dsimp only at h
    obtain ⟨L3, h1, h2⟩ := Option.map_eq_some_iff.1 h
    exact ⟨a, L3, rfl, h1, h2.symm⟩
theorem ownP_few {ps : List PointL} {r : Str} : ∀ (w : List Str) (k : Nat) (L : List Str), ownP ps r k w = some L → L.length ≤ w.length ∧ ∀ s ∈ L, s ∈ w
  | [], k, L, h => by
    rw [ownP] at h
    obtain rfl := Option.some.inj h
    exact ⟨Nat.le_refl _, fun s hs => hs⟩
  | s :: w, k, L, h => by
    obtain ⟨a, L3, _, h2, h3⟩ := ownP_cons h
    obtain ⟨h4, h5⟩ := ownP_few w _ L3 h2
    split at h3
    · subst h3
      exact ⟨by simp; omega, fun t ht => by
        rcases List.mem_cons.1 ht with rfl | ht
        · simp
        · simp [h5 t ht]⟩
    · subst h3
      exact ⟨by simp; omega, fun t ht => by simp [h5 t ht]⟩
def OwnRet (w : World) (L : List Str) (e : Ending) (w' : World) : Prop := ∃ v, e = .returned (.tuple #[v, .bool true]) ∧ w'.ownsRow w.heap.size 9 1 v L.length (L.map encStr) ∧ Below w.heap.size w w'
end Go.Proofs.YtiofpeckcfdilaaGreatDoor

/- Rows of local types: what such a slice reads as, and append to one. -/
namespace Go.Proofs.YtiofpeckcfdilaaGreatDoor
open Go.RowKit

/-- The turns are read in the window of blocks from lo to hi alone. -/
def WTurns (w : World) (lo hi : Nat) (a : Option Addr) (n : Nat) (ts : List TurnL) : Prop := ∀ w' : World, (∀ b, lo ≤ b → b < hi → w'.heap[b]? = w.heap[b]?) → Turns w' hi a n ts
theorem WTurns.self {w : World} {lo hi : Nat} {a : Option Addr} {n : Nat} {ts : List TurnL} (h : WTurns w lo hi a n ts) : Turns w hi a n ts := h w (fun _ _ _ => rfl)
theorem WTurns.stay {w w' : World} {lo hi : Nat} {a : Option Addr} {n : Nat} {ts : List TurnL} (h : WTurns w lo hi a n ts) (hk : ∀ b, lo ≤ b → b < hi → w'.heap[b]? = w.heap[b]?) : WTurns w' lo hi a n ts := fun w2 h2 => h w2 (fun b h3 h4 => (h2 b h3 h4).trans (hk b h3 h4))
theorem WTurns.zero (w : World) (lo hi : Nat) (a : Option Addr) : WTurns w lo hi a 0 [] := fun _ _ => Turns.zero _ _ _
theorem TOwn.win {w : World} {base : Nat} {a : Option Addr} {n c : Nat} {f : List TurnL} (h : TOwn w base (.slice a n c) f) (hl : f.length ≤ 1000000) : WTurns w base w.heap.size a n f := fun w' hk => by
  obtain ⟨a2, c2, hv, ht⟩ := h.sees hl
  obtain ⟨q1, q2, _⟩ := Value.slice.inj hv
  subst q1 q2
  obtain ⟨rs, h, hrl, hrd⟩ := h
  have hlt := h.lt
  rcases h.2 with ⟨h0, h1⟩ | ⟨g, cap, cur, hv, hbase, hh, h1, h2, h3, h4⟩
  · have hz : f = [] := List.eq_nil_of_length_eq_zero h1
    subst hz
    exact Turns.zero _ _ _
  · obtain ⟨q1, _, _⟩ := Value.slice.inj hv
    subst q1
    have hg := (hlt g rfl)
    refine ⟨rfl, by omega, fun _ => ⟨g, 0, rfl, hg.2, fun j t hj => ?_⟩⟩
    have hj' : j < f.length := (List.getElem?_eq_some_iff.1 hj).1
    have hr := List.getElem?_eq_getElem (l := rs) (i := j) (by omega)
    obtain ⟨e1, e2, e3, e4, e5⟩ := hrd j _ t hr hj
    have hcell : ∀ i, i < 3 → w'.cell? ⟨g, 0 + (j * 3 + i), none⟩ = (encTR (rs[j]'(by omega)))[i]? := fun i hi => by
      rw [World.cell?_of_block (hk g hg.1 hg.2), cell_of_row w g _ cur 51 (0, 0) hh, Nat.zero_add, ← flatT_at rs j _ hr i hi]
      have : (cur.toList.take (f.length * 3))[j * 3 + i]? = (rs.flatMap encTR)[j * 3 + i]? := by rw [h4]
      rw [List.getElem?_take, if_pos (by omega)] at this
      rw [← Array.getElem?_toList, this]
    have c0 := hcell 0 (by omega)
    have c1 := hcell 1 (by omega)
    have c2 := hcell 2 (by omega)
    exact ⟨(rs[j]'(by omega)).s, (rs[j]'(by omega)).a, (rs[j]'(by omega)).n, (rs[j]'(by omega)).c, ⟨c0.trans (by rw [← e1]; rfl), c1, c2⟩, e2, e3, e4.stay (Nat.le_refl _) (fun b off e => hk b (e5 b off e).1 (e5 b off e).2.1)⟩
/-- A local type: its name, its turns. -/
abbrev LocL := Str × List TurnL
/-- The slice with this address and length reads as these local types. -/
def Locs (w : World) (bound : Nat) (a : Option Addr) (n : Nat) (f : List LocL) : Prop :=
  f.length = n ∧ n ≤ 1000000 ∧ (0 < n → ∃ b off, a = some ⟨b, off, none⟩ ∧ b < bound ∧ ∀ (j : Nat) (l : LocL), f[j]? = some l → ∃ (s : ByteArray) (aa : Option Addr) (an ac : Nat), (w.cell? ⟨b, off + j * 2, none⟩ = some (.string s) ∧ w.cell? ⟨b, off + j * 2 + 1, none⟩ = some (.slice aa an ac)) ∧ s.toList = l.1 ∧ s.size ≤ maxLen ∧ Turns w bound aa an l.2)
section
variable {w w' : World} {bound bound' : Nat} {a : Option Addr} {n : Nat} {f : List LocL}
theorem Locs.below (h : Locs w bound a n f) (hb : Below bound w w') : Locs w' bound a n f :=
  ⟨h.1, h.2.1, fun hn => by
    obtain ⟨b, off, e, hlt, hc⟩ := h.2.2 hn
    refine ⟨b, off, e, hlt, fun j x hj => ?_⟩
    obtain ⟨s, aa, an, ac, ⟨c0, c1⟩, h1, h2, h3⟩ := hc j x hj
    exact ⟨s, aa, an, ac, ⟨(hb.cell (p := ⟨b, _, none⟩) hlt).trans c0, (hb.cell (p := ⟨b, _, none⟩) hlt).trans c1⟩, h1, h2, h3.below hb⟩⟩
theorem Locs.more (h : Locs w bound a n f) (hb : bound ≤ bound') : Locs w bound' a n f :=
  ⟨h.1, h.2.1, fun hn => by
    obtain ⟨b, off, e, hlt, hc⟩ := h.2.2 hn
    refine ⟨b, off, e, by omega, fun j x hj => ?_⟩
    obtain ⟨s, aa, an, ac, c, h1, h2, h3⟩ := hc j x hj
    exact ⟨s, aa, an, ac, c, h1, h2, h3.more hb⟩⟩
theorem Locs.zero (w : World) (bound : Nat) (a : Option Addr) : Locs w bound a 0 [] := ⟨rfl, by omega, fun h => absurd h (Nat.lt_irrefl 0)⟩
theorem Locs.on {W W' : World} {a : Option Addr} {n : Nat} {f : List LocL} (h : Locs W W.heap.size a n f) (hb : Below W.heap.size W W') : Locs W' W'.heap.size a n f := (h.below hb).more hb.size
theorem Locs.at_ (h : Locs w bound a n f) {k : Nat} (hk : k < n) : ∃ (b off : Nat) (s : ByteArray) (aa : Option Addr) (an ac : Nat) (ts : List TurnL), a = some ⟨b, off, none⟩ ∧ b < bound ∧ f[k]? = some (s.toList, ts) ∧ (w.cell? ⟨b, off + k * 2, none⟩ = some (.string s) ∧ w.cell? ⟨b, off + k * 2 + 1, none⟩ = some (.slice aa an ac)) ∧ s.size ≤ maxLen ∧ Turns w bound aa an ts := by
  obtain ⟨b, off, e, hb, hc⟩ := h.2.2 (by omega)
  have hk' : k < f.length := by rw [h.1]; exact hk
  obtain ⟨s, aa, an, ac, c, h1, h2, h3⟩ := hc k _ (List.getElem?_eq_getElem hk')
  exact ⟨b, off, s, aa, an, ac, f[k].2, e, hb, by rw [List.getElem?_eq_getElem hk', h1], c, h2, h3⟩
end
structure LR where
  s : ByteArray
  a : Option Addr
  n : Nat
  c : Nat
def encLR (r : LR) : List Value := [.string r.s, .slice r.a r.n r.c]
/-- A laid local type: its turns lie in a window that the array v does not meet. -/
def LocAt (w : World) (v : Value) (r : LR) (t : LocL) : Prop :=
  r.s.toList = t.1 ∧ r.s.size ≤ maxLen ∧ ∃ lo hi, hi ≤ w.heap.size ∧ (∀ b, v.ownBlock = some b → b < lo ∨ hi ≤ b) ∧ WTurns w lo hi r.a r.n t.2
def LOwn (w : World) (base : Nat) (v : Value) (f : List LocL) : Prop :=
  ∃ rs : List LR, w.ownsRow base 24 2 v f.length (rs.flatMap encLR) ∧ rs.length = f.length ∧ ∀ (j : Nat) (r : LR) (t : LocL), rs[j]? = some r → f[j]? = some t → LocAt w v r t
theorem LOwn.zero (w : World) (base : Nat) : LOwn w base (.slice none 0 0) [] := ⟨[], World.ownsRow_nil w base 24 2, rfl, fun j r l h => by simp at h⟩
theorem LOwn.kept {w w' : World} {base : Nat} {v : Value} {f : List LocL} (h : LOwn w base v f) (hb : Below w.heap.size w w') : LOwn w' base v f := by
  obtain ⟨rs, h, hrl, hrd⟩ := h
  have hlt := h.lt
  have hs := hb.size
  refine ⟨rs, ⟨h.1, ?_⟩, hrl, fun j r t hr ht => ?_⟩
  · rcases h.2 with h0 | ⟨k, cap, cur, rfl, hbase, hh, h1, h2, h3, h4⟩
    · exact .inl h0
    · refine .inr ⟨k, cap, cur, rfl, hbase, ?_, h1, h2, h3, h4⟩
      rw [hb.block k (hlt k rfl).2]
      exact hh
  · obtain ⟨e1, e2, lo, hi, e3, e4, e5⟩ := hrd j r t hr ht
    exact ⟨e1, e2, lo, hi, by omega, e4, e5.stay (fun b _ h2 => hb.block b (by omega))⟩
theorem flatL_at : ∀ (l : List LR) (j : Nat) (t : LR), l[j]? = some t → ∀ i, i < 2 → (l.flatMap encLR)[j * 2 + i]? = (encLR t)[i]? := by
  intro l
  induction l with
  | nil => intro j t h; cases h
  | cons x l ih =>
    intro j t h i hi
    rw [List.flatMap_cons]
    cases j with
    | zero =>
      injection h with h
      subst h
      rw [Nat.zero_mul, Nat.zero_add, List.getElem?_append_left hi]
    | succ j =>
      have e : (j + 1) * 2 + i = 2 + (j * 2 + i) := by omega
      rw [e, List.getElem?_append_right (by show 2 ≤ _; omega)]
      show (l.flatMap encLR)[2 + (j * 2 + i) - 2]? = _
      rw [Nat.add_sub_cancel_left]
      exact ih j t h i hi
theorem info_local : (Tryz.prog.info? 24).map (fun i => (i.zero, i.size, i.bytes)) = some (some (.agg #[.string ⟨#[]⟩, .slice none 0 0]), 2, 40) := by kernel_rfl
theorem LOwn.add {W : World} {base : Nat} {v : Value} {f : List LocL} {r : LR} {t : LocL} (hB : LOwn W base v f) (hA : LocAt W v r t) (hb : base ≤ W.heap.size) (hlen : f.length ≤ 1000000) (ty : Nat) :
    ∃ v' w', (Builtin.append_ #[55, 55] ty #[v, .slice (some ⟨W.heap.size, 0, none⟩) 1 1]).run Tryz.prog (W.alloc (.cells #[.string r.s, .slice r.a r.n r.c] 24)) = .ok v' w' ∧ LOwn w' base v' (f ++ [t]) ∧ ∀ w0, Below base w0 W → Below base w0 w' := by
  obtain ⟨i0, hi0, hzz⟩ := Option.map_eq_some_iff.1 info_local
  simp only [Prod.mk.injEq] at hzz
  obtain ⟨hz, hs1, hb1⟩ := hzz
  obtain ⟨rs, hown, hrl, hrd⟩ := hB
  have hown1 : (W.alloc (.cells #[.string r.s, .slice r.a r.n r.c] 24)).ownsRow base 24 2 v f.length (rs.flatMap encLR) := World.ownsRow.alloc hown _
  obtain ⟨v', w', hrun, hown', hgr, _, hat⟩ := run_append_own_at (P := Tryz.prog) (W.alloc (.cells #[.string r.s, .slice r.a r.n r.c] 24)) base 55 ty 24 i0 _ 2 40 Tryz.underlying55 hi0 hz hs1 hb1 rfl (by omega) v f.length (rs.flatMap encLR) hown1
    ⟨W.heap.size, 0, none⟩ 1 1 (encLR r) rfl
    (fun j u hu => by
      rw [Go.WideShapes.add_plain, cell_of_row _ _ _ _ _ _ (heap_alloc_new W _), Nat.zero_add, ← hu]
      rw [← Array.getElem?_toList]
      rfl)
    (fun u hu => by
      unfold encLR at hu
      simp only [List.mem_cons, List.not_mem_nil, or_false] at hu
      rcases hu with rfl | rfl <;> rfl) (by unfold maxLen; omega) (by omega) (by simp; omega)
  have hbel : ∀ B, B ≤ base → ∀ w0, Below B w0 W → Below B w0 w' := fun B hB w0 hw0 => (hw0.alloc (by omega) _).grown hgr (by simp; omega) (fun k hk => by
    have := hown1.lt k hk
    omega)
  have hsz : W.heap.size + 1 ≤ w'.heap.size := by
    have := hgr.size
    simpa using this
  have hblk : ∀ b, b < W.heap.size → v.ownBlock ≠ some b → w'.heap[b]? = W.heap[b]? := fun b hbl hne => (hgr.block b (by simp; omega) (fun e => hne e.symm)).trans ((tu1 W _).block b hbl)
  have hmove : ∀ (r : LR) (t : LocL), LocAt W v r t → LocAt w' v' r t := fun r t ⟨e1, e2, lo, hi, e3, e4, e5⟩ =>
    ⟨e1, e2, lo, hi, by omega, fun b hb2 => by
      rcases hat with e | e
      · rw [e] at hb2; exact e4 b hb2
      · rw [e] at hb2
        have := Option.some.inj hb2
        simp at this
        omega, e5.stay (fun b h1 h2 => hblk b (by omega) (fun e => by have := e4 b e; omega))⟩
  refine ⟨v', w', hrun, ⟨rs ++ [r], ?_, by simp [hrl], fun j r2 k hj hk => ?_⟩, fun w0 hw0 => hbel base (Nat.le_refl _) w0 hw0⟩
  · rw [List.length_append, List.flatMap_append, List.flatMap_cons, List.flatMap_nil, List.append_nil]
    exact hown'
  · rcases Nat.lt_or_ge j rs.length with hlt | hge
    · rw [List.getElem?_append_left hlt] at hj
      rw [List.getElem?_append_left (by omega)] at hk
      exact hmove _ _ (hrd j r2 k hj hk)
    · rw [List.getElem?_append_right hge] at hj
      rw [List.getElem?_append_right (by omega), ← hrl] at hk
      have h0 : j - rs.length = 0 := by
        obtain ⟨h1, _⟩ := List.getElem?_eq_some_iff.1 hj
        simpa using h1
      rw [h0] at hj hk
      obtain rfl : r = r2 := by simpa using hj
      obtain rfl : t = k := by simpa using hk
      exact hmove _ _ hA
theorem wpList_append_loc {ops : Array Oper} {rest : List Oper} {o : Oper} {a : Act} {Q : Exit → Act → World → Prop} {W : World} {cells : Array Value} (hgd : o.guard = none) (s x : Operand)
    (ho : o.op = .call { callee := .builtin .append, args := #[s, x], argTypes := #[55, 55] }) (base : Nat) (v : Value) (f : List LocL) (r : LR) (t : LocL) (hc : cells = #[.string r.s, .slice r.a r.n r.c])
    (hs : a.eval s = v) {g : Nat} (hx : a.eval x = .slice (some ⟨g, 0, none⟩) 1 1) (hg : g = W.heap.size) (hB : LOwn W base v f) (hA : LocAt W v r t) (hb : base ≤ W.heap.size) (hlen : f.length ≤ 1000000)
    (w0 : World) (hw : Below base w0 W)
    (h : ∀ v' w', LOwn w' base v' (f ++ [t]) → Below base w0 w' → wpList Tryz.prog ops Q rest (a.put o.dst v') w') : wpList Tryz.prog ops Q (o :: rest) a (W.alloc (.cells cells 24)) := by
  subst hc hg
  obtain ⟨v', w', hrun, hown, hbel⟩ := hB.add hA hb hlen o.type
  exact wpList_append_lx hgd s x _ ho _ _ _ hs hx hrun (h v' w' hown (hbel w0 hw))
theorem LOwn.sees {w : World} {base : Nat} {v : Value} {f : List LocL} (h : LOwn w base v f) (hl : f.length ≤ 1000000) : ∃ a c, v = .slice a f.length c ∧ Locs w w.heap.size a f.length f := by
  obtain ⟨rs, h, hrl, hrd⟩ := h
  have hlt := h.lt
  rcases h.2 with ⟨h0, h1⟩ | ⟨g, cap, cur, rfl, hbase, hh, h1, h2, h3, h4⟩
  · have hz : f = [] := List.eq_nil_of_length_eq_zero h1
    subst hz
    exact ⟨none, 0, h0, Locs.zero _ _ _⟩
  · refine ⟨_, cap, rfl, rfl, by omega, fun _ => ⟨g, 0, rfl, (hlt g rfl).2, fun j t hj => ?_⟩⟩
    have hj' : j < f.length := (List.getElem?_eq_some_iff.1 hj).1
    have hr := List.getElem?_eq_getElem (l := rs) (i := j) (by omega)
    obtain ⟨e1, e2, lo, hi, e3, _, e5⟩ := hrd j _ t hr hj
    have hcell : ∀ i, i < 2 → w.cell? ⟨g, 0 + (j * 2 + i), none⟩ = (encLR (rs[j]'(by omega)))[i]? := fun i hi => by
      rw [cell_of_row w g _ cur 24 (0, 0) hh, Nat.zero_add, ← flatL_at rs j _ hr i hi]
      have : (cur.toList.take (f.length * 2))[j * 2 + i]? = (rs.flatMap encLR)[j * 2 + i]? := by rw [h4]
      rw [List.getElem?_take, if_pos (by omega)] at this
      rw [← Array.getElem?_toList, this]
    have c0 := hcell 0 (by omega)
    have c1 := hcell 1 (by omega)
    exact ⟨(rs[j]'(by omega)).s, (rs[j]'(by omega)).a, (rs[j]'(by omega)).n, (rs[j]'(by omega)).c, ⟨c0, c1⟩, e1, e2, e5.self.more e3⟩
end Go.Proofs.YtiofpeckcfdilaaGreatDoor

/- Contract of the program's All: the projections to all roles, or the first error. -/
namespace Go.Proofs.YtiofpeckcfdilaaGreatDoor
open Go.RowKit

/-- The projections to the roles from the i-th on, behind those that are there. -/
def allF (nm : Str) (ps : List PointL) : List Str → Nat → List LocL → List LocL × Int × Int
  | [], _, out => (out, 0, 0)
  | r :: rs, i, out => match roleP ps r with
    | .error e => ([], (i : Int), e)
    | .ok ts => allF nm ps rs (i + 1) (out ++ [(nm ++ 46 :: r, ts)])
def allQ (nm : Str) (rs : List Str) (ps : List PointL) : List LocL × Int × Int := if protB nm rs ps then allF nm ps rs 0 [] else ([], 0, 800)
def AllRet (w : World) (R : List LocL × Int × Int) (e : Ending) (w' : World) : Prop :=
  (∃ (a : Option Addr) (n c : Nat), e = .returned (.tuple #[.slice a n c, .int .i64 R.2.1, .int .i64 R.2.2]) ∧ Locs w' w'.heap.size a n R.1) ∧ Below w.heap.size w w'
theorem allF_ok {nm : Str} {ps : List PointL} : ∀ (rs : List Str) (i : Nat) (out : List LocL) (L : List LocL), allF nm ps rs i out = (L, 0, 0) → (∀ r ∈ rs, ∀ e, roleP ps r = .error e → e ≠ 0) → L.length = out.length + rs.length
  | [], _, out, L, h, _ => by
    obtain rfl := (Prod.mk.inj h).1
    simp
  | r :: rs, i, out, L, h, he => by
    unfold allF at h
    cases hx : roleP ps r with
    | error e =>
      rw [hx] at h
      exact absurd (Prod.mk.inj (Prod.mk.inj h).2).2 (he r List.mem_cons_self e hx)
    | ok ts =>
      rw [hx] at h
      have := allF_ok rs (i + 1) _ L h (fun r hr => he r (List.mem_cons_of_mem _ hr))
      simp only [List.length_append, List.length_cons, List.length_nil] at this ⊢
      omega
theorem allF_at {nm : Str} {ps : List PointL} {rs : List Str} {k : Nat} {r : Str} {f : List LocL} (h : rs[k]? = some r) : allF nm ps (rs.drop k) k f = match roleP ps r with
    | .error e => ([], (k : Int), e)
    | .ok ts => allF nm ps (rs.drop (k + 1)) (k + 1) (f ++ [(nm ++ 46 :: r, ts)]) := by
  obtain ⟨hk, hr⟩ := List.getElem?_eq_some_iff.1 h
  rw [List.drop_eq_getElem_cons hk, hr]
  rfl
theorem LOwn.lt {w : World} {base : Nat} {v : Value} {f : List LocL} (h : LOwn w base v f) : ∀ b, v.ownBlock = some b → base ≤ b ∧ b < w.heap.size := by
  obtain ⟨rs, h, _, _⟩ := h
  exact h.lt
set_option maxHeartbeats 8000000 in
set_option maxRecDepth 20000 in
theorem all_any (nm : ByteArray) (ra : Option Addr) (rn rc : Nat) (rs : List Str) (a : Option Addr) (n c : Nat) (ps : List PointL) (w : World) (hP : PIn w nm ra rn rs a n ps) :
    Calls Tryz.prog 23 #[.agg #[.string nm, .slice ra rn rc, .slice a n c]] w fun e w' => AllRet w (allQ nm.toList rs ps) e w' := by
  have HIN := Lib.hid hP
  have HB0 := Lib.hid (tu1 w (.cells #[.string nm, .slice ra rn rc, .slice a n c] 37))
  have HBX := Lib.hid (PBox.new w nm ra rn rc a n c)
  obtain ⟨w1, hw1⟩ : ∃ w1, w1 = w.alloc (.cells #[.string nm, .slice ra rn rc, .slice a n c] 37) := ⟨_, rfl⟩
  rw [← hw1] at HB0 HBX
  have HW1 := Lib.hid hw1
  obtain ⟨S, hS⟩ : ∃ S, S = w.heap.size := ⟨_, rfl⟩
  have HS := Lib.hid hS
  rw [← hS] at HBX
  have CM := Lib.hid ((hP.on HB0.out).may (rc := rc) (c := c))
  obtain ⟨R, hR⟩ : ∃ R, R = allQ nm.toList rs ps := ⟨_, rfl⟩
  rw [← hR]
  unfold allQ at hR
  have HR := Lib.hid hR
  clear hP hR hw1 hS
  obtain ⟨c0, c1, c2⟩ := HBX.out.cells
  cases hv : protB nm.toList rs ps
  · have HZ := Lib.hid (show R = ([], 0, 800) by rw [HR.out, hv]; rfl)
    rw [hv] at CM
    clear hv
    go_enter Tryz.func23, Tryz.ntmps23
    go_upto_region 1 with fail
    rw [← HW1.out, ← HS.out]
    go_wp2_with (first
      | (go_at_call 19; (with_reducible refine CM.out.mono ?_)
         rintro e w2 ⟨rfl, hb2⟩
         have HB2 := Lib.hid hb2
         clear hb2)
      | fail)
    refine bodyPost_ret (v := .tuple #[.slice none 0 0, .int .i64 0, .int .i64 800]) (by simp [results, go_sem]) rfl ?_
    rw [HZ.out]
    exact ⟨⟨none, 0, 0, rfl, Locs.zero _ _ _⟩, below_on HB0.out HB2.out⟩
  · rw [hv] at CM
    have HVV := Lib.hid hv
    have HRR := Lib.hid (show R = allF nm.toList ps rs 0 [] by rw [HR.out, hv]; rfl)
    have hr5 : rn ≤ 5 := by
      have h1 := (protB_all hv).2.1
      unfold rolesB at h1
      simp only [Bool.and_eq_true, decide_eq_true_eq] at h1
      have := HIN.out.roles.1
      omega
    clear hv HR
    go_enter Tryz.func23, Tryz.ntmps23
    go_upto_region 1 with fail
    rw [← HW1.out, ← HS.out]
    go_upto_region 4 with (first
      | (go_at_call 19; (with_reducible refine CM.out.mono ?_)
         rintro e w2 ⟨rfl, hb2⟩
         have HB2 := Lib.hid hb2
         clear hb2)
      | fail)
    have HBW := Lib.hid (below_on HB0.out HB2.out)
    have HX2 := Lib.hid (HBX.out.on HB2.out)
    have HI2 := Lib.hid (HIN.out.on HBW.out)
    obtain ⟨S2, hS2⟩ : ∃ S2, S2 = w2.heap.size := ⟨_, rfl⟩
    have HS2 := Lib.hid hS2
    clear c0 c1 c2 CM HBX HB2 hS2
    obtain ⟨c0, c1, c2⟩ := HX2.out.cells
    go_wp2_with fail
    go_loopw [5, 16] (fun sl i wr => ∃ (k : Nat) (v : Value) (f : List LocL), k ≤ rn ∧ i = .int .i64 k ∧ v = sl ∧ f.length = k ∧ Hid (LOwn wr S2 v f) ∧ Hid (R = allF nm.toList ps (rs.drop k) k f) ∧ Hid (Below w2.heap.size w2 wr)) (fun _ i _ => rn - (intOf i).toNat)
    case atStart => exact ⟨0, _, [], Nat.zero_le _, rfl, rfl, rfl, Lib.hid (LOwn.zero _ _), HRR, Lib.hid (Below.refl _ _)⟩
    case round =>
      obtain ⟨k, v, f, hk, rfl, hvs, hf, HO, HJ, HBr⟩ := hrel
      subst hvs
      obtain ⟨d0, d1, d2⟩ := (HX2.out.on HBr.out).cells
      have HBWr := Lib.hid (below_on HBW.out HBr.out)
      by_cases hlt : k < rn
      · obtain ⟨rb, ro, t, rfl, hrb, ht, hc⟩ := (HI2.out.on HBr.out).roles.part1 hlt
        have i1 : (k : Int) < (rn : Int) := by omega
        have i2 : (0 : Int) ≤ (k : Int) := by omega
        have CR := role_any nm (some ⟨rb, ro, none⟩) rn rc rs a n c ps t wr (HI2.out.on HBr.out)
        rw [roleQ_in HVV.out (List.contains_iff_mem.2 (List.mem_of_getElem? ht))] at CR
        have hst := HJ.out
        rw [allF_at ht] at hst
        clear ht
        cases hx : roleP ps t.toList with
        | error er =>
          rw [hx] at CR hst
          have HZ := Lib.hid (show R = ([], (k : Int), er) from hst)
          have CR := Lib.hid (show Calls Tryz.prog 20 #[.agg #[.string nm, .slice (some ⟨rb, ro, none⟩) rn rc, .slice a n c], .string t] wr fun e w' => e = .returned (.tuple #[.agg #[.string ⟨#[]⟩, .slice none 0 0], .int .i64 er]) ∧ Below wr.heap.size wr w' from CR)
          have her : (er != 0) = true := by simp [bne, beq_eq_false_iff_ne.2 (roleP_err hx)]
          clear hst hx
          go_wp2_with (first
            | (go_at_call 20; (with_reducible refine CR.out.mono ?_)
               rintro e w3 ⟨rfl, hb3⟩
               have HB3 := Lib.hid (below_on HBWr.out hb3)
               clear hb3)
            | fail)
          refine bodyPost_ret (v := .tuple #[.slice none 0 0, .int .i64 (k : Int), .int .i64 er]) (by simp [results, go_sem]) rfl ?_
          rw [HZ.out]
          exact ⟨⟨none, 0, 0, rfl, Locs.zero _ _ _⟩, below_on HB3.out (tu1 w3 _)⟩
        | ok ts =>
          rw [hx] at CR hst
          have HZ := Lib.hid (show R = allF nm.toList ps (rs.drop (k + 1)) (k + 1) (f ++ [(nm.toList ++ 46 :: t.toList, ts)]) from hst)
          have CR := Lib.hid (show Calls Tryz.prog 20 #[.agg #[.string nm, .slice (some ⟨rb, ro, none⟩) rn rc, .slice a n c], .string t] wr fun e w' => (∃ (s : ByteArray) (a : Option Addr) (n c : Nat), e = .returned (.tuple #[.agg #[.string s, .slice a n c], .int .i64 0]) ∧ s.toList = nm.toList ++ 46 :: t.toList ∧ s.size ≤ maxLen ∧ ∃ base, wr.heap.size ≤ base ∧ TOwn w' base (.slice a n c) ts) ∧ Below wr.heap.size wr w' from CR)
          have hl := lookP_some hx
          clear hst hx
          go_upto_region 8 with (first
            | (go_at_call 20; (with_reducible refine CR.out.mono ?_)
               rintro e w3 ⟨⟨s1, a1, n1, c1, rfl, hs1, hs2, base, hbase, hto⟩, hb3⟩
               have HB3 := Lib.hid hb3
               have HS1 := Lib.hid hs1
               have HT3 := Lib.hid (hto.win (by omega))
               clear hs1 hto hb3)
            | fail)
          have hb4 := below_on HB3.out (tu1 w3 (.cells #[.string s1, .slice a1 n1 c1] 24))
          have HO4 := Lib.hid (HO.out.kept hb4)
          have HX4 := Lib.hid (LBox.new w3 s1 a1 n1 c1)
          have hz3 := HB3.out.size
          have hzr := HBr.out.size
          have HB4 := Lib.hid (below_on HBr.out hb4)
          have HA4 := Lib.hid (show LocAt (w3.alloc (.cells #[.string s1, .slice a1 n1 c1] 24)) v ⟨s1, a1, n1, c1⟩ (nm.toList ++ 46 :: t.toList, ts) from ⟨HS1.out, hs2, base, w3.heap.size, by simp, fun b hb => .inl (by have := HO.out.lt b hb; omega), HT3.out.stay (fun b _ h2 => (tu1 w3 _).block b h2)⟩)
          have hz4 : S2 ≤ (w3.alloc (.cells #[.string s1, .slice a1 n1 c1] 24)).heap.size := by have := HS2.out; simp; omega
          generalize hg4 : w3.heap.size = g4 at HX4 ⊢
          generalize hw4 : w3.alloc (.cells #[.string s1, .slice a1 n1 c1] 24) = w4 at HO4 HX4 HB4 HA4 hz4 ⊢
          clear hb4 hg4 hw4 HB3 HT3 d0 d1 d2
          obtain ⟨x0, x1⟩ := HX4.out.cells
          go_wp2_with (first
            | (at_builtin
               refine wpList_append_loc rfl (.tmp 31) (.tmp 33) rfl S2 v f ⟨s1, a1, n1, c1⟩ (nm.toList ++ 46 :: t.toList, ts) rfl rfl rfl rfl HO4.out HA4.out hz4 (by omega) w2 (HS2.out ▸ HB4.out) ?_
               intro v5 w5 ho5 hb5
               have HO5 := Lib.hid ho5
               have HB5 := Lib.hid (show Below w2.heap.size w2 w5 from HS2.out ▸ hb5)
               clear ho5 hb5)
            | fail)
          go_roundw
          case rel => exact ⟨k + 1, _, _, by omega, by go_num, rfl, by simp; omega, HO5, HZ, HB5⟩
          case measure => simp [intOf]; omega
      · have hkr : k = rn := by omega
        have HZ := Lib.hid (show R = (f, 0, 0) by rw [HJ.out, List.drop_of_length_le (by rw [HI2.out.roles.1]; omega)]; rfl)
        obtain ⟨va, vc, hva, hlo⟩ := HO.out.sees (by omega)
        subst hva
        have HL := Lib.hid hlo
        clear hlo
        go_wp2_with fail
        refine bodyPost_ret (v := .tuple #[.slice va f.length vc, .int .i64 0, .int .i64 0]) (by simp [results, go_sem]) rfl ?_
        rw [HZ.out]
        exact ⟨⟨va, _, vc, rfl, HL.out⟩, HBWr.out⟩
end Go.Proofs.YtiofpeckcfdilaaGreatDoor

/- Plain: the projections to two roles have the same arms, and face each other. No program stands in this text. -/
namespace Go.Proofs.YtiofpeckcfdilaaGreatDoor
open Go.RowKit

/-- One turn faces another: the same arms; one sends where the other receives. -/
def Faces (t u : TurnL) : Prop := u.arms = t.arms ∧ (t.kind = 0 ↔ u.kind = 0) ∧ (t.kind ≠ 0 → t.kind ≠ u.kind)
def AllFaces (ts us : List TurnL) : Prop := us.length = ts.length ∧ ∀ (j : Nat) (t : TurnL), ts[j]? = some t → ∃ u, us[j]? = some u ∧ Faces t u
theorem AllFaces.snoc {ts us : List TurnL} {t u : TurnL} (h : AllFaces ts us) (hf : Faces t u) : AllFaces (ts ++ [t]) (us ++ [u]) := by
  refine ⟨by simp [h.1], fun j x hj => ?_⟩
  rcases Nat.lt_or_ge j ts.length with hlt | hge
  · rw [List.getElem?_append_left hlt] at hj
    rw [List.getElem?_append_left (by rw [h.1]; exact hlt)]
    exact h.2 j x hj
  · rw [List.getElem?_append_right hge] at hj
    rw [List.getElem?_append_right (by rw [h.1]; exact hge), h.1]
    have h0 : j - ts.length = 0 := by
      obtain ⟨h1, _⟩ := List.getElem?_eq_some_iff.1 hj
      simpa using h1
    rw [h0] at hj ⊢
    obtain rfl : t = x := by simpa using hj
    exact ⟨u, rfl, hf⟩
theorem faces_arms {ts us : List TurnL} (h : AllFaces ts us) (p : Nat) : Go.Proofs.YtiofpeckcfdilaaGreatDoor.armsOf us p = Go.Proofs.YtiofpeckcfdilaaGreatDoor.armsOf ts p := by
  unfold Go.Proofs.YtiofpeckcfdilaaGreatDoor.armsOf
  cases ht : ts[p]? with
  | none =>
    rw [List.getElem?_eq_none (by rw [h.1]; exact List.getElem?_eq_none_iff.1 ht)]
  | some t =>
    obtain ⟨u, hu, hf⟩ := h.2 p t ht
    rw [hu]
    exact hf.1
theorem faces_walk {ts us : List TurnL} (h : AllFaces ts us) : ∀ (way : List Str) (p : Nat), walkT us p way = walkT ts p way
  | [], _ => rfl
  | s :: w, p => by
    rw [walkT, walkT, faces_arms h]
    cases findA (Go.Proofs.YtiofpeckcfdilaaGreatDoor.armsOf ts p) s with
    | none => rfl
    | some a => exact faces_walk h w _
section
variable {nm : Str} {rs : List Str} {ps : List PointL} {r q : Str} (hp : protB nm rs ps = true) (hr : hasS rs r = true) (hq : hasS rs q = true) (h2 : Two8 ps r) (h3 : Two8 ps q)
include hp h2 h3 hr hq
omit hq h2 in
theorem duo_both {k : Nat} (hk : k < ps.length) (hi : inP (pointOf ps k) r = true) : inP (pointOf ps k) q = true := by
  rcases h3 k with h | h
  · have hl0 := (armsB_all (pt_role hp hr hk hi).2.2.2).2.2.1
    rw [h] at hl0
    simp at hl0
  · exact h
theorem duo_same {k : Nat} (hk : k < ps.length) : nearP ps r [k] = nearP ps q [k] := by
  rcases duo_near hp h2 hk with ⟨hi, e⟩ | ⟨hi, e0, e⟩ <;> rcases duo_near hp h3 hk with ⟨hj, f⟩ | ⟨hj, f0, f⟩
  · rw [e, f]
  · rw [duo_both hp hr h3 hk hi] at hj; cases hj
  · rw [duo_both hp hq h2 hk hj] at hi; cases hi
  · rw [e, f]
theorem duo_look2 {k : Nat} (hk : k < ps.length) (ns : List (List Nat)) : lookP ps r ns [k] = lookP ps q ns [k] := by
  unfold lookP
  rw [duo_mixed hp h2 hk, duo_mixed hp h3 hk, duo_same hp hr hq h2 h3 hk]
theorem duo_arms2 {k : Nat} (hk : k < ps.length) : ∀ (ls : List Str), (∀ s ∈ ls, s ∈ labelsP (ptsOf ps [k])) → ∀ (out : List ArmL) (ns : List (List Nat)), armsP ps r (ptsOf ps [k]) ls out ns = armsP ps q (ptsOf ps [k]) ls out ns
  | [], _, _, _ => rfl
  | s :: ls, hls, out, ns => by
    obtain ⟨a, ha, _, e⟩ := duo_one hp hk (hls s (by simp))
    have hx : armP ps r (ptsOf ps [k]) s ns = armP ps q (ptsOf ps [k]) s ns := by
      unfold armP
      rw [show nextsP (armsAt (ptsOf ps [k]) s) = [a.next.toNat] by rw [e]; rfl, duo_look2 hp hr hq h2 h3 (pt_next hp hk ha).2.1]
    unfold armsP
    rw [hx]
    cases armP ps q (ptsOf ps [k]) s ns with
    | error e => rfl
    | ok p => exact duo_arms2 hk ls (fun t ht => hls t (by simp [ht])) _ _
variable (hne : r ≠ q)
include hne
omit hq h2 in
theorem duo_kinds {k : Nat} (hk : k < ps.length) (hi : inP (pointOf ps k) r = true) : (kindP r (ptsOf ps [k]) = 0 ↔ kindP q (ptsOf ps [k]) = 0) ∧ kindP r (ptsOf ps [k]) ≠ kindP q (ptsOf ps [k]) := by
  have hj := duo_both hp hr h3 hk hi
  unfold inP at hi hj
  simp only [Bool.or_eq_true, beq_iff_eq] at hi hj
  show ((if (pointOf ps k).dst == r then (2 : Int) else 1) = 0 ↔ (if (pointOf ps k).dst == q then (2 : Int) else 1) = 0) ∧ (if (pointOf ps k).dst == r then (2 : Int) else 1) ≠ (if (pointOf ps k).dst == q then (2 : Int) else 1)
  by_cases d1 : (pointOf ps k).dst = r
  · have d2 : ¬ (pointOf ps k).dst = q := fun e => hne (d1.symm.trans e)
    rw [if_pos (beq_iff_eq.2 d1), if_neg (fun c => d2 (beq_iff_eq.1 c))]
    decide
  · have d2 : (pointOf ps k).dst = q := by
      rcases hi with hi | hi
      · rcases hj with hj | hj
        · exact absurd (hi.symm.trans hj) hne
        · exact hj
      · exact absurd hi d1
    rw [if_neg (fun c => d1 (beq_iff_eq.1 c)), if_pos (beq_iff_eq.2 d2)]
    decide
theorem duo_turn2 {near : List Nat} {ns : List (List Nat)} {t : TurnL} {ns' : List (List Nat)} (hl : near = [] ∨ ∃ k, k < ps.length ∧ near = [k] ∧ inP (pointOf ps k) r = true) (h : turnP ps r near ns = .ok (t, ns')) : ∃ u, turnP ps q near ns = .ok (u, ns') ∧ Faces t u := by
  unfold turnP at h ⊢
  rcases hl with rfl | ⟨k, hk, rfl, hi⟩
  · rw [if_pos rfl] at h ⊢
    cases h
    exact ⟨_, rfl, rfl, Iff.rfl, fun c => absurd rfl c⟩
  · have hj := duo_both hp hr h3 hk hi
    rw [if_neg (by simp), if_neg (by rw [duo_fault hp hr hk hi]; simp)] at h
    rw [if_neg (by simp), if_neg (by rw [duo_fault hp hq hk hj]; simp)]
    rw [duo_arms2 hp hr hq h2 h3 hk _ (fun s hs => hs)] at h
    obtain ⟨e1, e2⟩ := duo_kinds hp hr h3 hne hk hi
    cases hx : armsP ps q (ptsOf ps [k]) (labelsP (ptsOf ps [k])) [] ns with
    | error e => rw [hx] at h; cases h
    | ok p =>
      rw [hx] at h
      cases h
      exact ⟨_, rfl, rfl, e1, fun _ => e2⟩
theorem duo_turns2 : ∀ (fuel i : Nat) (out out' : List TurnL) (ns : List (List Nat)) (ts : List TurnL), Few8 ps ns → Shape8 ps r ns → AllFaces out out' → turnsP ps r fuel i out ns = .ok ts → ∃ us, turnsP ps q fuel i out' ns = .ok us ∧ AllFaces ts us
  | 0, i, out, out', ns, ts, _, _, _, h => by
    unfold turnsP at h
    cases h
  | fuel + 1, i, out, out', ns, ts, hn, hs, hf, h => by
    unfold turnsP at h ⊢
    cases hg : ns[i]? with
    | none =>
      rw [hg] at h
      cases h
      exact ⟨out', rfl, hf⟩
    | some near =>
      rw [hg] at h
      have h : (match turnP ps r near ns with
        | .error e => Except.error e
        | .ok (t, ns') => turnsP ps r fuel (i + 1) (out ++ [t]) ns') = .ok ts := h
      have hmem := List.mem_of_getElem? hg
      have hl : near = [] ∨ ∃ k, k < ps.length ∧ near = [k] ∧ inP (pointOf ps k) r = true := by
        rcases hn.2 near hmem with h | ⟨k, hk, h⟩
        · exact .inl h
        · obtain ⟨s, e⟩ := hs.2.2 near hmem
          exact .inr ⟨k, hk, h, near_in_it (s := s) (by rw [← e, h]; simp)⟩
      obtain ⟨t, ns1, h5, h6⟩ := duo_turn hp hr h2 hn hl
      rw [h5] at h
      obtain ⟨p1, p2, _, _⟩ := turnP_spec h5
      obtain ⟨u, h7, h8⟩ := duo_turn2 hp hr hq h2 h3 hne hl h5
      obtain ⟨us, h9, h10⟩ := duo_turns2 fuel (i + 1) (out ++ [t]) (out' ++ [u]) ns1 ts h6 (p2 hs) (hf.snoc h8) h
      refine ⟨us, ?_, h10⟩
      show (match turnP ps q near ns with
        | .error e => Except.error e
        | .ok (t, ns') => turnsP ps q fuel (i + 1) (out' ++ [t]) ns') = _
      rw [h7]
      exact h9
theorem duo_role2 {ts : List TurnL} (h : roleP ps r = .ok ts) : ∃ us, roleP ps q = .ok us ∧ AllFaces ts us := by
  have h0 : 0 < ps.length := (protB_all hp).2.2.1
  obtain ⟨j, ns, h4, h5⟩ := duo_look hp h2 h0 (ns := []) ⟨by simp, fun l hl => by cases hl⟩
  obtain ⟨a1, a2, a3, a4⟩ := lookP_spec h4
  unfold roleP at h ⊢
  rw [← duo_look2 hp hr hq h2 h3 h0]
  rw [h4] at h ⊢
  exact duo_turns2 hp hr hq h2 h3 hne 41 0 [] [] ns ts h5 (a4 ⟨by simp, by simp, fun l hl => by cases hl⟩) ⟨rfl, fun j t hj => by cases hj⟩ h
omit hq h3 hne in
/-- Behind a walk: both are at turns that face each other. -/
theorem duo_round {ts us : List TurnL} {ns : List (List Nat)} (h : RoleOk ps r ts ns) (hf : AllFaces ts us) (way : List Str) :
    (walkT (ps.map asT) 0 way = none ∧ walkT ts 0 way = none ∧ walkT us 0 way = none) ∨ ∃ k u t x, walkT (ps.map asT) 0 way = some k ∧ walkT ts 0 way = some u ∧ walkT us 0 way = some u ∧ k < ps.length ∧ ts[u]? = some t ∧ us[u]? = some x ∧ Faces t x ∧ (t.kind = 0 ↔ (pointOf ps k).arms = []) := by
  rcases duo_walk hp hr h2 h way 0 0 (duo_start hp h) with ⟨e1, e2⟩ | ⟨k, u, e1, e2, e3⟩
  · exact .inl ⟨e1, e2, by rw [faces_walk hf]; exact e2⟩
  · obtain ⟨t, e4, e5, _⟩ := duo_at hp hr h2 h e3
    obtain ⟨x, e6, e7⟩ := hf.2 u t e4
    exact .inr ⟨k, u, t, x, e1, e2, by rw [faces_walk hf]; exact e2, e3.1, e4, e6, e7, e5⟩
end
/-- Of two roles each takes part in each point that is no end. -/
theorem two_in {nm : Str} {ps : List PointL} (hp : protB nm (rolesL 2) ps = true) {i : Nat} (hi : i < 2) : Two8 ps (rolS i).toList := fun k => by
  rcases Nat.lt_or_ge k ps.length with hk | hk
  · rw [pointOf_lt hk]
    rcases pointB_ways ((protB_all hp).2.2.2.2 _ (List.getElem_mem hk)) with h0 | ⟨_, h1, h2, h3, h4⟩
    · exact .inl (endB_iff.1 h0).2.2
    · right
      have hrl : rolesL 2 = [(rolS 0).toList, (rolS 1).toList] := by rw [rolS_list, rolS_list]; rfl
      rw [hrl] at h2 h3
      unfold inP
      simp only [Bool.or_eq_true, beq_iff_eq]
      simp only [List.mem_cons, List.not_mem_nil, or_false] at h2 h3
      have : i = 0 ∨ i = 1 := by omega
      rcases this with rfl | rfl
      · rcases h2 with h2 | h2
        · exact .inl h2
        · rcases h3 with h3 | h3
          · exact .inr h3
          · exact absurd (h2.trans h3.symm) h1
      · rcases h2 with h2 | h2
        · rcases h3 with h3 | h3
          · exact absurd (h2.trans h3.symm) h1
          · exact .inr h3
        · exact .inl h2
  · left
    unfold pointOf
    rw [List.getElem?_eq_none hk]
    rfl
end Go.Proofs.YtiofpeckcfdilaaGreatDoor

/- Two roles: what All answers of such a protocol; the row of two local types, in memory. -/
namespace Go.Proofs.YtiofpeckcfdilaaGreatDoor
open Go.RowKit

theorem rol_ne : (rolS 0).toList ≠ (rolS 1).toList := by rw [rolS_list, rolS_list]; decide
theorem allQ_two {ps : List PointL} {ts us : List TurnL} (hp : protB [112] (rolesL 2) ps = true) (h0 : roleP ps (rolS 0).toList = .ok ts) (h1 : roleP ps (rolS 1).toList = .ok us) :
    allQ [112] (rolesL 2) ps = ([([112] ++ 46 :: (rolS 0).toList, ts), ([112] ++ 46 :: (rolS 1).toList, us)], 0, 0) := by
  unfold allQ
  rw [hp, if_pos rfl, show rolesL 2 = [(rolS 0).toList, (rolS 1).toList] by rw [rolS_list, rolS_list]; rfl]
  simp only [allF, h0, h1, List.nil_append, List.cons_append]
/-- Two local types in a row. -/
structure Two9 (W : World) (b off : Nat) (x0 : ByteArray) (a0 : Option Addr) (n c0 : Nat) (x1 : ByteArray) (a1 : Option Addr) (c1 : Nat) (ts us : List TurnL) : Prop where
  lt : b < W.heap.size
  cells : W.cell? ⟨b, off, none⟩ = some (.string x0) ∧ W.cell? ⟨b, off + 1, none⟩ = some (.slice a0 n c0) ∧ W.cell? ⟨b, off + 2, none⟩ = some (.string x1) ∧ W.cell? ⟨b, off + 2 + 1, none⟩ = some (.slice a1 n c1)
  one : Turns W W.heap.size a0 n ts
  two : Turns W W.heap.size a1 n us
theorem Two9.on {W W' : World} {b off : Nat} {x0 : ByteArray} {a0 : Option Addr} {n c0 : Nat} {x1 : ByteArray} {a1 : Option Addr} {c1 : Nat} {ts us : List TurnL} (h : Two9 W b off x0 a0 n c0 x1 a1 c1 ts us) (hb : Below W.heap.size W W') : Two9 W' b off x0 a0 n c0 x1 a1 c1 ts us :=
  ⟨by have := h.lt; have := hb.size; omega, ⟨(hb.cell (p := ⟨b, _, none⟩) h.lt).trans h.cells.1, (hb.cell (p := ⟨b, _, none⟩) h.lt).trans h.cells.2.1, (hb.cell (p := ⟨b, _, none⟩) h.lt).trans h.cells.2.2.1, (hb.cell (p := ⟨b, _, none⟩) h.lt).trans h.cells.2.2.2⟩, h.one.on hb, h.two.on hb⟩
def TwoAns (w : World) (ts us : List TurnL) (e : Ending) (w' : World) : Prop :=
  ∃ (b off lc : Nat) (x0 : ByteArray) (a0 : Option Addr) (n c0 : Nat) (x1 : ByteArray) (a1 : Option Addr) (c1 : Nat), e = .returned (.tuple #[.slice (some ⟨b, off, none⟩) 2 lc, .int .i64 0, .int .i64 0]) ∧ Two9 w' b off x0 a0 n c0 x1 a1 c1 ts us ∧ Below w.heap.size w w'
theorem allTwo_any {ra : Option Addr} {rc : Nat} {sa : Option Addr} {sn sc : Nat} {ps : List PointL} {w : World} (hP : PIn w ⟨#[112]⟩ ra 2 (rolesL 2) sa sn ps) {ts us : List TurnL} (hp : protB [112] (rolesL 2) ps = true) (h0 : roleP ps (rolS 0).toList = .ok ts) (h1 : roleP ps (rolS 1).toList = .ok us) (hl : us.length = ts.length) :
    Calls Tryz.prog 23 #[.agg #[.string ⟨#[112]⟩, .slice ra 2 rc, .slice sa sn sc]] w fun e w' => TwoAns w ts us e w' :=
  (all_any ⟨#[112]⟩ ra 2 rc (rolesL 2) sa sn sc ps w hP).mono fun e w' k => by
    rw [prot_one, allQ_two hp h0 h1] at k
    obtain ⟨⟨la, ln, lc, k1, k2⟩, k3⟩ := k
    have hln : ln = 2 := k2.1.symm
    subst hln
    obtain ⟨b, off, x0, a0, n0, c0, t0, e0, hb, f0, ⟨q0, q1⟩, _, h5⟩ := k2.at_ (k := 0) (by omega)
    obtain ⟨b', off', x1, a1, n1, c1, t1, e1, _, f1, ⟨q2, q3⟩, _, h6⟩ := k2.at_ (k := 1) (by omega)
    subst e0
    obtain ⟨e2, e3, _⟩ := Addr.mk.inj (Option.some.inj e1)
    subst e2 e3
    have g0 : ts = t0 := (Prod.mk.inj (Option.some.inj f0)).2
    have g1 : us = t1 := (Prod.mk.inj (Option.some.inj f1)).2
    subst g0 g1
    have hn : n1 = n0 := by rw [← h6.1, ← h5.1, hl]
    subst hn
    exact ⟨b, off, lc, x0, a0, n1, c0, x1, a1, c1, k1, ⟨hb, ⟨by simpa using q0, by simpa using q1, by simpa using q2, by simpa using q3⟩, h5, h6⟩, k3⟩
end Go.Proofs.YtiofpeckcfdilaaGreatDoor
