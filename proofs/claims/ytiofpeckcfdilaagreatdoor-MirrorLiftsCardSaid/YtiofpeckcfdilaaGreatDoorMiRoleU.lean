/- What Role answers, refused or not, in one form (PjRoleU without its last part: a claim has at most 1,500,000 bytes). -/
import Derived.Test.YtiofpeckcfdilaaGreatDoorPjMid
import Derived.Test.YtiofpeckcfdilaaGreatDoorPjSpecs
import Derived.Test.YtiofpeckcfdilaaGreatDoorGlViss
namespace Go.Proofs.YtiofpeckcfdilaaGreatDoor
open Go.RowKit

def errU (x : Except Int (List TurnL)) : Int := match x with
  | .error e => e
  | .ok _ => 0
def turnsU (x : Except Int (List TurnL)) : List TurnL := match x with
  | .error _ => []
  | .ok ts => ts
def nameU (nm r : Str) (x : Except Int (List TurnL)) : Str := match x with
  | .error _ => []
  | .ok _ => nm ++ 46 :: r
/-- A name and turns, in memory. -/
structure LIn (W : World) (s : ByteArray) (a : Option Addr) (n : Nat) (nm : Str) (ts : List TurnL) : Prop where
  name : s.toList = nm
  small : s.size ≤ maxLen
  turns : Turns W W.heap.size a n ts
theorem LIn.on {W W' : World} {s : ByteArray} {a : Option Addr} {n : Nat} {nm : Str} {ts : List TurnL} (h : LIn W s a n nm ts) (hb : Below W.heap.size W W') : LIn W' s a n nm ts := ⟨h.name, h.small, h.turns.on hb⟩
def RoleAns (w : World) (nm r : Str) (x : Except Int (List TurnL)) (e : Ending) (w' : World) : Prop :=
  ∃ (s : ByteArray) (a : Option Addr) (n c : Nat), e = .returned (.tuple #[.agg #[.string s, .slice a n c], .int .i64 (errU x)]) ∧ LIn w' s a n (nameU nm r x) (turnsU x) ∧ Below w.heap.size w w'
theorem lookP_some {ps : List PointL} {r : Str} {ts : List TurnL} (h : roleP ps r = .ok ts) : ts.length ≤ 40 := by
  obtain ⟨ns, h1, _, h3, _⟩ := roleP_spec h
  have := h3.1
  omega
theorem roleU_any (nm : ByteArray) (ra : Option Addr) (rn rc : Nat) (rs : List Str) (a : Option Addr) (n c : Nat) (ps : List PointL) (r : ByteArray) (w : World) (hP : PIn w nm ra rn rs a n ps) :
    Calls Tryz.prog 20 #[.agg #[.string nm, .slice ra rn rc, .slice a n c], .string r] w fun e w' => RoleAns w nm.toList r.toList (roleQ nm.toList rs ps r.toList) e w' :=
  (role_any nm ra rn rc rs a n c ps r w hP).mono fun e w' h => by
    unfold RoleRet at h
    obtain ⟨h1, h2⟩ := h
    cases hx : roleQ nm.toList rs ps r.toList with
    | error er =>
      rw [hx] at h1
      exact ⟨⟨#[]⟩, none, 0, 0, h1, ⟨by rw [ByteArray.toList_eq]; rfl, by simp [maxLen, ByteArray.size], Turns.zero _ _ _⟩, h2⟩
    | ok ts =>
      rw [hx] at h1
      obtain ⟨s, a, n, c, e1, e2, e3, base, _, e5⟩ := h1
      have hl : ts.length ≤ 40 := by
        unfold roleQ at hx
        split at hx
        · exact lookP_some hx
        · cases hx
      obtain ⟨a2, c2, e6, e7⟩ := e5.sees (by omega)
      obtain ⟨f1, f2, f3⟩ := Value.slice.inj e6
      subst f1 f2 f3
      exact ⟨s, a, ts.length, c, e1, ⟨e2, e3, e7⟩, h2⟩
theorem roleQ_in {nm : Str} {rs : List Str} {ps : List PointL} {r : Str} (hp : protB nm rs ps = true) (hr : hasS rs r = true) : roleQ nm rs ps r = roleP ps r := by
  unfold roleQ
  rw [hp, hr]
  rfl
end Go.Proofs.YtiofpeckcfdilaaGreatDoor
