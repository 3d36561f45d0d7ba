/- What Role answers, refused or not, in one form. -/
import Derived.Test.YtokgpdceckaddaaGreatDoorPjMid
import Derived.Test.YtokgpdceckaddaaGreatDoorPjSpecs
import Derived.Test.YtokgpdceckaddaaGreatDoorGlFirsts
import Derived.Test.YtokgpdceckaddaaGreatDoorTuTrimO
import Derived.Test.YtokgpdceckaddaaGreatDoorTuSameT
namespace Go.Proofs.YtokgpdceckaddaaGreatDoor
open Go.RowKit

def errU (x : Except Int (List TurnL)) : Int := match x with
  | .error e => e
  | .ok _ => 0
def turnsU (x : Except Int (List TurnL)) : List TurnL := match x with
  | .error _ => []
  | .ok ts => ts
def nameU (nm r : Str) (x : Except Int (List TurnL)) : Str := match x with
  | .error _ => []
  | .ok _ => nm ++ 46 :: r
/-- A name and turns, in memory. -/
structure LIn (W : World) (s : ByteArray) (a : Option Addr) (n : Nat) (nm : Str) (ts : List TurnL) : Prop where
  name : s.toList = nm
  small : s.size ≤ maxLen
  turns : Turns W W.heap.size a n ts
theorem LIn.on {W W' : World} {s : ByteArray} {a : Option Addr} {n : Nat} {nm : Str} {ts : List TurnL} (h : LIn W s a n nm ts) (hb : Below W.heap.size W W') : LIn W' s a n nm ts := ⟨h.name, h.small, h.turns.on hb⟩
def RoleAns (w : World) (nm r : Str) (x : Except Int (List TurnL)) (e : Ending) (w' : World) : Prop :=
  ∃ (s : ByteArray) (a : Option Addr) (n c : Nat), e = .returned (.tuple #[.agg #[.string s, .slice a n c], .int .i64 (errU x)]) ∧ LIn w' s a n (nameU nm r x) (turnsU x) ∧ Below w.heap.size w w'
theorem lookP_some {ps : List PointL} {r : Str} {ts : List TurnL} (h : roleP ps r = .ok ts) : ts.length ≤ 40 := by
  obtain ⟨ns, h1, _, h3, _⟩ := roleP_spec h
  have := h3.1
  omega
theorem roleU_any (nm : ByteArray) (ra : Option Addr) (rn rc : Nat) (rs : List Str) (a : Option Addr) (n c : Nat) (ps : List PointL) (r : ByteArray) (w : World) (hP : PIn w nm ra rn rs a n ps) :
    Calls Tryz.prog 15 #[.agg #[.string nm, .slice ra rn rc, .slice a n c], .string r] w fun e w' => RoleAns w nm.toList r.toList (roleQ nm.toList rs ps r.toList) e w' :=
  (role_any nm ra rn rc rs a n c ps r w hP).mono fun e w' h => by
    unfold RoleRet at h
    obtain ⟨h1, h2⟩ := h
    cases hx : roleQ nm.toList rs ps r.toList with
    | error er =>
      rw [hx] at h1
      exact ⟨⟨#[]⟩, none, 0, 0, h1, ⟨by rw [ByteArray.toList_eq]; rfl, by simp [maxLen, ByteArray.size], Turns.zero _ _ _⟩, h2⟩
    | ok ts =>
      rw [hx] at h1
      obtain ⟨s, a, n, c, e1, e2, e3, base, _, e5⟩ := h1
      have hl : ts.length ≤ 40 := by
        unfold roleQ at hx
        split at hx
        · exact lookP_some hx
        · cases hx
      obtain ⟨a2, c2, e6, e7⟩ := e5.sees (by omega)
      obtain ⟨f1, f2, f3⟩ := Value.slice.inj e6
      subst f1 f2 f3
      exact ⟨s, a, ts.length, c, e1, ⟨e2, e3, e7⟩, h2⟩
theorem roleQ_in {nm : Str} {rs : List Str} {ps : List PointL} {r : Str} (hp : protB nm rs ps = true) (hr : hasS rs r = true) : roleQ nm rs ps r = roleP ps r := by
  unfold roleQ
  rw [hp, hr]
  rfl
theorem hasS_made {many i : Nat} (h : i < many) : hasS (rolesL many) (rolS i).toList = true := List.contains_iff_mem.2 (List.mem_of_getElem? (rolesL_at h))
theorem GIn.role {w0 W : World} {g many : Nat} {ra : Option Addr} {rc : Nat} {sa : Option Addr} {sn sc : Nat} {ps : List PointL} (h : GIn w0 W g many ra rc sa sn sc ps) (hm : GMade many sn ps) {i : Nat} (hi : i < many) :
    Calls Tryz.prog 15 #[.agg #[.string ⟨#[112]⟩, .slice ra many rc, .slice sa sn sc], .string (rolS i)] W fun e w' => RoleAns W [112] (rolS i).toList (roleP ps (rolS i).toList) e w' := by
  have := roleU_any ⟨#[112]⟩ ra many rc (rolesL many) sa sn sc ps (rolS i) W h.pin
  rw [prot_one, roleQ_in hm.ok (hasS_made hi)] at this
  exact this
end Go.Proofs.YtokgpdceckaddaaGreatDoor

/- Contract of the statements' own same: two local types, with their names. -/
namespace Go.Proofs.YtokgpdceckaddaaGreatDoor
open Go.RowKit

set_option maxHeartbeats 8000000 in
set_option maxRecDepth 20000 in
theorem same8_any (nm nm' : ByteArray) (a a' : Option Addr) (n c n' c' : Nat) (ts us : List TurnL) (w : World) (bound : Nat) (hb : bound ≤ w.heap.size) (h : Turns w bound a n ts) (h' : Turns w bound a' n' us) :
    Calls Tryz.prog 18 #[.agg #[.string nm, .slice a n c], .agg #[.string nm', .slice a' n' c']] w fun e w' => e = .returned (.bool ((nm.toList == nm'.toList) && sameTs ts us)) ∧ Below w.heap.size w w' := by
  have HB0 := Lib.hid (below_on (tu1 w (.cells #[.string nm, .slice a n c] 34)) (tu1 (w.alloc (.cells #[.string nm, .slice a n c] 34)) (.cells #[.string nm', .slice a' n' c'] 34)))
  have HL := Lib.hid ((LBox.new w nm a n c).on (tu1 (w.alloc (.cells #[.string nm, .slice a n c] 34)) (.cells #[.string nm', .slice a' n' c'] 34)))
  have HX := Lib.hid (LBox.new (w.alloc (.cells #[.string nm, .slice a n c] 34)) nm' a' n' c')
  rw [World.size_alloc] at HX
  have CS := Lib.hid (fun (W : World) (hW : Below w.heap.size w W) => (tuSameT_any a a' n n' c c' ts us W bound (h.below (hW.mono hb)) (h'.below (hW.mono hb))).mono fun e w2 h => (⟨h.1, by obtain ⟨q, hq⟩ := h.2; rw [hq]; exact bel_drewN hW q⟩ : e = .returned (.bool (sameTs ts us)) ∧ Below w.heap.size w w2))
  obtain ⟨lc0, lc1⟩ := HL.out.cells
  obtain ⟨xc0, xc1⟩ := HX.out.cells
  obtain ⟨R, hR⟩ : ∃ R, R = ((nm.toList == nm'.toList) && sameTs ts us) := ⟨_, rfl⟩
  rw [← hR]
  clear h h'
  cases hv : (nm.toList == nm'.toList)
  · rw [hv] at hR
    have HZ := Lib.hid (show R = false from hR)
    clear hR
    go_enter Tryz.func18, Tryz.ntmps18
    go_wp2_with fail
    go_ret
    exact ⟨ret_bool HZ.out.symm, HB0.out⟩
  · rw [hv] at hR
    have HZ := Lib.hid (show R = sameTs ts us from hR)
    clear hR
    go_enter Tryz.func18, Tryz.ntmps18
    go_wp2_with (first
      | (go_at_call 43; (with_reducible refine (CS.out _ HB0.out).mono ?_)
         rintro e w1 ⟨rfl, hb1⟩
         have HB1 := Lib.hid hb1
         clear hb1)
      | fail)
    go_ret
    exact ⟨ret_bool HZ.out.symm, HB1.out⟩
end Go.Proofs.YtokgpdceckaddaaGreatDoor
