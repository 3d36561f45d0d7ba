/- Plain: one label more on a walk; what a role's errors are. No program stands in this text. -/
import Derived.Test.YtokgpdceckaddaaGreatDoorPjSpecs
namespace Go.Proofs.YtokgpdceckaddaaGreatDoor
open Go.RowKit

theorem turnsP_err {ps : List PointL} {r : Str} : ∀ (fuel i : Nat) (out : List TurnL) (ns : List (List Nat)) (e : Int), turnsP ps r fuel i out ns = .error e → e ≠ 0
  | 0, i, out, ns, e, h => by
    unfold turnsP at h
    cases h
    decide
  | fuel + 1, i, out, ns, e, h => by
    unfold turnsP at h
    cases hn : ns[i]? with
    | none => rw [hn] at h; cases h
    | some near =>
      rw [hn] at h
      dsimp only at h
      cases hk : turnP ps r near ns with
      | error e2 =>
        rw [hk] at h
        cases h
        exact turnP_err hk
      | ok p =>
        obtain ⟨t, ns1⟩ := p
        rw [hk] at h
        exact turnsP_err fuel (i + 1) _ ns1 e h
theorem roleP_err {ps : List PointL} {r : Str} {e : Int} (h : roleP ps r = .error e) : e ≠ 0 := by
  unfold roleP at h
  cases hk : lookP ps r [] [0] with
  | error e2 =>
    rw [hk] at h
    cases h
    rcases lookP_err hk with rfl | rfl <;> decide
  | ok p =>
    obtain ⟨k, ns⟩ := p
    rw [hk] at h
    exact turnsP_err _ _ _ _ _ h
theorem walkT_snoc (ts : List TurnL) (s : Str) : ∀ (w : List Str) (p : Nat), walkT ts p (w ++ [s]) = match walkT ts p w with
    | none => none
    | some q => match findA (Go.Proofs.YtokgpdceckaddaaGreatDoor.armsOf ts q) s with
      | none => none
      | some a => some a.next.toNat
  | [], p => by
    show (match findA (Go.Proofs.YtokgpdceckaddaaGreatDoor.armsOf ts p) s with
      | none => none
      | some a => walkT ts a.next.toNat []) = match findA (Go.Proofs.YtokgpdceckaddaaGreatDoor.armsOf ts p) s with
      | none => none
      | some a => some a.next.toNat
    rfl
  | t :: w, p => by
    rw [List.cons_append, walkT, walkT]
    cases findA (Go.Proofs.YtokgpdceckaddaaGreatDoor.armsOf ts p) t with
    | none => rfl
    | some a => exact walkT_snoc ts s w _
section
variable {nm : Str} {rs : List Str} {ps : List PointL} (hp : protB nm rs ps = true)
include hp
theorem walkP_lt {w : List Str} {q : Nat} (h : walkP ps w = some q) : q < ps.length := reachP_lt (prot_loc hp) (walkP_in (prot_loc hp) h)
theorem walkP_snoc {w : List Str} {q : Nat} (h : walkP ps w = some q) {a : ArmL} (ha : a ∈ (pointOf ps q).arms) : walkP ps (w ++ [a.label]) = some a.next.toNat := by
  have hnd := (pt_next hp (walkP_lt hp h) ha).2.2
  unfold walkP at h ⊢
  rw [walkT_snoc, h]
  dsimp only
  rw [armsOf_asT, (findA_some hnd).2 ⟨ha, rfl⟩]
end
end Go.Proofs.YtokgpdceckaddaaGreatDoor
