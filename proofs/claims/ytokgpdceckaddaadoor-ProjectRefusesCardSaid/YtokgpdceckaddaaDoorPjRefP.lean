/- Plain: the six small protocols, projected to c. -/
import Derived.Test.YtokgpdceckaddaaDoorPjFirsts
namespace Go.Proofs.YtokgpdceckaddaaDoor
open Go.RowKit

def ptsR (one two : PointL) : List PointL := [⟨[97], [98], [⟨[120], 0, [], 1⟩, ⟨[121], 0, [], 2⟩]⟩, one, two, ⟨[], [], []⟩]
/-- The six ways. -/
def oneR (L : Str) (m : Nat) : PointL := if m = 3 then ⟨[99], [98], [⟨L, 0, [], 3⟩]⟩ else ⟨[98], [99], [⟨L, 0, [], 3⟩]⟩
def twoR (L : Str) (m : Nat) : PointL :=
  match m with
  | 0 => ⟨[], [], []⟩
  | 1 => ⟨[99], [98], [⟨L, 0, [], 3⟩]⟩
  | 2 => ⟨[97], [99], [⟨L, 0, [], 3⟩]⟩
  | 3 => ⟨[99], [98], [⟨[121], 0, [], 3⟩]⟩
  | 4 => ⟨[98], [99], [⟨L, 2, [], 3⟩]⟩
  | _ => ⟨[98], [99], [⟨[121], 0, [], 3⟩]⟩
def wantR (m : Nat) : Int := match m with | 0 => 801 | 1 => 802 | 2 => 802 | 3 => 803 | 4 => 804 | _ => 0
section
variable (L : Str) (hL : may L = true) (hy : L ≠ [121])
include hL in
theorem okR_all (m : Nat) (hm : m < 6) : protB [112] exRoles8 (ptsR (oneR L m) (twoR L m)) = true := by
  have h : m = 0 ∨ m = 1 ∨ m = 2 ∨ m = 3 ∨ m = 4 ∨ m = 5 := by omega
  rcases h with rfl | rfl | rfl | rfl | rfl | rfl
  all_goals
    simp [protB, exRoles8, ptsR, oneR, twoR, pointB, endB, armsB, armB, hL]
    decide
theorem role_turn {ps : List PointL} {r : Str} {near : List Nat} {er : Int} (h1 : lookP ps r [] [0] = .ok (0, [near])) (h2 : turnP ps r near [near] = .error er) : roleP ps r = .error er := by
  unfold roleP
  rw [h1]
  dsimp only
  unfold turnsP
  rw [show ([near] : List (List Nat))[0]? = some near from rfl]
  dsimp only
  rw [h2]
theorem turn_fault {ps : List PointL} {r : Str} {near : List Nat} {ns : List (List Nat)} {er : Int} (h0 : near ≠ []) (he : er ≠ 0) (h : faultP (kindP r (ptsOf ps near)) (ptsOf ps near) (labelsP (ptsOf ps near)) = er) : turnP ps r near ns = .error er := by
  unfold turnP
  rw [if_neg h0, h, if_pos he]
theorem lab2 (A B : Str) (h : A ≠ B) (f : List PointL) (hf : labs8 f = [A, B]) : labelsP f = [A, B] ∨ labelsP f = [B, A] := by
  have h2 : ∀ X Y : Str, X ≠ Y → Lib.compact [X, Y] = [X, Y] := fun X Y hxy => by
    refine Lib.compact_all _ (fun j hj => ?_)
    have hj2 : j = 0 ∨ j = 1 := by simp at hj; omega
    rcases hj2 with rfl | rfl
    · simp [Lib.keeps]
    · simp [Lib.keeps]
      exact fun e => hxy e.symm
  unfold labelsP
  rw [show (f.flatMap fun x => x.arms.map ArmL.label) = [A, B] from hf, sort2]
  by_cases hle : A ≤ B
  · rw [if_pos hle, h2 A B h]; exact .inl rfl
  · rw [if_neg hle, h2 B A (fun e => h e.symm)]; exact .inr rfl
theorem lab1 (A : Str) (f : List PointL) (hf : labs8 f = [A, A]) : labelsP f = [A] := by
  unfold labelsP
  rw [show (f.flatMap fun x => x.arms.map ArmL.label) = [A, A] from hf, sort2, if_pos (List.le_refl _)]
  simp [Lib.compact, Lib.compactUpTo, Lib.keeps, List.range, List.range.loop]
theorem role0 : roleP (ptsR (oneR L 0) (twoR L 0)) [99] = .error 801 := by kernel_rfl
theorem role1 : roleP (ptsR (oneR L 1) (twoR L 1)) [99] = .error 802 :=
  role_turn (near := [1, 2]) (by kernel_rfl) (turn_fault (by decide) (by decide) (by unfold faultP; rw [if_pos (by kernel_rfl)]))
theorem role2 : roleP (ptsR (oneR L 2) (twoR L 2)) [99] = .error 802 :=
  role_turn (near := [1, 2]) (by kernel_rfl) (turn_fault (by decide) (by decide) (by unfold faultP; rw [if_pos (by kernel_rfl)]))
include hy in
theorem role3 : roleP (ptsR (oneR L 3) (twoR L 3)) [99] = .error 803 :=
  role_turn (near := [1, 2]) (by kernel_rfl) (turn_fault (by decide) (by decide) (by
    have hk : kindP [99] (ptsOf (ptsR (oneR L 3) (twoR L 3)) [1, 2]) = 1 := by kernel_rfl
    unfold faultP
    rw [hk, if_neg (by rw [show sameRolesP (ptsOf (ptsR (oneR L 3) (twoR L 3)) [1, 2]) = true from by kernel_rfl]; decide)]
    rcases lab2 L [121] hy (ptsOf (ptsR (oneR L 3) (twoR L 3)) [1, 2]) (by kernel_rfl) with h | h
    all_goals
      rw [h, if_pos ⟨rfl, by kernel_rfl⟩]))
theorem role4 : roleP (ptsR (oneR L 4) (twoR L 4)) [99] = .error 804 :=
  role_turn (near := [1, 2]) (by kernel_rfl) (turn_fault (by decide) (by decide) (by
    have hk : kindP [99] (ptsOf (ptsR (oneR L 4) (twoR L 4)) [1, 2]) = 2 := by kernel_rfl
    have ha : armsAt (ptsOf (ptsR (oneR L 4) (twoR L 4)) [1, 2]) L = [⟨L, 0, [], 3⟩, ⟨L, 2, [], 3⟩] := by
      rw [show ptsOf (ptsR (oneR L 4) (twoR L 4)) [1, 2] = [⟨[98], [99], [⟨L, 0, [], 3⟩]⟩, ⟨[98], [99], [⟨L, 2, [], 3⟩]⟩] from by kernel_rfl]
      simp [armsAt]
    unfold faultP
    rw [hk, if_neg (by rw [show sameRolesP (ptsOf (ptsR (oneR L 4) (twoR L 4)) [1, 2]) = true from by kernel_rfl]; decide), if_neg (fun c => absurd c.1 (by decide)), lab1 L _ (by kernel_rfl), if_neg (by simp)]
    rw [if_pos (by unfold sameCarriesP; simp [ha, firstA])]))
def F5 (L : Str) : List PointL := [⟨[98], [99], [⟨L, 0, [], 3⟩]⟩, ⟨[98], [99], [⟨[121], 0, [], 3⟩]⟩]
include hy in
theorem armsL : armsAt (F5 L) L = [⟨L, 0, [], 3⟩] := by
  simp [armsAt, F5]
  exact fun e => hy e.symm
include hy in
theorem armsY : armsAt (F5 L) [121] = [⟨[121], 0, [], 3⟩] := by
  simp [armsAt, F5, hy]
theorem look5 : lookP (ptsR (oneR L 5) (twoR L 5)) [99] [[1, 2]] [3] = .ok (1, [[1, 2], []]) ∧ lookP (ptsR (oneR L 5) (twoR L 5)) [99] [[1, 2], []] [3] = .ok (1, [[1, 2], []]) := ⟨by kernel_rfl, by kernel_rfl⟩
include hy in
theorem arm5 (s : Str) (hs : s = L ∨ s = [121]) (ns : List (List Nat)) (hn : ns = [[1, 2]] ∨ ns = [[1, 2], []]) : armP (ptsR (oneR L 5) (twoR L 5)) [99] (F5 L) s ns = .ok (⟨s, 0, [], 1⟩, [[1, 2], []]) := by
  have ha : armsAt (F5 L) s = [⟨s, 0, [], 3⟩] := by
    rcases hs with rfl | rfl
    · exact armsL s hy
    · exact armsY L hy
  unfold armP
  rw [ha, show nextsP [(⟨s, 0, [], 3⟩ : ArmL)] = [3] from rfl]
  rcases hn with rfl | rfl
  · rw [(look5 L).1]; rfl
  · rw [(look5 L).2]; rfl
include hy in
theorem turn5 : ∃ l, turnP (ptsR (oneR L 5) (twoR L 5)) [99] [1, 2] [[1, 2]] = .ok (⟨2, [98], l⟩, [[1, 2], []]) := by
  have hF : ptsOf (ptsR (oneR L 5) (twoR L 5)) [1, 2] = F5 L := by kernel_rfl
  have hk : kindP [99] (F5 L) = 2 := by kernel_rfl
  have hpe : peerP [99] (F5 L) = [98] := by kernel_rfl
  have hfa : ∀ A B : Str, (A = L ∨ A = [121]) → (B = L ∨ B = [121]) → faultP 2 (F5 L) [A, B] = 0 := fun A B hA hB => by
    have hc : ∀ s, (s = L ∨ s = [121]) → ((armsAt (F5 L) s).all fun a => decide (a.ck = (firstA (armsAt (F5 L) s)).ck) && a.cn == (firstA (armsAt (F5 L) s)).cn) = true := fun s hs => by
      have ha : armsAt (F5 L) s = [⟨s, 0, [], 3⟩] := by
        rcases hs with rfl | rfl
        · exact armsL s hy
        · exact armsY L hy
      rw [ha]
      rfl
    unfold faultP
    rw [if_neg (by rw [show sameRolesP (F5 L) = true from by kernel_rfl]; decide), if_neg (fun c => absurd c.1 (by decide)), if_neg (by simp)]
    rw [if_neg (by unfold sameCarriesP; simp only [List.all_cons, List.all_nil, hc A hA, hc B hB]; decide)]
  unfold turnP
  rw [if_neg (by decide), hF, hk, hpe]
  rcases lab2 L [121] hy (F5 L) (by kernel_rfl) with h | h
  · rw [h, hfa L [121] (.inl rfl) (.inr rfl), if_neg (by decide)]
    unfold armsP
    rw [arm5 L hy L (.inl rfl) _ (.inl rfl)]
    dsimp only
    unfold armsP
    rw [arm5 L hy [121] (.inr rfl) _ (.inr rfl)]
    exact ⟨_, rfl⟩
  · rw [h, hfa [121] L (.inr rfl) (.inl rfl), if_neg (by decide)]
    unfold armsP
    rw [arm5 L hy [121] (.inr rfl) _ (.inl rfl)]
    dsimp only
    unfold armsP
    rw [arm5 L hy L (.inl rfl) _ (.inr rfl)]
    exact ⟨_, rfl⟩
include hy in
theorem role5 : ∃ ts, roleP (ptsR (oneR L 5) (twoR L 5)) [99] = .ok ts ∧ ts.length = 2 := by
  obtain ⟨l, h1⟩ := turn5 L hy
  unfold roleP
  rw [show lookP (ptsR (oneR L 5) (twoR L 5)) [99] [] [0] = .ok (0, [[1, 2]]) from by kernel_rfl]
  dsimp only
  unfold turnsP
  rw [show ([[1, 2]] : List (List Nat))[0]? = some [1, 2] from rfl]
  dsimp only
  rw [h1]
  exact ⟨_, rfl, rfl⟩
include hy in
theorem role_way (m : Nat) (hm : m < 6) : (m < 5 ∧ wantR m ≠ 0 ∧ roleP (ptsR (oneR L m) (twoR L m)) [99] = .error (wantR m)) ∨ m = 5 ∧ wantR m = 0 ∧ ∃ ts, roleP (ptsR (oneR L m) (twoR L m)) [99] = .ok ts ∧ ts.length = 2 := by
  have h : m = 0 ∨ m = 1 ∨ m = 2 ∨ m = 3 ∨ m = 4 ∨ m = 5 := by omega
  rcases h with rfl | rfl | rfl | rfl | rfl | rfl
  · exact .inl ⟨by omega, by decide, role0 L⟩
  · exact .inl ⟨by omega, by decide, role1 L⟩
  · exact .inl ⟨by omega, by decide, role2 L⟩
  · exact .inl ⟨by omega, by decide, role3 L hy⟩
  · exact .inl ⟨by omega, by decide, role4 L⟩
  · exact .inr ⟨rfl, rfl, role5 L hy⟩
theorem no_one : hasS exRoles8 [110, 111, 98, 111, 100, 121] = false := by decide
end
end Go.Proofs.YtokgpdceckaddaaDoor
