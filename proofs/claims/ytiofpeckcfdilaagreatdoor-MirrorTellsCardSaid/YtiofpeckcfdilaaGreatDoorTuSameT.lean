/- Contract of the reference's SameTurns. -/
import Derived.Test.YtiofpeckcfdilaaGreatDoorTuRows
namespace Go.Proofs.YtiofpeckcfdilaaGreatDoor
open Go.RowKit

def sameT1 (x y : TurnL) : Bool := x.kind == y.kind && x.peer == y.peer && sameAs x.arms y.arms
def sameTs : List TurnL → List TurnL → Bool
  | [], [] => true
  | x :: l, y :: m => sameT1 x y && sameTs l m
  | _, _ => false
theorem sameT1_iff {x y : TurnL} : sameT1 x y = true ↔ x = y := by
  obtain ⟨a, b, c⟩ := x
  obtain ⟨e, f, g⟩ := y
  simp [sameT1, sameAs_iff]
  grind
theorem sameTs_iff : ∀ {l m : List TurnL}, sameTs l m = true ↔ l = m
  | [], [] => by simp [sameTs]
  | [], _ :: _ => by simp [sameTs]
  | _ :: _, [] => by simp [sameTs]
  | x :: l, y :: m => by rw [sameTs, Bool.and_eq_true, sameT1_iff, sameTs_iff, List.cons.injEq]
theorem sameTs_len : ∀ {l m : List TurnL}, l.length ≠ m.length → sameTs l m = false := by
  intro l m h
  cases hs : sameTs l m
  · rfl
  · exact absurd (congrArg List.length (sameTs_iff.1 hs)) h
theorem sameTs_at {l m : List TurnL} {k : Nat} {x y : TurnL} (hx : l[k]? = some x) (hy : m[k]? = some y) : sameTs (l.drop k) (m.drop k) = (sameT1 x y && sameTs (l.drop (k + 1)) (m.drop (k + 1))) := by
  obtain ⟨h1, e1⟩ := List.getElem?_eq_some_iff.1 hx
  obtain ⟨h2, e2⟩ := List.getElem?_eq_some_iff.1 hy
  rw [List.drop_eq_getElem_cons h1, e1, List.drop_eq_getElem_cons h2, e2, sameTs]

theorem drewN_part {w w2 : World} {p r : Nat} (h : ∃ x, w2 = (w.drewN (p + r)).drewN x) : ∃ m, w2 = w.drewN (p + m) := by
  obtain ⟨x, rfl⟩ := h
  exact ⟨r + x, by rw [World.drewN_drewN, Nat.add_assoc]⟩

set_option maxHeartbeats 8000000 in
set_option maxRecDepth 20000 in
theorem tuSameT_any (a b : Option Addr) (n m ca cb : Nat) (l l' : List TurnL) (w : World) (bound : Nat) (ha : Turns w bound a n l) (hb : Turns w bound b m l') :
    Calls Tryz.prog 15 #[.slice a n ca, .slice b m cb] w fun e w' => e = .returned (.bool (sameTs l l')) ∧ ∃ q, w' = w.drewN q := by
  have hn := ha.1
  have hm := hb.1
  have hsn := ha.2.1
  have hsm := hb.2.1
  have HA := Lib.hid ha
  have HB := Lib.hid hb
  obtain ⟨R, hR⟩ : ∃ R, R = sameTs l l' := ⟨_, rfl⟩
  rw [← hR]
  have HR := Lib.hid hR
  clear ha hb hR
  by_cases hnm : n = m
  · subst hnm
    have HN := Lib.hid hn
    have HM := Lib.hid hm
    have nn : ((n : Int) != (n : Int)) = false := by simp
    clear hn hm
    go_enter Tryz.func15, Tryz.ntmps15
    go_wp2
    go_loopw [5] (fun i wr => ∃ k : Nat, k ≤ n ∧ i = .int .i64 k ∧ Hid (R = sameTs (l.drop k) (l'.drop k)) ∧ ∃ q, wr = w.drewN q) (fun i _ => n - (intOf i).toNat)
    case atStart => exact ⟨0, Nat.zero_le _, rfl, Lib.hid HR.out, 0, rfl⟩
    case round =>
      obtain ⟨k, hk, rfl, HK, q, rfl⟩ := hrel
      by_cases hlt : k < n
      · obtain ⟨b1, o1, kd, s, aa, an, ac, xl, rfl, _, hx, ⟨x0, x1, x2⟩, _, hxa⟩ := HA.out.at_ hlt
        obtain ⟨b2, o2, kd', s', aa', an', ac', yl, rfl, _, hy, ⟨y0, y1, y2⟩, _, hya⟩ := HB.out.at_ hlt
        have hst := HK.out.trans (sameTs_at hx hy)
        unfold sameT1 at hst
        dsimp only at hst
        have CS := Lib.hid (fun p r => (tuSame_any aa aa' an an' ac ac' xl yl (w.drewN (p + r)) bound (hxa.keep fun _ _ => rfl) (hya.keep fun _ _ => rfl)).mono fun e w2 h => (⟨h.1, drewN_part h.2⟩ : e = .returned (.bool (sameAs xl yl)) ∧ ∃ m, w2 = w.drewN (p + m)))
        clear hx hy hxa hya
        cases c1 : (kd == kd')
        · rw [c1] at hst
          have d1 : (kd != kd') = true := by rw [bne, c1]; rfl
          have HZ := Lib.hid hst
          clear hst
          go_wp2
          go_quiet (fail)
          go_wp2
          go_ret
          exact ⟨ret_bool (by rw [HZ.out]; rfl), q + nq, World.drewN_drewN _ _ _⟩
        rw [c1] at hst
        have d1 : (kd != kd') = false := by rw [bne, c1]; rfl
        cases c2 : (s.toList == s'.toList)
        · rw [c2] at hst
          have d2 : (s.toList != s'.toList) = true := by rw [bne, c2]; rfl
          have HZ := Lib.hid hst
          clear hst
          go_wp2
          go_quiet (fail)
          go_wp2
          go_ret
          exact ⟨ret_bool (by rw [HZ.out]; rfl), q + nq, World.drewN_drewN _ _ _⟩
        rw [c2] at hst
        have d2 : (s.toList != s'.toList) = false := by rw [bne, c2]; rfl
        cases c3 : sameAs xl yl
        · rw [c3] at hst CS
          have HZ := Lib.hid hst
          clear hst
          go_wp2
          go_quiet ((go_at_call 46; exact CS.out _ _))
          go_wp2
          go_ret
          exact ⟨ret_bool (by rw [HZ.out]; rfl), q + nq, World.drewN_drewN _ _ _⟩
        · rw [c3] at hst CS
          have HZ := Lib.hid (show R = sameTs (l.drop (k + 1)) (l'.drop (k + 1)) from hst)
          clear hst
          go_wp2
          go_quiet ((go_at_call 46; exact CS.out _ _))
          go_wp2
          go_roundw
          case rel => exact ⟨k + 1, by omega, by go_num, HZ, q + nq, rfl⟩
          case measure => simp [intOf]; omega
      · have HZ := Lib.hid (show R = true by rw [HK.out, List.drop_of_length_le (by rw [HN.out]; omega), List.drop_of_length_le (by rw [HM.out]; omega)]; rfl)
        go_wp2
        go_ret
        exact ⟨ret_bool HZ.out.symm, q, rfl⟩
  · have HZ := Lib.hid (HR.out.trans (sameTs_len (by rw [hn, hm]; exact hnm)))
    have nn : ((n : Int) != (m : Int)) = true := by rw [bne_iff_ne]; omega
    have nn2 : ((n : Int) == (m : Int)) = false := by rw [beq_eq_false_iff_ne]; omega
    clear hn hm
    go_enter Tryz.func15, Tryz.ntmps15
    go_wp2
    go_ret
    exact ⟨ret_bool HZ.out.symm, 0, rfl⟩
end Go.Proofs.YtiofpeckcfdilaaGreatDoor
