/- Contract of the statements' own samePoints where both sides read the same. -/
import Derived.Test.YtiofpeckcfdilaaGreatDoorMiLifts
import Derived.Test.YtiofpeckcfdilaaGreatDoorTuSameT
namespace Go.Proofs.YtiofpeckcfdilaaGreatDoor
open Go.RowKit

theorem ba_inj {x y : ByteArray} (h : x.toList = y.toList) : x = y := by rw [← baS_of x, h, baS_of]
set_option maxHeartbeats 8000000 in
set_option maxRecDepth 20000 in
theorem miSameP_any (a b : Option Addr) (n ca cb : Nat) (ps : List PointL) (w : World) (bound : Nat) (ha : Pts w bound a n ps) (hb : Pts w bound b n ps) :
    Calls Tryz.prog 17 #[.slice a n ca, .slice b n cb] w fun e w' => e = .returned (.bool true) ∧ ∃ q, w' = w.drewN q := by
  have hsn := ha.2.1
  have HA := Lib.hid ha
  have HB := Lib.hid hb
  clear ha hb
  have nn : ((n : Int) != (n : Int)) = false := by simp
  go_enter Tryz.func17, Tryz.ntmps17
  go_wp2
  go_loopw [5] (fun i wr => ∃ k : Nat, k ≤ n ∧ i = .int .i64 k ∧ ∃ q, wr = w.drewN q) (fun i _ => n - (intOf i).toNat)
  case atStart => exact ⟨0, Nat.zero_le _, rfl, 0, rfl⟩
  case round =>
    obtain ⟨k, hk, rfl, q, rfl⟩ := hrel
    by_cases hlt : k < n
    · obtain ⟨b1, o1, x, y, aa, an, ac, xl, rfl, _, hx, ⟨x0, x1, x2⟩, _, _, hxa⟩ := HA.out.at_ hlt
      obtain ⟨b2, o2, x', y', aa', an', ac', yl, rfl, _, hy, ⟨y0, y1, y2⟩, _, _, hya⟩ := HB.out.at_ hlt
      have he := Option.some.inj (hx.symm.trans hy)
      obtain ⟨e1, e2, e3⟩ := PointL.mk.inj he
      obtain rfl := ba_inj e1
      obtain rfl := ba_inj e2
      obtain rfl : xl = yl := e3
      have hss : sameAs xl xl = true := sameAs_iff.2 rfl
      have CS := Lib.hid (fun p r => (tuSame_any aa aa' an an' ac ac' xl xl (w.drewN (p + r)) bound (hxa.keep fun _ _ => rfl) (hya.keep fun _ _ => rfl)).mono fun e w2 h => (⟨by rw [← hss]; exact h.1, drewN_part h.2⟩ : e = .returned (.bool true) ∧ ∃ m, w2 = w.drewN (p + m)))
      have d1 : (x.toList != x.toList) = false := by simp
      have d2 : (y.toList != y.toList) = false := by simp
      have d3 : (x.toList == x.toList) = true := by simp
      have d4 : (y.toList == y.toList) = true := by simp
      clear hx hy hxa hya he hss
      go_wp2
      go_quiet ((go_at_call 46; exact CS.out _ _))
      go_wp2
      go_roundw
      case rel => exact ⟨k + 1, by omega, by go_num, q + nq, rfl⟩
      case measure => simp [intOf]; omega
    · go_wp2
      go_ret
      exact ⟨rfl, q, rfl⟩
end Go.Proofs.YtiofpeckcfdilaaGreatDoor
