/- Contracts of the program's comparisons: slices.Equal at arms, sameTurn, slices.EqualFunc at turns. -/
import Derived.Test.YtcjanipjgjgjpaaTuOwnV
import Derived.Test.YtcjanipjgjgjpaaTuSameT
import Derived.Test.YtcjanipjgjgjpaaTuPeers
namespace Go.Proofs.Ytcjanipjgjgjpaa
open Go.RowKit

set_option maxHeartbeats 8000000 in
set_option maxRecDepth 20000 in
theorem ownEqual_any (a b : Option Addr) (n m ca cb : Nat) (l l' : List ArmL) (w : World) (bound : Nat) (ha : Arms w bound a n l) (hb : Arms w bound b m l') :
    Calls Try.prog 54 #[.slice a n ca, .slice b m cb] w fun e w' => e = .returned (.bool (sameAs l l')) ∧ ∃ q, w' = w.drewN q := by
  have hn := ha.1
  have hm := hb.1
  have hsn := ha.2.1
  have hsm := hb.2.1
  have HA := Lib.hid ha
  have HB := Lib.hid hb
  obtain ⟨R, hR⟩ : ∃ R, R = sameAs l l' := ⟨_, rfl⟩
  rw [← hR]
  have HR := Lib.hid hR
  clear ha hb hR
  by_cases hnm : n = m
  · subst hnm
    have HN := Lib.hid hn
    have HM := Lib.hid hm
    have nn : ((n : Int) != (n : Int)) = false := by simp
    clear hn hm
    go_enter Try.func54, Try.ntmps54
    go_wp2
    go_loopw [13] (fun i wr => ∃ k : Nat, k ≤ n ∧ i = .int .i64 k ∧ Hid (R = sameAs (l.drop k) (l'.drop k)) ∧ ∃ q, wr = w.drewN q) (fun i _ => n - (intOf i).toNat)
    case atStart => exact ⟨0, Nat.zero_le _, rfl, Lib.hid HR.out, 0, rfl⟩
    case round =>
      obtain ⟨k, hk, rfl, HK, q, rfl⟩ := hrel
      by_cases hlt : k < n
      · obtain ⟨b1, o1, s, u, ck, nx, rfl, _, hx, ⟨x0, x1, x2, x3⟩, _, _⟩ := HA.out.at_ hlt
        obtain ⟨b2, o2, s', u', ck', nx', rfl, _, hy, ⟨y0, y1, y2, y3⟩, _, _⟩ := HB.out.at_ hlt
        have hst := HK.out.trans (sameAs_at hx hy)
        unfold sameA1 at hst
        dsimp only at hst
        clear hx hy
        cases c1 : (s.toList == s'.toList)
        · rw [c1] at hst
          have HZ := Lib.hid hst
          clear hst
          go_wp2
          go_quiet (fail)
          go_wp2
          go_ret
          exact ⟨ret_bool (by rw [HZ.out]; rfl), q + nq, World.drewN_drewN _ _ _⟩
        rw [c1] at hst
        cases c2 : (ck == ck')
        · rw [c2] at hst
          have HZ := Lib.hid hst
          clear hst
          go_wp2
          go_quiet (fail)
          go_wp2
          go_ret
          exact ⟨ret_bool (by rw [HZ.out]; rfl), q + nq, World.drewN_drewN _ _ _⟩
        rw [c2] at hst
        cases c3 : (u.toList == u'.toList)
        · rw [c3] at hst
          have HZ := Lib.hid hst
          clear hst
          go_wp2
          go_quiet (fail)
          go_wp2
          go_ret
          exact ⟨ret_bool (by rw [HZ.out]; rfl), q + nq, World.drewN_drewN _ _ _⟩
        rw [c3] at hst
        cases c4 : (nx == nx')
        · rw [c4] at hst
          have HZ := Lib.hid hst
          clear hst
          go_wp2
          go_quiet (fail)
          go_wp2
          go_ret
          exact ⟨ret_bool (by rw [HZ.out]; rfl), q + nq, World.drewN_drewN _ _ _⟩
        · rw [c4] at hst
          have HZ := Lib.hid (show R = sameAs (l.drop (k + 1)) (l'.drop (k + 1)) from hst)
          clear hst
          go_wp2
          go_quiet (fail)
          go_wp2
          go_roundw
          case rel => exact ⟨k + 1, by omega, by go_num, HZ, q + nq, rfl⟩
          case measure => simp [intOf]; omega
      · have HZ := Lib.hid (show R = true by rw [HK.out, List.drop_of_length_le (by rw [HN.out]; omega), List.drop_of_length_le (by rw [HM.out]; omega)]; rfl)
        go_wp2
        go_ret
        exact ⟨ret_bool HZ.out.symm, q, rfl⟩
  · have HZ := Lib.hid (HR.out.trans (sameAs_len (by rw [hn, hm]; exact hnm)))
    have nn : ((n : Int) != (m : Int)) = true := by rw [bne_iff_ne]; omega
    have nn2 : ((n : Int) == (m : Int)) = false := by rw [beq_eq_false_iff_ne]; omega
    clear hn hm
    go_enter Try.func54, Try.ntmps54
    go_wp2
    go_ret
    exact ⟨ret_bool HZ.out.symm, 0, rfl⟩
end Go.Proofs.Ytcjanipjgjgjpaa
