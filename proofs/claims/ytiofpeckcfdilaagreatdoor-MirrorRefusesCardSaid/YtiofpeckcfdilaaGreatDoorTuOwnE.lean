/- Contracts of the program's comparisons: slices.Equal at arms, sameTurn, slices.EqualFunc at turns. -/
import Derived.Test.YtiofpeckcfdilaaGreatDoorTuOwnV
import Derived.Test.YtiofpeckcfdilaaGreatDoorTuSameT
import Derived.Test.YtiofpeckcfdilaaGreatDoorTuPeers
namespace Go.Proofs.YtiofpeckcfdilaaGreatDoor
open Go.RowKit

set_option maxHeartbeats 8000000 in
set_option maxRecDepth 20000 in
theorem ownEqual_any (a b : Option Addr) (n m ca cb : Nat) (l l' : List ArmL) (w : World) (bound : Nat) (ha : Arms w bound a n l) (hb : Arms w bound b m l') :
    Calls Tryz.prog 91 #[.slice a n ca, .slice b m cb] w fun e w' => e = .returned (.bool (sameAs l l')) ∧ ∃ q, w' = w.drewN q := by
  have hn := ha.1
  have hm := hb.1
  have hsn := ha.2.1
  have hsm := hb.2.1
  have HA := Lib.hid ha
  have HB := Lib.hid hb
  obtain ⟨R, hR⟩ : ∃ R, R = sameAs l l' := ⟨_, rfl⟩
  rw [← hR]
  have HR := Lib.hid hR
  clear ha hb hR
  by_cases hnm : n = m
  · subst hnm
    have HN := Lib.hid hn
    have HM := Lib.hid hm
    have nn : ((n : Int) != (n : Int)) = false := by simp
    clear hn hm
    go_enter Tryz.func91, Tryz.ntmps91
    go_wp2
    go_loopw [13] (fun i wr => ∃ k : Nat, k ≤ n ∧ i = .int .i64 k ∧ Hid (R = sameAs (l.drop k) (l'.drop k)) ∧ ∃ q, wr = w.drewN q) (fun i _ => n - (intOf i).toNat)
    case atStart => exact ⟨0, Nat.zero_le _, rfl, Lib.hid HR.out, 0, rfl⟩
    case round =>
      obtain ⟨k, hk, rfl, HK, q, rfl⟩ := hrel
      by_cases hlt : k < n
      · obtain ⟨b1, o1, s, u, ck, nx, rfl, _, hx, ⟨x0, x1, x2, x3⟩, _, _⟩ := HA.out.at_ hlt
        obtain ⟨b2, o2, s', u', ck', nx', rfl, _, hy, ⟨y0, y1, y2, y3⟩, _, _⟩ := HB.out.at_ hlt
        have hst := HK.out.trans (sameAs_at hx hy)
        unfold sameA1 at hst
        dsimp only at hst
        clear hx hy
        cases c1 : (s.toList == s'.toList)
        · rw [c1] at hst
          have HZ := Lib.hid hst
          clear hst
          go_wp2
          go_quiet (fail)
          go_wp2
          go_ret
          exact ⟨ret_bool (by rw [HZ.out]; rfl), q + nq, World.drewN_drewN _ _ _⟩
        rw [c1] at hst
        cases c2 : (ck == ck')
        · rw [c2] at hst
          have HZ := Lib.hid hst
          clear hst
          go_wp2
          go_quiet (fail)
          go_wp2
          go_ret
          exact ⟨ret_bool (by rw [HZ.out]; rfl), q + nq, World.drewN_drewN _ _ _⟩
        rw [c2] at hst
        cases c3 : (u.toList == u'.toList)
        · rw [c3] at hst
          have HZ := Lib.hid hst
          clear hst
          go_wp2
          go_quiet (fail)
          go_wp2
          go_ret
          exact ⟨ret_bool (by rw [HZ.out]; rfl), q + nq, World.drewN_drewN _ _ _⟩
        rw [c3] at hst
        cases c4 : (nx == nx')
        · rw [c4] at hst
          have HZ := Lib.hid hst
          clear hst
          go_wp2
          go_quiet (fail)
          go_wp2
          go_ret
          exact ⟨ret_bool (by rw [HZ.out]; rfl), q + nq, World.drewN_drewN _ _ _⟩
        · rw [c4] at hst
          have HZ := Lib.hid (show R = sameAs (l.drop (k + 1)) (l'.drop (k + 1)) from hst)
          clear hst
          go_wp2
          go_quiet (fail)
          go_wp2
          go_roundw
          case rel => exact ⟨k + 1, by omega, by go_num, HZ, q + nq, rfl⟩
          case measure => simp [intOf]; omega
      · have HZ := Lib.hid (show R = true by rw [HK.out, List.drop_of_length_le (by rw [HN.out]; omega), List.drop_of_length_le (by rw [HM.out]; omega)]; rfl)
        go_wp2
        go_ret
        exact ⟨ret_bool HZ.out.symm, q, rfl⟩
  · have HZ := Lib.hid (HR.out.trans (sameAs_len (by rw [hn, hm]; exact hnm)))
    have nn : ((n : Int) != (m : Int)) = true := by rw [bne_iff_ne]; omega
    have nn2 : ((n : Int) == (m : Int)) = false := by rw [beq_eq_false_iff_ne]; omega
    clear hn hm
    go_enter Tryz.func91, Tryz.ntmps91
    go_wp2
    go_ret
    exact ⟨ret_bool HZ.out.symm, 0, rfl⟩
set_option maxHeartbeats 4000000 in
theorem ownSameTurn_any (k k' : Int) (s s' : ByteArray) (a a' : Option Addr) (n c n' c' : Nat) (l l' : List ArmL) (w : World) (bound : Nat) (hb : bound ≤ w.heap.size) (h : Arms w bound a n l) (h' : Arms w bound a' n' l') :
    Calls Tryz.prog 59 #[.agg #[.int .i64 k, .string s, .slice a n c], .agg #[.int .i64 k', .string s', .slice a' n' c']] w fun e w' => e = .returned (.bool (sameT1 ⟨k, s.toList, l⟩ ⟨k', s'.toList, l'⟩)) ∧ Below w.heap.size w w' := by
  have HB := Lib.hid (below_on (tu1 w (.cells #[.int .i64 k, .string s, .slice a n c] 51)) (tu1 (w.alloc (.cells #[.int .i64 k, .string s, .slice a n c] 51)) (.cells #[.int .i64 k', .string s', .slice a' n' c'] 51)))
  have CE := Lib.hid (fun (W : World) (hW : Below w.heap.size w W) => ownEqual_any a a' n n' c c' l l' W bound (h.below (hW.mono hb)) (h'.below (hW.mono hb)))
  obtain ⟨R, hR⟩ : ∃ R, R = sameT1 ⟨k, s.toList, l⟩ ⟨k', s'.toList, l'⟩ := ⟨_, rfl⟩
  rw [← hR]
  unfold sameT1 at hR
  dsimp only at hR
  clear h h'
  cases c1 : (k == k')
  · rw [c1] at hR
    have HZ := Lib.hid hR
    clear hR
    go_enter Tryz.func59, Tryz.ntmps59
    go_wp2_with fail
    go_ret
    exact ⟨ret_bool (by rw [HZ.out]; rfl), HB.out⟩
  rw [c1] at hR
  cases c2 : (s.toList == s'.toList)
  · rw [c2] at hR
    have HZ := Lib.hid hR
    clear hR
    go_enter Tryz.func59, Tryz.ntmps59
    go_wp2_with fail
    go_ret
    exact ⟨ret_bool (by rw [HZ.out]; rfl), HB.out⟩
  · rw [c2] at hR
    have HZ := Lib.hid (show R = sameAs l l' from hR)
    clear hR
    go_enter Tryz.func59, Tryz.ntmps59
    go_wp2_with (first
      | (go_at_call 91; (with_reducible refine (CE.out _ HB.out).mono ?_)
         rintro e w2 ⟨rfl, q, rfl⟩)
      | fail)
    go_ret
    exact ⟨ret_bool HZ.out.symm, bel_drewN HB.out q⟩
set_option maxHeartbeats 8000000 in
set_option maxRecDepth 20000 in
theorem ownEqualFunc_any (a b : Option Addr) (n m ca cb : Nat) (l l' : List TurnL) (w : World) (bound : Nat) (hbd : bound ≤ w.heap.size) (ha : Turns w bound a n l) (hb : Turns w bound b m l') :
    Calls Tryz.prog 58 #[.slice a n ca, .slice b m cb, .func (.func 59) #[] #[]] w fun e w' => e = .returned (.bool (sameTs l l')) ∧ Below w.heap.size w w' := by
  have hn := ha.1
  have hm := hb.1
  have hsn := ha.2.1
  have hsm := hb.2.1
  have HA := Lib.hid ha
  have HB := Lib.hid hb
  obtain ⟨R, hR⟩ : ∃ R, R = sameTs l l' := ⟨_, rfl⟩
  rw [← hR]
  have HR := Lib.hid hR
  clear ha hb hR
  by_cases hnm : n = m
  · subst hnm
    have HN := Lib.hid hn
    have HM := Lib.hid hm
    have nn : ((n : Int) != (n : Int)) = false := by simp
    clear hn hm
    go_enter Tryz.func58, Tryz.ntmps58
    go_wp2
    go_loopw [17] (fun i wr => ∃ k : Nat, k ≤ n ∧ i = .int .i64 k ∧ Hid (R = sameTs (l.drop k) (l'.drop k)) ∧ Hid (Below w.heap.size w wr)) (fun i _ => n - (intOf i).toNat)
    case atStart => exact ⟨0, Nat.zero_le _, rfl, Lib.hid HR.out, Lib.hid (Below.refl _ _)⟩
    case round =>
      obtain ⟨k, hk, rfl, HK, HBr⟩ := hrel
      by_cases hlt : k < n
      · obtain ⟨b1, o1, kd, s, aa, an, ac, xl, rfl, hb1, hx, ⟨x0, x1, x2⟩, hs, hal⟩ := HA.out.at_ hlt
        obtain ⟨b2, o2, kd', s', aa', an', ac', yl, rfl, hb2, hy, ⟨y0, y1, y2⟩, hs', hal'⟩ := HB.out.at_ hlt
        have p0 := (HBr.out.cell (p := ⟨b1, o1 + k * 3, none⟩) (by show b1 < _; omega)).trans x0
        have p1 := (HBr.out.cell (p := ⟨b1, o1 + k * 3 + 1, none⟩) (by show b1 < _; omega)).trans x1
        have p2 := (HBr.out.cell (p := ⟨b1, o1 + k * 3 + 2, none⟩) (by show b1 < _; omega)).trans x2
        have q0 := (HBr.out.cell (p := ⟨b2, o2 + k * 3, none⟩) (by show b2 < _; omega)).trans y0
        have q1 := (HBr.out.cell (p := ⟨b2, o2 + k * 3 + 1, none⟩) (by show b2 < _; omega)).trans y1
        have q2 := (HBr.out.cell (p := ⟨b2, o2 + k * 3 + 2, none⟩) (by show b2 < _; omega)).trans y2
        have hz1 : b1 < wr.heap.size := by have := HBr.out.size; omega
        have hz2 : b2 < wr.heap.size := by have := HBr.out.size; omega
        have hst := HK.out.trans (sameTs_at hx hy)
        have HB2 := Lib.hid (below_on HBr.out (below_on (tu1 wr (.cells #[.int .i64 kd, .string s, .slice aa an ac] 51)) (tu1 (wr.alloc (.cells #[.int .i64 kd, .string s, .slice aa an ac] 51)) (.cells #[.int .i64 kd', .string s', .slice aa' an' ac'] 51))))
        have CT := Lib.hid (fun (W : World) (hW : Below w.heap.size w W) => ownSameTurn_any kd kd' s s' aa aa' an ac an' ac' xl yl W bound (by have := hW.size; omega) (hal.below (hW.mono hbd)) (hal'.below (hW.mono hbd)))
        clear hx hy x0 x1 x2 y0 y1 y2 hal hal'
        cases hc : sameT1 ⟨kd, s.toList, xl⟩ ⟨kd', s'.toList, yl⟩
        · rw [hc] at CT hst
          have HZ := Lib.hid hst
          clear hst hc
          go_wp2_with (first
            | (go_at_call 59; (with_reducible refine (CT.out _ HB2.out).mono ?_)
               rintro e w4 ⟨rfl, hb4⟩
               have HB4 := Lib.hid (below_on HB2.out hb4)
               clear hb4)
            | fail)
          go_ret
          exact ⟨ret_bool (by rw [HZ.out]; rfl), HB4.out⟩
        · rw [hc] at CT hst
          have HZ := Lib.hid (show R = sameTs (l.drop (k + 1)) (l'.drop (k + 1)) from hst)
          clear hst hc
          go_wp2_with (first
            | (go_at_call 59; (with_reducible refine (CT.out _ HB2.out).mono ?_)
               rintro e w4 ⟨rfl, hb4⟩
               have HB4 := Lib.hid (below_on HB2.out hb4)
               clear hb4)
            | fail)
          go_roundw
          case rel => exact ⟨k + 1, by omega, by go_num, HZ, HB4⟩
          case measure => simp [intOf]; omega
      · have HZ := Lib.hid (show R = true by rw [HK.out, List.drop_of_length_le (by rw [HN.out]; omega), List.drop_of_length_le (by rw [HM.out]; omega)]; rfl)
        go_wp2
        go_ret
        exact ⟨ret_bool HZ.out.symm, HBr.out⟩
  · have HZ := Lib.hid (HR.out.trans (sameTs_len (by rw [hn, hm]; exact hnm)))
    have nn : ((n : Int) != (m : Int)) = true := by rw [bne_iff_ne]; omega
    have nn2 : ((n : Int) == (m : Int)) = false := by rw [beq_eq_false_iff_ne]; omega
    clear hn hm
    go_enter Tryz.func58, Tryz.ntmps58
    go_wp2
    go_ret
    exact ⟨ret_bool HZ.out.symm, Below.refl _ _⟩
end Go.Proofs.YtiofpeckcfdilaaGreatDoor
