/- Contracts of the program's comparisons: slices.Equal at arms, sameTurn, slices.EqualFunc at turns. -/
import Derived.Test.YtiofpeckcfdilaaGreatDoorTuOwnV
import Derived.Test.YtiofpeckcfdilaaGreatDoorTuSameT
import Derived.Test.YtiofpeckcfdilaaGreatDoorTuPeers
import Derived.Test.YtiofpeckcfdilaaGreatDoorTuTrimO
import Derived.Deep.RegionWith
namespace Go.Proofs.YtiofpeckcfdilaaGreatDoor
open Go.RowKit

set_option maxHeartbeats 8000000 in
set_option maxRecDepth 20000 in
theorem ownEqual_any (a b : Option Addr) (n m ca cb : Nat) (l l' : List ArmL) (w : World) (bound : Nat) (ha : Arms w bound a n l) (hb : Arms w bound b m l') :
    Calls Tryz.prog 91 #[.slice a n ca, .slice b m cb] w fun e w' => e = .returned (.bool (sameAs l l')) ∧ ∃ q, w' = w.drewN q := by
  have hn := ha.1
  have hm := hb.1
  have hsn := ha.2.1
  have hsm := hb.2.1
  have HA := Lib.hid ha
  have HB := Lib.hid hb
  obtain ⟨R, hR⟩ : ∃ R, R = sameAs l l' := ⟨_, rfl⟩
  rw [← hR]
  have HR := Lib.hid hR
  clear ha hb hR
  by_cases hnm : n = m
  · subst hnm
    have HN := Lib.hid hn
    have HM := Lib.hid hm
    have nn : ((n : Int) != (n : Int)) = false := by simp
    clear hn hm
    go_enter Tryz.func91, Tryz.ntmps91
    go_wp2
    go_loopw [13] (fun i wr => ∃ k : Nat, k ≤ n ∧ i = .int .i64 k ∧ Hid (R = sameAs (l.drop k) (l'.drop k)) ∧ ∃ q, wr = w.drewN q) (fun i _ => n - (intOf i).toNat)
    case atStart => exact ⟨0, Nat.zero_le _, rfl, Lib.hid HR.out, 0, rfl⟩
    case round =>
      obtain ⟨k, hk, rfl, HK, q, rfl⟩ := hrel
      by_cases hlt : k < n
      · obtain ⟨b1, o1, s, u, ck, nx, rfl, _, hx, ⟨x0, x1, x2, x3⟩, _, _⟩ := HA.out.at_ hlt
        obtain ⟨b2, o2, s', u', ck', nx', rfl, _, hy, ⟨y0, y1, y2, y3⟩, _, _⟩ := HB.out.at_ hlt
        have hst := HK.out.trans (sameAs_at hx hy)
        unfold sameA1 at hst
        dsimp only at hst
        clear hx hy
        cases c1 : (s.toList == s'.toList)
        · rw [c1] at hst
          have HZ := Lib.hid hst
          clear hst
          go_wp2
          go_quiet (fail)
          go_wp2
          go_ret
          exact ⟨ret_bool (by rw [HZ.out]; rfl), q + nq, World.drewN_drewN _ _ _⟩
        rw [c1] at hst
        cases c2 : (ck == ck')
        · rw [c2] at hst
          have HZ := Lib.hid hst
          clear hst
          go_wp2
          go_quiet (fail)
          go_wp2
          go_ret
          exact ⟨ret_bool (by rw [HZ.out]; rfl), q + nq, World.drewN_drewN _ _ _⟩
        rw [c2] at hst
        cases c3 : (u.toList == u'.toList)
        · rw [c3] at hst
          have HZ := Lib.hid hst
          clear hst
          go_wp2
          go_quiet (fail)
          go_wp2
          go_ret
          exact ⟨ret_bool (by rw [HZ.out]; rfl), q + nq, World.drewN_drewN _ _ _⟩
        rw [c3] at hst
        cases c4 : (nx == nx')
        · rw [c4] at hst
          have HZ := Lib.hid hst
          clear hst
          go_wp2
          go_quiet (fail)
          go_wp2
          go_ret
          exact ⟨ret_bool (by rw [HZ.out]; rfl), q + nq, World.drewN_drewN _ _ _⟩
        · rw [c4] at hst
          have HZ := Lib.hid (show R = sameAs (l.drop (k + 1)) (l'.drop (k + 1)) from hst)
          clear hst
          go_wp2
          go_quiet (fail)
          go_wp2
          go_roundw
          case rel => exact ⟨k + 1, by omega, by go_num, HZ, q + nq, rfl⟩
          case measure => simp [intOf]; omega
      · have HZ := Lib.hid (show R = true by rw [HK.out, List.drop_of_length_le (by rw [HN.out]; omega), List.drop_of_length_le (by rw [HM.out]; omega)]; rfl)
        go_wp2
        go_ret
        exact ⟨ret_bool HZ.out.symm, q, rfl⟩
  · have HZ := Lib.hid (HR.out.trans (sameAs_len (by rw [hn, hm]; exact hnm)))
    have nn : ((n : Int) != (m : Int)) = true := by rw [bne_iff_ne]; omega
    have nn2 : ((n : Int) == (m : Int)) = false := by rw [beq_eq_false_iff_ne]; omega
    clear hn hm
    go_enter Tryz.func91, Tryz.ntmps91
    go_wp2
    go_ret
    exact ⟨ret_bool HZ.out.symm, 0, rfl⟩
set_option maxHeartbeats 4000000 in
theorem ownSameTurn_any (k k' : Int) (s s' : ByteArray) (a a' : Option Addr) (n c n' c' : Nat) (l l' : List ArmL) (w : World) (bound : Nat) (hb : bound ≤ w.heap.size) (h : Arms w bound a n l) (h' : Arms w bound a' n' l') :
    Calls Tryz.prog 59 #[.agg #[.int .i64 k, .string s, .slice a n c], .agg #[.int .i64 k', .string s', .slice a' n' c']] w fun e w' => e = .returned (.bool (sameT1 ⟨k, s.toList, l⟩ ⟨k', s'.toList, l'⟩)) ∧ Below w.heap.size w w' := by
  have HB := Lib.hid (below_on (tu1 w (.cells #[.int .i64 k, .string s, .slice a n c] 51)) (tu1 (w.alloc (.cells #[.int .i64 k, .string s, .slice a n c] 51)) (.cells #[.int .i64 k', .string s', .slice a' n' c'] 51)))
  have CE := Lib.hid (fun (W : World) (hW : Below w.heap.size w W) => ownEqual_any a a' n n' c c' l l' W bound (h.below (hW.mono hb)) (h'.below (hW.mono hb)))
  obtain ⟨R, hR⟩ : ∃ R, R = sameT1 ⟨k, s.toList, l⟩ ⟨k', s'.toList, l'⟩ := ⟨_, rfl⟩
  rw [← hR]
  unfold sameT1 at hR
  dsimp only at hR
  clear h h'
  cases c1 : (k == k')
  · rw [c1] at hR
    have HZ := Lib.hid hR
    clear hR
    go_enter Tryz.func59, Tryz.ntmps59
    go_wp2_with fail
    go_ret
    exact ⟨ret_bool (by rw [HZ.out]; rfl), HB.out⟩
  rw [c1] at hR
  cases c2 : (s.toList == s'.toList)
  · rw [c2] at hR
    have HZ := Lib.hid hR
    clear hR
    go_enter Tryz.func59, Tryz.ntmps59
    go_wp2_with fail
    go_ret
    exact ⟨ret_bool (by rw [HZ.out]; rfl), HB.out⟩
  · rw [c2] at hR
    have HZ := Lib.hid (show R = sameAs l l' from hR)
    clear hR
    go_enter Tryz.func59, Tryz.ntmps59
    go_wp2_with (first
      | (go_at_call 91; (with_reducible refine (CE.out _ HB.out).mono ?_)
         rintro e w2 ⟨rfl, q, rfl⟩)
      | fail)
    go_ret
    exact ⟨ret_bool HZ.out.symm, bel_drewN HB.out q⟩
set_option maxHeartbeats 8000000 in
set_option maxRecDepth 20000 in
theorem ownEqualFunc_any (a b : Option Addr) (n m ca cb : Nat) (l l' : List TurnL) (w : World) (bound : Nat) (hbd : bound ≤ w.heap.size) (ha : Turns w bound a n l) (hb : Turns w bound b m l') :
    Calls Tryz.prog 58 #[.slice a n ca, .slice b m cb, .func (.func 59) #[] #[]] w fun e w' => e = .returned (.bool (sameTs l l')) ∧ Below w.heap.size w w' := by
  have hn := ha.1
  have hm := hb.1
  have hsn := ha.2.1
  have hsm := hb.2.1
  have HA := Lib.hid ha
  have HB := Lib.hid hb
  obtain ⟨R, hR⟩ : ∃ R, R = sameTs l l' := ⟨_, rfl⟩
  rw [← hR]
  have HR := Lib.hid hR
  clear ha hb hR
  by_cases hnm : n = m
  · subst hnm
    have HN := Lib.hid hn
    have HM := Lib.hid hm
    have nn : ((n : Int) != (n : Int)) = false := by simp
    clear hn hm
    go_enter Tryz.func58, Tryz.ntmps58
    go_wp2
    go_loopw [17] (fun i wr => ∃ k : Nat, k ≤ n ∧ i = .int .i64 k ∧ Hid (R = sameTs (l.drop k) (l'.drop k)) ∧ Hid (Below w.heap.size w wr)) (fun i _ => n - (intOf i).toNat)
    case atStart => exact ⟨0, Nat.zero_le _, rfl, Lib.hid HR.out, Lib.hid (Below.refl _ _)⟩
    case round =>
      obtain ⟨k, hk, rfl, HK, HBr⟩ := hrel
      by_cases hlt : k < n
      · obtain ⟨b1, o1, kd, s, aa, an, ac, xl, rfl, hb1, hx, ⟨x0, x1, x2⟩, hs, hal⟩ := HA.out.at_ hlt
        obtain ⟨b2, o2, kd', s', aa', an', ac', yl, rfl, hb2, hy, ⟨y0, y1, y2⟩, hs', hal'⟩ := HB.out.at_ hlt
        have p0 := (HBr.out.cell (p := ⟨b1, o1 + k * 3, none⟩) (by show b1 < _; omega)).trans x0
        have p1 := (HBr.out.cell (p := ⟨b1, o1 + k * 3 + 1, none⟩) (by show b1 < _; omega)).trans x1
        have p2 := (HBr.out.cell (p := ⟨b1, o1 + k * 3 + 2, none⟩) (by show b1 < _; omega)).trans x2
        have q0 := (HBr.out.cell (p := ⟨b2, o2 + k * 3, none⟩) (by show b2 < _; omega)).trans y0
        have q1 := (HBr.out.cell (p := ⟨b2, o2 + k * 3 + 1, none⟩) (by show b2 < _; omega)).trans y1
        have q2 := (HBr.out.cell (p := ⟨b2, o2 + k * 3 + 2, none⟩) (by show b2 < _; omega)).trans y2
        have hz1 : b1 < wr.heap.size := by have := HBr.out.size; omega
        have hz2 : b2 < wr.heap.size := by have := HBr.out.size; omega
        have hst := HK.out.trans (sameTs_at hx hy)
        have HB2 := Lib.hid (below_on HBr.out (below_on (tu1 wr (.cells #[.int .i64 kd, .string s, .slice aa an ac] 51)) (tu1 (wr.alloc (.cells #[.int .i64 kd, .string s, .slice aa an ac] 51)) (.cells #[.int .i64 kd', .string s', .slice aa' an' ac'] 51))))
        have CT := Lib.hid (fun (W : World) (hW : Below w.heap.size w W) => ownSameTurn_any kd kd' s s' aa aa' an ac an' ac' xl yl W bound (by have := hW.size; omega) (hal.below (hW.mono hbd)) (hal'.below (hW.mono hbd)))
        clear hx hy x0 x1 x2 y0 y1 y2 hal hal'
        cases hc : sameT1 ⟨kd, s.toList, xl⟩ ⟨kd', s'.toList, yl⟩
        · rw [hc] at CT hst
          have HZ := Lib.hid hst
          clear hst hc
          go_wp2_with (first
            | (go_at_call 59; (with_reducible refine (CT.out _ HB2.out).mono ?_)
               rintro e w4 ⟨rfl, hb4⟩
               have HB4 := Lib.hid (below_on HB2.out hb4)
               clear hb4)
            | fail)
          go_ret
          exact ⟨ret_bool (by rw [HZ.out]; rfl), HB4.out⟩
        · rw [hc] at CT hst
          have HZ := Lib.hid (show R = sameTs (l.drop (k + 1)) (l'.drop (k + 1)) from hst)
          clear hst hc
          go_wp2_with (first
            | (go_at_call 59; (with_reducible refine (CT.out _ HB2.out).mono ?_)
               rintro e w4 ⟨rfl, hb4⟩
               have HB4 := Lib.hid (below_on HB2.out hb4)
               clear hb4)
            | fail)
          go_roundw
          case rel => exact ⟨k + 1, by omega, by go_num, HZ, HB4⟩
          case measure => simp [intOf]; omega
      · have HZ := Lib.hid (show R = true by rw [HK.out, List.drop_of_length_le (by rw [HN.out]; omega), List.drop_of_length_le (by rw [HM.out]; omega)]; rfl)
        go_wp2
        go_ret
        exact ⟨ret_bool HZ.out.symm, HBr.out⟩
  · have HZ := Lib.hid (HR.out.trans (sameTs_len (by rw [hn, hm]; exact hnm)))
    have nn : ((n : Int) != (m : Int)) = true := by rw [bne_iff_ne]; omega
    have nn2 : ((n : Int) == (m : Int)) = false := by rw [beq_eq_false_iff_ne]; omega
    clear hn hm
    go_enter Tryz.func58, Tryz.ntmps58
    go_wp2
    go_ret
    exact ⟨ret_bool HZ.out.symm, Below.refl _ _⟩
end Go.Proofs.YtiofpeckcfdilaaGreatDoor

/- Contract of the program's Same. -/
namespace Go.Proofs.YtiofpeckcfdilaaGreatDoor
open Go.RowKit

/-- Do two types have the same trims? -/
def sameL (ts us : List TurnL) : Bool := locB ts && locB us && sameTs (trimL ts) (trimL us)
theorem bel_drew1 {B : Nat} {a w : World} (h : Below B a w) : Below B a w.drew := ⟨h.os, h.tape, h.output, h.size, h.block⟩
theorem bel_undrew {B : Nat} {a w : World} (h : Below B a.drew w) : Below B a w := ⟨h.os, h.tape, h.output, h.size, h.block⟩
theorem field_turns (x : ByteArray) (a : Option Addr) (n c : Nat) (W : World) : (Instr.field 24 (.agg #[.string x, .slice a n c]) 1).run Tryz.prog W = .ok (.slice a n c) W := by kernel_rfl

set_option maxHeartbeats 16000000 in
set_option maxRecDepth 20000 in
theorem ownSame_any (nm nm' : ByteArray) (a a' : Option Addr) (n c n' c' : Nat) (ts us : List TurnL) (w : World) (bound : Nat) (hb : bound ≤ w.heap.size) (h : Turns w bound a n ts) (h' : Turns w bound a' n' us) :
    Calls Tryz.prog 24 #[.agg #[.string nm, .slice a n c], .agg #[.string nm', .slice a' n' c']] w fun e w' => e = .returned (.bool (sameL ts us)) ∧ Below w.heap.size w w' := by
  have HB0 := Lib.hid (below_on (tu1 w (.cells #[.string nm, .slice a n c] 24)) (tu1 (w.alloc (.cells #[.string nm, .slice a n c] 24)) (.cells #[.string nm', .slice a' n' c'] 24)))
  have HL := Lib.hid ((LBox.new w nm a n c).on (tu1 (w.alloc (.cells #[.string nm, .slice a n c] 24)) (.cells #[.string nm', .slice a' n' c'] 24)))
  have HX := Lib.hid (LBox.new (w.alloc (.cells #[.string nm, .slice a n c] 24)) nm' a' n' c')
  rw [World.size_alloc] at HX
  have CM := Lib.hid (fun (W : World) (hW : Below w.heap.size w W) => ownMay_any nm a n c ts W bound (by have := hW.size; omega) (h.below (hW.mono hb)))
  have CN := Lib.hid (fun (W : World) (hW : Below w.heap.size w W) => ownMay_any nm' a' n' c' us W bound (by have := hW.size; omega) (h'.below (hW.mono hb)))
  have CT := Lib.hid (fun (W : World) (hW : Below w.heap.size w W) => ownTrim_any nm a n c ts W bound (by have := hW.size; omega) (h.below (hW.mono hb)))
  have CU := Lib.hid (fun (W : World) (hW : Below w.heap.size w W) => ownTrim_any nm' a' n' c' us W bound (by have := hW.size; omega) (h'.below (hW.mono hb)))
  have CE := Lib.hid (fun (xa ya : Option Addr) (xn xc yn yc : Nat) (W : World) (hx : Turns W W.heap.size xa xn (trimL ts)) (hy : Turns W W.heap.size ya yn (trimL us)) => ownEqualFunc_any xa ya xn yn xc yc _ _ W W.heap.size (Nat.le_refl _) hx hy)
  obtain ⟨lc0, lc1⟩ := HL.out.cells
  obtain ⟨xc0, xc1⟩ := HX.out.cells
  obtain ⟨R, hR⟩ : ∃ R, R = sameL ts us := ⟨_, rfl⟩
  rw [← hR]
  unfold sameL at hR
  clear h h'
  cases hv : locB ts
  · rw [hv] at CM hR
    have HZ := Lib.hid hR
    clear hR hv
    go_enter Tryz.func24, Tryz.ntmps24
    go_wp2
    go_region_with (first
      | (go_at_call 53; (with_reducible refine (CM.out _ (bel_drew1 HB0.out)).mono ?_)
         rintro e w1 ⟨rfl, hb1⟩
         have HB1 := Lib.hid (below_on HB0.out (bel_undrew hb1))
         clear hb1)
      | fail)
    all_goals
      go_wp2_with fail
      go_ret
      exact ⟨ret_bool HZ.out.symm, HB1.out⟩
  rw [hv] at CM hR
  cases hu : locB us
  · rw [hu] at CN hR
    have HZ := Lib.hid hR
    clear hR hv hu
    go_enter Tryz.func24, Tryz.ntmps24
    go_wp2
    go_region_with (first
      | (go_at_call 53; (with_reducible refine (CM.out _ (bel_drew1 HB0.out)).mono ?_)
         rintro e w1 ⟨rfl, hb1⟩
         have HB1 := Lib.hid (below_on HB0.out (bel_undrew hb1))
         obtain ⟨_, _⟩ := (HL.out.on (bel_undrew hb1)).cells
         obtain ⟨_, _⟩ := (HX.out.on (bel_undrew hb1)).cells
         clear hb1)
      | (go_at_call 53; (with_reducible refine (CN.out _ HB1.out).mono ?_)
         rintro e w2 ⟨rfl, hb2⟩
         have HB2 := Lib.hid (below_on HB1.out hb2)
         clear hb2)
      | fail)
    all_goals
      go_wp2_with fail
      go_ret
      exact ⟨ret_bool (by rw [HZ.out]; rfl), HB2.out⟩
  rw [hu] at CN hR
  have HZ := Lib.hid (show R = sameTs (trimL ts) (trimL us) from hR)
  have hfa := fun xa xn xc W => field_turns (trimName ts nm) xa xn xc W
  have hfb := fun xa xn xc W => field_turns (trimName us nm') xa xn xc W
  clear hR hv hu
  go_enter Tryz.func24, Tryz.ntmps24
  go_wp2
  go_region_with (first
    | (go_at_call 53; (with_reducible refine (CM.out _ (bel_drew1 HB0.out)).mono ?_)
       rintro e w1 ⟨rfl, hb1⟩
       have HB1 := Lib.hid (below_on HB0.out (bel_undrew hb1))
       have HL1 := Lib.hid (HL.out.on (bel_undrew hb1))
       have HX1 := Lib.hid (HX.out.on (bel_undrew hb1))
       obtain ⟨_, _⟩ := HL1.out.cells
       obtain ⟨_, _⟩ := HX1.out.cells
       clear hb1)
    | (go_at_call 53; (with_reducible refine (CN.out _ HB1.out).mono ?_)
       rintro e w2 ⟨rfl, hb2⟩
       have HB2 := Lib.hid (below_on HB1.out hb2)
       have HL2 := Lib.hid (HL1.out.on hb2)
       have HX2 := Lib.hid (HX1.out.on hb2)
       obtain ⟨_, _⟩ := HL2.out.cells
       obtain ⟨_, _⟩ := HX2.out.cells
       clear hb2)
    | (go_at_call 32; (with_reducible refine (CT.out _ HB2.out).mono ?_)
       rintro e w3 ⟨⟨xa, xn, xc, rfl, ht3⟩, hb3⟩
       have HT3 := Lib.hid ht3
       have HB3 := Lib.hid (below_on HB2.out hb3)
       have HX3 := Lib.hid (HX2.out.on hb3)
       obtain ⟨_, _⟩ := HX3.out.cells
       clear hb3 ht3)
    | (go_at_call 32; (with_reducible refine (CU.out _ HB3.out).mono ?_)
       rintro e w4 ⟨⟨ya, yn, yc, rfl, hu4⟩, hb4⟩
       have HU4 := Lib.hid hu4
       have HT4 := Lib.hid (HT3.out.on hb4)
       have HB4 := Lib.hid (below_on HB3.out hb4)
       clear hb4 hu4)
    | (go_at_call 58; (with_reducible refine (CE.out xa ya xn xc yn yc _ HT4.out HU4.out).mono ?_)
       rintro e w5 ⟨rfl, hb5⟩
       have HB5 := Lib.hid (below_on HB4.out hb5)
       clear hb5)
    | fail)
  all_goals
    go_wp2_with fail
    go_ret
    exact ⟨ret_bool HZ.out.symm, HB5.out⟩
end Go.Proofs.YtiofpeckcfdilaaGreatDoor
