/- Contract of the program's fits. -/
import Derived.Test.YtifinfmdjbglhaaDoorLxOwnK
namespace Go.Proofs.YtifinfmdjbglhaaDoor
open Go.RowKit

set_option maxHeartbeats 2000000 in
theorem ownFits_any (k : Int) (s : ByteArray) (p : Int) (neg : Bool) (w : World) (hs : s.size ≤ 1100000) (he : ErrCell w) :
    Calls Tryd.prog 25 #[.agg #[.int .i64 k, .string s, .int .i64 p], .bool neg] w fun e w' => e = .returned (.bool (mayHereI (!neg) k s.toList)) ∧ Below w.heap.size w w' := by
  have HB := Lib.hid ((Below.refl w.heap.size w).alloc (Nat.le_refl _) (.cells #[.int .i64 k, .string s, .int .i64 p] 35))
  have HFP := Lib.hid (fits_plain neg k s.toList)
  cases z2 : (k == 2)
  · obtain ⟨kd, n, hkn⟩ : ∃ kd n, plainS neg s.toList = (kd, n) := ⟨_, _, rfl⟩
    have cp : ∀ W, Calls Tryd.prog 35 #[.string s, .bool neg] W fun e w' => e = .returned (.tuple #[.int .i64 (kd : Nat), .int .i64 (n : Nat)]) ∧ Below W.heap.size W w' := fun W => by
      have h := ownPlain_any s neg W hs
      rw [hkn] at h
      exact h
    have CP := Lib.hid cp
    have HV := Lib.hid (show mayHereI (!neg) k s.toList = (decide (0 < n) && n == s.size && ((kd : Nat) : Int) == k && (kd != 1 || numeral s.toList)) by
      rw [← HFP.out]
      unfold fitsP
      rw [z2, hkn, lxLen]; rfl)
    have hdig : kd = 1 → n = s.size → digitsS s.toList := fun h1 h2 => by
      cases hsl : s.toList with
      | nil => rw [hsl] at hkn; injection hkn with e1 e2; omega
      | cons c r =>
        have := plain_digits (neg := neg) (c := c) (r := r)
        rw [← hsl, hkn] at this
        have h3 : digitsS (s.toList.take n) := this h1
        rw [← lxLen] at h2
        rw [h2, List.take_length] at h3
        exact hsl ▸ h3
    clear cp hkn
    cases c1 : decide (0 < n)
    · have d1 : decide ((0 : Int) < (n : Int)) = false := by rw [← c1, decide_eq_decide]; omega
      have HF := Lib.hid (show false = mayHereI (!neg) k s.toList by rw [HV.out, c1]; rfl)
      go_enter Tryd.func25, Tryd.ntmps25
      go_wp2_with (first
        | (go_at_call 35; (with_reducible refine (CP.out _).mono ?_); rintro e w1 ⟨rfl, hb1⟩
           obtain ⟨hcc, hff⟩ := bcell hb1
           have hzz : w.heap.size < w1.heap.size := by have := hb1.size; simp at this; omega
           have HB1 := Lib.hid (HB.out.trans (hb1.mono HB.out.size))
           clear hb1)
        | fail)
      go_ret
      exact ⟨ret_bool HF.out, HB1.out⟩
    · have d1 : decide ((0 : Int) < (n : Int)) = true := by rw [← c1, decide_eq_decide]; omega
      cases c2 : (n == s.size)
      · have d2 : (((n : Nat) : Int) == (s.size : Int)) = false := by rw [← c2, Bool.eq_iff_iff, beq_iff_eq, beq_iff_eq]; omega
        have HF := Lib.hid (show false = mayHereI (!neg) k s.toList by rw [HV.out, c1, c2]; rfl)
        go_enter Tryd.func25, Tryd.ntmps25
        go_wp2_with (first
          | (go_at_call 35; (with_reducible refine (CP.out _).mono ?_); rintro e w1 ⟨rfl, hb1⟩
             obtain ⟨hcc, hff⟩ := bcell hb1
             have hzz : w.heap.size < w1.heap.size := by have := hb1.size; simp at this; omega
             have HB1 := Lib.hid (HB.out.trans (hb1.mono HB.out.size))
             clear hb1)
          | fail)
        go_ret
        exact ⟨ret_bool HF.out, HB1.out⟩
      · have d2 : (((n : Nat) : Int) == (s.size : Int)) = true := by rw [← c2, Bool.eq_iff_iff, beq_iff_eq, beq_iff_eq]; omega
        cases c3 : (((kd : Nat) : Int) == k)
        · have HF := Lib.hid (show false = mayHereI (!neg) k s.toList by rw [HV.out, c1, c2, c3]; rfl)
          go_enter Tryd.func25, Tryd.ntmps25
          go_wp2_with (first
            | (go_at_call 35; (with_reducible refine (CP.out _).mono ?_); rintro e w1 ⟨rfl, hb1⟩
               obtain ⟨hcc, hff⟩ := bcell hb1
               have hzz : w.heap.size < w1.heap.size := by have := hb1.size; simp at this; omega
               have HB1 := Lib.hid (HB.out.trans (hb1.mono HB.out.size))
               clear hb1)
            | fail)
          go_ret
          exact ⟨ret_bool HF.out, HB1.out⟩
        · cases c4 : (kd != 1)
          · have hk1 : kd = 1 := by
              unfold bne at c4
              simpa using c4
            have d4 : (((kd : Nat) : Int) != 1) = false := by rw [hk1]; rfl
            have cc := fun W (hW : ErrCell W) => ownCanonical_any s W hs (hdig hk1 (eq_of_beq c2)) hW
            have HE := Lib.hid he
            cases hn : numeral s.toList
            all_goals
              rw [hn] at cc
              have CC := Lib.hid cc
              have HF := Lib.hid (show numeral s.toList = mayHereI (!neg) k s.toList by rw [HV.out, c1, c2, c3, c4]; simp)
              rw [hn] at HF
              clear cc hn hdig hk1 he
              go_enter Tryd.func25, Tryd.ntmps25
              go_wp2_with (first
                | (go_at_call 35; (with_reducible refine (CP.out _).mono ?_); rintro e w1 ⟨rfl, hb1⟩
                   obtain ⟨hcc, hff⟩ := bcell hb1
                   have hzz : w.heap.size < w1.heap.size := by have := hb1.size; simp at this; omega
                   have HB1 := Lib.hid (HB.out.trans (hb1.mono HB.out.size))
                   clear hb1)
                | (go_at_call 36; (with_reducible refine (CC.out _ (HE.out.keep HB1.out)).mono ?_); rintro e w2 ⟨rfl, hb2⟩
                   have HB2 := Lib.hid (HB1.out.trans (hb2.mono HB1.out.size))
                   clear hb2)
                | fail)
              go_ret
              exact ⟨ret_bool HF.out, HB2.out⟩
          · have d4 : (((kd : Nat) : Int) != 1) = true := by
              unfold bne at c4 ⊢
              rw [Bool.not_eq_true', beq_eq_false_iff_ne] at c4 ⊢
              omega
            have HF := Lib.hid (show true = mayHereI (!neg) k s.toList by rw [HV.out, c1, c2, c3, c4]; rfl)
            go_enter Tryd.func25, Tryd.ntmps25
            go_wp2_with (first
              | (go_at_call 35; (with_reducible refine (CP.out _).mono ?_); rintro e w1 ⟨rfl, hb1⟩
                 obtain ⟨hcc, hff⟩ := bcell hb1
                 have hzz : w.heap.size < w1.heap.size := by have := hb1.size; simp at this; omega
                 have HB1 := Lib.hid (HB.out.trans (hb1.mono HB.out.size))
                 clear hb1)
              | fail)
            go_ret
            exact ⟨ret_bool HF.out, HB1.out⟩
  · have HF := Lib.hid (show true = mayHereI (!neg) k s.toList by
      rw [← HFP.out]
      unfold fitsP
      rw [z2]; rfl)
    go_enter Tryd.func25, Tryd.ntmps25
    go_wp2
    go_ret
    exact ⟨ret_bool HF.out, HB.out⟩
end Go.Proofs.YtifinfmdjbglhaaDoor
