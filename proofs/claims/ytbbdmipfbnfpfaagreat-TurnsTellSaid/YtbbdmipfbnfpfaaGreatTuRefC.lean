/- Contract of the reference's LocalMay. -/
import Derived.Test.YtbbdmipfbnfpfaaGreatTuRefB
namespace Go.Proofs.YtbbdmipfbnfpfaaGreat
open Go.RowKit

theorem locB_short {ts : List TurnL} (h : ts.length < 1 ∨ 40 < ts.length) : locB ts = false := by
  unfold locB
  rcases h with h | h
  · rw [decide_eq_false (show ¬ 1 ≤ ts.length by omega)]; rfl
  · rw [decide_eq_false (show ¬ ts.length ≤ 40 by omega), Bool.and_false]; rfl
theorem locB_bad {ts : List TurnL} {i : Nat} {t : TurnL} (h : ts[i]? = some t) (ht : turnB ts.length t = false) : locB ts = false := by
  unfold locB
  have : ts.all (turnB ts.length) = false := by
    rw [List.all_eq_false]
    exact ⟨t, List.mem_of_getElem? h, by rw [ht]; decide⟩
  rw [this, Bool.and_false]
theorem locB_end {ts : List TurnL} (h1 : 1 ≤ ts.length) (h2 : ts.length ≤ 40) (h : ∀ t ∈ ts, turnB ts.length t = true) : locB ts = true := by
  unfold locB
  rw [decide_eq_true h1, decide_eq_true h2, List.all_eq_true.2 h]
  rfl
theorem turns_step {n : Nat} {ts : List TurnL} {i : Nat} {t : TurnL} (h : ∀ t ∈ ts.take i, turnB n t = true) (ht : ts[i]? = some t) (hg : turnB n t = true) : ∀ t ∈ ts.take (i + 1), turnB n t = true := by
  intro x hx
  rw [tuTake_at ht, List.mem_append, List.mem_singleton] at hx
  rcases hx with hx | rfl
  · exact h x hx
  · exact hg
/-- Block g holds a local type. -/
def LBox (W : World) (g : Nat) (nm : ByteArray) (a : Option Addr) (n c : Nat) : Prop := W.heap[g]? = some (.cells #[.string nm, .slice a n c] 24 (0, 0))
theorem LBox.lt {W : World} {g : Nat} {nm : ByteArray} {a : Option Addr} {n c : Nat} (h : LBox W g nm a n c) : g < W.heap.size := by
  rcases Nat.lt_or_ge g W.heap.size with h1 | h1
  · exact h1
  · unfold LBox at h; rw [Array.getElem?_eq_none h1] at h; cases h
theorem LBox.new (w : World) (nm : ByteArray) (a : Option Addr) (n c : Nat) : LBox (w.alloc (.cells #[.string nm, .slice a n c] 24)) w.heap.size nm a n c := heap_alloc_new w _
theorem LBox.on {W W' : World} {g : Nat} {nm : ByteArray} {a : Option Addr} {n c : Nat} (h : LBox W g nm a n c) (hb : Below W.heap.size W W') : LBox W' g nm a n c := (hb.block g h.lt).trans h
theorem LBox.cells {W : World} {g : Nat} {nm : ByteArray} {a : Option Addr} {n c : Nat} (h : LBox W g nm a n c) : W.cell? ⟨g, 0, none⟩ = some (.string nm) ∧ W.cell? ⟨g, 1, none⟩ = some (.slice a n c) := by
  unfold LBox at h
  constructor
  all_goals (rw [cell_of_row _ _ _ _ _ _ h]; rfl)

set_option maxHeartbeats 8000000 in
set_option maxRecDepth 20000 in
theorem tuLocal_any (nm : ByteArray) (a : Option Addr) (n c : Nat) (ts : List TurnL) (w : World) (bound : Nat) (hb : bound ≤ w.heap.size) (h : Turns w bound a n ts) :
    Calls Tryz.prog 12 #[.agg #[.string nm, .slice a n c]] w fun e w' => e = .returned (.bool (locB ts)) ∧ Below w.heap.size w w' := by
  have HLEN := Lib.hid h.1
  have HN := Lib.hid h
  have HB0 := Lib.hid (tu1 w (.cells #[.string nm, .slice a n c] 24))
  have HL := Lib.hid (LBox.new w nm a n c)
  obtain ⟨R, hR⟩ : ∃ R, R = locB ts := ⟨_, rfl⟩
  rw [← hR]
  have HR := Lib.hid hR
  clear h hR
  by_cases h1 : (n : Int) < 1
  · have d1 : decide ((n : Int) < 1) = true := decide_eq_true h1
    have HZ := Lib.hid (HR.out.trans (locB_short (.inl (by rw [HLEN.out]; omega))))
    clear h1
    go_enter Tryz.func12, Tryz.ntmps12
    go_wp2_with fail
    go_ret
    exact ⟨ret_bool HZ.out.symm, HB0.out⟩
  have d1 : decide ((n : Int) < 1) = false := decide_eq_false h1
  by_cases h2 : 40 < (n : Int)
  · have d2 : decide (40 < (n : Int)) = true := decide_eq_true h2
    have HZ := Lib.hid (HR.out.trans (locB_short (.inr (by rw [HLEN.out]; omega))))
    clear h1 h2
    go_enter Tryz.func12, Tryz.ntmps12
    go_wp2_with fail
    go_ret
    exact ⟨ret_bool HZ.out.symm, HB0.out⟩
  have d2 : decide (40 < (n : Int)) = false := decide_eq_false h2
  have hn1 : 1 ≤ n := by omega
  have hn40 : n ≤ 40 := by omega
  clear h1 h2
  go_enter Tryz.func12, Tryz.ntmps12
  go_wp2_with fail
  go_loopw [3] (fun v wr => ∃ i : Nat, i ≤ n ∧ v = .int .i64 i ∧ Hid (∀ t ∈ ts.take i, turnB n t = true) ∧ Hid (Below (w.alloc (.cells #[.string nm, .slice a n c] 24)).heap.size (w.alloc (.cells #[.string nm, .slice a n c] 24)) wr)) (fun v _ => n - (intOf v).toNat)
  case atStart => exact ⟨0, Nat.zero_le _, rfl, Lib.hid (by simp), Lib.hid (Below.refl _ _)⟩
  case round =>
    obtain ⟨i, hi, rfl, HG, HBr⟩ := hrel
    have HLr := Lib.hid (HL.out.on HBr.out)
    obtain ⟨lc0, lc1⟩ := HLr.out.cells
    have hzr := HBr.out.size
    rw [World.size_alloc] at hzr
    have HBW := Lib.hid (HB0.out.trans (HBr.out.mono (by simp)))
    by_cases hin : i < n
    · obtain ⟨b, off, kd, s, aa, an, ac, l, rfl, hbb, hx, ⟨q0, q1, q2⟩, hs, hal⟩ := HN.out.at_ hin
      have r0 := (HBW.out.cell (p := ⟨b, off + i * 3, none⟩) (by show b < _; omega)).trans q0
      have r1 := (HBW.out.cell (p := ⟨b, off + i * 3 + 1, none⟩) (by show b < _; omega)).trans q1
      have r2 := (HBW.out.cell (p := ⟨b, off + i * 3 + 2, none⟩) (by show b < _; omega)).trans q2
      have HX := Lib.hid hx
      have HAL := Lib.hid hal
      have hlen := hal.1
      have HBT := Lib.hid (tu1 wr (.cells #[.int .i64 kd, .string s, .slice aa an ac] 44))
      have HT0 := Lib.hid ((LBox.on HLr.out HBT.out))
      obtain ⟨mc0, mc1⟩ := HT0.out.cells
      clear q0 q1 q2 hx hal
      by_cases hk0 : kd = 0
      · subst hk0
        have hw : turnB n ⟨0, s.toList, l⟩ = (s.toList.isEmpty && l.isEmpty) := rfl
        cases he : s.toList.isEmpty
        · rw [he] at hw
          have HZ := Lib.hid (HR.out.trans (locB_bad HX.out (by rw [HLEN.out]; exact hw)))
          have he2 : (s.toList == []) = false := by rw [empty_is]; exact he
          have he3 : (s.toList != []) = true := by unfold bne; rw [he2]; rfl
          clear hw
          go_wp2_with fail
          go_ret
          exact ⟨ret_bool HZ.out.symm, below_on HBW.out HBT.out⟩
        · rw [he] at hw
          have he2 : (s.toList == []) = true := by rw [empty_is]; exact he
          have he3 : (s.toList != []) = false := by unfold bne; rw [he2]; rfl
          by_cases ha : 0 < (an : Int)
          · have da : decide (0 < an) = true := decide_eq_true (by omega)
            have hle : l.isEmpty = false := by
              cases l with
              | nil => simp at hlen; omega
              | cons _ _ => rfl
            rw [hle] at hw
            have HZ := Lib.hid (HR.out.trans (locB_bad HX.out (by rw [HLEN.out]; exact hw)))
            clear hw hle ha hlen
            go_wp2_with fail
            go_ret
            exact ⟨ret_bool HZ.out.symm, below_on HBW.out HBT.out⟩
          · have da : decide (0 < an) = false := decide_eq_false (by omega)
            have hle : l.isEmpty = true := by
              cases l with
              | nil => rfl
              | cons _ _ => simp at hlen; omega
            rw [hle] at hw
            have HG2 := Lib.hid (turns_step HG.out HX.out hw)
            have HBS := Lib.hid (HBr.out.trans (HBT.out.mono (by simp; omega)))
            clear hw hle ha hlen
            go_wp2_with fail
            go_roundw
            case rel => exact ⟨i + 1, by omega, by go_num, HG2, HBS⟩
            case measure => simp [intOf]; omega
      have k0 : (kd == 0) = false := by rw [beq_eq_false_iff_ne]; exact hk0
      by_cases hk12 : kd = 1 ∨ kd = 2
      · have hw : turnB n ⟨kd, s.toList, l⟩ = (may s.toList && armsB n l) := by unfold turnB; rw [if_neg hk0, if_pos hk12]
        have CM := Lib.hid (fun W => refMay_any s W hs)
        have CA := Lib.hid (fun (W : World) (hW : Below w.heap.size w W) => tuArms_any aa an ac l n W bound (by have := hW.size; omega) (HAL.out.below (hW.mono hb)))
        have HK12 := Lib.hid hk12
        clear hk0 hk12 hlen
        cases hm : may s.toList
        · rw [hm] at CM hw
          have HZ := Lib.hid (HR.out.trans (locB_bad HX.out (by rw [HLEN.out]; exact hw)))
          clear hw hm
          rcases HK12.out with rfl | rfl
          all_goals
            go_wp2_with (first
              | (go_at_call 31; (with_reducible refine (CM.out _).mono ?_); rintro e w1 ⟨rfl, rfl⟩)
              | fail)
            go_ret
            exact ⟨ret_bool HZ.out.symm, below_on HBW.out HBT.out⟩
        rw [hm] at CM hw
        cases ha : armsB n l
        · rw [ha] at CA hw
          have HZ := Lib.hid (HR.out.trans (locB_bad HX.out (by rw [HLEN.out]; exact hw)))
          clear hw hm ha
          rcases HK12.out with rfl | rfl
          all_goals
            go_wp2_with (first
              | (go_at_call 31; (with_reducible refine (CM.out _).mono ?_); rintro e w1 ⟨rfl, rfl⟩)
              | (go_at_call 32; (with_reducible refine (CA.out _ (below_on HBW.out HBT.out)).mono ?_)
                 rintro e w2 ⟨rfl, hb2⟩
                 have HB2 := Lib.hid (below_on (below_on HBW.out HBT.out) hb2)
                 clear hb2)
              | fail)
            go_ret
            exact ⟨ret_bool HZ.out.symm, HB2.out⟩
        · rw [ha] at CA hw
          have HG2 := Lib.hid (turns_step HG.out HX.out hw)
          clear hw hm ha
          rcases HK12.out with rfl | rfl
          all_goals
            go_wp2_with (first
              | (go_at_call 31; (with_reducible refine (CM.out _).mono ?_); rintro e w1 ⟨rfl, rfl⟩)
              | (go_at_call 32; (with_reducible refine (CA.out _ (below_on HBW.out HBT.out)).mono ?_)
                 rintro e w2 ⟨rfl, hb2⟩
                 have HB2 := Lib.hid (HBr.out.trans ((below_on HBT.out hb2).mono (by simp; omega)))
                 clear hb2)
              | fail)
            go_roundw
            case rel => exact ⟨i + 1, by omega, by go_num, HG2, HB2⟩
            case measure => simp [intOf]; omega
      · have hw : turnB n ⟨kd, s.toList, l⟩ = false := by unfold turnB; rw [if_neg hk0, if_neg hk12]
        have k1 : (kd == 1) = false := by rw [beq_eq_false_iff_ne]; omega
        have k2 : (kd == 2) = false := by rw [beq_eq_false_iff_ne]; omega
        have HZ := Lib.hid (HR.out.trans (locB_bad HX.out (by rw [HLEN.out]; exact hw)))
        clear hw hk0 hk12 hlen
        go_wp2_with fail
        go_ret
        exact ⟨ret_bool HZ.out.symm, below_on HBW.out HBT.out⟩
    · have HZ := Lib.hid (HR.out.trans (locB_end (by rw [HLEN.out]; exact hn1) (by rw [HLEN.out]; exact hn40) (by
        have := HG.out
        rw [List.take_of_length_le (by have := HLEN.out; omega)] at this
        rw [HLEN.out]
        exact this)))
      go_wp2_with fail
      go_ret
      exact ⟨ret_bool HZ.out.symm, HBW.out⟩
end Go.Proofs.YtbbdmipfbnfpfaaGreat
