/- Contract of the reference's ArmsMay. -/
import Derived.Test.YtbbdmipfbnfpfaaGreatTuRefA
namespace Go.Proofs.YtbbdmipfbnfpfaaGreat
open Go.RowKit

theorem armsB_bad {n : Nat} {l : List ArmL} {i : Nat} {x : ArmL} (h : l[i]? = some x) (hx : armB n x = false) : armsB n l = false := by
  unfold armsB
  have : l.all (armB n) = false := by
    rw [List.all_eq_false]
    exact ⟨x, List.mem_of_getElem? h, by rw [hx]; decide⟩
  rw [this]
  rfl
theorem armsB_twice {n : Nat} {l : List ArmL} {i k : Nat} {x y : ArmL} (hk : k < i) (h : l[i]? = some x) (h' : l[k]? = some y) (e : y.label = x.label) : armsB n l = false := by
  unfold armsB
  have : decide ((l.map ArmL.label).Nodup) = false := by
    rw [decide_eq_false_iff_not]
    intro hn
    obtain ⟨h1, e1⟩ := List.getElem?_eq_some_iff.1 h
    obtain ⟨h2, e2⟩ := List.getElem?_eq_some_iff.1 h'
    have := (List.pairwise_iff_getElem.1 hn) k i (by rw [List.length_map]; omega) (by rw [List.length_map]; exact h1) hk
    rw [List.getElem_map, List.getElem_map, e1, e2] at this
    exact this e
  rw [this, Bool.and_false]
  rfl
theorem armsB_end {n : Nat} {l : List ArmL} (h1 : ∀ a ∈ l, armB n a = true) (h2 : (l.map ArmL.label).Nodup) : armsB n l = (decide (1 ≤ (l.length : Int)) && decide ((l.length : Int) ≤ 6)) := by
  unfold armsB
  rw [List.all_eq_true.2 h1, decide_eq_true h2, Bool.true_and, Bool.true_and, Bool.eq_iff_iff]
  simp only [Bool.and_eq_true, decide_eq_true_eq]
  omega
/-- The arms so far are valid, and their labels differ. -/
def ArmsGood (n : Nat) (l : List ArmL) (i : Nat) : Prop := (∀ a ∈ l.take i, armB n a = true) ∧ ((l.take i).map ArmL.label).Nodup
theorem tuTake_at {α : Type} {l : List α} {k : Nat} {x : α} (h : l[k]? = some x) : l.take (k + 1) = l.take k ++ [x] := by
  obtain ⟨h1, e⟩ := List.getElem?_eq_some_iff.1 h
  rw [List.take_succ_eq_append_getElem h1, e]
theorem ArmsGood.step {n : Nat} {l : List ArmL} {i : Nat} {x : ArmL} (h : ArmsGood n l i) (hx : l[i]? = some x) (hg : armB n x = true) (hd : ∀ y ∈ l.take i, y.label ≠ x.label) : ArmsGood n l (i + 1) := by
  unfold ArmsGood
  rw [tuTake_at hx]
  refine ⟨fun a ha => ?_, ?_⟩
  · rcases List.mem_append.1 ha with ha | ha
    · exact h.1 a ha
    · rw [List.mem_singleton.1 ha]; exact hg
  · rw [List.map_append, List.nodup_append]
    refine ⟨h.2, by simp, fun a ha b hb e => ?_⟩
    obtain ⟨y, hy, rfl⟩ := List.mem_map.1 ha
    rw [List.map_cons, List.map_nil, List.mem_singleton] at hb
    exact hd y hy (e.trans hb)
theorem armB_ways {n : Nat} (s u : Str) (k x : Int) : armB n ⟨s, k, u, x⟩ = (may s && carriesB k u && decide (0 ≤ x) && decide (x < (n : Int))) := rfl

set_option maxHeartbeats 8000000 in
set_option maxRecDepth 20000 in
theorem tuArms_any (a : Option Addr) (n c : Nat) (l : List ArmL) (pn : Nat) (w : World) (bound : Nat) (hb : bound ≤ w.heap.size) (h : Arms w bound a n l) :
    Calls Tryz.prog 32 #[.slice a n c, .int .i64 (pn : Int)] w fun e w' => e = .returned (.bool (armsB pn l)) ∧ Below w.heap.size w w' := by
  have hsz := h.2.1
  have HLEN := Lib.hid h.1
  have HN := Lib.hid h
  obtain ⟨R, hR⟩ : ∃ R, R = armsB pn l := ⟨_, rfl⟩
  rw [← hR]
  have HR := Lib.hid hR
  clear h hR
  go_enter Tryz.func32, Tryz.ntmps32
  go_wp2
  go_loopw [5] (fun v wr => ∃ i : Nat, i ≤ n ∧ v = .int .i64 i ∧ Hid (ArmsGood pn l i) ∧ Hid (Below w.heap.size w wr)) (fun v _ => n - (intOf v).toNat)
  case atStart => exact ⟨0, Nat.zero_le _, rfl, Lib.hid ⟨by simp, by simp⟩, Lib.hid (Below.refl _ _)⟩
  case round =>
    obtain ⟨i, hi, rfl, HG, HB⟩ := hrel
    by_cases hin : i < n
    · obtain ⟨b, off, s, u, ck, nx, rfl, hbb, hx, ⟨q0, q1, q2, q3⟩, hs, hu⟩ := HN.out.at_ hin
      have r0 := (HB.out.cell (p := ⟨b, off + i * 4, none⟩) (by show b < _; omega)).trans q0
      have r1 := (HB.out.cell (p := ⟨b, off + i * 4 + 1, none⟩) (by show b < _; omega)).trans q1
      have r2 := (HB.out.cell (p := ⟨b, off + i * 4 + 2, none⟩) (by show b < _; omega)).trans q2
      have r3 := (HB.out.cell (p := ⟨b, off + i * 4 + 3, none⟩) (by show b < _; omega)).trans q3
      have CM := Lib.hid (fun W => refMay_any s W hs)
      have CC := Lib.hid (fun W => tuCarries_any ck u W hu)
      have HX := Lib.hid hx
      have hw := armB_ways (n := pn) s.toList u.toList ck nx
      clear q0 q1 q2 q3 hx hs hu
      cases hm : may s.toList
      · rw [hm] at CM hw
        have HZ := Lib.hid (HR.out.trans (armsB_bad HX.out hw))
        clear hm hw
        go_wp2_with (first
          | (go_at_call 31; (with_reducible refine (CM.out _).mono ?_); rintro e w1 ⟨rfl, rfl⟩)
          | fail)
        go_ret
        exact ⟨ret_bool HZ.out.symm, HB.out⟩
      rw [hm] at CM hw
      cases hc : carriesB ck u.toList
      · rw [hc] at CC hw
        have HZ := Lib.hid (HR.out.trans (armsB_bad HX.out hw))
        clear hm hc hw
        go_wp2_with (first
          | (go_at_call 31; (with_reducible refine (CM.out _).mono ?_); rintro e w1 ⟨rfl, rfl⟩)
          | (go_at_call 50; (with_reducible refine (CC.out _).mono ?_)
             rintro e w2 ⟨rfl, hb2⟩
             have HB2 := Lib.hid (below_on HB.out hb2)
             clear hb2)
          | fail)
        go_ret
        exact ⟨ret_bool HZ.out.symm, HB2.out⟩
      rw [hc] at CC hw
      by_cases h0 : nx < 0
      · have d0 : decide (nx < 0) = true := decide_eq_true h0
        rw [decide_eq_false (show ¬ 0 ≤ nx by omega)] at hw
        have HZ := Lib.hid (HR.out.trans (armsB_bad HX.out hw))
        clear hm hc hw h0
        go_wp2_with (first
          | (go_at_call 31; (with_reducible refine (CM.out _).mono ?_); rintro e w1 ⟨rfl, rfl⟩)
          | (go_at_call 50; (with_reducible refine (CC.out _).mono ?_)
             rintro e w2 ⟨rfl, hb2⟩
             have HB2 := Lib.hid (below_on HB.out hb2)
             have t3 := (HB2.out.cell (p := ⟨b, off + i * 4 + 3, none⟩) (by show b < _; omega)).trans ((HB.out.cell (p := ⟨b, off + i * 4 + 3, none⟩) (by show b < _; omega)).symm.trans r3)
             clear hb2)
          | fail)
        go_ret
        exact ⟨ret_bool HZ.out.symm, HB2.out⟩
      have d0 : decide (nx < 0) = false := decide_eq_false h0
      by_cases h1 : (pn : Int) ≤ nx
      · have d1 : decide ((pn : Int) ≤ nx) = true := decide_eq_true h1
        rw [decide_eq_true (show 0 ≤ nx by omega), decide_eq_false (show ¬ nx < (pn : Int) by omega)] at hw
        have HZ := Lib.hid (HR.out.trans (armsB_bad HX.out hw))
        clear hm hc hw h0 h1
        go_wp2_with (first
          | (go_at_call 31; (with_reducible refine (CM.out _).mono ?_); rintro e w1 ⟨rfl, rfl⟩)
          | (go_at_call 50; (with_reducible refine (CC.out _).mono ?_)
             rintro e w2 ⟨rfl, hb2⟩
             have HB2 := Lib.hid (below_on HB.out hb2)
             have t3 := (HB2.out.cell (p := ⟨b, off + i * 4 + 3, none⟩) (by show b < _; omega)).trans ((HB.out.cell (p := ⟨b, off + i * 4 + 3, none⟩) (by show b < _; omega)).symm.trans r3)
             clear hb2)
          | fail)
        go_ret
        exact ⟨ret_bool HZ.out.symm, HB2.out⟩
      have d1 : decide ((pn : Int) ≤ nx) = false := decide_eq_false h1
      rw [decide_eq_true (show 0 ≤ nx by omega), decide_eq_true (show nx < (pn : Int) by omega)] at hw
      have HW := Lib.hid hw
      clear hm hc hw h0 h1
      go_wp2_with (first
        | (go_at_call 31; (with_reducible refine (CM.out _).mono ?_); rintro e w1 ⟨rfl, rfl⟩)
        | (go_at_call 50; (with_reducible refine (CC.out _).mono ?_)
           rintro e w2 ⟨rfl, hb2⟩
           have HB2 := Lib.hid (below_on HB.out hb2)
           have t3 := (HB2.out.cell (p := ⟨b, off + i * 4 + 3, none⟩) (by show b < _; omega)).trans ((HB.out.cell (p := ⟨b, off + i * 4 + 3, none⟩) (by show b < _; omega)).symm.trans r3)
           clear hb2)
        | fail)
      go_loopw [6] (fun v wt => ∃ k : Nat, k ≤ i ∧ v = .int .i64 k ∧ Hid (∀ y ∈ l.take k, y.label ≠ s.toList) ∧ Hid (Below w.heap.size w wt)) (fun v _ => i - (intOf v).toNat)
      case atStart => exact ⟨0, Nat.zero_le _, rfl, Lib.hid (by simp), HB2⟩
      case round =>
        obtain ⟨k, hk, rfl, HD, HBt⟩ := hrel
        by_cases hki : k < i
        · obtain ⟨b', off', s', u', ck', nx', e', _, hy, ⟨q0', _, _, _⟩, _, _⟩ := HN.out.at_ (show k < n by omega)
          injection e' with e'
          injection e' with e1 e2 _
          subst e1 e2
          have v0 := (HBt.out.cell (p := ⟨b, off + k * 4, none⟩) (by show b < _; omega)).trans q0'
          have v1 := (HBt.out.cell (p := ⟨b, off + i * 4, none⟩) (by show b < _; omega)).trans ((HB.out.cell (p := ⟨b, off + i * 4, none⟩) (by show b < _; omega)).symm.trans r0)
          have HY := Lib.hid hy
          clear q0' hy
          cases hq : (s'.toList == s.toList)
          · have HD2 := Lib.hid (show ∀ y ∈ l.take (k + 1), y.label ≠ s.toList from fun y hy => by
              rw [tuTake_at HY.out, List.mem_append, List.mem_singleton] at hy
              rcases hy with hy | rfl
              · exact HD.out y hy
              · rw [beq_eq_false_iff_ne] at hq; exact hq)
            have HQ := Lib.hid hq
            clear hq
            have hq := HQ.out
            go_wp2
            go_quiet (fail)
            go_wp2
            go_roundw
            case rel => exact ⟨k + 1, by omega, by go_num, HD2, Lib.hid (below_drewN HBt.out nq)⟩
            case measure => simp [intOf]; omega
          · have HZ := Lib.hid (HR.out.trans (armsB_twice hki HX.out HY.out (eq_of_beq hq)))
            go_wp2
            go_quiet (fail)
            go_wp2
            go_ret
            exact ⟨ret_bool HZ.out.symm, below_drewN HBt.out nq⟩
        · have HG2 := Lib.hid (HG.out.step HX.out HW.out (by
            have := HD.out
            rwa [show k = i by omega] at this))
          go_wp2
          go_roundw
          case rel => exact ⟨i + 1, by omega, by go_num, HG2, HBt⟩
          case measure => simp [intOf]; omega
    · have hend := armsB_end (n := pn) (l := l) (by
        have := HG.out.1
        rw [List.take_of_length_le (by have := HLEN.out; omega)] at this
        exact this) (by
        have := HG.out.2
        rw [List.take_of_length_le (by have := HLEN.out; omega)] at this
        exact this)
      rw [HLEN.out] at hend
      have hz := HR.out.trans hend
      by_cases h1 : 1 ≤ (n : Int)
      · have d1 : decide (1 ≤ (n : Int)) = true := decide_eq_true h1
        by_cases h6 : (n : Int) ≤ 6
        · have d6 : decide ((n : Int) ≤ 6) = true := decide_eq_true h6
          rw [d1, d6] at hz
          have HZ := Lib.hid hz
          clear hz hend h1 h6
          go_wp2_with fail
          go_ret
          exact ⟨ret_bool HZ.out.symm, HB.out⟩
        · have d6 : decide ((n : Int) ≤ 6) = false := decide_eq_false h6
          rw [d1, d6] at hz
          have HZ := Lib.hid hz
          clear hz hend h1 h6
          go_wp2_with fail
          go_ret
          exact ⟨ret_bool HZ.out.symm, HB.out⟩
      · have d1 : decide (1 ≤ (n : Int)) = false := decide_eq_false h1
        rw [d1] at hz
        have HZ := Lib.hid hz
        clear hz hend h1
        go_wp2_with fail
        go_ret
        exact ⟨ret_bool HZ.out.symm, HB.out⟩
end Go.Proofs.YtbbdmipfbnfpfaaGreat
