/- Contracts of the reference's typeName, CarriesMay and ArmsMay. -/
import Derived.Test.YtiofpeckcfdilaaGreatDoorTuPlains
import Derived.RegionTactic
import Derived.BigQuiet
namespace Go.Proofs.YtiofpeckcfdilaaGreatDoor
open Go.RowKit

theorem tu1 (w : World) (o : Obj) : Below w.heap.size w (w.alloc o) := (Below.refl _ w).alloc (Nat.le_refl _) o
/-- A string up to a place; from a place on. -/
theorem run_head {P : Program} (t : TypeId) (ht : P.underlying t = some .string) (s : ByteArray) (H : Nat) (h2 : H ≤ s.size) (W : World) :
    (Instr.slice t (.string s) none (some (.int .i64 (H : Int))) none).run P W = .ok (.string (s.extract 0 H)) W := by
  simp [Instr.slice, run_underlying ht, Instr.sliceBounds, run_sliceBound, *, (by omega : (H : Int) ≤ (s.size : Int))]
theorem run_tail {P : Program} (t : TypeId) (ht : P.underlying t = some .string) (s : ByteArray) (l : Int) (L : Nat) (hl : l = (L : Int)) (h2 : L ≤ s.size) (W : World) :
    (Instr.slice t (.string s) (some (.int .i64 l)) none none).run P W = .ok (.string (s.extract L s.size)) W := by
  subst hl
  simp [Instr.slice, run_underlying ht, Instr.sliceBounds, run_sliceBound, *, (by omega : (L : Int) ≤ (s.size : Int))]
theorem head_list (s : ByteArray) (k : Nat) : (s.extract 0 k).toList = s.toList.take k := by
  rw [ByteArray.toList_eq, ByteArray.toList_eq, ByteArray.data_extract]
  simp [List.extract_eq_take_drop]
theorem tail_list (s : ByteArray) (k : Nat) : (s.extract k s.size).toList = s.toList.drop k := by
  rw [ByteArray.toList_eq, ByteArray.toList_eq, ByteArray.data_extract]
  simp [List.extract_eq_take_drop]
  rw [List.take_of_length_le]
  simp
theorem dot_none {l : Str} (h : dotS l = none) : typeB l = may l := by unfold typeB; rw [h]
theorem dot_some {l a b : Str} (h : dotS l = some (a, b)) : typeB l = (may a && may b) := by unfold typeB; rw [h]
/-- Looking for the first dot, a place on. -/
def DotAt (l : Str) (k : Nat) : Prop := dotS l = (dotS (l.drop k)).map fun p => (l.take k ++ p.1, p.2)
theorem DotAt.start (l : Str) : DotAt l 0 := by
  unfold DotAt
  rw [List.drop_zero, List.take_zero]
  cases dotS l <;> rfl
theorem DotAt.found {s : ByteArray} {k : Nat} (hk : k < s.size) (h : DotAt s.toList k) (hc : s[k] = 46) : dotS s.toList = some (s.toList.take k, s.toList.drop (k + 1)) := by
  unfold DotAt at h
  rw [h, lxDrop s k hk, dotS, if_pos hc]
  simp
theorem DotAt.step {s : ByteArray} {k : Nat} (hk : k < s.size) (h : DotAt s.toList k) (hc : s[k] ≠ 46) : DotAt s.toList (k + 1) := by
  unfold DotAt at h ⊢
  rw [lxDrop s k hk, dotS, if_neg hc] at h
  rw [h, Option.map_map]
  have e : s.toList.take (k + 1) = s.toList.take k ++ [s[k]] := by
    have hd := lxDrop s k hk
    have hl : k < s.toList.length := by rw [len_toList]; exact hk
    rw [List.take_succ_eq_append_getElem hl]
    rw [List.drop_eq_getElem_cons hl] at hd
    injection hd with hd _
    rw [hd]
  rw [e]
  congr 1
  funext p
  simp
theorem DotAt.out {l : Str} {k : Nat} (hk : l.length ≤ k) (h : DotAt l k) : dotS l = none := by
  unfold DotAt at h
  rw [h, List.drop_of_length_le hk]
  rfl

set_option maxHeartbeats 2000000 in
theorem tuType_any (s : ByteArray) (w : World) (hs : s.size ≤ maxLen) : Calls Tryz.prog 124 #[.string s] w fun e w' => e = .returned (.bool (typeB s.toList)) ∧ w = w' := by
  have hsz : s.size ≤ 9223372036854775807 := by unfold maxLen at hs; omega
  have HLEN := Lib.hid (len_toList s)
  obtain ⟨R, hR⟩ : ∃ R, R = typeB s.toList := ⟨_, rfl⟩
  rw [← hR]
  have HR := Lib.hid hR
  have HM := Lib.hid hs
  clear hs hR
  go_enter Tryz.func124, Tryz.ntmps124
  go_wp2
  go_loop [3] (fun i => ∃ k : Nat, k ≤ s.size ∧ i = .int .i64 k ∧ Hid (DotAt s.toList k)) (fun i => s.size - (intOf i).toNat)
  case atStart => exact ⟨0, Nat.zero_le _, rfl, Lib.hid (DotAt.start _)⟩
  case round =>
    obtain ⟨k, hk, rfl, HD⟩ := hrel
    by_cases hlt : k < s.size
    · cases hc : (s[k] == 46)
      · have e1 : (((s[k].toNat : Nat) : Int) == 46) = false := by rw [← hc]; exact byte_is s[k] 46 (by omega)
        have HD2 := Lib.hid (HD.out.step hlt (by rw [beq_eq_false_iff_ne] at hc; exact hc))
        clear hc
        go_wp2_with fail
        go_round
        case rel => exact ⟨k + 1, by omega, by go_num, HD2⟩
        case measure => simp [intOf] <;> omega
      · have e1 : (((s[k].toNat : Nat) : Int) == 46) = true := by rw [← hc]; exact byte_is s[k] 46 (by omega)
        have hf := HD.out.found hlt (eq_of_beq hc)
        have hz := HR.out.trans (dot_some hf)
        rw [← head_list, ← tail_list] at hz
        have hcut1 := run_head 9 Tryz.underlying9 s k (by omega)
        have hcut2 := run_tail 9 Tryz.underlying9 s ((k : Int) + 1) (k + 1) (by omega) (by omega)
        have hA : (s.extract 0 k).size ≤ maxLen := by rw [ByteArray.size_extract]; have := HM.out; omega
        have hB : (s.extract (k + 1) s.size).size ≤ maxLen := by rw [ByteArray.size_extract]; have := HM.out; omega
        obtain ⟨A, hAe⟩ : ∃ A, A = s.extract 0 k := ⟨_, rfl⟩
        obtain ⟨B, hBe⟩ : ∃ B, B = s.extract (k + 1) s.size := ⟨_, rfl⟩
        rw [← hAe] at hcut1 hz hA
        rw [← hBe] at hcut2 hz hB
        have CA := Lib.hid (fun W => refMay_any A W hA)
        have CB := Lib.hid (fun W => refMay_any B W hB)
        have i1 : (k : Int) + 1 ≤ (s.size : Int) := by omega
        clear hc hf hA hB hAe hBe
        cases ha : may A.toList
        · rw [ha] at CA hz
          have HZ := Lib.hid hz
          clear hz ha
          go_wp2_with (first
            | (go_at_call 69; (with_reducible refine (CA.out _).mono ?_); rintro e w1 ⟨rfl, rfl⟩)
            | fail)
          go_ret
          exact ⟨ret_bool HZ.out.symm, rfl⟩
        · rw [ha] at CA hz
          have HZ := Lib.hid hz
          clear hz ha
          go_wp2_with (first
            | (go_at_call 69; (with_reducible refine (CA.out _).mono ?_); rintro e w1 ⟨rfl, rfl⟩)
            | (go_at_call 69; (with_reducible refine (CB.out _).mono ?_); rintro e w1 ⟨rfl, rfl⟩)
            | fail)
          go_ret
          exact ⟨ret_bool HZ.out.symm, rfl⟩
    · have HZ := Lib.hid (HR.out.trans (dot_none (HD.out.out (by rw [HLEN.out]; omega))))
      have CM := Lib.hid (fun W => refMay_any s W HM.out)
      go_wp2_with (first
        | (go_at_call 69; (with_reducible refine (CM.out _).mono ?_); rintro e w1 ⟨rfl, rfl⟩)
        | fail)
      go_ret
      exact ⟨ret_bool HZ.out.symm, rfl⟩

theorem empty_is (u : ByteArray) : (u.toList == []) = u.toList.isEmpty := by cases u.toList <;> rfl
set_option maxHeartbeats 2000000 in
theorem tuCarries_any (k : Int) (u : ByteArray) (w : World) (hu : u.size ≤ maxLen) :
    Calls Tryz.prog 100 #[.agg #[.int .i64 k, .string u]] w fun e w' => e = .returned (.bool (carriesB k u.toList)) ∧ Below w.heap.size w w' := by
  have HB := Lib.hid (tu1 w (.cells #[.int .i64 k, .string u] 65))
  by_cases h5 : k = 5
  · subst h5
    have CT := Lib.hid (fun W => tuType_any u W hu)
    have HZ := Lib.hid (show carriesB 5 u.toList = typeB u.toList from rfl)
    generalize carriesB 5 u.toList = R at HZ ⊢
    clear hu
    go_enter Tryz.func100, Tryz.ntmps100
    go_wp2_with (first
      | (go_at_call 124; (with_reducible refine (CT.out _).mono ?_); rintro e w1 ⟨rfl, rfl⟩)
      | fail)
    go_ret
    exact ⟨ret_bool HZ.out.symm, HB.out⟩
  have d5 : (k == 5) = false := by rw [beq_eq_false_iff_ne]; exact h5
  have hz : carriesB k u.toList = (decide (0 ≤ k) && decide (k < 5) && (u.toList == [])) := by unfold carriesB; rw [if_neg h5, empty_is]
  generalize carriesB k u.toList = R at hz ⊢
  clear h5 hu
  by_cases h0 : 0 ≤ k
  · have d0 : decide (0 ≤ k) = true := decide_eq_true h0
    by_cases h1 : k < 5
    · have d1 : decide (k < 5) = true := decide_eq_true h1
      rw [d0, d1] at hz
      have HZ := Lib.hid hz
      clear hz h0 h1
      go_enter Tryz.func100, Tryz.ntmps100
      go_wp2_with fail
      go_ret
      exact ⟨ret_bool (by rw [HZ.out, empty_is]; rfl), HB.out⟩
    · have d1 : decide (k < 5) = false := decide_eq_false h1
      rw [d0, d1] at hz
      have HZ := Lib.hid hz
      clear hz h0 h1
      go_enter Tryz.func100, Tryz.ntmps100
      go_wp2_with fail
      go_ret
      exact ⟨ret_bool HZ.out.symm, HB.out⟩
  · have d0 : decide (0 ≤ k) = false := decide_eq_false h0
    rw [d0] at hz
    have HZ := Lib.hid hz
    clear hz h0
    go_enter Tryz.func100, Tryz.ntmps100
    go_wp2_with fail
    go_ret
    exact ⟨ret_bool HZ.out.symm, HB.out⟩
end Go.Proofs.YtiofpeckcfdilaaGreatDoor

/- Contract of the reference's ArmsMay. -/
namespace Go.Proofs.YtiofpeckcfdilaaGreatDoor
open Go.RowKit

theorem armsB_bad {n : Nat} {l : List ArmL} {i : Nat} {x : ArmL} (h : l[i]? = some x) (hx : armB n x = false) : armsB n l = false := by
  unfold armsB
  have : l.all (armB n) = false := by
    rw [List.all_eq_false]
    exact ⟨x, List.mem_of_getElem? h, by rw [hx]; decide⟩
  rw [this]
  rfl
theorem armsB_twice {n : Nat} {l : List ArmL} {i k : Nat} {x y : ArmL} (hk : k < i) (h : l[i]? = some x) (h' : l[k]? = some y) (e : y.label = x.label) : armsB n l = false := by
  unfold armsB
  have : decide ((l.map ArmL.label).Nodup) = false := by
    rw [decide_eq_false_iff_not]
    intro hn
    obtain ⟨h1, e1⟩ := List.getElem?_eq_some_iff.1 h
    obtain ⟨h2, e2⟩ := List.getElem?_eq_some_iff.1 h'
    have := (List.pairwise_iff_getElem.1 hn) k i (by rw [List.length_map]; omega) (by rw [List.length_map]; exact h1) hk
    rw [List.getElem_map, List.getElem_map, e1, e2] at this
    exact this e
  rw [this, Bool.and_false]
  rfl
theorem armsB_end {n : Nat} {l : List ArmL} (h1 : ∀ a ∈ l, armB n a = true) (h2 : (l.map ArmL.label).Nodup) : armsB n l = (decide (1 ≤ (l.length : Int)) && decide ((l.length : Int) ≤ 6)) := by
  unfold armsB
  rw [List.all_eq_true.2 h1, decide_eq_true h2, Bool.true_and, Bool.true_and, Bool.eq_iff_iff]
  simp only [Bool.and_eq_true, decide_eq_true_eq]
  omega
/-- The arms so far are valid, and their labels differ. -/
def ArmsGood (n : Nat) (l : List ArmL) (i : Nat) : Prop := (∀ a ∈ l.take i, armB n a = true) ∧ ((l.take i).map ArmL.label).Nodup
theorem tuTake_at {α : Type} {l : List α} {k : Nat} {x : α} (h : l[k]? = some x) : l.take (k + 1) = l.take k ++ [x] := by
  obtain ⟨h1, e⟩ := List.getElem?_eq_some_iff.1 h
  rw [List.take_succ_eq_append_getElem h1, e]
theorem ArmsGood.step {n : Nat} {l : List ArmL} {i : Nat} {x : ArmL} (h : ArmsGood n l i) (hx : l[i]? = some x) (hg : armB n x = true) (hd : ∀ y ∈ l.take i, y.label ≠ x.label) : ArmsGood n l (i + 1) := by
  unfold ArmsGood
  rw [tuTake_at hx]
  refine ⟨fun a ha => ?_, ?_⟩
  · rcases List.mem_append.1 ha with ha | ha
    · exact h.1 a ha
    · rw [List.mem_singleton.1 ha]; exact hg
  · rw [List.map_append, List.nodup_append]
    refine ⟨h.2, by simp, fun a ha b hb e => ?_⟩
    obtain ⟨y, hy, rfl⟩ := List.mem_map.1 ha
    rw [List.map_cons, List.map_nil, List.mem_singleton] at hb
    exact hd y hy (e.trans hb)
theorem armB_ways {n : Nat} (s u : Str) (k x : Int) : armB n ⟨s, k, u, x⟩ = (may s && carriesB k u && decide (0 ≤ x) && decide (x < (n : Int))) := rfl

set_option maxHeartbeats 8000000 in
set_option maxRecDepth 20000 in
theorem tuArms_any (a : Option Addr) (n c : Nat) (l : List ArmL) (pn : Nat) (w : World) (bound : Nat) (hb : bound ≤ w.heap.size) (h : Arms w bound a n l) :
    Calls Tryz.prog 70 #[.slice a n c, .int .i64 (pn : Int)] w fun e w' => e = .returned (.bool (armsB pn l)) ∧ Below w.heap.size w w' := by
  have hsz := h.2.1
  have HLEN := Lib.hid h.1
  have HN := Lib.hid h
  obtain ⟨R, hR⟩ : ∃ R, R = armsB pn l := ⟨_, rfl⟩
  rw [← hR]
  have HR := Lib.hid hR
  clear h hR
  go_enter Tryz.func70, Tryz.ntmps70
  go_wp2
  go_loopw [5] (fun v wr => ∃ i : Nat, i ≤ n ∧ v = .int .i64 i ∧ Hid (ArmsGood pn l i) ∧ Hid (Below w.heap.size w wr)) (fun v _ => n - (intOf v).toNat)
  case atStart => exact ⟨0, Nat.zero_le _, rfl, Lib.hid ⟨by simp, by simp⟩, Lib.hid (Below.refl _ _)⟩
  case round =>
    obtain ⟨i, hi, rfl, HG, HB⟩ := hrel
    by_cases hin : i < n
    · obtain ⟨b, off, s, u, ck, nx, rfl, hbb, hx, ⟨q0, q1, q2, q3⟩, hs, hu⟩ := HN.out.at_ hin
      have r0 := (HB.out.cell (p := ⟨b, off + i * 4, none⟩) (by show b < _; omega)).trans q0
      have r1 := (HB.out.cell (p := ⟨b, off + i * 4 + 1, none⟩) (by show b < _; omega)).trans q1
      have r2 := (HB.out.cell (p := ⟨b, off + i * 4 + 2, none⟩) (by show b < _; omega)).trans q2
      have r3 := (HB.out.cell (p := ⟨b, off + i * 4 + 3, none⟩) (by show b < _; omega)).trans q3
      have CM := Lib.hid (fun W => refMay_any s W hs)
      have CC := Lib.hid (fun W => tuCarries_any ck u W hu)
      have HX := Lib.hid hx
      have hw := armB_ways (n := pn) s.toList u.toList ck nx
      clear q0 q1 q2 q3 hx hs hu
      cases hm : may s.toList
      · rw [hm] at CM hw
        have HZ := Lib.hid (HR.out.trans (armsB_bad HX.out hw))
        clear hm hw
        go_wp2_with (first
          | (go_at_call 69; (with_reducible refine (CM.out _).mono ?_); rintro e w1 ⟨rfl, rfl⟩)
          | fail)
        go_ret
        exact ⟨ret_bool HZ.out.symm, HB.out⟩
      rw [hm] at CM hw
      cases hc : carriesB ck u.toList
      · rw [hc] at CC hw
        have HZ := Lib.hid (HR.out.trans (armsB_bad HX.out hw))
        clear hm hc hw
        go_wp2_with (first
          | (go_at_call 69; (with_reducible refine (CM.out _).mono ?_); rintro e w1 ⟨rfl, rfl⟩)
          | (go_at_call 100; (with_reducible refine (CC.out _).mono ?_)
             rintro e w2 ⟨rfl, hb2⟩
             have HB2 := Lib.hid (below_on HB.out hb2)
             clear hb2)
          | fail)
        go_ret
        exact ⟨ret_bool HZ.out.symm, HB2.out⟩
      rw [hc] at CC hw
      by_cases h0 : nx < 0
      · have d0 : decide (nx < 0) = true := decide_eq_true h0
        rw [decide_eq_false (show ¬ 0 ≤ nx by omega)] at hw
        have HZ := Lib.hid (HR.out.trans (armsB_bad HX.out hw))
        clear hm hc hw h0
        go_wp2_with (first
          | (go_at_call 69; (with_reducible refine (CM.out _).mono ?_); rintro e w1 ⟨rfl, rfl⟩)
          | (go_at_call 100; (with_reducible refine (CC.out _).mono ?_)
             rintro e w2 ⟨rfl, hb2⟩
             have HB2 := Lib.hid (below_on HB.out hb2)
             have t3 := (HB2.out.cell (p := ⟨b, off + i * 4 + 3, none⟩) (by show b < _; omega)).trans ((HB.out.cell (p := ⟨b, off + i * 4 + 3, none⟩) (by show b < _; omega)).symm.trans r3)
             clear hb2)
          | fail)
        go_ret
        exact ⟨ret_bool HZ.out.symm, HB2.out⟩
      have d0 : decide (nx < 0) = false := decide_eq_false h0
      by_cases h1 : (pn : Int) ≤ nx
      · have d1 : decide ((pn : Int) ≤ nx) = true := decide_eq_true h1
        rw [decide_eq_true (show 0 ≤ nx by omega), decide_eq_false (show ¬ nx < (pn : Int) by omega)] at hw
        have HZ := Lib.hid (HR.out.trans (armsB_bad HX.out hw))
        clear hm hc hw h0 h1
        go_wp2_with (first
          | (go_at_call 69; (with_reducible refine (CM.out _).mono ?_); rintro e w1 ⟨rfl, rfl⟩)
          | (go_at_call 100; (with_reducible refine (CC.out _).mono ?_)
             rintro e w2 ⟨rfl, hb2⟩
             have HB2 := Lib.hid (below_on HB.out hb2)
             have t3 := (HB2.out.cell (p := ⟨b, off + i * 4 + 3, none⟩) (by show b < _; omega)).trans ((HB.out.cell (p := ⟨b, off + i * 4 + 3, none⟩) (by show b < _; omega)).symm.trans r3)
             clear hb2)
          | fail)
        go_ret
        exact ⟨ret_bool HZ.out.symm, HB2.out⟩
      have d1 : decide ((pn : Int) ≤ nx) = false := decide_eq_false h1
      rw [decide_eq_true (show 0 ≤ nx by omega), decide_eq_true (show nx < (pn : Int) by omega)] at hw
      have HW := Lib.hid hw
      clear hm hc hw h0 h1
      go_wp2_with (first
        | (go_at_call 69; (with_reducible refine (CM.out _).mono ?_); rintro e w1 ⟨rfl, rfl⟩)
        | (go_at_call 100; (with_reducible refine (CC.out _).mono ?_)
           rintro e w2 ⟨rfl, hb2⟩
           have HB2 := Lib.hid (below_on HB.out hb2)
           have t3 := (HB2.out.cell (p := ⟨b, off + i * 4 + 3, none⟩) (by show b < _; omega)).trans ((HB.out.cell (p := ⟨b, off + i * 4 + 3, none⟩) (by show b < _; omega)).symm.trans r3)
           clear hb2)
        | fail)
      go_loopw [6] (fun v wt => ∃ k : Nat, k ≤ i ∧ v = .int .i64 k ∧ Hid (∀ y ∈ l.take k, y.label ≠ s.toList) ∧ Hid (Below w.heap.size w wt)) (fun v _ => i - (intOf v).toNat)
      case atStart => exact ⟨0, Nat.zero_le _, rfl, Lib.hid (by simp), HB2⟩
      case round =>
        obtain ⟨k, hk, rfl, HD, HBt⟩ := hrel
        by_cases hki : k < i
        · obtain ⟨b', off', s', u', ck', nx', e', _, hy, ⟨q0', _, _, _⟩, _, _⟩ := HN.out.at_ (show k < n by omega)
          injection e' with e'
          injection e' with e1 e2 _
          subst e1 e2
          have v0 := (HBt.out.cell (p := ⟨b, off + k * 4, none⟩) (by show b < _; omega)).trans q0'
          have v1 := (HBt.out.cell (p := ⟨b, off + i * 4, none⟩) (by show b < _; omega)).trans ((HB.out.cell (p := ⟨b, off + i * 4, none⟩) (by show b < _; omega)).symm.trans r0)
          have HY := Lib.hid hy
          clear q0' hy
          cases hq : (s'.toList == s.toList)
          · have HD2 := Lib.hid (show ∀ y ∈ l.take (k + 1), y.label ≠ s.toList from fun y hy => by
              rw [tuTake_at HY.out, List.mem_append, List.mem_singleton] at hy
              rcases hy with hy | rfl
              · exact HD.out y hy
              · rw [beq_eq_false_iff_ne] at hq; exact hq)
            have HQ := Lib.hid hq
            clear hq
            have hq := HQ.out
            go_wp2
            go_quiet (fail)
            go_wp2
            go_roundw
            case rel => exact ⟨k + 1, by omega, by go_num, HD2, Lib.hid (below_drewN HBt.out nq)⟩
            case measure => simp [intOf]; omega
          · have HZ := Lib.hid (HR.out.trans (armsB_twice hki HX.out HY.out (eq_of_beq hq)))
            go_wp2
            go_quiet (fail)
            go_wp2
            go_ret
            exact ⟨ret_bool HZ.out.symm, below_drewN HBt.out nq⟩
        · have HG2 := Lib.hid (HG.out.step HX.out HW.out (by
            have := HD.out
            rwa [show k = i by omega] at this))
          go_wp2
          go_roundw
          case rel => exact ⟨i + 1, by omega, by go_num, HG2, HBt⟩
          case measure => simp [intOf]; omega
    · have hend := armsB_end (n := pn) (l := l) (by
        have := HG.out.1
        rw [List.take_of_length_le (by have := HLEN.out; omega)] at this
        exact this) (by
        have := HG.out.2
        rw [List.take_of_length_le (by have := HLEN.out; omega)] at this
        exact this)
      rw [HLEN.out] at hend
      have hz := HR.out.trans hend
      by_cases h1 : 1 ≤ (n : Int)
      · have d1 : decide (1 ≤ (n : Int)) = true := decide_eq_true h1
        by_cases h6 : (n : Int) ≤ 6
        · have d6 : decide ((n : Int) ≤ 6) = true := decide_eq_true h6
          rw [d1, d6] at hz
          have HZ := Lib.hid hz
          clear hz hend h1 h6
          go_wp2_with fail
          go_ret
          exact ⟨ret_bool HZ.out.symm, HB.out⟩
        · have d6 : decide ((n : Int) ≤ 6) = false := decide_eq_false h6
          rw [d1, d6] at hz
          have HZ := Lib.hid hz
          clear hz hend h1 h6
          go_wp2_with fail
          go_ret
          exact ⟨ret_bool HZ.out.symm, HB.out⟩
      · have d1 : decide (1 ≤ (n : Int)) = false := decide_eq_false h1
        rw [d1] at hz
        have HZ := Lib.hid hz
        clear hz hend h1
        go_wp2_with fail
        go_ret
        exact ⟨ret_bool HZ.out.symm, HB.out⟩
end Go.Proofs.YtiofpeckcfdilaaGreatDoor

/- Contract of the reference's LocalMay. -/
namespace Go.Proofs.YtiofpeckcfdilaaGreatDoor
open Go.RowKit

theorem locB_short {ts : List TurnL} (h : ts.length < 1 ∨ 40 < ts.length) : locB ts = false := by
  unfold locB
  rcases h with h | h
  · rw [decide_eq_false (show ¬ 1 ≤ ts.length by omega)]; rfl
  · rw [decide_eq_false (show ¬ ts.length ≤ 40 by omega), Bool.and_false]; rfl
theorem locB_bad {ts : List TurnL} {i : Nat} {t : TurnL} (h : ts[i]? = some t) (ht : turnB ts.length t = false) : locB ts = false := by
  unfold locB
  have : ts.all (turnB ts.length) = false := by
    rw [List.all_eq_false]
    exact ⟨t, List.mem_of_getElem? h, by rw [ht]; decide⟩
  rw [this, Bool.and_false]
theorem locB_end {ts : List TurnL} (h1 : 1 ≤ ts.length) (h2 : ts.length ≤ 40) (h : ∀ t ∈ ts, turnB ts.length t = true) : locB ts = true := by
  unfold locB
  rw [decide_eq_true h1, decide_eq_true h2, List.all_eq_true.2 h]
  rfl
theorem turns_step {n : Nat} {ts : List TurnL} {i : Nat} {t : TurnL} (h : ∀ t ∈ ts.take i, turnB n t = true) (ht : ts[i]? = some t) (hg : turnB n t = true) : ∀ t ∈ ts.take (i + 1), turnB n t = true := by
  intro x hx
  rw [tuTake_at ht, List.mem_append, List.mem_singleton] at hx
  rcases hx with hx | rfl
  · exact h x hx
  · exact hg
/-- Block g holds a local type. -/
def LBox (W : World) (g : Nat) (nm : ByteArray) (a : Option Addr) (n c : Nat) : Prop := W.heap[g]? = some (.cells #[.string nm, .slice a n c] 24 (0, 0))
theorem LBox.lt {W : World} {g : Nat} {nm : ByteArray} {a : Option Addr} {n c : Nat} (h : LBox W g nm a n c) : g < W.heap.size := by
  rcases Nat.lt_or_ge g W.heap.size with h1 | h1
  · exact h1
  · unfold LBox at h; rw [Array.getElem?_eq_none h1] at h; cases h
theorem LBox.new (w : World) (nm : ByteArray) (a : Option Addr) (n c : Nat) : LBox (w.alloc (.cells #[.string nm, .slice a n c] 24)) w.heap.size nm a n c := heap_alloc_new w _
theorem LBox.on {W W' : World} {g : Nat} {nm : ByteArray} {a : Option Addr} {n c : Nat} (h : LBox W g nm a n c) (hb : Below W.heap.size W W') : LBox W' g nm a n c := (hb.block g h.lt).trans h
theorem LBox.cells {W : World} {g : Nat} {nm : ByteArray} {a : Option Addr} {n c : Nat} (h : LBox W g nm a n c) : W.cell? ⟨g, 0, none⟩ = some (.string nm) ∧ W.cell? ⟨g, 1, none⟩ = some (.slice a n c) := by
  unfold LBox at h
  constructor
  all_goals (rw [cell_of_row _ _ _ _ _ _ h]; rfl)

set_option maxHeartbeats 8000000 in
set_option maxRecDepth 20000 in
theorem tuLocal_any (nm : ByteArray) (a : Option Addr) (n c : Nat) (ts : List TurnL) (w : World) (bound : Nat) (hb : bound ≤ w.heap.size) (h : Turns w bound a n ts) :
    Calls Tryz.prog 36 #[.agg #[.string nm, .slice a n c]] w fun e w' => e = .returned (.bool (locB ts)) ∧ Below w.heap.size w w' := by
  have HLEN := Lib.hid h.1
  have HN := Lib.hid h
  have HB0 := Lib.hid (tu1 w (.cells #[.string nm, .slice a n c] 24))
  have HL := Lib.hid (LBox.new w nm a n c)
  obtain ⟨R, hR⟩ : ∃ R, R = locB ts := ⟨_, rfl⟩
  rw [← hR]
  have HR := Lib.hid hR
  clear h hR
  by_cases h1 : (n : Int) < 1
  · have d1 : decide ((n : Int) < 1) = true := decide_eq_true h1
    have HZ := Lib.hid (HR.out.trans (locB_short (.inl (by rw [HLEN.out]; omega))))
    clear h1
    go_enter Tryz.func36, Tryz.ntmps36
    go_wp2_with fail
    go_ret
    exact ⟨ret_bool HZ.out.symm, HB0.out⟩
  have d1 : decide ((n : Int) < 1) = false := decide_eq_false h1
  by_cases h2 : 40 < (n : Int)
  · have d2 : decide (40 < (n : Int)) = true := decide_eq_true h2
    have HZ := Lib.hid (HR.out.trans (locB_short (.inr (by rw [HLEN.out]; omega))))
    clear h1 h2
    go_enter Tryz.func36, Tryz.ntmps36
    go_wp2_with fail
    go_ret
    exact ⟨ret_bool HZ.out.symm, HB0.out⟩
  have d2 : decide (40 < (n : Int)) = false := decide_eq_false h2
  have hn1 : 1 ≤ n := by omega
  have hn40 : n ≤ 40 := by omega
  clear h1 h2
  go_enter Tryz.func36, Tryz.ntmps36
  go_wp2_with fail
  go_loopw [3] (fun v wr => ∃ i : Nat, i ≤ n ∧ v = .int .i64 i ∧ Hid (∀ t ∈ ts.take i, turnB n t = true) ∧ Hid (Below (w.alloc (.cells #[.string nm, .slice a n c] 24)).heap.size (w.alloc (.cells #[.string nm, .slice a n c] 24)) wr)) (fun v _ => n - (intOf v).toNat)
  case atStart => exact ⟨0, Nat.zero_le _, rfl, Lib.hid (by simp), Lib.hid (Below.refl _ _)⟩
  case round =>
    obtain ⟨i, hi, rfl, HG, HBr⟩ := hrel
    have HLr := Lib.hid (HL.out.on HBr.out)
    obtain ⟨lc0, lc1⟩ := HLr.out.cells
    have hzr := HBr.out.size
    rw [World.size_alloc] at hzr
    have HBW := Lib.hid (HB0.out.trans (HBr.out.mono (by simp)))
    by_cases hin : i < n
    · obtain ⟨b, off, kd, s, aa, an, ac, l, rfl, hbb, hx, ⟨q0, q1, q2⟩, hs, hal⟩ := HN.out.at_ hin
      have r0 := (HBW.out.cell (p := ⟨b, off + i * 3, none⟩) (by show b < _; omega)).trans q0
      have r1 := (HBW.out.cell (p := ⟨b, off + i * 3 + 1, none⟩) (by show b < _; omega)).trans q1
      have r2 := (HBW.out.cell (p := ⟨b, off + i * 3 + 2, none⟩) (by show b < _; omega)).trans q2
      have HX := Lib.hid hx
      have HAL := Lib.hid hal
      have hlen := hal.1
      have HBT := Lib.hid (tu1 wr (.cells #[.int .i64 kd, .string s, .slice aa an ac] 51))
      have HT0 := Lib.hid ((LBox.on HLr.out HBT.out))
      obtain ⟨mc0, mc1⟩ := HT0.out.cells
      clear q0 q1 q2 hx hal
      by_cases hk0 : kd = 0
      · subst hk0
        have hw : turnB n ⟨0, s.toList, l⟩ = (s.toList.isEmpty && l.isEmpty) := rfl
        cases he : s.toList.isEmpty
        · rw [he] at hw
          have HZ := Lib.hid (HR.out.trans (locB_bad HX.out (by rw [HLEN.out]; exact hw)))
          have he2 : (s.toList == []) = false := by rw [empty_is]; exact he
          have he3 : (s.toList != []) = true := by unfold bne; rw [he2]; rfl
          clear hw
          go_wp2_with fail
          go_ret
          exact ⟨ret_bool HZ.out.symm, below_on HBW.out HBT.out⟩
        · rw [he] at hw
          have he2 : (s.toList == []) = true := by rw [empty_is]; exact he
          have he3 : (s.toList != []) = false := by unfold bne; rw [he2]; rfl
          by_cases ha : 0 < (an : Int)
          · have da : decide (0 < an) = true := decide_eq_true (by omega)
            have hle : l.isEmpty = false := by
              cases l with
              | nil => simp at hlen; omega
              | cons _ _ => rfl
            rw [hle] at hw
            have HZ := Lib.hid (HR.out.trans (locB_bad HX.out (by rw [HLEN.out]; exact hw)))
            clear hw hle ha hlen
            go_wp2_with fail
            go_ret
            exact ⟨ret_bool HZ.out.symm, below_on HBW.out HBT.out⟩
          · have da : decide (0 < an) = false := decide_eq_false (by omega)
            have hle : l.isEmpty = true := by
              cases l with
              | nil => rfl
              | cons _ _ => simp at hlen; omega
            rw [hle] at hw
            have HG2 := Lib.hid (turns_step HG.out HX.out hw)
            have HBS := Lib.hid (HBr.out.trans (HBT.out.mono (by simp; omega)))
            clear hw hle ha hlen
            go_wp2_with fail
            go_roundw
            case rel => exact ⟨i + 1, by omega, by go_num, HG2, HBS⟩
            case measure => simp [intOf]; omega
      have k0 : (kd == 0) = false := by rw [beq_eq_false_iff_ne]; exact hk0
      by_cases hk12 : kd = 1 ∨ kd = 2
      · have hw : turnB n ⟨kd, s.toList, l⟩ = (may s.toList && armsB n l) := by unfold turnB; rw [if_neg hk0, if_pos hk12]
        have CM := Lib.hid (fun W => refMay_any s W hs)
        have CA := Lib.hid (fun (W : World) (hW : Below w.heap.size w W) => tuArms_any aa an ac l n W bound (by have := hW.size; omega) (HAL.out.below (hW.mono hb)))
        have HK12 := Lib.hid hk12
        clear hk0 hk12 hlen
        cases hm : may s.toList
        · rw [hm] at CM hw
          have HZ := Lib.hid (HR.out.trans (locB_bad HX.out (by rw [HLEN.out]; exact hw)))
          clear hw hm
          rcases HK12.out with rfl | rfl
          all_goals
            go_wp2_with (first
              | (go_at_call 69; (with_reducible refine (CM.out _).mono ?_); rintro e w1 ⟨rfl, rfl⟩)
              | fail)
            go_ret
            exact ⟨ret_bool HZ.out.symm, below_on HBW.out HBT.out⟩
        rw [hm] at CM hw
        cases ha : armsB n l
        · rw [ha] at CA hw
          have HZ := Lib.hid (HR.out.trans (locB_bad HX.out (by rw [HLEN.out]; exact hw)))
          clear hw hm ha
          rcases HK12.out with rfl | rfl
          all_goals
            go_wp2_with (first
              | (go_at_call 69; (with_reducible refine (CM.out _).mono ?_); rintro e w1 ⟨rfl, rfl⟩)
              | (go_at_call 70; (with_reducible refine (CA.out _ (below_on HBW.out HBT.out)).mono ?_)
                 rintro e w2 ⟨rfl, hb2⟩
                 have HB2 := Lib.hid (below_on (below_on HBW.out HBT.out) hb2)
                 clear hb2)
              | fail)
            go_ret
            exact ⟨ret_bool HZ.out.symm, HB2.out⟩
        · rw [ha] at CA hw
          have HG2 := Lib.hid (turns_step HG.out HX.out hw)
          clear hw hm ha
          rcases HK12.out with rfl | rfl
          all_goals
            go_wp2_with (first
              | (go_at_call 69; (with_reducible refine (CM.out _).mono ?_); rintro e w1 ⟨rfl, rfl⟩)
              | (go_at_call 70; (with_reducible refine (CA.out _ (below_on HBW.out HBT.out)).mono ?_)
                 rintro e w2 ⟨rfl, hb2⟩
                 have HB2 := Lib.hid (HBr.out.trans ((below_on HBT.out hb2).mono (by simp; omega)))
                 clear hb2)
              | fail)
            go_roundw
            case rel => exact ⟨i + 1, by omega, by go_num, HG2, HB2⟩
            case measure => simp [intOf]; omega
      · have hw : turnB n ⟨kd, s.toList, l⟩ = false := by unfold turnB; rw [if_neg hk0, if_neg hk12]
        have k1 : (kd == 1) = false := by rw [beq_eq_false_iff_ne]; omega
        have k2 : (kd == 2) = false := by rw [beq_eq_false_iff_ne]; omega
        have HZ := Lib.hid (HR.out.trans (locB_bad HX.out (by rw [HLEN.out]; exact hw)))
        clear hw hk0 hk12 hlen
        go_wp2_with fail
        go_ret
        exact ⟨ret_bool HZ.out.symm, below_on HBW.out HBT.out⟩
    · have HZ := Lib.hid (HR.out.trans (locB_end (by rw [HLEN.out]; exact hn1) (by rw [HLEN.out]; exact hn40) (by
        have := HG.out
        rw [List.take_of_length_le (by have := HLEN.out; omega)] at this
        rw [HLEN.out]
        exact this)))
      go_wp2_with fail
      go_ret
      exact ⟨ret_bool HZ.out.symm, HBW.out⟩
end Go.Proofs.YtiofpeckcfdilaaGreatDoor
