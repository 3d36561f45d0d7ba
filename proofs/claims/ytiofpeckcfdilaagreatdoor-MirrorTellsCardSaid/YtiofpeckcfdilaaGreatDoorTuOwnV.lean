/- Contracts of the program's validArms, validTurn and May. -/
import Derived.Test.YtiofpeckcfdilaaGreatDoorTuCut
import Derived.Test.YtiofpeckcfdilaaGreatDoorRef2
namespace Go.Proofs.YtiofpeckcfdilaaGreatDoor
open Go.RowKit Go.Sort

theorem ownsRow_on {w w' : World} {base B : Nat} {e : TypeId} {size : Nat} {v : Value} {n : Nat} {xs : List Value} (h : w.ownsRow base e size v n xs) (hb : Below B w w') (hB : w.heap.size ≤ B) : w'.ownsRow base e size v n xs := by
  have hlt := h.lt
  rcases h.2 with h0 | ⟨g, cap, cur, rfl, hbase, hh, h1, h2, h3, h4⟩
  · exact ⟨h.1, .inl h0⟩
  · refine ⟨h.1, .inr ⟨g, cap, cur, rfl, hbase, ?_, h1, h2, h3, h4⟩⟩
    have := (hlt g rfl).2
    rw [hb.block g (by omega)]
    exact hh
theorem Arms.max {w : World} {bound : Nat} {a : Option Addr} {n : Nat} {l : List ArmL} (h : Arms w bound a n l) : ∀ s ∈ l.map ArmL.label, s.length ≤ maxLen := by
  intro s hs
  obtain ⟨x, hx, rfl⟩ := List.mem_map.1 hs
  obtain ⟨j, hj, e⟩ := List.mem_iff_getElem.1 hx
  obtain ⟨b, off, s, u, ck, nx, _, _, h1, _, h2, _⟩ := h.at_ (k := j) (by rw [← h.1]; exact hj)
  rw [List.getElem?_eq_getElem hj, e] at h1
  obtain rfl := Option.some.inj h1
  rw [len_toList]
  exact h2
theorem armsB_few {n : Nat} {l : List ArmL} (h : l.length < 1 ∨ 6 < l.length) : armsB n l = false := by
  unfold armsB
  rcases h with h | h
  · rw [decide_eq_false (show ¬ 1 ≤ l.length by omega)]; simp
  · rw [decide_eq_false (show ¬ l.length ≤ 6 by omega)]; simp
theorem armsB_once {n : Nat} {l : List ArmL} (h1 : 1 ≤ l.length) (h6 : l.length ≤ 6) (hg : ∀ a ∈ l, armB n a = true) : armsB n l = once (l.map ArmL.label) := by
  have e : once (l.map ArmL.label) = decide ((l.map ArmL.label).Nodup) := by rw [Bool.eq_iff_iff, once_iff, decide_eq_true_eq]
  have ha : l.all (armB n) = true := List.all_eq_true.2 hg
  unfold armsB
  rw [e, ha, decide_eq_true h1, decide_eq_true h6]
  simp
theorem good_step {n : Nat} {l : List ArmL} {k : Nat} {x : ArmL} (h : ∀ a ∈ l.take k, armB n a = true) (hx : l[k]? = some x) (hg : armB n x = true) : ∀ a ∈ l.take (k + 1), armB n a = true := by
  intro a ha
  rw [tuTake_at hx, List.mem_append, List.mem_singleton] at ha
  rcases ha with ha | rfl
  · exact h a ha
  · exact hg

set_option maxHeartbeats 8000000 in
set_option maxRecDepth 20000 in
theorem ownArms_any (a : Option Addr) (n c : Nat) (l : List ArmL) (pn : Nat) (w : World) (bound : Nat) (hb : bound ≤ w.heap.size) (h : Arms w bound a n l) :
    Calls Tryz.prog 119 #[.slice a n c, .int .i64 (pn : Int)] w fun e w' => e = .returned (.bool (armsB pn l)) ∧ Below w.heap.size w w' := by
  have hsz := h.2.1
  have HLEN := Lib.hid h.1
  have HN := Lib.hid h
  have HMX := Lib.hid h.max
  obtain ⟨R, hR⟩ : ∃ R, R = armsB pn l := ⟨_, rfl⟩
  rw [← hR]
  have HR := Lib.hid hR
  clear h hR
  by_cases h1 : (n : Int) < 1
  · have d1 : decide ((n : Int) < 1) = true := decide_eq_true h1
    have HZ := Lib.hid (HR.out.trans (armsB_few (.inl (by rw [HLEN.out]; omega))))
    clear h1
    go_enter Tryz.func119, Tryz.ntmps119
    go_wp2_with fail
    go_ret
    exact ⟨ret_bool HZ.out.symm, Below.refl _ _⟩
  have d1 : decide ((n : Int) < 1) = false := decide_eq_false h1
  by_cases h6 : 6 < (n : Int)
  · have d6 : decide (6 < (n : Int)) = true := decide_eq_true h6
    have HZ := Lib.hid (HR.out.trans (armsB_few (.inr (by rw [HLEN.out]; omega))))
    clear h1 h6
    go_enter Tryz.func119, Tryz.ntmps119
    go_wp2_with fail
    go_ret
    exact ⟨ret_bool HZ.out.symm, Below.refl _ _⟩
  have d6 : decide (6 < (n : Int)) = false := decide_eq_false h6
  have hn1 : 1 ≤ n := by omega
  have hn6 : n ≤ 6 := by omega
  clear h1 h6
  go_enter Tryz.func119, Tryz.ntmps119
  go_wp2_with fail
  go_loopw [5, 18] (fun o i wr => ∃ (k : Nat) (v : Value), k ≤ n ∧ i = .int .i64 k ∧ v = o ∧ Hid (∀ a ∈ l.take k, armB pn a = true) ∧ Hid (wr.ownsRow w.heap.size 9 1 v k (((l.take k).map ArmL.label).map encStr)) ∧ Hid (Below w.heap.size w wr)) (fun _ i _ => n - (intOf i).toNat)
  case atStart => exact ⟨0, _, Nat.zero_le _, rfl, rfl, Lib.hid (by simp), Lib.hid (World.ownsRow_nil _ _ _ _), Lib.hid (Below.refl _ _)⟩
  case round =>
    obtain ⟨k, v, hk, rfl, hvo, HG, HO, HB⟩ := hrel
    subst hvo
    by_cases hlt : k < n
    · obtain ⟨b, off, s, u, ck, nx, rfl, hbb, hx, ⟨q0, q1, q2, q3⟩, hs, hu⟩ := HN.out.at_ hlt
      have r0 := (HB.out.cell (p := ⟨b, off + k * 4, none⟩) (by show b < _; omega)).trans q0
      have r1 := (HB.out.cell (p := ⟨b, off + k * 4 + 1, none⟩) (by show b < _; omega)).trans q1
      have r2 := (HB.out.cell (p := ⟨b, off + k * 4 + 2, none⟩) (by show b < _; omega)).trans q2
      have r3 := (HB.out.cell (p := ⟨b, off + k * 4 + 3, none⟩) (by show b < _; omega)).trans q3
      have HBT := Lib.hid (below_on HB.out (tu1 wr (.cells #[.string s, .int .i64 ck, .string u, .int .i64 nx] 67)))
      have CM := Lib.hid (fun W => may_any s W hs)
      have CC := Lib.hid (fun W => ownCarries_any ck u W hu)
      have HX := Lib.hid hx
      have HS := Lib.hid hs
      have hw := armB_ways (n := pn) s.toList u.toList ck nx
      have hzr := HB.out.size
      clear q0 q1 q2 q3 hx hs hu
      cases hm : may s.toList
      · rw [hm] at CM hw
        have HZ := Lib.hid (HR.out.trans (by
          have := armsB_bad HX.out hw
          exact this))
        clear hm hw
        go_wp2_with (first
          | (go_at_call 26; (with_reducible refine (CM.out _).mono ?_); rintro e w1 ⟨rfl, rfl⟩)
          | fail)
        go_ret
        exact ⟨ret_bool HZ.out.symm, HBT.out⟩
      rw [hm] at CM hw
      cases hc : carriesB ck u.toList
      · rw [hc] at CC hw
        have HZ := Lib.hid (HR.out.trans (armsB_bad HX.out hw))
        clear hm hc hw
        go_wp2_with (first
          | (go_at_call 26; (with_reducible refine (CM.out _).mono ?_); rintro e w1 ⟨rfl, rfl⟩)
          | (go_at_call 131; (with_reducible refine (CC.out _).mono ?_)
             rintro e w2 ⟨rfl, hb2⟩
             have HB2 := Lib.hid (below_on HBT.out hb2)
             clear hb2)
          | fail)
        go_ret
        exact ⟨ret_bool HZ.out.symm, HB2.out⟩
      rw [hc] at CC hw
      by_cases h0 : nx < 0
      · have d0 : decide (nx < 0) = true := decide_eq_true h0
        rw [decide_eq_false (show ¬ 0 ≤ nx by omega)] at hw
        have HZ := Lib.hid (HR.out.trans (armsB_bad HX.out hw))
        clear hm hc hw h0
        go_wp2_with (first
          | (go_at_call 26; (with_reducible refine (CM.out _).mono ?_); rintro e w1 ⟨rfl, rfl⟩)
          | (go_at_call 131; (with_reducible refine (CC.out _).mono ?_)
             rintro e w2 ⟨rfl, hb2⟩
             have HB2 := Lib.hid (below_on HBT.out hb2)
             have t3 := (hb2.cell (p := ⟨wr.heap.size, 3, none⟩) (by simp)).trans (show _ = some (.int .i64 nx) by simp)
             clear hb2)
          | fail)
        go_ret
        exact ⟨ret_bool HZ.out.symm, HB2.out⟩
      have d0 : decide (nx < 0) = false := decide_eq_false h0
      by_cases h1 : (pn : Int) ≤ nx
      · have d1 : decide ((pn : Int) ≤ nx) = true := decide_eq_true h1
        rw [decide_eq_true (show 0 ≤ nx by omega), decide_eq_false (show ¬ nx < (pn : Int) by omega)] at hw
        have HZ := Lib.hid (HR.out.trans (armsB_bad HX.out hw))
        clear hm hc hw h0 h1
        go_wp2_with (first
          | (go_at_call 26; (with_reducible refine (CM.out _).mono ?_); rintro e w1 ⟨rfl, rfl⟩)
          | (go_at_call 131; (with_reducible refine (CC.out _).mono ?_)
             rintro e w2 ⟨rfl, hb2⟩
             have HB2 := Lib.hid (below_on HBT.out hb2)
             have t3 := (hb2.cell (p := ⟨wr.heap.size, 3, none⟩) (by simp)).trans (show _ = some (.int .i64 nx) by simp)
             clear hb2)
          | fail)
        go_ret
        exact ⟨ret_bool HZ.out.symm, HB2.out⟩
      have d1 : decide ((pn : Int) ≤ nx) = false := decide_eq_false h1
      rw [decide_eq_true (show 0 ≤ nx by omega), decide_eq_true (show nx < (pn : Int) by omega)] at hw
      have HG2 := Lib.hid (good_step HG.out HX.out hw)
      have hst : (l.take (k + 1)).map ArmL.label = (l.take k).map ArmL.label ++ [s.toList] := by rw [tuTake_at HX.out, List.map_append]; rfl
      have HST := Lib.hid hst
      clear hm hc hw h0 h1 hst
      go_wp2_with (first
        | (go_at_call 26; (with_reducible refine (CM.out _).mono ?_); rintro e w1 ⟨rfl, rfl⟩)
        | (go_at_call 131; (with_reducible refine (CC.out _).mono ?_)
           rintro e w2 ⟨rfl, hb2⟩
           have HB2 := Lib.hid (below_on HBT.out hb2)
           have HO2 := Lib.hid (ownsRow_on (HO.out.alloc _) hb2 (Nat.le_refl _))
           have t0 := (hb2.cell (p := ⟨wr.heap.size, 0, none⟩) (by simp)).trans (show _ = some (.string s) by simp)
           have t3 := (hb2.cell (p := ⟨wr.heap.size, 3, none⟩) (by simp)).trans (show _ = some (.int .i64 nx) by simp)
           clear hb2)
        | (at_builtin
           refine wpList_append_strs _ rfl (.tmp 43) (.tmp 46) _ rfl w.heap.size 9 Tryz.underlying34 info9 v k ((l.take k).map ArmL.label) rfl (HO2.out.alloc _) _ _ 1 1 [s.toList] rfl (strs_one w2 s HS.out) (by omega) (by have := HB2.out.size; simp; omega) ?_
           intro v3 w3 own3 gr3 at3
           have HO3 := Lib.hid own3
           have HB3 := Lib.hid ((HB2.out.alloc HB2.out.size _).grown gr3 (by have := HB2.out.size; simp; omega) (fun j hj => (HO2.out.lt j hj).1))
           clear own3 gr3 at3)
        | fail)
      go_roundw
      case rel => exact ⟨k + 1, v3, by omega, by go_num, rfl, HG2, Lib.hid (by rw [HST.out]; exact HO3.out), HB3⟩
      case measure => simp [intOf]; omega
    · obtain rfl : k = n := by omega
      have hz := HR.out.trans (armsB_once (by rw [HLEN.out]; exact hn1) (by rw [HLEN.out]; exact hn6) (by
        have := HG.out
        rw [List.take_of_length_le (by have := HLEN.out; omega)] at this
        exact this))
      have ho := HO.out
      rw [List.take_of_length_le (by have := HLEN.out; omega)] at ho
      obtain ⟨oa, oc, hvo, hss, _, _⟩ := Strs.of_own ho (by omega) HMX.out
      subst hvo
      have CO := Lib.hid (once_any oa k oc (l.map ArmL.label) wr hss)
      rw [← hz] at CO
      clear ho hss hz
      go_wp2_with (first
        | (go_at_call 77; (with_reducible refine CO.out.mono ?_)
           rintro e w4 ⟨rfl, hb4⟩
           have HB4 := Lib.hid (below_on HB.out hb4)
           clear hb4)
        | fail)
      go_ret
      exact ⟨rfl, HB4.out⟩
set_option maxHeartbeats 4000000 in
theorem ownTurn_any (kd : Int) (s : ByteArray) (aa : Option Addr) (an ac : Nat) (l : List ArmL) (pn : Nat) (w : World) (bound : Nat) (hb : bound ≤ w.heap.size) (hs : s.size ≤ maxLen) (h : Arms w bound aa an l) :
    Calls Tryz.prog 89 #[.agg #[.int .i64 kd, .string s, .slice aa an ac], .int .i64 (pn : Int)] w fun e w' => e = .returned (.bool (turnB pn ⟨kd, s.toList, l⟩)) ∧ Below w.heap.size w w' := by
  have HB := Lib.hid (tu1 w (.cells #[.int .i64 kd, .string s, .slice aa an ac] 51))
  have hlen := h.1
  obtain ⟨R, hR⟩ : ∃ R, R = turnB pn ⟨kd, s.toList, l⟩ := ⟨_, rfl⟩
  rw [← hR]
  by_cases hk0 : kd = 0
  · subst hk0
    have hz : R = (s.toList.isEmpty && l.isEmpty) := hR
    clear hR
    cases he : s.toList.isEmpty
    · rw [he] at hz
      have he2 : (s.toList == []) = false := by rw [empty_is]; exact he
      have HZ := Lib.hid hz
      clear hz h hs
      go_enter Tryz.func89, Tryz.ntmps89
      go_wp2_with fail
      go_ret
      exact ⟨ret_bool HZ.out.symm, HB.out⟩
    · rw [he] at hz
      have he2 : (s.toList == []) = true := by rw [empty_is]; exact he
      by_cases ha : an = 0
      · subst ha
        have hle : l.isEmpty = true := by rw [List.isEmpty_iff]; exact List.eq_nil_of_length_eq_zero hlen
        rw [hle] at hz
        have HZ := Lib.hid hz
        clear hz h hs hle hlen
        go_enter Tryz.func89, Tryz.ntmps89
        go_wp2_with fail
        go_ret
        exact ⟨ret_bool HZ.out.symm, HB.out⟩
      · have da : ((an : Int) == 0) = false := by rw [beq_eq_false_iff_ne]; omega
        have hle : l.isEmpty = false := by
          cases l with
          | nil => simp at hlen; omega
          | cons _ _ => rfl
        rw [hle] at hz
        have HZ := Lib.hid hz
        clear hz h hs hle hlen ha
        go_enter Tryz.func89, Tryz.ntmps89
        go_wp2_with fail
        go_ret
        exact ⟨ret_bool HZ.out.symm, HB.out⟩
  have k0 : (kd == 0) = false := by rw [beq_eq_false_iff_ne]; exact hk0
  by_cases hk12 : kd = 1 ∨ kd = 2
  · have hz : R = (may s.toList && armsB pn l) := by rw [hR]; unfold turnB; rw [if_neg hk0, if_pos hk12]
    have CM := Lib.hid (fun W => may_any s W hs)
    have CA := Lib.hid (fun (W : World) (hW : Below w.heap.size w W) => ownArms_any aa an ac l pn W bound (by have := hW.size; omega) (h.below (hW.mono hb)))
    have HK12 := Lib.hid hk12
    clear hk0 hk12 hlen hR h hs
    cases hm : may s.toList
    · rw [hm] at CM hz
      have HZ := Lib.hid hz
      clear hz hm
      rcases HK12.out with rfl | rfl
      all_goals
        go_enter Tryz.func89, Tryz.ntmps89
        go_wp2_with (first
          | (go_at_call 26; (with_reducible refine (CM.out _).mono ?_); rintro e w1 ⟨rfl, rfl⟩)
          | fail)
        go_ret
        exact ⟨ret_bool HZ.out.symm, HB.out⟩
    · rw [hm] at CM hz
      have HZ := Lib.hid hz
      clear hz hm
      rcases HK12.out with rfl | rfl
      all_goals
        go_enter Tryz.func89, Tryz.ntmps89
        go_wp2_with (first
          | (go_at_call 26; (with_reducible refine (CM.out _).mono ?_); rintro e w1 ⟨rfl, rfl⟩)
          | (go_at_call 119; (with_reducible refine (CA.out _ HB.out).mono ?_)
             rintro e w2 ⟨rfl, hb2⟩
             have HB2 := Lib.hid (below_on HB.out hb2)
             clear hb2)
          | fail)
        go_ret
        exact ⟨ret_bool (by rw [HZ.out]; rfl), HB2.out⟩
  · have hz : R = false := by rw [hR]; unfold turnB; rw [if_neg hk0, if_neg hk12]
    have k1 : (kd == 1) = false := by rw [beq_eq_false_iff_ne]; omega
    have k2 : (kd == 2) = false := by rw [beq_eq_false_iff_ne]; omega
    have HZ := Lib.hid hz
    clear hk0 hk12 hlen hR h hs hz
    go_enter Tryz.func89, Tryz.ntmps89
    go_wp2_with fail
    go_ret
    exact ⟨ret_bool HZ.out.symm, HB.out⟩
set_option maxHeartbeats 8000000 in
set_option maxRecDepth 20000 in
theorem ownMay_any (nm : ByteArray) (a : Option Addr) (n c : Nat) (ts : List TurnL) (w : World) (bound : Nat) (hb : bound ≤ w.heap.size) (h : Turns w bound a n ts) :
    Calls Tryz.prog 53 #[.agg #[.string nm, .slice a n c]] w fun e w' => e = .returned (.bool (locB ts)) ∧ Below w.heap.size w w' := by
  have HLEN := Lib.hid h.1
  have HN := Lib.hid h
  have HB0 := Lib.hid (tu1 w (.cells #[.string nm, .slice a n c] 24))
  have HL := Lib.hid (LBox.new w nm a n c)
  obtain ⟨R, hR⟩ : ∃ R, R = locB ts := ⟨_, rfl⟩
  rw [← hR]
  have HR := Lib.hid hR
  clear h hR
  by_cases h1 : (n : Int) < 1
  · have d1 : decide ((n : Int) < 1) = true := decide_eq_true h1
    have HZ := Lib.hid (HR.out.trans (locB_short (.inl (by rw [HLEN.out]; omega))))
    clear h1
    go_enter Tryz.func53, Tryz.ntmps53
    go_wp2_with fail
    go_ret
    exact ⟨ret_bool HZ.out.symm, HB0.out⟩
  have d1 : decide ((n : Int) < 1) = false := decide_eq_false h1
  by_cases h2 : 40 < (n : Int)
  · have d2 : decide (40 < (n : Int)) = true := decide_eq_true h2
    have HZ := Lib.hid (HR.out.trans (locB_short (.inr (by rw [HLEN.out]; omega))))
    clear h1 h2
    go_enter Tryz.func53, Tryz.ntmps53
    go_wp2_with fail
    go_ret
    exact ⟨ret_bool HZ.out.symm, HB0.out⟩
  have d2 : decide (40 < (n : Int)) = false := decide_eq_false h2
  have hn1 : 1 ≤ n := by omega
  have hn40 : n ≤ 40 := by omega
  clear h1 h2
  go_enter Tryz.func53, Tryz.ntmps53
  go_wp2_with fail
  go_loopw [18] (fun v wr => ∃ i : Nat, i ≤ n ∧ v = .int .i64 i ∧ Hid (∀ t ∈ ts.take i, turnB n t = true) ∧ Hid (Below (w.alloc (.cells #[.string nm, .slice a n c] 24)).heap.size (w.alloc (.cells #[.string nm, .slice a n c] 24)) wr)) (fun v _ => n - (intOf v).toNat)
  case atStart => exact ⟨0, Nat.zero_le _, rfl, Lib.hid (by simp), Lib.hid (Below.refl _ _)⟩
  case round =>
    obtain ⟨i, hi, rfl, HG, HBr⟩ := hrel
    have HLr := Lib.hid (HL.out.on HBr.out)
    obtain ⟨lc0, lc1⟩ := HLr.out.cells
    have hzr := HBr.out.size
    rw [World.size_alloc] at hzr
    have HBW := Lib.hid (HB0.out.trans (HBr.out.mono (by simp)))
    by_cases hin : i < n
    · obtain ⟨b, off, kd, s, aa, an, ac, l, rfl, hbb, hx, ⟨q0, q1, q2⟩, hs, hal⟩ := HN.out.at_ hin
      have r0 := (HBW.out.cell (p := ⟨b, off + i * 3, none⟩) (by show b < _; omega)).trans q0
      have r1 := (HBW.out.cell (p := ⟨b, off + i * 3 + 1, none⟩) (by show b < _; omega)).trans q1
      have r2 := (HBW.out.cell (p := ⟨b, off + i * 3 + 2, none⟩) (by show b < _; omega)).trans q2
      have HX := Lib.hid hx
      have HBT := Lib.hid (tu1 wr (.cells #[.int .i64 kd, .string s, .slice aa an ac] 51))
      have HT0 := Lib.hid ((LBox.on HLr.out HBT.out))
      obtain ⟨mc0, mc1⟩ := HT0.out.cells
      have CT := Lib.hid (fun (W : World) (hW : Below w.heap.size w W) => ownTurn_any kd s aa an ac l n W bound (by have := hW.size; omega) hs (hal.below (hW.mono hb)))
      clear q0 q1 q2 hx hal hs
      cases hw : turnB n ⟨kd, s.toList, l⟩
      · rw [hw] at CT
        have HZ := Lib.hid (HR.out.trans (locB_bad HX.out (by rw [HLEN.out]; exact hw)))
        clear hw
        go_wp2_with (first
          | (go_at_call 89; (with_reducible refine (CT.out _ (below_on HBW.out HBT.out)).mono ?_)
             rintro e w2 ⟨rfl, hb2⟩
             have HB2 := Lib.hid (below_on (below_on HBW.out HBT.out) hb2)
             clear hb2)
          | fail)
        go_ret
        exact ⟨ret_bool HZ.out.symm, HB2.out⟩
      · rw [hw] at CT
        have HG2 := Lib.hid (turns_step HG.out HX.out hw)
        clear hw
        go_wp2_with (first
          | (go_at_call 89; (with_reducible refine (CT.out _ (below_on HBW.out HBT.out)).mono ?_)
             rintro e w2 ⟨rfl, hb2⟩
             have HB2 := Lib.hid (HBr.out.trans ((below_on HBT.out hb2).mono (by simp; omega)))
             clear hb2)
          | fail)
        go_roundw
        case rel => exact ⟨i + 1, by omega, by go_num, HG2, HB2⟩
        case measure => simp [intOf]; omega
    · have HZ := Lib.hid (HR.out.trans (locB_end (by rw [HLEN.out]; exact hn1) (by rw [HLEN.out]; exact hn40) (by
        have := HG.out
        rw [List.take_of_length_le (by have := HLEN.out; omega)] at this
        rw [HLEN.out]
        exact this)))
      go_wp2_with fail
      go_ret
      exact ⟨ret_bool HZ.out.symm, HBW.out⟩
end Go.Proofs.YtiofpeckcfdilaaGreatDoor
