/- Contract of the reference's numeral. -/
import Derived.Test.YtifinfmdjbglhaaDoorLxRefC
namespace Go.Proofs.YtifinfmdjbglhaaDoor
open Go.RowKit

theorem valU_snoc (l : Str) (c : UInt8) : valU (l ++ [c]) = valU l * 10 + (c.toNat - 48) := by
  unfold valU; rw [List.foldl_append]; rfl
theorem valU_lt : ∀ (n : Nat) (l : Str), l.length = n → l.all digB = true → valU l < 10 ^ n
  | 0, l, h, _ => by rw [List.eq_nil_of_length_eq_zero h]; exact Nat.one_pos
  | n + 1, l, h, hd => by
    have hne : l ≠ [] := fun e => by rw [e] at h; cases h
    have e : l = l.dropLast ++ [l.getLast hne] := (List.dropLast_concat_getLast hne).symm
    have hl : l.dropLast.length = n := by rw [List.length_dropLast, h]; rfl
    rw [e, List.all_append, Bool.and_eq_true] at hd
    have ih := valU_lt n l.dropLast hl hd.1
    rw [e, valU_snoc, Nat.pow_succ]
    have hc : digB (l.getLast hne) = true := by simpa using hd.2
    unfold digB isDig at hc
    simp only [Bool.and_eq_true, decide_eq_true_eq] at hc
    omega
theorem take_snocB (s : ByteArray) (k : Nat) (hk : k < s.size) : s.toList.take (k + 1) = s.toList.take k ++ [s[k]] := by
  have h : k < s.toList.length := by rw [lxLen]; exact hk
  rw [List.take_succ_eq_append_getElem h]
  congr 2
  have := lxDrop s k hk
  rw [List.drop_eq_getElem_cons h] at this
  injection this
theorem numeral_no {s : Str} {d : Str} (hd : d = if s.head? == some 45 then s.tail else s) (h : (decide (1 ≤ d.length) && decide (d.length ≤ 19) && !(d.head? == some 48 && decide (1 < s.length)) && d.all digB) = false) : numeral s = false := by
  unfold numeral
  dsimp only
  rw [← hd, h, Bool.false_and]
theorem numeral_yes {s : Str} {d : Str} (hd : d = if s.head? == some 45 then s.tail else s) (h : (decide (1 ≤ d.length) && decide (d.length ≤ 19) && !(d.head? == some 48 && decide (1 < s.length)) && d.all digB) = true) :
    numeral s = if d.length < s.length then decide (valU d ≤ 9223372036854775808) else decide (valU d < 9223372036854775808) := by
  unfold numeral
  dsimp only
  rw [← hd, h, Bool.true_and]

/-- The rest of the function, once the minus is off: d is what is left. -/
def numRest (d : Str) (n : Nat) : Bool :=
  decide (1 ≤ d.length) && decide (d.length ≤ 19) && !(d.head? == some 48 && decide (1 < n)) && d.all digB && (if d.length < n then decide (valU d ≤ 9223372036854775808) else decide (valU d < 9223372036854775808))
theorem numeral_rest (s : Str) : numeral s = numRest (if s.head? == some 45 then s.tail else s) s.length := rfl

theorem rest_empty (n : Nat) : numRest [] n = false := rfl
theorem rest_long {d : Str} {n : Nat} (h : 19 < d.length) : numRest d n = false := by
  unfold numRest
  rw [decide_eq_false (show ¬ d.length ≤ 19 by omega)]
  simp
theorem rest_zero {d : Str} {n : Nat} (h : d.head? = some 48) (hn : 1 < n) : numRest d n = false := by
  unfold numRest
  rw [h, decide_eq_true hn]
  simp
theorem rest_bad {d : Str} {n k : Nat} (hk : k < d.length) (h : digB (d.getD k 0) = false) : numRest d n = false := by
  have : d.all digB = false := by
    rw [Bool.eq_false_iff]
    intro ha
    have := List.all_eq_true.1 ha d[k] (List.getElem_mem hk)
    rw [List.getD_eq_getElem?_getD, List.getElem?_eq_getElem hk, Option.getD_some] at h
    rw [h] at this
    cases this
  unfold numRest
  rw [this]
  simp
theorem rest_good {d : Str} {n : Nat} (h1 : 1 ≤ d.length) (h2 : d.length ≤ 19) (h3 : (d.head? == some 48 && decide (1 < n)) = false) (h4 : d.all digB = true) :
    numRest d n = if d.length < n then decide (valU d ≤ 9223372036854775808) else decide (valU d < 9223372036854775808) := by
  unfold numRest
  rw [decide_eq_true h1, decide_eq_true h2, h3, h4]
  rfl
theorem lxHead (s : ByteArray) (h : 0 < s.size) : s.toList.head? = some s[0] := by
  have := lxDrop s 0 h
  rw [List.drop_zero] at this
  rw [this]; rfl
theorem lxGetD (s : ByteArray) (k : Nat) (hk : k < s.size) : s.toList.getD k 0 = s[k] := by
  have h : k < s.toList.length := by rw [lxLen]; exact hk
  have := lxDrop s k hk
  rw [List.drop_eq_getElem_cons h] at this
  injection this with e
  rw [List.getD_eq_getElem?_getD, List.getElem?_eq_getElem h, Option.getD_some, e]

set_option maxHeartbeats 2000000 in
theorem refNumeral_any (s : ByteArray) (w : World) (hs : s.size ≤ 1100000) : Calls Tryd.prog 42 #[.string s] w fun e w' => e = .returned (.bool (numeral s.toList)) ∧ w = w' := by
  by_cases hz0 : s.size = 0
  · have el : s.toList = [] := List.eq_nil_of_length_eq_zero (by rw [lxLen]; exact hz0)
    have HF := Lib.hid (show numeral s.toList = false by rw [el]; rfl)
    have e1 : (s.toList == []) = true := by rw [el]; rfl
    clear hz0
    go_enter Tryd.func42, Tryd.ntmps42
    go_wp2
    go_ret
    exact ⟨ret_bool HF.out.symm, rfl⟩
  have hpos : 0 < s.size := by omega
  have ne1 : s.toList.isEmpty = false := by
    have := lxLen s
    cases h : s.toList with
    | nil => rw [h] at this; simp at this; omega
    | cons c r => rfl
  cases h45 : (s[0] == 45)
  · have e45 : (((s[0].toNat : Nat) : Int) == 45) = false := by rw [← h45]; exact byte_is s[0] 45 (by omega)
    have HR := Lib.hid (show numeral s.toList = numRest s.toList s.size by
      rw [numeral_rest, lxHead s hpos, lxLen, show ((some s[0] : Option UInt8) == some 45) = false from h45]; rfl)
    have hdz : 0 < s.size := hpos
    clear h45 hz0
    have ned : s.toList.isEmpty = false := by
      have := lxLen s
      cases h : s.toList with
      | nil => rw [h] at this; simp at this; omega
      | cons c r => rfl
    by_cases hlong : 19 < s.size
    · have HF := Lib.hid (HR.out.trans (rest_long (by rw [lxLen]; exact hlong)))
      have b1 : decide ((19 : Int) < (s.size : Int)) = true := by simp; omega
      go_enter Tryd.func42, Tryd.ntmps42
      go_wp2
      go_ret
      exact ⟨ret_bool HF.out.symm, rfl⟩
    have b1 : decide ((19 : Int) < (s.size : Int)) = false := by simp; omega
    have loop : ∀ z : Bool, (s[0] == 48) = z → (z && decide (1 < s.size)) = false → Calls Tryd.prog 42 #[.string s] w fun e w' => e = .returned (.bool (numeral s.toList)) ∧ w = w' := by
      intro z hz hzs
      have e48 : (((s[0].toNat : Nat) : Int) == 48) = z := by rw [← hz]; exact byte_is s[0] 48 (by omega)
      have HZ := Lib.hid (show (s.toList.head? == some 48 && decide (1 < s.size)) = false by
        rw [lxHead s hdz, show ((some s[0] : Option UInt8) == some 48) = z from hz]; exact hzs)
      have bz : z = true → decide ((1 : Int) < (s.size : Int)) = false := fun h => by
        rw [h, Bool.true_and] at hzs
        have := of_decide_eq_false hzs
        exact decide_eq_false (by omega)
      clear hz hzs
      cases z
      all_goals
        have bz := bz
        first
          | (have bz2 := bz rfl; clear bz)
          | clear bz
        go_enter Tryd.func42, Tryd.ntmps42
        go_wp2
        go_loop [4, 5] (fun u i => ∃ k U : Nat, k ≤ s.size ∧ i = .int .i64 k ∧ u = .int .u64 U ∧ Hid (U = valU (s.toList.take k)) ∧ Hid ((s.toList.take k).all digB = true)) (fun _ i => s.size - (intOf i).toNat)
        case atStart => exact ⟨0, 0, Nat.zero_le _, rfl, rfl, Lib.hid rfl, Lib.hid rfl⟩
        case round =>
          obtain ⟨k, U, hk, rfl, rfl, hU, hall⟩ := hrel
          by_cases hlt : k < s.size
          · have cd := refDigit_any s[k].toNat w
            cases h1 : isDig (s[k].toNat : Int)
            · rw [h1] at cd
              have CD := Lib.hid cd
              have HF := Lib.hid (HR.out.trans (rest_bad (k := k) (by rw [lxLen]; exact hlt) (by rw [lxGetD s k hlt]; exact h1)))
              clear cd h1
              go_wp2_with (go_at_call 41; refine CD.out.mono ?_; rintro e w' ⟨rfl, rfl⟩)
              go_ret
              exact ⟨ret_bool HF.out.symm, rfl⟩
            · rw [h1] at cd
              have CD := Lib.hid cd
              have hdig := h1
              unfold isDig at hdig
              simp only [Bool.and_eq_true, decide_eq_true_eq] at hdig
              obtain ⟨g1, g2⟩ := hdig
              have hU1 : (U : Int) ≤ 999999999999999999 := by
                have hlen : (s.toList.take k).length = k := by rw [List.length_take, lxLen]; omega
                have := valU_lt k _ hlen hall.out
                have hp : 10 ^ k ≤ 10 ^ 18 := Nat.pow_le_pow_right (by omega) (by omega)
                rw [← hU.out] at this
                omega
              have HU := Lib.hid (show ((U * 10 + (s[k].toNat - 48) : Nat)) = valU (s.toList.take (k + 1)) by
                rw [take_snocB s k hlt, valU_snoc, hU.out])
              have HA := Lib.hid (show (s.toList.take (k + 1)).all digB = true by
                rw [take_snocB s k hlt, List.all_append, hall.out]
                show (true && (digB s[k] && true)) = true
                rw [show digB s[k] = true from h1]; rfl)
              clear cd h1
              go_wp2_with (go_at_call 41; refine CD.out.mono ?_; rintro e w' ⟨rfl, rfl⟩)
              go_round
              case rel => exact ⟨k + 1, U * 10 + (s[k].toNat - 48), by omega, by go_num, by (congr 1; omega), HU, HA⟩
              case measure => simp [intOf]; omega
          · have hfull : s.toList.take k = s.toList := List.take_of_length_le (by rw [lxLen]; omega)
            have HF := Lib.hid (HR.out.trans (rest_good (by rw [lxLen]; omega) (by rw [lxLen]; omega) HZ.out (by rw [← hfull]; exact hall.out)))
            rw [← hfull, ← hU.out, hfull, lxLen] at HF
            rw [if_neg (Nat.lt_irrefl _)] at HF
            by_cases hu : U < 9223372036854775808
            · have HF2 := Lib.hid (HF.out.trans (decide_eq_true hu))
              have bu : decide ((U : Int) < 9223372036854775808) = true := decide_eq_true (by omega)
              clear hu
              go_wp2
              go_ret
              exact ⟨ret_bool HF2.out.symm, rfl⟩
            · have HF2 := Lib.hid (HF.out.trans (decide_eq_false hu))
              have bu : decide ((U : Int) < 9223372036854775808) = false := decide_eq_false (by omega)
              clear hu
              go_wp2
              go_ret
              exact ⟨ret_bool HF2.out.symm, rfl⟩
    by_cases hzb : (s[0] == 48 && decide (1 < s.size)) = true
    · simp only [Bool.and_eq_true, decide_eq_true_eq] at hzb
      have HF := Lib.hid (HR.out.trans (rest_zero (by rw [lxHead s hdz, eq_of_beq hzb.1]) hzb.2))
      have e48 : (((s[0].toNat : Nat) : Int) == 48) = true := by rw [← hzb.1]; exact byte_is s[0] 48 (by omega)
      have b2 : decide ((1 : Int) < (s.size : Int)) = true := by simp; omega
      clear loop
      go_enter Tryd.func42, Tryd.ntmps42
      go_wp2
      go_ret
      exact ⟨ret_bool HF.out.symm, rfl⟩
    · exact loop _ rfl (by simpa using hzb)
  · have e45 : (((s[0].toNat : Nat) : Int) == 45) = true := by rw [← h45]; exact byte_is s[0] 45 (by omega)
    obtain ⟨d, hd⟩ : ∃ d, d = s.extract 1 s.size := ⟨_, rfl⟩
    have hdl : d.toList = s.toList.tail := by
      rw [hd, ByteArray.toList_eq, ByteArray.toList_eq, ByteArray.data_extract]
      simp [List.extract_eq_take_drop]
      rw [List.take_of_length_le (by simp)]
    have hds : d.size + 1 = s.size := by
      have := lxLen d
      rw [hdl, List.length_tail, lxLen] at this
      omega
    have HR := Lib.hid (show numeral s.toList = numRest d.toList s.size by
      rw [numeral_rest, lxHead s hpos, lxLen, show ((some s[0] : Option UInt8) == some 45) = true from h45, hdl]; rfl)
    have hcut : ∀ W : World, (Instr.slice 9 (.string s) (some (.int .i64 1)) none none).run Tryd.prog W = .ok (.string d) W := fun W => by
      rw [hd]
      have := run_slice_string_l (P := Tryd.prog) W 9 s Tryd.underlying9 .i64 1 (by omega) (by omega)
      exact this
    have hlt1 : d.size < s.size := by omega
    have hle1 : d.size ≤ 1100000 := by omega
    clear h45 hd hdl hz0
    by_cases hdz0 : d.size = 0
    · have el : d.toList = [] := List.eq_nil_of_length_eq_zero (by rw [lxLen]; exact hdz0)
      have HF := Lib.hid (show numeral s.toList = false by rw [HR.out, el]; rfl)
      have e1 : (d.toList == []) = true := by rw [el]; rfl
      have e2 : d.toList.isEmpty = true := by rw [el]; rfl
      clear hdz0 hds
      go_enter Tryd.func42, Tryd.ntmps42
      go_wp2
      go_ret
      exact ⟨ret_bool HF.out.symm, rfl⟩
    have hdz : 0 < d.size := by omega
    have HDS := Lib.hid hds
    clear hds hdz0
    have ned : d.toList.isEmpty = false := by
      have := lxLen d
      cases h : d.toList with
      | nil => rw [h] at this; simp at this; omega
      | cons c r => rfl
    by_cases hlong : 19 < d.size
    · have HF := Lib.hid (HR.out.trans (rest_long (by rw [lxLen]; exact hlong)))
      have b1 : decide ((19 : Int) < (d.size : Int)) = true := by simp; omega
      go_enter Tryd.func42, Tryd.ntmps42
      go_wp2
      go_ret
      exact ⟨ret_bool HF.out.symm, rfl⟩
    have b1 : decide ((19 : Int) < (d.size : Int)) = false := by simp; omega
    have loop : ∀ z : Bool, (d[0] == 48) = z → (z && decide (1 < s.size)) = false → Calls Tryd.prog 42 #[.string s] w fun e w' => e = .returned (.bool (numeral s.toList)) ∧ w = w' := by
      intro z hz hzs
      have e48 : (((d[0].toNat : Nat) : Int) == 48) = z := by rw [← hz]; exact byte_is d[0] 48 (by omega)
      have HZ := Lib.hid (show (d.toList.head? == some 48 && decide (1 < s.size)) = false by
        rw [lxHead d hdz, show ((some d[0] : Option UInt8) == some 48) = z from hz]; exact hzs)
      have bz : z = true → decide ((1 : Int) < (s.size : Int)) = false := fun h => by
        rw [h, Bool.true_and] at hzs
        have := of_decide_eq_false hzs
        exact decide_eq_false (by omega)
      clear hz hzs
      cases z
      all_goals
        have bz := bz
        first
          | (have bz2 := bz rfl; clear bz)
          | clear bz
        go_enter Tryd.func42, Tryd.ntmps42
        go_wp2
        go_loop [4, 5] (fun u i => ∃ k U : Nat, k ≤ d.size ∧ i = .int .i64 k ∧ u = .int .u64 U ∧ Hid (U = valU (d.toList.take k)) ∧ Hid ((d.toList.take k).all digB = true)) (fun _ i => d.size - (intOf i).toNat)
        case atStart => exact ⟨0, 0, Nat.zero_le _, rfl, rfl, Lib.hid rfl, Lib.hid rfl⟩
        case round =>
          obtain ⟨k, U, hk, rfl, rfl, hU, hall⟩ := hrel
          by_cases hlt : k < d.size
          · have cd := refDigit_any d[k].toNat w
            cases h1 : isDig (d[k].toNat : Int)
            · rw [h1] at cd
              have CD := Lib.hid cd
              have HF := Lib.hid (HR.out.trans (rest_bad (k := k) (by rw [lxLen]; exact hlt) (by rw [lxGetD d k hlt]; exact h1)))
              clear cd h1
              go_wp2_with (go_at_call 41; refine CD.out.mono ?_; rintro e w' ⟨rfl, rfl⟩)
              go_ret
              exact ⟨ret_bool HF.out.symm, rfl⟩
            · rw [h1] at cd
              have CD := Lib.hid cd
              have hdig := h1
              unfold isDig at hdig
              simp only [Bool.and_eq_true, decide_eq_true_eq] at hdig
              obtain ⟨g1, g2⟩ := hdig
              have hU1 : (U : Int) ≤ 999999999999999999 := by
                have hlen : (d.toList.take k).length = k := by rw [List.length_take, lxLen]; omega
                have := valU_lt k _ hlen hall.out
                have hp : 10 ^ k ≤ 10 ^ 18 := Nat.pow_le_pow_right (by omega) (by omega)
                rw [← hU.out] at this
                omega
              have HU := Lib.hid (show ((U * 10 + (d[k].toNat - 48) : Nat)) = valU (d.toList.take (k + 1)) by
                rw [take_snocB d k hlt, valU_snoc, hU.out])
              have HA := Lib.hid (show (d.toList.take (k + 1)).all digB = true by
                rw [take_snocB d k hlt, List.all_append, hall.out]
                show (true && (digB d[k] && true)) = true
                rw [show digB d[k] = true from h1]; rfl)
              clear cd h1
              go_wp2_with (go_at_call 41; refine CD.out.mono ?_; rintro e w' ⟨rfl, rfl⟩)
              go_round
              case rel => exact ⟨k + 1, U * 10 + (d[k].toNat - 48), by omega, by go_num, by (congr 1; omega), HU, HA⟩
              case measure => simp [intOf]; omega
          · have hfull : d.toList.take k = d.toList := List.take_of_length_le (by rw [lxLen]; omega)
            have HF := Lib.hid (HR.out.trans (rest_good (by rw [lxLen]; omega) (by rw [lxLen]; omega) HZ.out (by rw [← hfull]; exact hall.out)))
            rw [← hfull, ← hU.out, hfull, lxLen] at HF
            rw [if_pos hlt1] at HF
            by_cases hu : U ≤ 9223372036854775808
            · have HF2 := Lib.hid (HF.out.trans (decide_eq_true hu))
              have bu : decide ((U : Int) ≤ 9223372036854775808) = true := decide_eq_true (by omega)
              clear hu
              go_wp2
              go_ret
              exact ⟨ret_bool HF2.out.symm, rfl⟩
            · have HF2 := Lib.hid (HF.out.trans (decide_eq_false hu))
              have bu : decide ((U : Int) ≤ 9223372036854775808) = false := decide_eq_false (by omega)
              clear hu
              go_wp2
              go_ret
              exact ⟨ret_bool HF2.out.symm, rfl⟩
    by_cases hzb : (d[0] == 48 && decide (1 < s.size)) = true
    · simp only [Bool.and_eq_true, decide_eq_true_eq] at hzb
      have HF := Lib.hid (HR.out.trans (rest_zero (by rw [lxHead d hdz, eq_of_beq hzb.1]) hzb.2))
      have e48 : (((d[0].toNat : Nat) : Int) == 48) = true := by rw [← hzb.1]; exact byte_is d[0] 48 (by omega)
      have b2 : decide ((1 : Int) < (s.size : Int)) = true := by simp; omega
      clear loop
      go_enter Tryd.func42, Tryd.ntmps42
      go_wp2
      go_ret
      exact ⟨ret_bool HF.out.symm, rfl⟩
    · exact loop _ rfl (by simpa using hzb)
end Go.Proofs.YtifinfmdjbglhaaDoor
