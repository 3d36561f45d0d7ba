/- Contracts of May and of the reference's NameMay. -/
import Derived.Test.YtiofpeckcfdilaaGreatDoorRef0
import Derived.Test.YtiofpeckcfdilaaGreatDoorNmHas
namespace Go.Proofs.YtiofpeckcfdilaaGreatDoor
open Go.RowKit Go.Sort

theorem len_toList (s : ByteArray) : s.toList.length = s.size := by rw [ByteArray.toList_eq]; simp
theorem get_toList (s : ByteArray) (k : Nat) (hk : k < s.size) : s.toList.getD k 0 = s[k] := by
  rw [ByteArray.toList_eq]
  have h : k < s.data.toList.length := by simpa using hk
  rw [List.getD_eq_getElem?_getD, List.getElem?_eq_getElem h]
  rfl
theorem may_short {l : Str} (h : l.length < 1) : may l = false := by
  have : decide (1 ≤ l.length) = false := decide_eq_false (by omega)
  simp [may, this]
theorem may_long {l : Str} (h : 12 < l.length) : may l = false := by
  have : decide (l.length ≤ 12) = false := decide_eq_false (by omega)
  simp [may, this]
theorem may_first {l : Str} (h : isLet ((l.getD 0 0).toNat : Int) = false) : may l = false := by simp only [may, h, Bool.and_false, Bool.false_and]
theorem may_bad {l : Str} {k : Nat} (hk : k < l.length) (h : okB (l.getD k 0) = false) : may l = false := by
  have : l.all okB = false := by
    rw [Bool.eq_false_iff]
    intro ha
    have := List.all_eq_true.1 ha l[k] (List.getElem_mem hk)
    rw [List.getD_eq_getElem?_getD, List.getElem?_eq_getElem hk] at h
    simp only [Option.getD_some] at h
    rw [h] at this
    cases this
  simp only [may, this, Bool.and_false, Bool.false_and]
theorem may_all {l : Str} (h1 : 1 ≤ l.length) (h2 : l.length ≤ 12) (hf : isLet ((l.getD 0 0).toNat : Int) = true) (h : ∀ k, k < l.length → okB (l.getD k 0) = true) : may l = !isKw l := by
  have : l.all okB = true := by
    rw [List.all_eq_true]
    intro c hc
    obtain ⟨k, hk, rfl⟩ := List.getElem_of_mem hc
    have := h k hk
    rwa [List.getD_eq_getElem?_getD, List.getElem?_eq_getElem hk] at this
  unfold may
  rw [this, hf, decide_eq_true h1, decide_eq_true h2]
  simp

set_option maxHeartbeats 1000000 in
theorem may_any (s : ByteArray) (w : World) (hs : s.size ≤ maxLen) : Calls Tryz.prog 26 #[.string s] w fun e w' => e = .returned (.bool (may s.toList)) ∧ w = w' := by
  unfold maxLen at hs
  have hlen := Lib.hid (len_toList s)
  by_cases h0 : s.size < 1
  · have hm := Lib.hid (may_short (l := s.toList) (by rw [len_toList]; exact h0))
    have d1 : decide ((s.size : Int) < 1) = true := by simp; omega
    go_enter Tryz.func26, Tryz.ntmps26
    go_wp2
    go_ret
    exact ⟨ret_bool hm.out.symm, rfl⟩
  have d1 : decide ((s.size : Int) < 1) = false := by simp; omega
  by_cases hbig : 12 < s.size
  · have hm := Lib.hid (may_long (l := s.toList) (by rw [len_toList]; exact hbig))
    have d2 : decide (12 < (s.size : Int)) = true := by simp; omega
    go_enter Tryz.func26, Tryz.ntmps26
    go_wp2
    go_ret
    exact ⟨ret_bool hm.out.symm, rfl⟩
  have d2 : decide (12 < (s.size : Int)) = false := by simp; omega
  have hpos : 0 < s.size := by omega
  have hg0 := Lib.hid (get_toList s 0 hpos)
  cases hl : isLet (s[0].toNat : Int)
  · have hm := Lib.hid (may_first (l := s.toList) (by rw [hg0.out]; exact hl))
    go_enter Tryz.func26, Tryz.ntmps26
    go_wp2_with (go_at_call 62; refine (letter_any _ _).mono ?_; rintro e w' ⟨rfl, rfl⟩)
    go_ret
    exact ⟨ret_bool hm.out.symm, rfl⟩
  have hf := Lib.hid (show isLet ((s.toList.getD 0 0).toNat : Int) = true by rw [hg0.out]; exact hl)
  go_enter Tryz.func26, Tryz.ntmps26
  go_wp2_with (go_at_call 62; refine (letter_any _ _).mono ?_; rintro e w' ⟨rfl, rfl⟩)
  go_loop [20] (fun i => ∃ k : Nat, k ≤ s.size ∧ i = .int .i64 k ∧ Hid (∀ j, j < k → okB (s.toList.getD j 0) = true)) (fun i => s.size - (intOf i).toNat)
  case atStart => exact ⟨0, Nat.zero_le _, rfl, Lib.hid (fun j hj => absurd hj (Nat.not_lt_zero _))⟩
  case round =>
    obtain ⟨k, hk, rfl, hpre⟩ := hrel
    by_cases hlt : k < s.size
    · have hgk := Lib.hid (get_toList s k hlt)
      cases hb1 : isLet (s[k].toNat : Int)
      · cases hb2 : isDig (s[k].toNat : Int)
        · have hm := Lib.hid (may_bad (l := s.toList) (k := k) (by rw [hlen.out]; exact hlt) (by rw [hgk.out]; simp [okB, hb1, hb2]))
          go_wp2_with (first
            | (go_at_call 62; refine (letter_any _ _).mono ?_; rintro e w' ⟨rfl, rfl⟩)
            | (go_at_call 63; refine (digit_any _ _).mono ?_; rintro e w' ⟨rfl, rfl⟩))
          go_ret
          exact ⟨ret_bool hm.out.symm, rfl⟩
        · have hok := Lib.hid (show okB (s.toList.getD k 0) = true by rw [hgk.out]; simp [okB, hb2])
          go_wp2_with (first
            | (go_at_call 62; refine (letter_any _ _).mono ?_; rintro e w' ⟨rfl, rfl⟩)
            | (go_at_call 63; refine (digit_any _ _).mono ?_; rintro e w' ⟨rfl, rfl⟩))
          go_round
          case rel => exact ⟨k + 1, by omega, by go_num, Lib.hid (fun j hj => by
            rcases Nat.lt_or_ge j k with h | h
            · exact hpre.out j h
            · obtain rfl : j = k := by omega
              exact hok.out)⟩
          case measure => simp [intOf]; omega
      · have hok := Lib.hid (show okB (s.toList.getD k 0) = true by rw [hgk.out]; simp [okB, hb1])
        go_wp2_with (first
          | (go_at_call 62; refine (letter_any _ _).mono ?_; rintro e w' ⟨rfl, rfl⟩)
          | (go_at_call 63; refine (digit_any _ _).mono ?_; rintro e w' ⟨rfl, rfl⟩))
        go_round
        case rel => exact ⟨k + 1, by omega, by go_num, Lib.hid (fun j hj => by
          rcases Nat.lt_or_ge j k with h | h
          · exact hpre.out j h
          · obtain rfl : j = k := by omega
            exact hok.out)⟩
        case measure => simp [intOf]; omega
    · have hm := Lib.hid (may_all (l := s.toList) (by rw [hlen.out]; omega) (by rw [hlen.out]; omega) hf.out (fun j hj => hpre.out j (by rw [hlen.out] at hj; omega)))
      go_wp2_with (go_at_call 64; refine (keyword_any _ _).mono ?_; rintro e w' ⟨rfl, rfl⟩)
      go_ret
      exact ⟨ret_bool hm.out.symm, rfl⟩
end Go.Proofs.YtiofpeckcfdilaaGreatDoor
