/- Contract of the program's compareLists. -/
import Derived.Test.YthbakfceaaaamaaDtMem
namespace Go.Proofs.Ythbakfceaaaamaa
open Go.RowKit

theorem drop_at {l : List Int} {k : Nat} {x : Int} (hx : l[k]? = some x) : l.drop k = x :: l.drop (k + 1) := by
  obtain ⟨h, e⟩ := List.getElem?_eq_some_iff.1 hx
  rw [List.drop_eq_getElem_cons h, e]
theorem cmpN_at {l1 l2 : List Int} {k : Nat} {x y : Int} (hx : l1[k]? = some x) (hy : l2[k]? = some y) : cmpN (l1.drop k) (l2.drop k) = if x = y then cmpN (l1.drop (k + 1)) (l2.drop (k + 1)) else cmpI x y := by
  rw [drop_at hx, drop_at hy, cmpN]
theorem cmpN_over {l1 l2 : List Int} {k : Nat} {x : Int} (hx : l1[k]? = some x) (hy : l2.length = k) : cmpN (l1.drop k) (l2.drop k) = 1 := by
  rw [drop_at hx, List.drop_of_length_le (l := l2) (by omega), cmpN]
theorem cmpN_end {l1 l2 : List Int} {k : Nat} (hx : l1.length = k) (hy : k ≤ l2.length) : cmpN (l1.drop k) (l2.drop k) = cmpI l1.length l2.length := by
  rw [List.drop_of_length_le (by omega)]
  unfold cmpI
  rcases Nat.eq_or_lt_of_le hy with h | h
  · rw [List.drop_of_length_le (by omega), if_neg (by omega), if_neg (by omega), cmpN]
  · rw [List.drop_eq_getElem_cons h, if_pos (by omega), cmpN]

set_option maxHeartbeats 2000000 in
theorem compareLists_any (a b : Option Addr) (n m ca cb : Nat) (l1 l2 : List Int) (w : World) (bound : Nat) (ha : Nums w bound a n l1) (hb : Nums w bound b m l2) :
    Calls Try.prog 57 #[.slice a n ca, .slice b m cb] w fun e w' => e = .returned (.int .i64 (cmpN l1 l2)) ∧ w' = w := by
  have hn := ha.1
  have hm := hb.1
  have hsn := ha.2.1
  have hsm := hb.2.1
  have HA := Lib.hid ha
  have HB := Lib.hid hb
  have HN := Lib.hid hn
  have HM := Lib.hid hm
  clear ha hb hn hm
  go_enter Try.func57, Try.ntmps57
  go_wp2
  go_loop [9] (fun i => ∃ k : Nat, k ≤ n ∧ k ≤ m ∧ i = .int .i64 k ∧ Hid (cmpN l1 l2 = cmpN (l1.drop k) (l2.drop k))) (fun i => n - (intOf i).toNat)
  case atStart => exact ⟨0, Nat.zero_le _, Nat.zero_le _, rfl, Lib.hid rfl⟩
  case round =>
    obtain ⟨k, hk, hkm, rfl, hrel'⟩ := hrel
    by_cases hlt : k < n
    · obtain ⟨b1, o1, x, rfl, _, hx, x0⟩ := HA.out.at_ hlt
      have HX := Lib.hid hx
      clear hx
      by_cases hlm : k < m
      · obtain ⟨b2, o2, y, rfl, _, hy, y0⟩ := HB.out.at_ hlm
        have HS := Lib.hid (cmpN_at HX.out hy)
        clear hy
        have d1 : (((k : Nat) : Int) == (m : Int)) = false := by rw [beq_eq_false_iff_ne]; omega
        cases hxy : (x == y)
        · have n1 : (x != y) = true := by unfold bne; rw [hxy]; rfl
          have HF := Lib.hid (show cmpN l1 l2 = cmpI x y by rw [hrel'.out, HS.out, if_neg (by rw [beq_eq_false_iff_ne] at hxy; exact hxy)])
          clear hxy
          go_wp2_with (first | (go_at_call 55; (with_reducible refine (cmpInt64_any _ _ _).mono ?_); rintro e w1 ⟨rfl, rfl⟩) | fail)
          go_ret
          exact ⟨ret_int HF.out.symm, rfl⟩
        · have n1 : (x != y) = false := by unfold bne; rw [hxy]; rfl
          have HF := Lib.hid (show cmpN l1 l2 = cmpN (l1.drop (k + 1)) (l2.drop (k + 1)) by rw [hrel'.out, HS.out, if_pos (eq_of_beq hxy)])
          clear hxy
          go_wp2
          go_round
          case rel => exact ⟨k + 1, by omega, by omega, by go_num, HF⟩
          case measure => simp [intOf]; omega
      · have d1 : (((k : Nat) : Int) == (m : Int)) = true := by rw [beq_iff_eq]; omega
        have HF := Lib.hid (show cmpN l1 l2 = 1 by rw [hrel'.out]; exact cmpN_over HX.out (by rw [HM.out]; omega))
        go_wp2
        go_ret
        exact ⟨ret_int HF.out.symm, rfl⟩
    · have HF := Lib.hid (show cmpN l1 l2 = cmpI n m by
        rw [hrel'.out]
        have h := cmpN_end (l1 := l1) (l2 := l2) (k := k) (by rw [HN.out]; omega) (by rw [HM.out]; omega)
        rw [HN.out, HM.out] at h
        exact h)
      go_wp2_with (first | (go_at_call 54; (with_reducible refine (cmpInt_any _ _ _).mono ?_); rintro e w1 ⟨rfl, rfl⟩) | fail)
      go_ret
      exact ⟨ret_int HF.out.symm, rfl⟩
end Go.Proofs.Ythbakfceaaaamaa
