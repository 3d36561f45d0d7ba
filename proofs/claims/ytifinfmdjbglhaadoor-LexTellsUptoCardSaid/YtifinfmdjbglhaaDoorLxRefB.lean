/- Contracts of the reference's run, hex, sign. -/
import Derived.Test.YtifinfmdjbglhaaDoorLxRefA
import Derived.Deep.QuietTactic
import Derived.BigQuiet
namespace Go.Proofs.YtifinfmdjbglhaaDoor
open Go.RowKit

/-- The bytes that a run of letters and digits (of digits alone) may have. -/
def runB (b : Bool) (c : UInt8) : Bool := digB c || (b && letB c)
theorem runB_true : runB true = okB := by
  funext c
  unfold runB okB letB digB
  cases isLet c.toNat <;> cases isDig c.toNat <;> rfl
theorem runB_false : runB false = digB := by
  funext c
  unfold runB
  cases digB c <;> rfl

set_option maxHeartbeats 1100000 in
theorem refRun_any (s : ByteArray) (p : Nat) (b : Bool) (w : World) (hp : p ≤ s.size) (hs : s.size ≤ 1100000) :
    Calls Tryd.prog 40 #[.string s, .int .i64 p, .bool b] w fun e w' => ∃ r : Nat, e = .returned (.int .i64 r) ∧ p ≤ r ∧ r ≤ s.size ∧ s.toList.drop r = (s.toList.drop p).dropWhile (runB b) ∧ w = w' := by
  go_enter Tryd.func40, Tryd.ntmps40
  go_wp2
  go_loop [1] (fun i => ∃ k : Nat, p ≤ k ∧ k ≤ s.size ∧ i = .int .i64 k ∧ Hid ((s.toList.drop k).dropWhile (runB b) = (s.toList.drop p).dropWhile (runB b))) (fun i => s.size - (intOf i).toNat)
  case atStart => exact ⟨p, Nat.le_refl _, hp, rfl, Lib.hid rfl⟩
  case round =>
    obtain ⟨k, hpk, hk, rfl, hrel'⟩ := hrel
    by_cases hlt : k < s.size
    · have hd := Lib.hid (lxDrop s k hlt)
      have cd := refDigit_any s[k].toNat w
      have cl := refLetter_any s[k].toNat w
      cases h1 : isDig (s[k].toNat : Int)
      · cases b
        · have HF := Lib.hid (show s.toList.drop k = (s.toList.drop p).dropWhile (runB false) by
            rw [← hrel'.out, hd.out, List.dropWhile_cons_of_neg (by unfold runB digB; rw [h1]; simp)])
          rw [h1] at cd
          have CD := Lib.hid cd
          clear cd cl h1
          go_wp2_with (go_at_call 41; refine CD.out.mono ?_; rintro e w' ⟨rfl, rfl⟩)
          go_ret
          exact ⟨k, rfl, hpk, hk, HF.out, rfl⟩
        · cases h2 : isLet (s[k].toNat : Int)
          · have HF := Lib.hid (show s.toList.drop k = (s.toList.drop p).dropWhile (runB true) by
              rw [← hrel'.out, hd.out, List.dropWhile_cons_of_neg (by unfold runB digB letB; rw [h1, h2]; simp)])
            rw [h1] at cd
            rw [h2] at cl
            have CD := Lib.hid cd
            have CL := Lib.hid cl
            clear cd cl h1 h2
            go_wp2_with (first
              | (go_at_call 41; refine CD.out.mono ?_; rintro e w' ⟨rfl, rfl⟩)
              | (go_at_call 39; refine CL.out.mono ?_; rintro e w' ⟨rfl, rfl⟩))
            go_ret
            exact ⟨k, rfl, hpk, hk, HF.out, rfl⟩
          · have HF := Lib.hid (show (s.toList.drop (k + 1)).dropWhile (runB true) = (s.toList.drop p).dropWhile (runB true) by
              rw [← hrel'.out, hd.out, List.dropWhile_cons_of_pos (by unfold runB letB; rw [h2]; simp)])
            rw [h1] at cd
            rw [h2] at cl
            have CD := Lib.hid cd
            have CL := Lib.hid cl
            clear cd cl h1 h2
            go_wp2_with (first
              | (go_at_call 41; refine CD.out.mono ?_; rintro e w' ⟨rfl, rfl⟩)
              | (go_at_call 39; refine CL.out.mono ?_; rintro e w' ⟨rfl, rfl⟩))
            go_round
            case rel => exact ⟨k + 1, by omega, by omega, by go_num, HF⟩
            case measure => simp [intOf]; omega
      · have HF := Lib.hid (show (s.toList.drop (k + 1)).dropWhile (runB b) = (s.toList.drop p).dropWhile (runB b) by
          rw [← hrel'.out, hd.out, List.dropWhile_cons_of_pos (by unfold runB digB; rw [h1]; simp)])
        rw [h1] at cd
        have CD := Lib.hid cd
        clear cd cl h1
        go_wp2_with (go_at_call 41; refine CD.out.mono ?_; rintro e w' ⟨rfl, rfl⟩)
        go_round
        case rel => exact ⟨k + 1, by omega, by omega, by go_num, HF⟩
        case measure => simp [intOf]; omega
    · have HF := Lib.hid (show s.toList.drop k = (s.toList.drop p).dropWhile (runB b) by
        rw [← hrel'.out, lxEnd s k (by omega)]; rfl)
      go_wp2
      go_ret
      exact ⟨k, rfl, hpk, hk, HF.out, rfl⟩

/-- A digit's value, or -1. -/
def hexI (c : UInt8) : Int := match hexV c with | some v => (v : Int) | none => -1
theorem refHex_any (c : UInt8) (w : World) : Calls Tryd.prog 55 #[.int .u8 c.toNat] w fun e w' => e = .returned (.int .i64 (hexI c)) ∧ w = w' := by
  have cd := refDigit_any c.toNat w
  have hr : (c.toNat : Int) < 256 := by have := c.toNat_lt; omega
  cases h1 : isDig (c.toNat : Int)
  · rw [h1] at cd
    have CD := Lib.hid cd
    by_cases h2 : 97 ≤ c.toNat
    · by_cases h3 : c.toNat ≤ 102
      · have HF := Lib.hid (show (c.toNat : Int) - 97 + 10 = hexI c by
          unfold hexI hexV digB
          rw [h1, decide_eq_true h2, decide_eq_true h3]
          show _ = ((c.toNat - 87 : Nat) : Int)
          omega)
        have b1 : decide ((97 : Int) ≤ (c.toNat : Int)) = true := by simp; omega
        have b2 : decide ((c.toNat : Int) ≤ 102) = true := by simp; omega
        have b3 : (97 : Int) ≤ (c.toNat : Int) := by omega
        clear cd h1
        go_enter Tryd.func55, Tryd.ntmps55
        go_wp2_with (go_at_call 41; refine CD.out.mono ?_; rintro e w' ⟨rfl, rfl⟩)
        go_ret
        exact ⟨ret_int HF.out, rfl⟩
      · have HF := Lib.hid (show (-1 : Int) = hexI c by
          unfold hexI hexV digB
          rw [h1, decide_eq_false h3, Bool.and_false]
          rfl)
        have b1 : decide ((97 : Int) ≤ (c.toNat : Int)) = true := by simp; omega
        have b2 : decide ((c.toNat : Int) ≤ 102) = false := by simp; omega
        clear cd h1
        go_enter Tryd.func55, Tryd.ntmps55
        go_wp2_with (go_at_call 41; refine CD.out.mono ?_; rintro e w' ⟨rfl, rfl⟩)
        go_ret
        exact ⟨ret_int HF.out, rfl⟩
    · have HF := Lib.hid (show (-1 : Int) = hexI c by
        unfold hexI hexV digB
        rw [h1, decide_eq_false h2, Bool.false_and]
        rfl)
      have b1 : decide ((97 : Int) ≤ (c.toNat : Int)) = false := by simp; omega
      clear cd h1
      go_enter Tryd.func55, Tryd.ntmps55
      go_wp2_with (go_at_call 41; refine CD.out.mono ?_; rintro e w' ⟨rfl, rfl⟩)
      go_ret
      exact ⟨ret_int HF.out, rfl⟩
  · rw [h1] at cd
    have CD := Lib.hid cd
    have HB : 48 ≤ (c.toNat : Int) ∧ (c.toNat : Int) ≤ 57 := by
      unfold isDig at h1
      simp only [Bool.and_eq_true, decide_eq_true_eq] at h1
      exact h1
    obtain ⟨b1, b2⟩ := HB
    have HF := Lib.hid (show (c.toNat : Int) - 48 = hexI c by
      unfold hexI hexV digB
      rw [h1]
      show _ = ((c.toNat - 48 : Nat) : Int)
      omega)
    clear cd h1
    go_enter Tryd.func55, Tryd.ntmps55
    go_wp2_with (go_at_call 41; refine CD.out.mono ?_; rintro e w' ⟨rfl, rfl⟩)
    go_ret
    exact ⟨ret_int HF.out, rfl⟩
end Go.Proofs.YtifinfmdjbglhaaDoor
