/- Contract of the reference's Int. -/
import Derived.Test.YtnanfmmafmcchaaGreatDoorDtBox
import Derived.Test.YtnanfmmafmcchaaGreatDoorRef0
namespace Go.Proofs.YtnanfmmafmcchaaGreatDoor
open Go.RowKit

theorem mag_lt (l : Str) : magS l < 18446744073709551616 := by
  have key : ∀ (l : Str) (u : Nat), u < two64 → l.foldl (fun u c => if digB c then (u * 10 + (c.toNat - 48)) % two64 else u) u < two64 := by
    intro l
    induction l with
    | nil => intro u h; exact h
    | cons c l ih =>
      intro u h
      rw [List.foldl_cons]
      apply ih
      split
      · exact Nat.mod_lt _ (by decide)
      · exact h
  exact key l 0 (by decide)
theorem mag_one (s : ByteArray) (k : Nat) (h : k < s.size) (hd : digB s[k] = true) : magS (s.toList.take (k + 1)) = (magS (s.toList.take k) * 10 + (s[k].toNat - 48)) % 18446744073709551616 := by
  rw [take_snocB s k h, mag_snoc _ _ hd]
  rfl
theorem mag_skip (s : ByteArray) (k : Nat) (h : k < s.size) (hd : digB s[k] = false) : magS (s.toList.take (k + 1)) = magS (s.toList.take k) := by
  rw [take_snocB s k h]
  unfold magS
  rw [List.foldl_append, List.foldl_cons, List.foldl_nil, hd]
  rfl
theorem asI64_wrap (u : Nat) (hu : u < 18446744073709551616) : IntKind.i64.wrap (u : Int) = asI64 u := by
  unfold asI64
  rw [IntKind.wrap_i64]
  split <;> omega
theorem negU_wrap (u : Nat) (hu : u < 18446744073709551616) : IntKind.u64.wrap (-(u : Int)) = (negU u : Nat) := by
  unfold negU two64
  rw [IntKind.wrap_u64]
  split <;> omega
theorem negU_lt (u : Nat) (hu : u < 18446744073709551616) : negU u < 18446744073709551616 := by
  unfold negU two64
  split <;> omega

set_option maxHeartbeats 4000000 in
theorem refInt_any (s : ByteArray) (w : World) (hs : s.size ≤ 1100000) : Calls Tryz.prog 24 #[.string s] w fun e w' => e = .returned (.int .i64 (intS s.toList)) ∧ w' = w := by
  go_enter Tryz.func24, Tryz.ntmps24
  go_wp2
  go_loop [3, 4] (fun v i => ∃ k : Nat, k ≤ s.size ∧ i = .int .i64 k ∧ v = .int .u64 (magS (s.toList.take k) : Nat)) (fun _ i => s.size - (intOf i).toNat)
  case atStart => exact ⟨0, Nat.zero_le _, rfl, rfl⟩
  case round =>
    obtain ⟨k, hk, rfl, rfl⟩ := hrel
    by_cases hlt : k < s.size
    · have cd : ∀ W, Calls Tryz.prog 43 #[.int .u8 s[k].toNat] W fun e w' => e = .returned (.bool (digB s[k])) ∧ W = w' := fun W => refDigit_any s[k].toNat W
      obtain ⟨M, hM⟩ : ∃ M, M = magS (s.toList.take k) := ⟨_, rfl⟩
      have hMl : M < 18446744073709551616 := by rw [hM]; exact mag_lt _
      rw [← hM]
      cases hd : digB s[k]
      · have HS := Lib.hid (mag_skip s k hlt hd)
        rw [← hM] at HS
        rw [hd] at cd
        have CD := Lib.hid cd
        clear cd hd hM hMl
        go_wp2_with (first | (go_at_call 43; (with_reducible refine (CD.out _).mono ?_); rintro e w1 ⟨rfl, rfl⟩) | fail)
        go_round
        case rel => exact ⟨k + 1, by omega, by go_num, by rw [HS.out]⟩
        case measure => simp [intOf]; omega
      · have HS := mag_one s k hlt hd
        rw [← hM] at HS
        have hr := dig_range hd
        rw [hd] at cd
        have CD := Lib.hid cd
        obtain ⟨d, hdd⟩ : ∃ d, d = s[k].toNat - 48 := ⟨_, rfl⟩
        rw [← hdd] at HS
        have e2 : ((s[k].toNat : Nat) : Int) - 48 = (d : Int) := by omega
        have d9 : (d : Int) ≤ 9 := by omega
        obtain ⟨Pd, hP⟩ : ∃ Pd, Pd = M * 10 % 18446744073709551616 := ⟨_, rfl⟩
        have e1 : IntKind.u64.wrap ((M : Int) * 10) = (Pd : Int) := by rw [IntKind.wrap_u64]; omega
        obtain ⟨N, hN⟩ : ∃ N, N = (M * 10 + d) % 18446744073709551616 := ⟨_, rfl⟩
        have e3 : IntKind.u64.wrap ((Pd : Int) + (d : Int)) = (N : Int) := by rw [IntKind.wrap_u64]; omega
        rw [← hN] at HS
        have HSH := Lib.hid HS
        clear cd hd hM hMl HS hdd hP hN
        go_wp2_with (first | (go_at_call 43; (with_reducible refine (CD.out _).mono ?_); rintro e w1 ⟨rfl, rfl⟩) | fail)
        go_round
        case rel => exact ⟨k + 1, by omega, by go_num, by rw [HSH.out]⟩
        case measure => simp [intOf]; omega
    · have hkn : k = s.size := by omega
      have HT := Lib.hid (show magS (s.toList.take k) = magS s.toList by rw [List.take_of_length_le (by rw [lxLen]; omega)])
      obtain ⟨M, hM⟩ : ∃ M, M = magS s.toList := ⟨_, rfl⟩
      have hMl : M < 18446744073709551616 := by rw [hM]; exact mag_lt _
      rw [HT.out, ← hM]
      clear hkn
      cases hz : s.toList.isEmpty
      · have hpos : 0 < s.size := by
          rcases Nat.eq_zero_or_pos s.size with h | h
          · rw [← lxLen] at h
            rw [List.eq_nil_of_length_eq_zero h] at hz
            cases hz
          · exact h
        have h0 := lxDrop s 0 hpos
        rw [List.drop_zero] at h0
        cases h45 : (s[0] == 45)
        · have e45 : (((s[0].toNat : Nat) : Int) == 45) = false := by rw [← h45]; exact byte_is s[0] 45 (by omega)
          have hw := asI64_wrap M hMl
          have HF := Lib.hid (show intS s.toList = asI64 M by
            unfold intS
            rw [hM]
            conv => lhs; rw [h0]
            rw [List.head?_cons, show ((some s[0] : Option UInt8) == some 45) = (s[0] == 45) from rfl, h45, ← h0]
            rfl)
          obtain ⟨V, hV⟩ : ∃ V, V = asI64 M := ⟨_, rfl⟩
          rw [← hV] at hw HF
          clear hM hMl h45 hV h0
          go_wp2
          go_ret
          exact ⟨ret_int HF.out.symm, rfl⟩
        · have e45 : (((s[0].toNat : Nat) : Int) == 45) = true := by rw [← h45]; exact byte_is s[0] 45 (by omega)
          have hng := negU_wrap M hMl
          have hw := asI64_wrap (negU M) (negU_lt M hMl)
          have HF := Lib.hid (show intS s.toList = asI64 (negU M) by
            unfold intS
            rw [hM]
            conv => lhs; rw [h0]
            rw [List.head?_cons, show ((some s[0] : Option UInt8) == some 45) = (s[0] == 45) from rfl, h45, ← h0]
            rfl)
          obtain ⟨Q, hQ⟩ : ∃ Q, Q = negU M := ⟨_, rfl⟩
          rw [← hQ] at hng hw HF
          obtain ⟨V, hV⟩ : ∃ V, V = asI64 Q := ⟨_, rfl⟩
          rw [← hV] at hw HF
          clear hM hMl h45 hV h0 hQ
          go_wp2
          go_ret
          exact ⟨ret_int HF.out.symm, rfl⟩
      · have hnil : s.toList = [] := nil_of_empty hz
        have HF := Lib.hid (show intS s.toList = 0 by rw [hnil]; rfl)
        have hM0 : M = 0 := by rw [hM, hnil]; rfl
        subst hM0
        clear hM hMl hnil
        go_wp2
        go_ret
        exact ⟨ret_int HF.out.symm, rfl⟩
end Go.Proofs.YtnanfmmafmcchaaGreatDoor
