/- Contracts of the reference's blank, skip, run, hex. -/
import Derived.Test.YtifinfmdjbglhaaDoorNmLeaf
import Derived.Test.YtifinfmdjbglhaaDoorLxPlain
import Derived.Lib.Hide
namespace Go.Proofs.YtifinfmdjbglhaaDoor
open Go.RowKit

theorem lxLen (s : ByteArray) : s.toList.length = s.size := by rw [ByteArray.toList_eq]; simp
theorem lxDrop (s : ByteArray) (k : Nat) (hk : k < s.size) : s.toList.drop k = s[k] :: s.toList.drop (k + 1) := by
  have h : k < s.toList.length := by rw [lxLen]; exact hk
  rw [List.drop_eq_getElem_cons h]
  congr 1
  have e : s.toList = s.data.toList := ByteArray.toList_eq s
  have : s.toList[k]? = s.data.toList[k]? := by rw [e]
  rw [List.getElem?_eq_getElem h, List.getElem?_eq_getElem (by simpa using hk)] at this
  injection this
theorem lxEnd (s : ByteArray) (k : Nat) (hk : s.size ≤ k) : s.toList.drop k = [] := List.drop_of_length_le (by rw [lxLen]; exact hk)
theorem byte_is (c : UInt8) (n : Nat) (hn : n < 256) : ((c.toNat : Int) == (n : Int)) = (c == UInt8.ofNat n) := by
  rw [Bool.eq_iff_iff, beq_iff_eq, beq_iff_eq]
  constructor
  · intro h
    have h' : c.toNat = n := by omega
    rw [← h', UInt8.ofNat_toNat]
  · rintro rfl
    rw [UInt8.toNat_ofNat']
    omega

theorem refBlank_any (c : UInt8) (w : World) : Calls Tryd.prog 37 #[.int .u8 c.toNat] w fun e w' => e = .returned (.bool (blankB c)) ∧ w = w' := by
  have e1 : ((c.toNat : Int) == 32) = (c == UInt8.ofNat 32) := byte_is c 32 (by omega)
  have e2 : ((c.toNat : Int) == 9) = (c == UInt8.ofNat 9) := byte_is c 9 (by omega)
  have e3 : ((c.toNat : Int) == 10) = (c == UInt8.ofNat 10) := byte_is c 10 (by omega)
  have H : Hid (blankB c = ((c == UInt8.ofNat 32) || (c == UInt8.ofNat 9) || (c == UInt8.ofNat 10))) := Lib.hid rfl
  cases h1 : c == UInt8.ofNat 32
  · cases h2 : c == UInt8.ofNat 9
    · cases h3 : c == UInt8.ofNat 10
      all_goals
        rw [h1, h2, h3] at H
        rw [h1] at e1
        rw [h2] at e2
        rw [h3] at e3
        clear h1 h2 h3
        go_enter Tryd.func37, Tryd.ntmps37
        go_wp2
        go_ret
        exact ⟨ret_bool H.out.symm, rfl⟩
    · rw [h1, h2] at H
      rw [h1] at e1
      rw [h2] at e2
      clear h1 h2 e3
      go_enter Tryd.func37, Tryd.ntmps37
      go_wp2
      go_ret
      exact ⟨ret_bool H.out.symm, rfl⟩
  · rw [h1] at H e1
    clear h1 e2 e3
    go_enter Tryd.func37, Tryd.ntmps37
    go_wp2
    go_ret
    exact ⟨ret_bool H.out.symm, rfl⟩

set_option maxHeartbeats 1100000 in
theorem refSkip_any (s : ByteArray) (p : Nat) (w : World) (hp : p ≤ s.size) (hs : s.size ≤ 1100000) :
    Calls Tryd.prog 22 #[.string s, .int .i64 p] w fun e w' => ∃ r : Nat, e = .returned (.int .i64 r) ∧ p ≤ r ∧ r ≤ s.size ∧ s.toList.drop r = skipF false (s.toList.drop p) ∧ w = w' := by
  go_enter Tryd.func22, Tryd.ntmps22
  go_wp2
  go_loop [1] (fun i => ∃ k : Nat, p ≤ k ∧ k ≤ s.size ∧ i = .int .i64 k ∧ Hid (skipF false (s.toList.drop k) = skipF false (s.toList.drop p))) (fun i => s.size - (intOf i).toNat)
  case atStart => exact ⟨p, Nat.le_refl _, hp, rfl, Lib.hid rfl⟩
  case round =>
    obtain ⟨k, hpk, hk, rfl, hrel'⟩ := hrel
    by_cases hlt : k < s.size
    · have hd := Lib.hid (lxDrop s k hlt)
      cases hb : blankB s[k]
      · cases h35 : (s[k] == 35)
        · have e1 : (((s[k].toNat : Nat) : Int) == 35) = false := by rw [← h35]; exact byte_is s[k] 35 (by omega)
          have HF := Lib.hid (show s.toList.drop k = skipF false (s.toList.drop p) by
            rw [← hrel'.out, hd.out, skipF, hb, h35]; rfl)
          have CB := Lib.hid (refBlank_any s[k] w)
          rw [hb] at CB
          clear h35 hb
          go_wp2_with (go_at_call 37; refine CB.out.mono ?_; rintro e w' ⟨rfl, rfl⟩)
          go_ret
          exact ⟨k, rfl, hpk, hk, HF.out, rfl⟩
        · have e1 : (((s[k].toNat : Nat) : Int) == 35) = true := by rw [← h35]; exact byte_is s[k] 35 (by omega)
          have HF := Lib.hid (show skipF true (s.toList.drop k) = skipF false (s.toList.drop p) by
            have h10 : (s[k] == 10) = false := by rw [eq_of_beq h35]; rfl
            rw [← hrel'.out, hd.out, skipF, skipF, hb, h35, h10]; rfl)
          have H35 := Lib.hid h35
          have CB := Lib.hid (refBlank_any s[k] w)
          rw [hb] at CB
          clear h35 hb
          go_wp2_with (go_at_call 37; refine CB.out.mono ?_; rintro e w' ⟨rfl, rfl⟩)
          go_loop [1] (fun i => ∃ j : Nat, k ≤ j ∧ j ≤ s.size ∧ i = .int .i64 j ∧ Hid (skipF true (s.toList.drop j) = skipF false (s.toList.drop p)) ∧ Hid (j = k ∨ k < j)) (fun i => s.size - (intOf i).toNat)
          case atStart => exact ⟨k, Nat.le_refl _, hk, rfl, HF, Lib.hid (.inl rfl)⟩
          case round =>
            obtain ⟨j, hkj, hj, rfl, hin, hwas⟩ := hrel
            by_cases hjl : j < s.size
            · have hdj := Lib.hid (lxDrop s j hjl)
              cases h10 : (s[j] == 10)
              · have e2 : (((s[j].toNat : Nat) : Int) != 10) = true := by
                  have : (((s[j].toNat : Nat) : Int) == 10) = (s[j] == UInt8.ofNat 10) := byte_is s[j] 10 (by omega)
                  unfold bne
                  rw [this, show (s[j] == UInt8.ofNat 10) = false from h10]; rfl
                have HF2 := Lib.hid (show skipF true (s.toList.drop (j + 1)) = skipF false (s.toList.drop p) by
                  rw [← hin.out, hdj.out, skipF, h10]; rfl)
                clear h10
                go_wp2
                go_round
                case rel => exact ⟨j + 1, by omega, by omega, by go_num, HF2, Lib.hid (.inr (by omega))⟩
                case measure => simp [intOf]; omega
              · have e2 : (((s[j].toNat : Nat) : Int) != 10) = false := by
                  have : (((s[j].toNat : Nat) : Int) == 10) = (s[j] == UInt8.ofNat 10) := byte_is s[j] 10 (by omega)
                  unfold bne
                  rw [this, show (s[j] == UInt8.ofNat 10) = true from h10]; rfl
                have hlt2 : k < j := by
                  rcases hwas.out with e | e
                  · subst e
                    exact absurd (eq_of_beq H35.out |>.symm.trans (eq_of_beq h10)) (by decide)
                  · exact e
                have HF2 := Lib.hid (show skipF false (s.toList.drop j) = skipF false (s.toList.drop p) by
                  rw [← hin.out, hdj.out, skipF, skipF, h10, eq_of_beq h10]; rfl)
                clear h10
                go_wp2
                go_round
                case rel => exact ⟨j, by omega, by omega, by go_num, HF2⟩
                case measure => simp [intOf]; omega
            · have hlt2 : k < j := by omega
              have HF2 := Lib.hid (show skipF false (s.toList.drop j) = skipF false (s.toList.drop p) by
                rw [← hin.out, lxEnd s j (by omega)]; rfl)
              go_wp2
              go_round
              case rel => exact ⟨j, by omega, by omega, by go_num, HF2⟩
              case measure => simp [intOf]; omega
      · have HF := Lib.hid (show skipF false (s.toList.drop (k + 1)) = skipF false (s.toList.drop p) by
          rw [← hrel'.out, hd.out, skipF, hb]; rfl)
        have hne : (((s[k].toNat : Nat) : Int) == 35) = false := by
          have e := byte_is s[k] 35 (by omega)
          have : (s[k] == UInt8.ofNat 35) = false := by
            rw [beq_eq_false_iff_ne]
            intro e2
            rw [e2] at hb
            revert hb; decide
          exact e.trans this
        have CB := Lib.hid (refBlank_any s[k] w)
        rw [hb] at CB
        clear hb
        go_wp2_with (go_at_call 37; refine CB.out.mono ?_; rintro e w' ⟨rfl, rfl⟩)
        go_round
        case rel => exact ⟨k + 1, by omega, by omega, by go_num, HF⟩
        case measure => simp [intOf]; omega
    · have HF := Lib.hid (show s.toList.drop k = skipF false (s.toList.drop p) by
        rw [← hrel'.out, lxEnd s k (by omega)]; rfl)
      go_wp2
      go_ret
      exact ⟨k, rfl, hpk, hk, HF.out, rfl⟩
end Go.Proofs.YtifinfmdjbglhaaDoor
