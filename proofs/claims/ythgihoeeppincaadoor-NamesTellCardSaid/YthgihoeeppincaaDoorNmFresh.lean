/- Contract of Fresh. -/
import Derived.Test.YthgihoeeppincaaDoorNmFreshPlain
import Derived.Test.YthgihoeeppincaaDoorNmSet
namespace Go.Proofs.YthgihoeeppincaaDoor
open Go.RowKit Go.Sort Go.Maps Go.WideMaps

theorem look_bool {w : World} {b n : Nat} {D : DataW Unit} (h : w.ownsMap Tryd.prog 9 (plainElem Tryd.prog 4) b n D) (s : Str) (hs : s.length ≤ maxLen) (c : Bool) (hc : D.atKey (keyL s) (.lit (.bool false)) = .lit (.bool c)) :
    (Instr.lookup 37 (.map (some b)) (.string (baS s)) false).run Tryd.prog w = .ok (.bool c) w := by
  obtain ⟨v, ps, hrun, hv⟩ := h.lookup keyed9 Tryd.underlying37 (z := .bool false) (by kernel_rfl) (plainElem_bool Tryd.underlying4 false) (key_ok s hs)
  rw [hc] at hv
  unfold plainElem at hv
  rw [Tryd.underlying4] at hv
  cases v <;> simp at hv
  obtain ⟨rfl, _⟩ := hv
  exact hrun

set_option maxHeartbeats 1000000 in
theorem fresh_any (a : Option Addr) (n c : Nat) (ss : List Str) (s : ByteArray) (w : World) (hn : n ≤ 41) (hs : s.size ≤ maxLen) (h : Strs w w.heap.size a n ss) :
    Calls Tryd.prog 11 #[.slice a n c, .string s] w fun e w' => e = .returned (.string (baS (freshS ss s.toList))) ∧ Below w.heap.size w w' := by
  have HL := Lib.hid h.1
  have hsn := h.2.1
  cases hh : hasS ss s.toList
  · have HF := Lib.hid (show baS (freshS ss s.toList) = s by unfold freshS; rw [hh]; exact baS_of s)
    have HC := Lib.hid (has_any a n c ss s w _ h)
    rw [hh] at HC
    clear h hh
    go_enter Tryd.func11, Tryd.ntmps11
    go_wp2_with (go_at_call 17; refine HC.out.mono ?_; rintro e w' ⟨rfl, rfl⟩)
    go_ret
    exact ⟨ret_str HF.out.symm, Below.refl _ _⟩
  · have HF := Lib.hid (show freshS ss s.toList = freshFrom ss s.toList 2 50 by unfold freshS; rw [hh]; rfl)
    have HC := Lib.hid (has_any a n c ss s w _ h)
    rw [hh] at HC
    have HS := Lib.hid (set_any a n c ss w h)
    clear h hh
    go_enter Tryd.func11, Tryd.ntmps11
    go_wp2_with (first
      | (go_at_call 17; refine HC.out.mono ?_; rintro e w' ⟨rfl, rfl⟩)
      | (go_at_call 27; refine HS.out.mono ?_; rintro e w1 ⟨rfl, hown, hb⟩
         have HO := Lib.hid hown
         have HB := Lib.hid hb
         clear hown hb))
    go_loop [6] (fun i => ∃ k : Nat, 2 ≤ k ∧ k ≤ 51 ∧ i = .int .i64 k ∧ Hid (freshFrom ss s.toList 2 50 = freshFrom ss s.toList k (52 - k)) ∧ Hid (∀ j, 2 ≤ j → j < k → hasS ss (numS s.toList j) = true)) (fun i => 60 - (intOf i).toNat)
    case atStart => exact ⟨2, Nat.le_refl _, by omega, rfl, Lib.hid rfl, Lib.hid (fun j a b => by omega)⟩
    case round =>
      obtain ⟨k, hk2, hk, rfl, hpre, hall⟩ := hrel
      have hlk := look_bool HO.out (numS s.toList k) (by have := num_len s.toList k (by omega); unfold maxLen; omega) _ (at_setD (numS s.toList k) ss)
      have HN := Lib.hid (numbered_any s k (by omega) w1 hs)
      obtain ⟨x, hx⟩ : ∃ x, x = baS (numS s.toList k) := ⟨_, rfl⟩
      rw [← hx] at hlk HN
      have HX := Lib.hid hx
      clear hx
      cases hc : hasS ss (numS s.toList k)
      · have HR := Lib.hid (hpre.out.trans (fresh_stop hc))
        rw [hc] at hlk
        clear hc
        go_wp2_with (go_at_call 28; refine HN.out.mono ?_; rintro e w' ⟨rfl, rfl⟩)
        go_ret
        exact ⟨ret_str (by rw [HF.out, HR.out, HX.out]), HB.out⟩
      · rw [hc] at hlk
        have HR := Lib.hid (hpre.out.trans (fresh_step hk hc))
        have hall' := Lib.hid (show ∀ j, 2 ≤ j → j < k + 1 → hasS ss (numS s.toList j) = true from fun j a b => by
          rcases Nat.lt_or_ge j k with hjk | hjk
          · exact hall.out j a hjk
          · obtain rfl : j = k := by omega
            exact hc)
        have hk51 : k + 1 ≤ 51 := by
          rcases Nat.lt_or_ge k 51 with h | h
          · exact h
          · obtain rfl : k = 51 := by omega
            exact (not_all (s := s.toList) (by rw [HL.out]; exact hn) hall'.out).elim
        clear hc
        go_wp2_with (go_at_call 28; refine HN.out.mono ?_; rintro e w' ⟨rfl, rfl⟩)
        go_round
        case rel => exact ⟨k + 1, by omega, hk51, by go_num, HR, hall'⟩
        case measure => simp [intOf]; omega
end Go.Proofs.YthgihoeeppincaaDoor
