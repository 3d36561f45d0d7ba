/- Contract of the reference's Fresh. -/
import Derived.Test.YtiofpeckcfdilaaGreatDoorRef2
import Derived.Test.YtiofpeckcfdilaaGreatDoorNmRefDig
namespace Go.Proofs.YtiofpeckcfdilaaGreatDoor
open Go.RowKit Go.Sort

/-- The string that the reference asks for at number k. -/
def triedS (s : Str) (k : Nat) : Str := if k = 2 then s else numS s (k - 1)
theorem fresh_run {ss : List Str} {s : Str} : ∀ (d m : Nat), m = 2 + d → m ≤ 51 → (∀ j, 2 ≤ j → j < m → hasS ss (numS s j) = true) → freshFrom ss s 2 50 = freshFrom ss s m (52 - m)
  | 0, m, hm, _, _ => by subst hm; rfl
  | d + 1, m, hm, hle, h => by
    have ih := fresh_run d (m - 1) (by omega) (by omega) (fun j a b => h j a (by omega))
    rw [ih, fresh_step (by omega) (h (m - 1) (by omega) (by omega)), show m - 1 + 1 = m from by omega]
theorem fresh_found {ss : List Str} {s : Str} {k : Nat} (h2 : 2 ≤ k) (hk : k ≤ 52) (hall : ∀ j, 2 ≤ j → j < k → hasS ss (triedS s j) = true) (hno : hasS ss (triedS s k) = false) : freshS ss s = triedS s k := by
  unfold freshS
  by_cases hk2 : k = 2
  · subst hk2
    have : hasS ss s = false := hno
    rw [this]; rfl
  · have h0 : hasS ss s = true := hall 2 (Nat.le_refl _) (by omega)
    have hn : hasS ss (numS s (k - 1)) = false := by unfold triedS at hno; rwa [if_neg hk2] at hno
    rw [if_pos h0, fresh_run (k - 1 - 2) (k - 1) (by omega) (by omega) (fun j a b => by
      have := hall (j + 1) (by omega) (by omega)
      unfold triedS at this
      rwa [if_neg (by omega), show j + 1 - 1 = j from rfl] at this), fresh_stop hn]
    unfold triedS
    rw [if_neg hk2]
theorem tried_all {ss : List Str} {s : Str} (hn : ss.length ≤ 41) (hall : ∀ j, 2 ≤ j → j < 53 → hasS ss (triedS s j) = true) : False :=
  not_all (s := s) hn (fun j a b => by
    have := hall (j + 1) (by omega) (by omega)
    unfold triedS at this
    rwa [if_neg (by omega), show j + 1 - 1 = j from rfl] at this)

set_option maxHeartbeats 1000000 in
theorem refFresh_any (a : Option Addr) (n c : Nat) (ss : List Str) (s : ByteArray) (w : World) (hn : n ≤ 41) (hs : s.size ≤ maxLen) (h : Strs w w.heap.size a n ss) :
    Calls Tryz.prog 45 #[.slice a n c, .string s] w fun e w' => e = .returned (.string (baS (freshS ss s.toList))) ∧ Below w.heap.size w w' := by
  have hsn := h.2.1
  have hs' := hs
  unfold maxLen at hs'
  have H := Lib.hid h
  have HL := Lib.hid h.1
  clear h
  go_enter Tryz.func45, Tryz.ntmps45
  go_wp2
  go_loopw [5, 6] (fun t i wr => ∃ k : Nat, ∃ x : ByteArray, 2 ≤ k ∧ k ≤ 52 ∧ i = .int .i64 k ∧ t = .string x ∧ Hid (x = baS (triedS s.toList k)) ∧ Hid (∀ j, 2 ≤ j → j < k → hasS ss (triedS s.toList j) = true) ∧ Hid (Below w.heap.size w wr)) (fun _ i _ => 60 - (intOf i).toNat)
  case atStart => exact ⟨2, s, Nat.le_refl _, by omega, rfl, rfl, Lib.hid (baS_of s).symm, Lib.hid (fun j a b => by omega), Lib.hid (Below.refl _ _)⟩
  case round =>
    obtain ⟨k, x, hk2, hk, rfl, rfl, HX, HA, HR⟩ := hrel
    have ch := refHas_any a n c ss x wr _ (H.out.below HR.out)
    have ex : x.toList = triedS s.toList k := by rw [HX.out, baS_toList]
    rw [ex] at ch
    clear ex
    cases hb : hasS ss (triedS s.toList k)
    · rw [hb] at ch
      have CH := Lib.hid ch
      have HF := Lib.hid (show x = baS (freshS ss s.toList) by rw [HX.out, fresh_found hk2 hk HA.out hb])
      clear ch hb
      go_wp2_with (go_at_call 75; refine CH.out.mono ?_; rintro e w' ⟨rfl, rfl⟩)
      go_ret
      exact ⟨ret_str HF.out, HR.out⟩
    · rw [hb] at ch
      have CH := Lib.hid ch
      have hall : ∀ j, 2 ≤ j → j < k + 1 → hasS ss (triedS s.toList j) = true := fun j a b => by
        rcases Nat.lt_or_ge j k with hjk | hjk
        · exact HA.out j a hjk
        · obtain rfl : j = k := by omega
          exact hb
      have hk51 : k ≤ 51 := by
        rcases Nat.lt_or_ge k 52 with h | h
        · omega
        · obtain rfl : k = 52 := by omega
          exact (tried_all (by rw [HL.out]; exact hn) hall).elim
      have HALL := Lib.hid hall
      obtain ⟨d, hd⟩ : ∃ d, d = baS (Lib.decDigits k) := ⟨_, rfl⟩
      have hsz : d.size = (Lib.decDigits k).length := by rw [hd, ← len_toList, baS_toList]
      have hc := digits_any k (by omega) (by omega) wr
      rw [← hd] at hc
      have CD := Lib.hid hc
      have HD := Lib.hid hd
      have HL2 := Lib.hid hsz
      have hl := dec_len k (by omega)
      rw [← hsz] at hl
      clear ch hb hall hd hsz hc
      rcases hl with hl | hl
      · have HN := Lib.hid (num_eq s d k 1 HD.out (HL2.out.symm.trans hl))
        go_wp2_with (first
          | (go_at_call 75; refine CH.out.mono ?_; rintro e w' ⟨rfl, rfl⟩)
          | (go_at_call 76; refine CD.out.mono ?_; rintro e w2 ⟨rfl, hb⟩
             have HB := Lib.hid hb
             clear hb))
        go_roundw
        case rel => exact ⟨k + 1, _, by omega, by omega, by go_num, rfl, Lib.hid (HN.out.trans (by unfold triedS; rw [if_neg (by omega)]; rfl)), HALL, Lib.hid (HR.out.trans (HB.out.mono HR.out.size))⟩
        case measure => simp [intOf]; omega
      · have HN := Lib.hid (num_eq s d k 2 HD.out (HL2.out.symm.trans hl))
        go_wp2_with (first
          | (go_at_call 75; refine CH.out.mono ?_; rintro e w' ⟨rfl, rfl⟩)
          | (go_at_call 76; refine CD.out.mono ?_; rintro e w2 ⟨rfl, hb⟩
             have HB := Lib.hid hb
             clear hb))
        go_roundw
        case rel => exact ⟨k + 1, _, by omega, by omega, by go_num, rfl, Lib.hid (HN.out.trans (by unfold triedS; rw [if_neg (by omega)]; rfl)), HALL, Lib.hid (HR.out.trans (HB.out.mono HR.out.size))⟩
        case measure => simp [intOf]; omega
end Go.Proofs.YtiofpeckcfdilaaGreatDoor
