/- Contract of numbered. -/
import Derived.Test.YtiofpeckcfdilaaGreatDoorNmMay
namespace Go.Proofs.YtiofpeckcfdilaaGreatDoor
open Go.RowKit Go.Sort

/-- A string, cut so that a name remains a name, followed by the digits of k. -/
def numS (s : Str) (k : Nat) : Str := s.take (12 - (Lib.decDigits k).length) ++ Lib.decDigits k
theorem dec_len (k : Nat) (h : k < 100) : (Lib.decDigits k).length = 1 ∨ (Lib.decDigits k).length = 2 := by
  unfold Lib.decDigits
  split
  · exact .inl rfl
  · right
    unfold Lib.decDigits
    rw [dif_pos (by omega)]
    rfl

theorem num_eq (s d : ByteArray) (k r : Nat) (hd : d = baS (Lib.decDigits k)) (hr : (Lib.decDigits k).length = r) :
    s.extract 0 (min (s.size : Int) ((12 - r : Nat) : Int)).toNat ++ d = baS (numS s.toList k) := by
  have e : (min (s.size : Int) ((12 - r : Nat) : Int)).toNat = min s.size (12 - r) := by omega
  rw [e, hd]
  apply toList_inj
  rw [baS_toList, ByteArray.toList_eq, ByteArray.toList_eq, ByteArray.data_append, ByteArray.data_extract]
  simp only [Array.toList_append, Array.toList_extract, numS, hr, baS, List.extract_eq_take_drop, List.drop_zero, Nat.sub_zero]
  congr 1
  rw [← List.take_take]
  exact List.take_of_length_le (by rw [List.length_take]; have : s.data.toList.length = s.size := by simp
                                   omega)

set_option maxHeartbeats 1000000 in
theorem numbered_any (s : ByteArray) (k : Nat) (hk : k < 100) (w : World) (hs : s.size ≤ maxLen) :
    Calls Tryz.prog 107 #[.string s, .int .i64 k] w fun e w' => e = .returned (.string (baS (numS s.toList k))) ∧ w = w' := by
  unfold maxLen at hs
  obtain ⟨d, hd⟩ : ∃ d, d = baS (Lib.decDigits k) := ⟨_, rfl⟩
  have hsz : d.size = (Lib.decDigits k).length := by rw [hd, ← len_toList, baS_toList]
  have hc := Tryz.strconv_Itoa_small k hk w
  rw [show (⟨(Lib.decDigits k).toArray⟩ : ByteArray) = d from hd.symm] at hc
  have HC := Lib.hid hc
  have HD := Lib.hid hd
  have HL := Lib.hid hsz
  have hl := dec_len k hk
  rw [← hsz] at hl
  clear hc hd hsz
  rcases hl with hl | hl
  all_goals
    go_enter Tryz.func107, Tryz.ntmps107
    go_wp2_with (go_at_call 126; refine HC.out.mono ?_; rintro e w' ⟨rfl, rfl⟩)
    go_ret
  · exact ⟨ret_str (num_eq s d k 1 HD.out (HL.out.symm.trans hl)), rfl⟩
  · exact ⟨ret_str (num_eq s d k 2 HD.out (HL.out.symm.trans hl)), rfl⟩
end Go.Proofs.YtiofpeckcfdilaaGreatDoor
