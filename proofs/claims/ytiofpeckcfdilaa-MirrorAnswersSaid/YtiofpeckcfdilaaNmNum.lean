/- Contract of numbered. -/
import Derived.Test.YtiofpeckcfdilaaNmMay
namespace Go.Proofs.Ytiofpeckcfdilaa
open Go.RowKit Go.Sort

/-- A string, cut so that a name remains a name, followed by the digits of k. -/
def numS (s : Str) (k : Nat) : Str := s.take (12 - (Lib.decDigits k).length) ++ Lib.decDigits k
theorem dec_len (k : Nat) (h : k < 100) : (Lib.decDigits k).length = 1 ∨ (Lib.decDigits k).length = 2 := by
  unfold Lib.decDigits
  split
  · exact .inl rfl
  · right
    unfold Lib.decDigits
    rw [dif_pos (by omega)]
    rfl

theorem num_eq (s d : ByteArray) (k r : Nat) (hd : d = baS (Lib.decDigits k)) (hr : (Lib.decDigits k).length = r) :
    s.extract 0 (min (s.size : Int) ((12 - r : Nat) : Int)).toNat ++ d = baS (numS s.toList k) := by
  have e : (min (s.size : Int) ((12 - r : Nat) : Int)).toNat = min s.size (12 - r) := by omega
  rw [e, hd]
  apply toList_inj
  rw [baS_toList, ByteArray.toList_eq, ByteArray.toList_eq, ByteArray.data_append, ByteArray.data_extract]
  simp only [Array.toList_append, Array.toList_extract, numS, hr, baS, List.extract_eq_take_drop, List.drop_zero, Nat.sub_zero]
  congr 1
  rw [← List.take_take]
  exact List.take_of_length_le (by rw [List.length_take]; have : s.data.toList.length = s.size := by simp
                                   omega)

end Go.Proofs.Ytiofpeckcfdilaa
