/- The statements' first: the chapter's example. -/
import Derived.Test.YtiofpeckcfdilaaMiOf
import Derived.Test.YtiofpeckcfdilaaMiPair
namespace Go.Proofs.Ytiofpeckcfdilaa
open Go.RowKit

def exM : List TurnL := [⟨1, [98], [⟨[120], 0, [], 1⟩]⟩, ⟨0, [], []⟩]
theorem exM_ok : mirE exM [97] = 0 := by decide +kernel
theorem exM_no : mirE exM [98] = 1201 := by decide +kernel
theorem exM_mir : mirQ exM [97] = [⟨2, [97], [⟨[120], 0, [], 1⟩]⟩, ⟨0, [], []⟩] := by
  unfold mirQ
  rw [if_pos exM_ok]
  rfl
theorem one_list (c : UInt8) : (⟨#[c]⟩ : ByteArray).toList = [c] := by rw [ByteArray.toList_eq]
theorem no_list : (⟨#[]⟩ : ByteArray).toList = [] := by rw [ByteArray.toList_eq]
def exMA : Obj := .cells #[.string ⟨#[120]⟩, .int .i64 0, .string ⟨#[]⟩, .int .i64 1] 56
def exMT (b : Nat) : Obj := .cells #[.int .i64 1, .string ⟨#[98]⟩, .slice (some ⟨b, 0, none⟩) 1 1, .int .i64 0, .string ⟨#[]⟩, .slice none 0 0] 52
theorem exM_turns (w : World) : Turns ((w.alloc exMA).alloc (exMT w.heap.size)) ((w.alloc exMA).alloc (exMT w.heap.size)).heap.size (some ⟨w.heap.size + 1, 0, none⟩) 2 exM := by
  have h2 := heap_alloc_new (w.alloc exMA) (exMT w.heap.size)
  have h1 := ((tu1 (w.alloc exMA) (exMT w.heap.size)).block w.heap.size (by simp)).trans (heap_alloc_new w exMA)
  rw [World.size_alloc] at h2
  have hA : Arms ((w.alloc exMA).alloc (exMT w.heap.size)) ((w.alloc exMA).alloc (exMT w.heap.size)).heap.size (some ⟨w.heap.size, 0, none⟩) 1 [⟨[120], 0, [], 1⟩] := by
    refine ⟨rfl, by omega, fun _ => ⟨w.heap.size, 0, rfl, by simp; omega, fun j x hj => ?_⟩⟩
    obtain rfl : j = 0 := by
      have := (List.getElem?_eq_some_iff.1 hj).1
      simp at this
      omega
    obtain rfl := Option.some.inj hj
    exact ⟨⟨#[120]⟩, ⟨#[]⟩, ⟨by rw [cell_of_row _ _ _ _ _ _ h1]; rfl, by rw [cell_of_row _ _ _ _ _ _ h1]; rfl, by rw [cell_of_row _ _ _ _ _ _ h1]; rfl, by rw [cell_of_row _ _ _ _ _ _ h1]; rfl⟩, one_list 120, no_list, by simp [maxLen, ByteArray.size], by simp [maxLen, ByteArray.size]⟩
  refine ⟨rfl, by omega, fun _ => ⟨w.heap.size + 1, 0, rfl, by simp, fun j x hj => ?_⟩⟩
  have hj2 : j = 0 ∨ j = 1 := by
    have := (List.getElem?_eq_some_iff.1 hj).1
    simp [exM] at this
    omega
  rcases hj2 with rfl | rfl
  · obtain rfl := Option.some.inj hj
    exact ⟨⟨#[98]⟩, some ⟨w.heap.size, 0, none⟩, 1, 1, ⟨by rw [cell_of_row _ _ _ _ _ _ h2]; rfl, by rw [cell_of_row _ _ _ _ _ _ h2]; rfl, by rw [cell_of_row _ _ _ _ _ _ h2]; rfl⟩, one_list 98, by simp [maxLen, ByteArray.size], hA⟩
  · obtain rfl := Option.some.inj hj
    exact ⟨⟨#[]⟩, none, 0, 0, ⟨by rw [cell_of_row _ _ _ _ _ _ h2]; rfl, by rw [cell_of_row _ _ _ _ _ _ h2]; rfl, by rw [cell_of_row _ _ _ _ _ _ h2]; rfl⟩, no_list, by simp [maxLen, ByteArray.size], Arms.zero _ _ _⟩
set_option maxHeartbeats 8000000 in
set_option maxRecDepth 20000 in
theorem miFirst_any (w : World) : Calls Try.prog 17 #[] w fun e w' => e = .returned (.bool true) ∧ Below w.heap.size w w' := by
  obtain ⟨W2, hW2⟩ : ∃ W2, W2 = (w.alloc exMA).alloc (exMT w.heap.size) := ⟨_, rfl⟩
  have HT2 := Lib.hid (show Turns W2 W2.heap.size (some ⟨w.heap.size + 1, 0, none⟩) 2 exM by rw [hW2]; exact exM_turns w)
  have HB2 := Lib.hid (show Below w.heap.size w W2 by rw [hW2]; exact below_on (tu1 w exMA) (tu1 _ _))
  have hs2 : W2.heap.size = w.heap.size + 1 + 1 := by rw [hW2]; simp
  have HL3 := Lib.hid (LBox.new W2 ⟨#[116]⟩ (some ⟨w.heap.size + 1, 0, none⟩) 2 2)
  have HBX := Lib.hid (tu1 W2 (.cells #[.string ⟨#[116]⟩, .slice (some ⟨w.heap.size + 1, 0, none⟩) 2 2] 38))
  rw [hs2] at HL3
  have HS2 := Lib.hid hs2
  have CA := Lib.hid (fun (W : World) (hW : Below W2.heap.size W2 W) => of_any ⟨#[116]⟩ ⟨#[97]⟩ (some ⟨w.heap.size + 1, 0, none⟩) 2 2 exM W W2.heap.size hW.size (HT2.out.below hW) (by simp [maxLen, ByteArray.size]))
  have CB := Lib.hid (fun (W : World) (hW : Below W2.heap.size W2 W) => of_any ⟨#[116]⟩ ⟨#[98]⟩ (some ⟨w.heap.size + 1, 0, none⟩) 2 2 exM W W2.heap.size hW.size (HT2.out.below hW) (by simp [maxLen, ByteArray.size]))
  rw [one_list] at CA CB
  unfold OfRet mirN at CA CB
  rw [exM_ok, exM_mir] at CA
  rw [exM_no] at CB
  rw [if_pos rfl] at CA
  rw [if_neg (by decide)] at CB
  obtain ⟨lc0, lc1⟩ := HL3.out.cells
  unfold exMA exMT at hW2
  subst hW2
  clear hs2
  go_enter Try.func17, Try.ntmps17
  go_upto_region 4 with (first
    | (go_at_call 19; (with_reducible refine (CA.out _ HBX.out).mono ?_)
       rintro e w4 ⟨⟨ra, rn, rc, rfl, ht4⟩, hb4⟩
       have HB4 := Lib.hid (below_on HBX.out hb4)
       have HL4 := Lib.hid (HL3.out.on hb4)
       have HT4 := Lib.hid ht4
       have HM5 := Lib.hid (LBox.new w4 ⟨#[116]⟩ ra rn rc)
       obtain ⟨_, _⟩ := (HL4.out.on (tu1 w4 (.cells #[.string ⟨#[116]⟩, .slice ra rn rc] 38))).cells
       have hz4 := HL4.out.lt
       clear hb4 ht4)
    | (go_at_call 19; (with_reducible refine (CB.out _ (below_on HB4.out (tu1 w4 _))).mono ?_)
       rintro e w6 ⟨⟨xa, xn, xc, rfl, _⟩, hb6⟩
       have HB6 := Lib.hid (below_on (below_on HB4.out (tu1 w4 _)) hb6)
       have HM6 := Lib.hid (HM5.out.on hb6)
       have HT6 := Lib.hid ((HT4.out.on (tu1 w4 _)).on hb6)
       clear hb6)
    | fail)
  obtain rfl : rn = 2 := HT6.out.1.symm
  obtain ⟨b, off, kd, s, aa, an, ac, l, rfl, hbb, ht, ⟨q0, q1, q2⟩, _, _⟩ := HT6.out.at_ (k := 0) (by omega)
  obtain ⟨e1, e2, _⟩ := TurnL.mk.inj (Option.some.inj ht)
  subst e1
  obtain ⟨c0, c1⟩ := HM6.out.cells
  have hm6 := HM6.out.lt
  rw [Nat.zero_mul, Nat.add_zero] at q0 q1 q2
  have es : (s.toList == [97]) = true := by rw [← e2]; rfl
  clear ht e2
  have HBE := Lib.hid (below_on HB2.out HB6.out)
  go_wp2
  go_ret
  exact ⟨rfl, below_on HBE.out (tu1 _ _)⟩
end Go.Proofs.Ytiofpeckcfdilaa
