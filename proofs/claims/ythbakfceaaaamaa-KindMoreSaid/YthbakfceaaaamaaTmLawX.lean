/- The law TermTexts returns true, whatever its arguments. -/
import Derived.Test.YthbakfceaaaamaaTmRow
import Derived.WalkLawsBesides
namespace Go.Proofs.Ythbakfceaaaamaa
open Go.RowKit

theorem Trms.on {W W' : World} {a : Option Addr} {n : Nat} {L : List Trm} (h : Trms W W.heap.size a n L) (hb : Below W.heap.size W W') : Trms W' W'.heap.size a n L := (h.below hb).more hb.size
theorem Binds.on {W W' : World} {a : Option Addr} {n : Nat} {E : List (Str × Val)} (h : Binds W W.heap.size a n E) (hb : Below W.heap.size W W') : Binds W' W'.heap.size a n E := (h.below hb).more hb.size
theorem Nums.on {W W' : World} {a : Option Addr} {n : Nat} {l : List Int} (h : Nums W W.heap.size a n l) (hb : Below W.heap.size W W') : Nums W' W'.heap.size a n l := (h.below hb).more hb.size
theorem next_alloc (W : World) (o : Obj) : Below W.heap.size W (W.alloc o) := (Below.refl _ W).alloc (Nat.le_refl _) o
theorem may_p : may [112] = true := by decide
theorem may_q : may [113] = true := by decide
theorem may_r : may [114] = true := by decide
def textE (a b c : Str) : List (Str × Val) := [([112], textV a), ([113], textV b), ([114], textV c)]
def rowT : List Trm := [varT [112], varT [113], twoT 19 0 1, varT [114], twoT 19 2 3]
def colT : List Trm := [varT [112], varT [113], varT [114], twoT 19 1 2, twoT 19 0 3]
def rowE : Exp := .two 4 (twoT 19 2 3) (.two 2 (twoT 19 0 1) (.leaf 0 (varT [112])) (.leaf 1 (varT [113]))) (.leaf 3 (varT [114]))
def colE : Exp := .two 4 (twoT 19 0 3) (.leaf 0 (varT [112])) (.two 3 (twoT 19 1 2) (.leaf 1 (varT [113])) (.leaf 2 (varT [114])))
def lenT : Trm := ⟨16, [], 0, [], 4, -1⟩
def lenE : Exp := .one 5 lenT rowE
theorem row_good : Good rowT 4 rowE := by
  refine ⟨by simp [rowT], rfl, ?_, by decide, by decide⟩
  have h2 : soundT (twoT 19 0 1) = true := sound_two _ _ rfl (by omega) (by omega)
  have h3 : soundT (twoT 19 2 3) = true := sound_two _ _ rfl (by omega) (by omega)
  exact ⟨rfl, h3, rfl, rfl, rfl, by decide, by decide, ⟨rfl, h2, rfl, rfl, rfl, by decide, by decide, ⟨rfl, sound_var may_p, rfl⟩, ⟨rfl, sound_var may_q, rfl⟩⟩, ⟨rfl, sound_var may_r, rfl⟩⟩
theorem col_good : Good colT 4 colE := by
  refine ⟨by simp [colT], rfl, ?_, by decide, by decide⟩
  have h2 : soundT (twoT 19 1 2) = true := sound_two _ _ rfl (by omega) (by omega)
  have h3 : soundT (twoT 19 0 3) = true := sound_two _ _ rfl (by omega) (by omega)
  exact ⟨rfl, h3, rfl, rfl, rfl, by decide, by decide, ⟨rfl, sound_var may_p, rfl⟩, ⟨rfl, h2, rfl, rfl, rfl, by decide, by decide, ⟨rfl, sound_var may_q, rfl⟩, ⟨rfl, sound_var may_r, rfl⟩⟩⟩
theorem len_good : Good (rowT ++ [lenT]) 5 lenE := by
  refine ⟨by simp [rowT], rfl, ?_, by decide, by decide⟩
  have h2 : soundT (twoT 19 0 1) = true := sound_two _ _ rfl (by omega) (by omega)
  have h3 : soundT (twoT 19 2 3) = true := sound_two _ _ rfl (by omega) (by omega)
  exact ⟨rfl, rfl, rfl, rfl, by decide, rfl, h3, rfl, rfl, rfl, by decide, by decide, ⟨rfl, h2, rfl, rfl, rfl, by decide, by decide, ⟨rfl, sound_var may_p, rfl⟩, ⟨rfl, sound_var may_q, rfl⟩⟩, ⟨rfl, sound_var may_r, rfl⟩⟩
section
variable {a b c : Str}
theorem text_hold (ha : a.length ≤ 24) (hb : b.length ≤ 24) (hc : c.length ≤ 24) : holdV (textE a b c) [112] = (textV a, 0) ∧ holdV (textE a b c) [113] = (textV b, 0) ∧ holdV (textE a b c) [114] = (textV c, 0) := by
  refine ⟨?_, ?_, ?_⟩ <;> simp [textE, holdV, mayV_text, ha, hb, hc]
theorem two_text (a b : Str) : twoV 19 (textV a) (textV b) = joinV a b := rfl
theorem leaf_var (E : List (Str × Val)) (s : Str) : leafV E (varT s) = holdV E s := rfl
theorem row_val (ha : a.length ≤ 24) (hb : b.length ≤ 24) (hc : c.length ≤ 24) : evalF rowT 4 (textE a b c) = if 24 < a.length + b.length + c.length then (zeroV, 405) else (textV (a ++ b ++ c), 0) := by
  rw [evalF_good row_good]
  obtain ⟨h1, h2, h3⟩ := text_hold ha hb hc
  simp only [rowE, evalE, leaf_var, h1, h2, h3, if_true]
  show (if (twoV 19 (textV a) (textV b)).2 = 0 then twoV 19 (twoV 19 (textV a) (textV b)).1 (textV c) else (zeroV, (twoV 19 (textV a) (textV b)).2)) = _
  rw [two_text]
  unfold joinV
  by_cases h : 24 < a.length + b.length
  · rw [if_pos h, if_pos (show 24 < a.length + b.length + c.length by omega)]; rfl
  · rw [if_neg h, if_pos rfl, two_text]
    unfold joinV
    rw [List.length_append]
theorem col_val (ha : a.length ≤ 24) (hb : b.length ≤ 24) (hc : c.length ≤ 24) : evalF colT 4 (textE a b c) = if 24 < a.length + b.length + c.length then (zeroV, 405) else (textV (a ++ b ++ c), 0) := by
  rw [evalF_good col_good]
  obtain ⟨h1, h2, h3⟩ := text_hold ha hb hc
  simp only [colE, evalE, leaf_var, h1, h2, h3, if_true]
  show (if (twoV 19 (textV b) (textV c)).2 = 0 then twoV 19 (textV a) (twoV 19 (textV b) (textV c)).1 else (zeroV, (twoV 19 (textV b) (textV c)).2)) = _
  rw [two_text]
  unfold joinV
  by_cases h : 24 < b.length + c.length
  · rw [if_pos h, if_pos (show 24 < a.length + b.length + c.length by omega)]; rfl
  · rw [if_neg h, if_pos rfl, two_text]
    unfold joinV
    rw [List.length_append, ← Nat.add_assoc, List.append_assoc]
theorem len_val (ha : a.length ≤ 24) (hb : b.length ≤ 24) (hc : c.length ≤ 24) (h : ¬ 24 < a.length + b.length + c.length) : evalF (rowT ++ [lenT]) 5 (textE a b c) = (intV ((a.length : Int) + (b.length : Int) + (c.length : Int)), 0) := by
  rw [evalF_good len_good]
  have h1 := row_val ha hb hc
  rw [evalF_good row_good, if_neg h] at h1
  simp only [lenE, evalE, h1, if_true]
  show oneV 16 (textV (a ++ b ++ c)) = _
  simp [oneV, textV, Int.add_assoc]
end

theorem env_made (s1 s2 s3 : ByteArray) (W : World) : Binds (W.alloc (.cells #[.string ⟨#[112]⟩, .int .i64 3, .int .i64 0, .string s1, .slice none 0 0, .string ⟨#[113]⟩, .int .i64 3, .int .i64 0, .string s2, .slice none 0 0, .string ⟨#[114]⟩, .int .i64 3, .int .i64 0, .string s3, .slice none 0 0] 35)) (W.alloc (.cells #[.string ⟨#[112]⟩, .int .i64 3, .int .i64 0, .string s1, .slice none 0 0, .string ⟨#[113]⟩, .int .i64 3, .int .i64 0, .string s2, .slice none 0 0, .string ⟨#[114]⟩, .int .i64 3, .int .i64 0, .string s3, .slice none 0 0] 35)).heap.size (some ⟨W.heap.size, 0, none⟩) 3 (textE s1.toList s2.toList s3.toList) :=
  Binds.made W _ [⟨⟨#[112]⟩, 3, 0, s1, none, 0, 0⟩, ⟨⟨#[113]⟩, 3, 0, s2, none, 0, 0⟩, ⟨⟨#[114]⟩, 3, 0, s3, none, 0, 0⟩] _ 3 _ rfl rfl rfl rfl (by omega) fun j b x h1 h2 => by
    have h0 : j < 3 := (List.getElem?_eq_some_iff.1 h2).1
    have e112 : (⟨#[112]⟩ : ByteArray).toList = [112] := by simp [ByteArray.toList_eq]
    have e113 : (⟨#[113]⟩ : ByteArray).toList = [113] := by simp [ByteArray.toList_eq]
    have e114 : (⟨#[114]⟩ : ByteArray).toList = [114] := by simp [ByteArray.toList_eq]
    rcases (show j = 0 ∨ j = 1 ∨ j = 2 by omega) with rfl | rfl | rfl
    · obtain rfl := Option.some.inj h1
      obtain rfl := Option.some.inj h2
      exact ⟨e112, rfl, rfl, rfl, Nums.zero _ _ _⟩
    · obtain rfl := Option.some.inj h1
      obtain rfl := Option.some.inj h2
      exact ⟨e113, rfl, rfl, rfl, Nums.zero _ _ _⟩
    · obtain rfl := Option.some.inj h1
      obtain rfl := Option.some.inj h2
      exact ⟨e114, rfl, rfl, rfl, Nums.zero _ _ _⟩
theorem row_made (W : World) : Trms (W.alloc (.cells #[.int .i64 0, .string ⟨#[112]⟩, .int .i64 0, .string ⟨#[]⟩, .int .i64 (-1), .int .i64 (-1), .int .i64 0, .string ⟨#[113]⟩, .int .i64 0, .string ⟨#[]⟩, .int .i64 (-1), .int .i64 (-1), .int .i64 19, .string ⟨#[]⟩, .int .i64 0, .string ⟨#[]⟩, .int .i64 0, .int .i64 1, .int .i64 0, .string ⟨#[114]⟩, .int .i64 0, .string ⟨#[]⟩, .int .i64 (-1), .int .i64 (-1), .int .i64 19, .string ⟨#[]⟩, .int .i64 0, .string ⟨#[]⟩, .int .i64 2, .int .i64 3] 49)) (W.alloc (.cells #[.int .i64 0, .string ⟨#[112]⟩, .int .i64 0, .string ⟨#[]⟩, .int .i64 (-1), .int .i64 (-1), .int .i64 0, .string ⟨#[113]⟩, .int .i64 0, .string ⟨#[]⟩, .int .i64 (-1), .int .i64 (-1), .int .i64 19, .string ⟨#[]⟩, .int .i64 0, .string ⟨#[]⟩, .int .i64 0, .int .i64 1, .int .i64 0, .string ⟨#[114]⟩, .int .i64 0, .string ⟨#[]⟩, .int .i64 (-1), .int .i64 (-1), .int .i64 19, .string ⟨#[]⟩, .int .i64 0, .string ⟨#[]⟩, .int .i64 2, .int .i64 3] 49)).heap.size (some ⟨W.heap.size, 0, none⟩) 5 rowT := Trms.made W _ rowT 5 _ rfl rfl rfl (by omega) (short_trms rfl)
theorem col_made (W : World) : Trms (W.alloc (.cells #[.int .i64 0, .string ⟨#[112]⟩, .int .i64 0, .string ⟨#[]⟩, .int .i64 (-1), .int .i64 (-1), .int .i64 0, .string ⟨#[113]⟩, .int .i64 0, .string ⟨#[]⟩, .int .i64 (-1), .int .i64 (-1), .int .i64 0, .string ⟨#[114]⟩, .int .i64 0, .string ⟨#[]⟩, .int .i64 (-1), .int .i64 (-1), .int .i64 19, .string ⟨#[]⟩, .int .i64 0, .string ⟨#[]⟩, .int .i64 1, .int .i64 2, .int .i64 19, .string ⟨#[]⟩, .int .i64 0, .string ⟨#[]⟩, .int .i64 0, .int .i64 3] 49)) (W.alloc (.cells #[.int .i64 0, .string ⟨#[112]⟩, .int .i64 0, .string ⟨#[]⟩, .int .i64 (-1), .int .i64 (-1), .int .i64 0, .string ⟨#[113]⟩, .int .i64 0, .string ⟨#[]⟩, .int .i64 (-1), .int .i64 (-1), .int .i64 0, .string ⟨#[114]⟩, .int .i64 0, .string ⟨#[]⟩, .int .i64 (-1), .int .i64 (-1), .int .i64 19, .string ⟨#[]⟩, .int .i64 0, .string ⟨#[]⟩, .int .i64 1, .int .i64 2, .int .i64 19, .string ⟨#[]⟩, .int .i64 0, .string ⟨#[]⟩, .int .i64 0, .int .i64 3] 49)).heap.size (some ⟨W.heap.size, 0, none⟩) 5 colT := Trms.made W _ colT 5 _ rfl rfl rfl (by omega) (short_trms rfl)

end Go.Proofs.Ythbakfceaaaamaa
