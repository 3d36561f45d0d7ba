/- The law TermTexts returns true, whatever its arguments. -/
import Derived.Test.YthchilnibblbgaaTmRow
import Derived.WalkLawsBesides
namespace Go.Proofs.Ythchilnibblbgaa
open Go.RowKit

theorem Trms.on {W W' : World} {a : Option Addr} {n : Nat} {L : List Trm} (h : Trms W W.heap.size a n L) (hb : Below W.heap.size W W') : Trms W' W'.heap.size a n L := (h.below hb).more hb.size
theorem Binds.on {W W' : World} {a : Option Addr} {n : Nat} {E : List (Str × Val)} (h : Binds W W.heap.size a n E) (hb : Below W.heap.size W W') : Binds W' W'.heap.size a n E := (h.below hb).more hb.size
theorem Nums.on {W W' : World} {a : Option Addr} {n : Nat} {l : List Int} (h : Nums W W.heap.size a n l) (hb : Below W.heap.size W W') : Nums W' W'.heap.size a n l := (h.below hb).more hb.size
theorem next_alloc (W : World) (o : Obj) : Below W.heap.size W (W.alloc o) := (Below.refl _ W).alloc (Nat.le_refl _) o
theorem may_p : may [112] = true := by decide
theorem may_q : may [113] = true := by decide
theorem may_r : may [114] = true := by decide
def textE (a b c : Str) : List (Str × Val) := [([112], textV a), ([113], textV b), ([114], textV c)]
def rowT : List Trm := [varT [112], varT [113], twoT 19 0 1, varT [114], twoT 19 2 3]
def colT : List Trm := [varT [112], varT [113], varT [114], twoT 19 1 2, twoT 19 0 3]
def rowE : Exp := .two 4 (twoT 19 2 3) (.two 2 (twoT 19 0 1) (.leaf 0 (varT [112])) (.leaf 1 (varT [113]))) (.leaf 3 (varT [114]))
def colE : Exp := .two 4 (twoT 19 0 3) (.leaf 0 (varT [112])) (.two 3 (twoT 19 1 2) (.leaf 1 (varT [113])) (.leaf 2 (varT [114])))
def lenT : Trm := ⟨16, [], 0, [], 4, -1⟩
def lenE : Exp := .one 5 lenT rowE
theorem row_good : Good rowT 4 rowE := by
  refine ⟨by simp [rowT], rfl, ?_, by decide, by decide⟩
  have h2 : soundT (twoT 19 0 1) = true := sound_two _ _ rfl (by omega) (by omega)
  have h3 : soundT (twoT 19 2 3) = true := sound_two _ _ rfl (by omega) (by omega)
  exact ⟨rfl, h3, rfl, rfl, rfl, by decide, by decide, ⟨rfl, h2, rfl, rfl, rfl, by decide, by decide, ⟨rfl, sound_var may_p, rfl⟩, ⟨rfl, sound_var may_q, rfl⟩⟩, ⟨rfl, sound_var may_r, rfl⟩⟩
theorem col_good : Good colT 4 colE := by
  refine ⟨by simp [colT], rfl, ?_, by decide, by decide⟩
  have h2 : soundT (twoT 19 1 2) = true := sound_two _ _ rfl (by omega) (by omega)
  have h3 : soundT (twoT 19 0 3) = true := sound_two _ _ rfl (by omega) (by omega)
  exact ⟨rfl, h3, rfl, rfl, rfl, by decide, by decide, ⟨rfl, sound_var may_p, rfl⟩, ⟨rfl, h2, rfl, rfl, rfl, by decide, by decide, ⟨rfl, sound_var may_q, rfl⟩, ⟨rfl, sound_var may_r, rfl⟩⟩⟩
theorem len_good : Good (rowT ++ [lenT]) 5 lenE := by
  refine ⟨by simp [rowT], rfl, ?_, by decide, by decide⟩
  have h2 : soundT (twoT 19 0 1) = true := sound_two _ _ rfl (by omega) (by omega)
  have h3 : soundT (twoT 19 2 3) = true := sound_two _ _ rfl (by omega) (by omega)
  exact ⟨rfl, rfl, rfl, rfl, by decide, rfl, h3, rfl, rfl, rfl, by decide, by decide, ⟨rfl, h2, rfl, rfl, rfl, by decide, by decide, ⟨rfl, sound_var may_p, rfl⟩, ⟨rfl, sound_var may_q, rfl⟩⟩, ⟨rfl, sound_var may_r, rfl⟩⟩
section
variable {a b c : Str}
theorem text_hold (ha : a.length ≤ 24) (hb : b.length ≤ 24) (hc : c.length ≤ 24) : holdV (textE a b c) [112] = (textV a, 0) ∧ holdV (textE a b c) [113] = (textV b, 0) ∧ holdV (textE a b c) [114] = (textV c, 0) := by
  refine ⟨?_, ?_, ?_⟩ <;> simp [textE, holdV, mayV_text, ha, hb, hc]
theorem two_text (a b : Str) : twoV 19 (textV a) (textV b) = joinV a b := rfl
theorem leaf_var (E : List (Str × Val)) (s : Str) : leafV E (varT s) = holdV E s := rfl
theorem row_val (ha : a.length ≤ 24) (hb : b.length ≤ 24) (hc : c.length ≤ 24) : evalF rowT 4 (textE a b c) = if 24 < a.length + b.length + c.length then (zeroV, 405) else (textV (a ++ b ++ c), 0) := by
  rw [evalF_good row_good]
  obtain ⟨h1, h2, h3⟩ := text_hold ha hb hc
  simp only [rowE, evalE, leaf_var, h1, h2, h3, if_true]
  show (if (twoV 19 (textV a) (textV b)).2 = 0 then twoV 19 (twoV 19 (textV a) (textV b)).1 (textV c) else (zeroV, (twoV 19 (textV a) (textV b)).2)) = _
  rw [two_text]
  unfold joinV
  by_cases h : 24 < a.length + b.length
  · rw [if_pos h, if_pos (show 24 < a.length + b.length + c.length by omega)]; rfl
  · rw [if_neg h, if_pos rfl, two_text]
    unfold joinV
    rw [List.length_append]
theorem col_val (ha : a.length ≤ 24) (hb : b.length ≤ 24) (hc : c.length ≤ 24) : evalF colT 4 (textE a b c) = if 24 < a.length + b.length + c.length then (zeroV, 405) else (textV (a ++ b ++ c), 0) := by
  rw [evalF_good col_good]
  obtain ⟨h1, h2, h3⟩ := text_hold ha hb hc
  simp only [colE, evalE, leaf_var, h1, h2, h3, if_true]
  show (if (twoV 19 (textV b) (textV c)).2 = 0 then twoV 19 (textV a) (twoV 19 (textV b) (textV c)).1 else (zeroV, (twoV 19 (textV b) (textV c)).2)) = _
  rw [two_text]
  unfold joinV
  by_cases h : 24 < b.length + c.length
  · rw [if_pos h, if_pos (show 24 < a.length + b.length + c.length by omega)]; rfl
  · rw [if_neg h, if_pos rfl, two_text]
    unfold joinV
    rw [List.length_append, ← Nat.add_assoc, List.append_assoc]
theorem len_val (ha : a.length ≤ 24) (hb : b.length ≤ 24) (hc : c.length ≤ 24) (h : ¬ 24 < a.length + b.length + c.length) : evalF (rowT ++ [lenT]) 5 (textE a b c) = (intV ((a.length : Int) + (b.length : Int) + (c.length : Int)), 0) := by
  rw [evalF_good len_good]
  have h1 := row_val ha hb hc
  rw [evalF_good row_good, if_neg h] at h1
  simp only [lenE, evalE, h1, if_true]
  show oneV 16 (textV (a ++ b ++ c)) = _
  simp [oneV, textV, Int.add_assoc]
end

theorem env_made (s1 s2 s3 : ByteArray) (W : World) : Binds (W.alloc (.cells #[.string ⟨#[112]⟩, .int .i64 3, .int .i64 0, .string s1, .slice none 0 0, .string ⟨#[113]⟩, .int .i64 3, .int .i64 0, .string s2, .slice none 0 0, .string ⟨#[114]⟩, .int .i64 3, .int .i64 0, .string s3, .slice none 0 0] 43)) (W.alloc (.cells #[.string ⟨#[112]⟩, .int .i64 3, .int .i64 0, .string s1, .slice none 0 0, .string ⟨#[113]⟩, .int .i64 3, .int .i64 0, .string s2, .slice none 0 0, .string ⟨#[114]⟩, .int .i64 3, .int .i64 0, .string s3, .slice none 0 0] 43)).heap.size (some ⟨W.heap.size, 0, none⟩) 3 (textE s1.toList s2.toList s3.toList) :=
  Binds.made W _ [⟨⟨#[112]⟩, 3, 0, s1, none, 0, 0⟩, ⟨⟨#[113]⟩, 3, 0, s2, none, 0, 0⟩, ⟨⟨#[114]⟩, 3, 0, s3, none, 0, 0⟩] _ 3 _ rfl rfl rfl rfl (by omega) fun j b x h1 h2 => by
    have h0 : j < 3 := (List.getElem?_eq_some_iff.1 h2).1
    have e112 : (⟨#[112]⟩ : ByteArray).toList = [112] := by simp [ByteArray.toList_eq]
    have e113 : (⟨#[113]⟩ : ByteArray).toList = [113] := by simp [ByteArray.toList_eq]
    have e114 : (⟨#[114]⟩ : ByteArray).toList = [114] := by simp [ByteArray.toList_eq]
    rcases (show j = 0 ∨ j = 1 ∨ j = 2 by omega) with rfl | rfl | rfl
    · obtain rfl := Option.some.inj h1
      obtain rfl := Option.some.inj h2
      exact ⟨e112, rfl, rfl, rfl, Nums.zero _ _ _⟩
    · obtain rfl := Option.some.inj h1
      obtain rfl := Option.some.inj h2
      exact ⟨e113, rfl, rfl, rfl, Nums.zero _ _ _⟩
    · obtain rfl := Option.some.inj h1
      obtain rfl := Option.some.inj h2
      exact ⟨e114, rfl, rfl, rfl, Nums.zero _ _ _⟩
theorem row_made (W : World) : Trms (W.alloc (.cells #[.int .i64 0, .string ⟨#[112]⟩, .int .i64 0, .string ⟨#[]⟩, .int .i64 (-1), .int .i64 (-1), .int .i64 0, .string ⟨#[113]⟩, .int .i64 0, .string ⟨#[]⟩, .int .i64 (-1), .int .i64 (-1), .int .i64 19, .string ⟨#[]⟩, .int .i64 0, .string ⟨#[]⟩, .int .i64 0, .int .i64 1, .int .i64 0, .string ⟨#[114]⟩, .int .i64 0, .string ⟨#[]⟩, .int .i64 (-1), .int .i64 (-1), .int .i64 19, .string ⟨#[]⟩, .int .i64 0, .string ⟨#[]⟩, .int .i64 2, .int .i64 3] 38)) (W.alloc (.cells #[.int .i64 0, .string ⟨#[112]⟩, .int .i64 0, .string ⟨#[]⟩, .int .i64 (-1), .int .i64 (-1), .int .i64 0, .string ⟨#[113]⟩, .int .i64 0, .string ⟨#[]⟩, .int .i64 (-1), .int .i64 (-1), .int .i64 19, .string ⟨#[]⟩, .int .i64 0, .string ⟨#[]⟩, .int .i64 0, .int .i64 1, .int .i64 0, .string ⟨#[114]⟩, .int .i64 0, .string ⟨#[]⟩, .int .i64 (-1), .int .i64 (-1), .int .i64 19, .string ⟨#[]⟩, .int .i64 0, .string ⟨#[]⟩, .int .i64 2, .int .i64 3] 38)).heap.size (some ⟨W.heap.size, 0, none⟩) 5 rowT := Trms.made W _ rowT 5 _ rfl rfl rfl (by omega) (short_trms rfl)
theorem col_made (W : World) : Trms (W.alloc (.cells #[.int .i64 0, .string ⟨#[112]⟩, .int .i64 0, .string ⟨#[]⟩, .int .i64 (-1), .int .i64 (-1), .int .i64 0, .string ⟨#[113]⟩, .int .i64 0, .string ⟨#[]⟩, .int .i64 (-1), .int .i64 (-1), .int .i64 0, .string ⟨#[114]⟩, .int .i64 0, .string ⟨#[]⟩, .int .i64 (-1), .int .i64 (-1), .int .i64 19, .string ⟨#[]⟩, .int .i64 0, .string ⟨#[]⟩, .int .i64 1, .int .i64 2, .int .i64 19, .string ⟨#[]⟩, .int .i64 0, .string ⟨#[]⟩, .int .i64 0, .int .i64 3] 38)) (W.alloc (.cells #[.int .i64 0, .string ⟨#[112]⟩, .int .i64 0, .string ⟨#[]⟩, .int .i64 (-1), .int .i64 (-1), .int .i64 0, .string ⟨#[113]⟩, .int .i64 0, .string ⟨#[]⟩, .int .i64 (-1), .int .i64 (-1), .int .i64 0, .string ⟨#[114]⟩, .int .i64 0, .string ⟨#[]⟩, .int .i64 (-1), .int .i64 (-1), .int .i64 19, .string ⟨#[]⟩, .int .i64 0, .string ⟨#[]⟩, .int .i64 1, .int .i64 2, .int .i64 19, .string ⟨#[]⟩, .int .i64 0, .string ⟨#[]⟩, .int .i64 0, .int .i64 3] 38)).heap.size (some ⟨W.heap.size, 0, none⟩) 5 colT := Trms.made W _ colT 5 _ rfl rfl rfl (by omega) (short_trms rfl)

set_option maxHeartbeats 8000000 in
set_option maxRecDepth 20000 in
theorem termTexts_walk (s1 s2 s3 : ByteArray) (w : World) : Calls Try.prog 5 #[.string s1, .string s2, .string s3] w fun e w' => e = .returned (.bool true) ∧ Below w.heap.size w w' := by
  have CF := Lib.hid (first_any w)
  by_cases h1 : 24 < s1.size
  · have d1 : decide ((24 : Int) < (s1.size : Int)) = true := decide_eq_true (by omega)
    go_enter Try.func5, Try.ntmps5
    go_wp2_with (first | (go_at_call 13; (with_reducible refine CF.out.mono ?_); rintro e w1 ⟨rfl, hb1⟩; have HB := Lib.hid hb1; clear hb1) | fail)
    go_ret
    exact ⟨rfl, HB.out⟩
  have d1 : decide ((24 : Int) < (s1.size : Int)) = false := decide_eq_false (by omega)
  by_cases h2 : 24 < s2.size
  · have d2 : decide ((24 : Int) < (s2.size : Int)) = true := decide_eq_true (by omega)
    go_enter Try.func5, Try.ntmps5
    go_wp2_with (first | (go_at_call 13; (with_reducible refine CF.out.mono ?_); rintro e w1 ⟨rfl, hb1⟩; have HB := Lib.hid hb1; clear hb1) | fail)
    go_ret
    exact ⟨rfl, HB.out⟩
  have d2 : decide ((24 : Int) < (s2.size : Int)) = false := decide_eq_false (by omega)
  by_cases h3 : 24 < s3.size
  · have d3 : decide ((24 : Int) < (s3.size : Int)) = true := decide_eq_true (by omega)
    go_enter Try.func5, Try.ntmps5
    go_wp2_with (first | (go_at_call 13; (with_reducible refine CF.out.mono ?_); rintro e w1 ⟨rfl, hb1⟩; have HB := Lib.hid hb1; clear hb1) | fail)
    go_ret
    exact ⟨rfl, HB.out⟩
  have d3 : decide ((24 : Int) < (s3.size : Int)) = false := decide_eq_false (by omega)
  have l1 := lxLen s1
  have l2 := lxLen s2
  have l3 := lxLen s3
  have hr := row_val (a := s1.toList) (b := s2.toList) (c := s3.toList) (by omega) (by omega) (by omega)
  have hc := col_val (a := s1.toList) (b := s2.toList) (c := s3.toList) (by omega) (by omega) (by omega)
  by_cases hT : 24 < s1.size + s2.size + s3.size
  · have dT : decide ((24 : Int) < (s1.size : Int) + (s2.size : Int) + (s3.size : Int)) = true := decide_eq_true (by omega)
    rw [if_pos (by omega)] at hr hc
    have CER := Lib.hid (fun (g ge : Nat) (W : World) (hR : Trms W W.heap.size (some ⟨g, 0, none⟩) 5 rowT) (hE : Binds W W.heap.size (some ⟨ge, 0, none⟩) 3 (textE s1.toList s2.toList s3.toList)) =>
      show Calls Try.prog 17 #[.slice (some ⟨g, 0, none⟩) 5 5, .int .i64 4, .slice (some ⟨ge, 0, none⟩) 3 3] W (PairRet W (⟨0, 0, [], []⟩, 405)) from hr ▸ termEval_any (some ⟨g, 0, none⟩) 5 5 rowT 4 (some ⟨ge, 0, none⟩) 3 3 _ W W.heap.size (Nat.le_refl _) hR hE)
    have CEC := Lib.hid (fun (g ge : Nat) (W : World) (hR : Trms W W.heap.size (some ⟨g, 0, none⟩) 5 colT) (hE : Binds W W.heap.size (some ⟨ge, 0, none⟩) 3 (textE s1.toList s2.toList s3.toList)) =>
      show Calls Try.prog 17 #[.slice (some ⟨g, 0, none⟩) 5 5, .int .i64 4, .slice (some ⟨ge, 0, none⟩) 3 3] W (PairRet W (⟨0, 0, [], []⟩, 405)) from hc ▸ termEval_any (some ⟨g, 0, none⟩) 5 5 colT 4 (some ⟨ge, 0, none⟩) 3 3 _ W W.heap.size (Nat.le_refl _) hR hE)
    clear hr hc l1 l2 l3
    go_enter Try.func5, Try.ntmps5
    go_wp2_with (first
      | (go_at_call 13; (with_reducible refine CF.out.mono ?_)
         rintro e w1 ⟨rfl, hb1⟩
         have HB := Lib.hid (below_on hb1 (next_alloc w1 (.cells #[.string ⟨#[112]⟩, .int .i64 3, .int .i64 0, .string s1, .slice none 0 0, .string ⟨#[113]⟩, .int .i64 3, .int .i64 0, .string s2, .slice none 0 0, .string ⟨#[114]⟩, .int .i64 3, .int .i64 0, .string s3, .slice none 0 0] 43)))
         have HE := Lib.hid (env_made s1 s2 s3 w1)
         clear hb1)
      | (go_at_call 20; (with_reducible refine (var_any _ _).mono ?_)
         rintro e wn ⟨rfl, hb1⟩
         have HR := Lib.hid (HR.out.on hb1)
         have HB := Lib.hid (below_on HB.out hb1)
         have HE := Lib.hid (HE.out.on hb1)
         clear hb1)
      | (go_at_call 20; (with_reducible refine (var_any _ _).mono ?_)
         rintro e wn ⟨rfl, hb1⟩
         have HB := Lib.hid (below_on HB.out hb1)
         have HE := Lib.hid (HE.out.on hb1)
         clear hb1)
      | (go_at_call 20; (with_reducible refine (var_any _ _).mono ?_)
         rintro e wn ⟨rfl, hb1⟩
         have HR := Lib.hid ((row_made _).on hb1)
         have HB := Lib.hid (below_on (below_on HB.out (next_alloc _ _)) hb1)
         have HE := Lib.hid ((HE.out.on (next_alloc _ _)).on hb1)
         clear hb1)
      | (go_at_call 21; (with_reducible refine (two_any _ _ _ _).mono ?_)
         rintro e wn ⟨rfl, hb1⟩
         have HR := Lib.hid (HR.out.on hb1)
         have HB := Lib.hid (below_on HB.out hb1)
         have HE := Lib.hid (HE.out.on hb1)
         clear hb1)
      | (go_at_call 21; (with_reducible refine (two_any _ _ _ _).mono ?_)
         rintro e wn ⟨rfl, hb1⟩
         have HB := Lib.hid (below_on HB.out hb1)
         have HE := Lib.hid (HE.out.on hb1)
         clear hb1)
      | (go_at_call 17; (with_reducible refine (CER.out _ _ _ ?_ ?_).mono ?_)
         · exact HR.out.on (next_alloc _ _)
         · exact HE.out.on (next_alloc _ _)
         rintro e wv ⟨⟨sv, av, nv, cv, rfl, hv, hf⟩, hbv⟩
         have HC := Lib.hid ((col_made _).on hbv)
         have HB := Lib.hid (below_on (below_on HB.out (next_alloc _ _)) hbv)
         have HE := Lib.hid ((HE.out.on (next_alloc _ _)).on hbv)
         have hsv : sv = ⟨#[]⟩ := toList_inj (by rw [hv.1, empty_toList])
         subst hsv
         have HXV := Lib.hid (BoxV.new wv (.int .i64 0) (.int .i64 0) (.string ⟨#[]⟩) (.slice av nv cv))
         clear hv hf hbv)
      | (go_at_call 17; (with_reducible refine (CEC.out _ _ _ ?_ ?_).mono ?_)
         · exact HC.out.on (next_alloc _ _)
         · exact HE.out.on (next_alloc _ _)
         rintro e wu ⟨⟨su, au, nu, cu, rfl, hv, hf⟩, hbu⟩
         have HB := Lib.hid (below_on (below_on HB.out (next_alloc _ _)) hbu)
         have HXV := Lib.hid (HXV.out.on hbu)
         obtain ⟨⟨x0, x1, x2, x3⟩, _⟩ := (HXV.out.on (next_alloc wu (.cells #[.int .i64 0, .int .i64 0, .string su, .slice au nu cu] 33))).cells
         have hsu : su = ⟨#[]⟩ := toList_inj (by rw [hv.1, empty_toList])
         subst hsu
         clear hv hf hbu)
      | fail)
    go_ret
    exact ⟨rfl, below_on HB.out (next_alloc _ _)⟩
  · have dT : decide ((24 : Int) < (s1.size : Int) + (s2.size : Int) + (s3.size : Int)) = false := decide_eq_false (by omega)
    have hn := len_val (a := s1.toList) (b := s2.toList) (c := s3.toList) (by omega) (by omega) (by omega) (by omega)
    rw [if_neg (by omega)] at hr hc
    rw [l1, l2, l3] at hn
    have htx : s1.toList ++ s2.toList ++ s3.toList = (s1 ++ s2 ++ s3).toList := by rw [toList_add, toList_add]
    rw [htx] at hr hc
    have CER := Lib.hid (fun (g ge : Nat) (W : World) (hR : Trms W W.heap.size (some ⟨g, 0, none⟩) 5 rowT) (hE : Binds W W.heap.size (some ⟨ge, 0, none⟩) 3 (textE s1.toList s2.toList s3.toList)) =>
      show Calls Try.prog 17 #[.slice (some ⟨g, 0, none⟩) 5 5, .int .i64 4, .slice (some ⟨ge, 0, none⟩) 3 3] W (PairRet W (⟨3, 0, (s1 ++ s2 ++ s3).toList, []⟩, 0)) from hr ▸ termEval_any (some ⟨g, 0, none⟩) 5 5 rowT 4 (some ⟨ge, 0, none⟩) 3 3 _ W W.heap.size (Nat.le_refl _) hR hE)
    have CEC := Lib.hid (fun (g ge : Nat) (W : World) (hR : Trms W W.heap.size (some ⟨g, 0, none⟩) 5 colT) (hE : Binds W W.heap.size (some ⟨ge, 0, none⟩) 3 (textE s1.toList s2.toList s3.toList)) =>
      show Calls Try.prog 17 #[.slice (some ⟨g, 0, none⟩) 5 5, .int .i64 4, .slice (some ⟨ge, 0, none⟩) 3 3] W (PairRet W (⟨3, 0, (s1 ++ s2 ++ s3).toList, []⟩, 0)) from hc ▸ termEval_any (some ⟨g, 0, none⟩) 5 5 colT 4 (some ⟨ge, 0, none⟩) 3 3 _ W W.heap.size (Nat.le_refl _) hR hE)
    have CEL := Lib.hid (fun (a8 : Option Addr) (c8 ge : Nat) (W : World) (hR : Trms W W.heap.size a8 6 (rowT ++ [lenT])) (hE : Binds W W.heap.size (some ⟨ge, 0, none⟩) 3 (textE s1.toList s2.toList s3.toList)) =>
      show Calls Try.prog 17 #[.slice a8 6 c8, .int .i64 5, .slice (some ⟨ge, 0, none⟩) 3 3] W (PairRet W (⟨1, (s1.size : Int) + (s2.size : Int) + (s3.size : Int), [], []⟩, 0)) from hn ▸ termEval_any a8 6 c8 (rowT ++ [lenT]) 5 (some ⟨ge, 0, none⟩) 3 3 _ W W.heap.size (Nat.le_refl _) hR hE)
    have CSM := Lib.hid (fun (av : Option Addr) (nv cv : Nat) (au : Option Addr) (nu cu : Nat) (W : World) (h1 : Nums W W.heap.size av nv []) (h2 : Nums W W.heap.size au nu []) =>
      show Calls Try.prog 18 #[.agg #[.int .i64 3, .int .i64 0, .string (s1 ++ s2 ++ s3), .slice av nv cv], .agg #[.int .i64 3, .int .i64 0, .string (s1 ++ s2 ++ s3), .slice au nu cu]] W fun e w' => e = .returned (.bool true) ∧ Below W.heap.size W w' from
        (sameV_iff.2 rfl : sameV ⟨3, 0, (s1 ++ s2 ++ s3).toList, []⟩ ⟨3, 0, (s1 ++ s2 ++ s3).toList, []⟩ = true) ▸ dataSame_any 3 0 (s1 ++ s2 ++ s3) av nv cv [] 3 0 (s1 ++ s2 ++ s3) au nu cu [] W W.heap.size (Nat.le_refl _) h1 h2)
    clear hr hc hn htx l1 l2 l3
    go_enter Try.func5, Try.ntmps5
    go_wp2_with (first
      | (go_at_call 13; (with_reducible refine CF.out.mono ?_)
         rintro e w1 ⟨rfl, hb1⟩
         have HB := Lib.hid (below_on hb1 (next_alloc w1 (.cells #[.string ⟨#[112]⟩, .int .i64 3, .int .i64 0, .string s1, .slice none 0 0, .string ⟨#[113]⟩, .int .i64 3, .int .i64 0, .string s2, .slice none 0 0, .string ⟨#[114]⟩, .int .i64 3, .int .i64 0, .string s3, .slice none 0 0] 43)))
         have HE := Lib.hid (env_made s1 s2 s3 w1)
         clear hb1)
      | (go_at_call 20; (with_reducible refine (var_any _ _).mono ?_)
         rintro e wn ⟨rfl, hb1⟩
         have HR := Lib.hid (HR.out.on hb1)
         have HB := Lib.hid (below_on HB.out hb1)
         have HE := Lib.hid (HE.out.on hb1)
         clear hb1)
      | (go_at_call 20; (with_reducible refine (var_any _ _).mono ?_)
         rintro e wn ⟨rfl, hb1⟩
         have HB := Lib.hid (below_on HB.out hb1)
         have HE := Lib.hid (HE.out.on hb1)
         clear hb1)
      | (go_at_call 20; (with_reducible refine (var_any _ _).mono ?_)
         rintro e wn ⟨rfl, hb1⟩
         have HR := Lib.hid ((row_made _).on hb1)
         have HB := Lib.hid (below_on (below_on HB.out (next_alloc _ _)) hb1)
         have HE := Lib.hid ((HE.out.on (next_alloc _ _)).on hb1)
         clear hb1)
      | (go_at_call 21; (with_reducible refine (two_any _ _ _ _).mono ?_)
         rintro e wn ⟨rfl, hb1⟩
         have HR := Lib.hid (HR.out.on hb1)
         have HB := Lib.hid (below_on HB.out hb1)
         have HE := Lib.hid (HE.out.on hb1)
         clear hb1)
      | (go_at_call 21; (with_reducible refine (two_any _ _ _ _).mono ?_)
         rintro e wn ⟨rfl, hb1⟩
         have HB := Lib.hid (below_on HB.out hb1)
         have HE := Lib.hid (HE.out.on hb1)
         clear hb1)
      | (go_at_call 17; (with_reducible refine (CER.out _ _ _ ?_ ?_).mono ?_)
         · exact HR.out.on (next_alloc _ _)
         · exact HE.out.on (next_alloc _ _)
         rintro e wv ⟨⟨sv, av, nv, cv, rfl, hv, hf⟩, hbv⟩
         have HC := Lib.hid ((col_made _).on hbv)
         have HR := Lib.hid ((HR.out.on (next_alloc _ _)).on hbv)
         have HB := Lib.hid (below_on (below_on HB.out (next_alloc _ _)) hbv)
         have HE := Lib.hid ((HE.out.on (next_alloc _ _)).on hbv)
         obtain rfl : sv = (s1 ++ s2 ++ s3) := toList_inj hv.1
         have HNV := Lib.hid hv.2
         have HXV := Lib.hid (BoxV.new wv (.int .i64 3) (.int .i64 0) (.string (s1 ++ s2 ++ s3)) (.slice av nv cv))
         clear hv hf hbv)
      | (go_at_call 17; (with_reducible refine (CEC.out _ _ _ ?_ ?_).mono ?_)
         · exact HC.out.on (next_alloc _ _)
         · exact HE.out.on (next_alloc _ _)
         rintro e wu ⟨⟨su, au, nu, cu, rfl, hv, hf⟩, hbu⟩
         have HB := Lib.hid (below_on (below_on HB.out (next_alloc _ _)) hbu)
         have HR := Lib.hid ((HR.out.on (next_alloc _ _)).on hbu)
         have HE := Lib.hid ((HE.out.on (next_alloc _ _)).on hbu)
         have HNV := Lib.hid ((HNV.out.on (next_alloc _ _)).on hbu)
         have HXV := Lib.hid (HXV.out.on hbu)
         obtain rfl : su = (s1 ++ s2 ++ s3) := toList_inj hv.1
         have HNU := Lib.hid hv.2
         have HXU := Lib.hid (BoxV.new wu (.int .i64 3) (.int .i64 0) (.string (s1 ++ s2 ++ s3)) (.slice au nu cu))
         clear hv hf hbu)
      | (at_builtin
         refine wpList_append_trms rfl (.const (.slice none 0 0)) (.tmp 91) rfl (wu.alloc (.cells #[.int .i64 3, .int .i64 0, .string (s1 ++ s2 ++ s3), .slice au nu cu] 33)).heap.size _ [] _ _ _ rowT _ rfl rfl (TOwn.zero _ _) (HR.out.on (next_alloc _ _)) (Nat.le_refl _) (by simp) (wu.alloc (.cells #[.int .i64 3, .int .i64 0, .string (s1 ++ s2 ++ s3), .slice au nu cu] 33)) (Below.refl _ _) ?_
         intro v7 w7 ho7 hb7
         rw [List.nil_append] at ho7
         have HO7 := Lib.hid ho7
         have HB7 := Lib.hid hb7
         clear ho7 hb7)
      | (at_builtin
         refine wpList_append_trms rfl (.tmp 92) (.tmp 94) rfl (wu.alloc (.cells #[.int .i64 3, .int .i64 0, .string (s1 ++ s2 ++ s3), .slice au nu cu] 33)).heap.size v7 rowT _ 1 1 [lenT] _ rfl rfl (HO7.out.alloc _) (Trms.made w7 _ [lenT] 1 w7.heap.size rfl rfl rfl (by omega) (short_trms rfl)) (Nat.le_trans HB7.out.size (by simp)) (by simp [rowT]) (wu.alloc (.cells #[.int .i64 3, .int .i64 0, .string (s1 ++ s2 ++ s3), .slice au nu cu] 33)) (HB7.out.alloc HB7.out.size _) ?_
         intro v8 w8 ho8 hb8
         obtain ⟨a8, c8, rfl, hT8⟩ : ∃ a c, v8 = .slice a 6 c ∧ Trms w8 w8.heap.size a 6 (rowT ++ [lenT]) := ho8.sees (by simp [rowT]) (short_trms rfl)
         have HT8 := Lib.hid hT8
         have HB := Lib.hid (below_on (below_on HB.out (next_alloc _ _)) hb8)
         have HE := Lib.hid ((HE.out.on (next_alloc _ _)).on hb8)
         have HNV := Lib.hid ((HNV.out.on (next_alloc _ _)).on hb8)
         have HNU := Lib.hid ((HNU.out.on (next_alloc _ _)).on hb8)
         have HXV := Lib.hid ((HXV.out.on (next_alloc _ _)).on hb8)
         have HXU := Lib.hid (HXU.out.on hb8)
         clear ho8 hb8 hT8)
      | (go_at_call 17; (with_reducible refine (CEL.out _ _ _ _ ?_ ?_).mono ?_)
         · exact HT8.out
         · exact HE.out
         rintro e wl ⟨⟨sl, al, nl, cl, rfl, hv, hf⟩, hbl⟩
         have HXL := Lib.hid (BoxV.new wl (.int .i64 1) (.int .i64 ((s1.size : Int) + (s2.size : Int) + (s3.size : Int))) (.string sl) (.slice al nl cl))
         have HB := Lib.hid (below_on (below_on HB.out hbl) (next_alloc wl (.cells #[.int .i64 1, .int .i64 ((s1.size : Int) + (s2.size : Int) + (s3.size : Int)), .string sl, .slice al nl cl] 33)))
         have HNV := Lib.hid ((HNV.out.on hbl).on (next_alloc wl (.cells #[.int .i64 1, .int .i64 ((s1.size : Int) + (s2.size : Int) + (s3.size : Int)), .string sl, .slice al nl cl] 33)))
         have HNU := Lib.hid ((HNU.out.on hbl).on (next_alloc wl (.cells #[.int .i64 1, .int .i64 ((s1.size : Int) + (s2.size : Int) + (s3.size : Int)), .string sl, .slice al nl cl] 33)))
         obtain ⟨⟨x0, x1, x2, x3⟩, _⟩ := ((HXV.out.on hbl).on (next_alloc wl (.cells #[.int .i64 1, .int .i64 ((s1.size : Int) + (s2.size : Int) + (s3.size : Int)), .string sl, .slice al nl cl] 33))).cells
         obtain ⟨⟨u0, u1, u2, u3⟩, _⟩ := ((HXU.out.on hbl).on (next_alloc wl (.cells #[.int .i64 1, .int .i64 ((s1.size : Int) + (s2.size : Int) + (s3.size : Int)), .string sl, .slice al nl cl] 33))).cells
         clear hv hf hbl)
      | (go_at_call 18; (with_reducible refine (CSM.out _ _ _ _ _ _ _ HNV.out HNU.out).mono ?_)
         rintro e ws ⟨rfl, hbs⟩
         have HB := Lib.hid (below_on HB.out hbs)
         obtain ⟨⟨y0, y1, y2, y3⟩, _⟩ := (HXL.out.on hbs).cells
         clear hbs)
      | fail)
    go_ret
    exact ⟨rfl, HB.out⟩
end Go.Proofs.Ythchilnibblbgaa
