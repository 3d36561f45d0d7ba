/- Contracts of the program's compare, Same, Less. -/
import Derived.Test.YthbakfceaaaamaaDtList
namespace Go.Proofs.Ythbakfceaaaamaa
open Go.RowKit

theorem cmpV_kind {a b : Val} (h : (a.kind == b.kind) = false) : cmpV a b = cmpI a.kind b.kind := by
  unfold cmpV
  rw [if_neg (by rw [beq_eq_false_iff_ne] at h; exact h)]
theorem cmpV_num {a b : Val} (h : (a.kind == b.kind) = true) (h1 : (a.num == b.num) = false) : cmpV a b = cmpI a.num b.num := by
  unfold cmpV
  rw [if_pos (eq_of_beq h), if_neg (by rw [beq_eq_false_iff_ne] at h1; exact h1)]
theorem cmpV_text {a b : Val} (h : (a.kind == b.kind) = true) (h1 : (a.num == b.num) = true) (h2 : (a.text == b.text) = false) : cmpV a b = cmpS a.text b.text := by
  unfold cmpV
  rw [if_pos (eq_of_beq h), if_pos (eq_of_beq h1), if_neg (by rw [beq_eq_false_iff_ne] at h2; exact h2)]
theorem cmpV_list {a b : Val} (h : (a.kind == b.kind) = true) (h1 : (a.num == b.num) = true) (h2 : (a.text == b.text) = true) : cmpV a b = cmpN a.list b.list := by
  unfold cmpV
  rw [if_pos (eq_of_beq h), if_pos (eq_of_beq h1), if_pos (eq_of_beq h2)]

set_option maxHeartbeats 2000000 in
theorem compare_any (k x : Int) (s : ByteArray) (a : Option Addr) (n c : Nat) (l : List Int) (k' x' : Int) (s' : ByteArray) (a' : Option Addr) (n' c' : Nat) (l' : List Int) (w : World) (bound : Nat)
    (hb : bound ≤ w.heap.size) (h : Nums w bound a n l) (h' : Nums w bound a' n' l') :
    Calls Try.prog 36 #[.agg #[.int .i64 k, .int .i64 x, .string s, .slice a n c], .agg #[.int .i64 k', .int .i64 x', .string s', .slice a' n' c']] w fun e w' =>
      e = .returned (.int .i64 (cmpV ⟨k, x, s.toList, l⟩ ⟨k', x', s'.toList, l'⟩)) ∧ Below w.heap.size w w' := by
  have HB := Lib.hid (((Below.refl w.heap.size w).alloc (Nat.le_refl _) (.cells #[.int .i64 k, .int .i64 x, .string s, .slice a n c] 33)).alloc (by simp) (.cells #[.int .i64 k', .int .i64 x', .string s', .slice a' n' c'] 33))
  have cl : ∀ W, Below w.heap.size w W → Calls Try.prog 57 #[.slice a n c, .slice a' n' c'] W fun e w' => e = .returned (.int .i64 (cmpN l l')) ∧ w' = W := fun W hW =>
    compareLists_any a a' n n' c c' l l' W bound (h.below (hW.mono hb)) (h'.below (hW.mono hb))
  have CL := Lib.hid cl
  clear cl h h'
  cases e1 : (k == k')
  · have n1 : (k != k') = true := by unfold bne; rw [e1]; rfl
    have HF := Lib.hid (cmpV_kind (a := ⟨k, x, s.toList, l⟩) (b := ⟨k', x', s'.toList, l'⟩) e1)
    clear e1
    go_enter Try.func36, Try.ntmps36
    go_wp2_with (first | (go_at_call 54; (with_reducible refine (cmpInt_any _ _ _).mono ?_); rintro e w1 ⟨rfl, rfl⟩) | fail)
    go_ret
    exact ⟨ret_int HF.out.symm, HB.out⟩
  · have n1 : (k != k') = false := by unfold bne; rw [e1]; rfl
    cases e2 : (x == x')
    · have n2 : (x != x') = true := by unfold bne; rw [e2]; rfl
      have HF := Lib.hid (cmpV_num (a := ⟨k, x, s.toList, l⟩) (b := ⟨k', x', s'.toList, l'⟩) e1 e2)
      clear e1 e2
      go_enter Try.func36, Try.ntmps36
      go_wp2_with (first | (go_at_call 55; (with_reducible refine (cmpInt64_any _ _ _).mono ?_); rintro e w1 ⟨rfl, rfl⟩) | fail)
      go_ret
      exact ⟨ret_int HF.out.symm, HB.out⟩
    · have n2 : (x != x') = false := by unfold bne; rw [e2]; rfl
      cases e3 : (s.toList == s'.toList)
      · have n3 : (s.toList != s'.toList) = true := by unfold bne; rw [e3]; rfl
        have HF := Lib.hid (cmpV_text (a := ⟨k, x, s.toList, l⟩) (b := ⟨k', x', s'.toList, l'⟩) e1 e2 e3)
        clear e1 e2
        go_enter Try.func36, Try.ntmps36
        go_wp2_with (first | (go_at_call 56; (with_reducible refine (cmpStr_any _ _ _).mono ?_); rintro e w1 ⟨rfl, rfl⟩) | fail)
        go_ret
        exact ⟨ret_int HF.out.symm, HB.out⟩
      · have n3 : (s.toList != s'.toList) = false := by unfold bne; rw [e3]; rfl
        have HF := Lib.hid (cmpV_list (a := ⟨k, x, s.toList, l⟩) (b := ⟨k', x', s'.toList, l'⟩) e1 e2 e3)
        clear e1 e2
        go_enter Try.func36, Try.ntmps36
        go_wp2_with (first | (go_at_call 57; (with_reducible refine (CL.out _ HB.out).mono ?_); rintro e w1 ⟨rfl, rfl⟩) | fail)
        go_ret
        exact ⟨ret_int HF.out.symm, HB.out⟩
theorem dataSame_any (k x : Int) (s : ByteArray) (a : Option Addr) (n c : Nat) (l : List Int) (k' x' : Int) (s' : ByteArray) (a' : Option Addr) (n' c' : Nat) (l' : List Int) (w : World) (bound : Nat)
    (hb : bound ≤ w.heap.size) (h : Nums w bound a n l) (h' : Nums w bound a' n' l') :
    Calls Try.prog 20 #[.agg #[.int .i64 k, .int .i64 x, .string s, .slice a n c], .agg #[.int .i64 k', .int .i64 x', .string s', .slice a' n' c']] w fun e w' =>
      e = .returned (.bool (sameV ⟨k, x, s.toList, l⟩ ⟨k', x', s'.toList, l'⟩)) ∧ Below w.heap.size w w' := by
  have HB := Lib.hid (((Below.refl w.heap.size w).alloc (Nat.le_refl _) (.cells #[.int .i64 k, .int .i64 x, .string s, .slice a n c] 33)).alloc (by simp) (.cells #[.int .i64 k', .int .i64 x', .string s', .slice a' n' c'] 33))
  obtain ⟨v, hv⟩ : ∃ v, v = cmpV ⟨k, x, s.toList, l⟩ ⟨k', x', s'.toList, l'⟩ := ⟨_, rfl⟩
  have HF := Lib.hid (show (v == 0) = sameV ⟨k, x, s.toList, l⟩ ⟨k', x', s'.toList, l'⟩ by rw [hv]; exact cmpV_same _ _)
  have cl : ∀ W, Below w.heap.size w W → Calls Try.prog 36 #[.agg #[.int .i64 k, .int .i64 x, .string s, .slice a n c], .agg #[.int .i64 k', .int .i64 x', .string s', .slice a' n' c']] W fun e w' =>
      e = .returned (.int .i64 v) ∧ Below W.heap.size W w' := fun W hW => by
    rw [hv]
    exact compare_any k x s a n c l k' x' s' a' n' c' l' W bound (Nat.le_trans hb hW.size) (h.below (hW.mono hb)) (h'.below (hW.mono hb))
  have CL := Lib.hid cl
  clear cl h h' hv
  go_enter Try.func20, Try.ntmps20
  go_wp2_with (first | (go_at_call 36; (with_reducible refine (CL.out _ HB.out).mono ?_); rintro e w1 ⟨rfl, hb1⟩) | fail)
  go_ret
  exact ⟨ret_bool HF.out, HB.out.trans (hb1.mono HB.out.size)⟩
end Go.Proofs.Ythbakfceaaaamaa
