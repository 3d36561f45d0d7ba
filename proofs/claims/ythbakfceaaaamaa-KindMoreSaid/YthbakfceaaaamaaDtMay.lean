/- Contract of the program's May. -/
import Derived.Test.YthbakfceaaaamaaDtSame
namespace Go.Proofs.Ythbakfceaaaamaa
open Go.RowKit

theorem sameN_nil (l : List Int) : sameN l [] = l.isEmpty := by cases l <;> rfl
theorem sameN_refl (l : List Int) : sameN l l = true := sameN_iff.2 rfl
theorem nil_empty (s : Str) : (s == []) = s.isEmpty := by cases s <;> rfl
theorem empty_list : (⟨#[]⟩ : ByteArray).toList = [] := by rw [ByteArray.toList_eq]
theorem dmay0 (x : Int) (s : Str) (l : List Int) : sameV ⟨0, x, s, l⟩ ⟨0, 0, [], []⟩ = mayV ⟨0, x, s, l⟩ := by
  unfold sameV mayV
  dsimp only
  rw [sameN_nil, nil_empty]
  rfl
theorem dmay1 (x : Int) (s : Str) (l : List Int) : sameV ⟨1, x, s, l⟩ ⟨1, x, [], []⟩ = mayV ⟨1, x, s, l⟩ := by
  unfold sameV mayV
  dsimp only
  rw [sameN_nil, nil_empty]
  show (true && (x == x) && s.isEmpty && l.isEmpty) = (s.isEmpty && l.isEmpty)
  rw [beq_self_eq_true]
  rfl
theorem dmay2 (x : Int) (s : Str) (l : List Int) : ((x == 0 || x == 1) && sameV ⟨2, x, s, l⟩ ⟨2, x, [], []⟩) = mayV ⟨2, x, s, l⟩ := by
  unfold sameV mayV
  dsimp only
  rw [sameN_nil, nil_empty]
  show ((x == 0 || x == 1) && (true && (x == x) && s.isEmpty && l.isEmpty)) = ((x == 0 || x == 1) && s.isEmpty && l.isEmpty)
  rw [beq_self_eq_true]
  cases (x == 0 || x == 1) <;> cases s.isEmpty <;> cases l.isEmpty <;> rfl
theorem dmay3 (x : Int) (s : Str) (l : List Int) : (decide (s.length ≤ 24) && sameV ⟨3, x, s, l⟩ ⟨3, 0, s, []⟩) = mayV ⟨3, x, s, l⟩ := by
  unfold sameV mayV
  dsimp only
  rw [sameN_nil]
  show (decide (s.length ≤ 24) && ((x == 0) && (s == s) && l.isEmpty)) = ((x == 0) && decide (s.length ≤ 24) && l.isEmpty)
  rw [beq_self_eq_true, Bool.and_true, ← Bool.and_assoc, Bool.and_comm (x == 0)]
theorem dmay4 (x : Int) (s : Str) (l : List Int) : (decide (l.length ≤ 16) && sameV ⟨4, x, s, l⟩ ⟨4, 0, [], l⟩) = mayV ⟨4, x, s, l⟩ := by
  unfold sameV mayV
  dsimp only
  rw [sameN_refl, nil_empty]
  show (decide (l.length ≤ 16) && ((x == 0) && s.isEmpty && true)) = ((x == 0) && s.isEmpty && decide (l.length ≤ 16))
  rw [Bool.and_true, Bool.and_comm]
theorem dmay5 (x : Int) (s : Str) (l : List Int) : (!s.isEmpty && decide (0 ≤ x) && decide (x < 5) && sameV ⟨5, x, s, l⟩ ⟨5, x, s, []⟩) = mayV ⟨5, x, s, l⟩ := by
  unfold sameV mayV
  dsimp only
  rw [sameN_nil]
  show (!s.isEmpty && decide (0 ≤ x) && decide (x < 5) && (true && (x == x) && (s == s) && l.isEmpty)) = (true && !s.isEmpty && decide (0 ≤ x) && decide (x < 5) && l.isEmpty)
  rw [beq_self_eq_true, beq_self_eq_true]
  rfl
theorem dmay6 {k : Int} (x : Int) (s : Str) (l : List Int) (h0 : (k == 0) = false) (h1 : (k == 1) = false) (h2 : (k == 2) = false) (h3 : (k == 3) = false) (h4 : (k == 4) = false) (h5 : (k == 5) = false) : mayV ⟨k, x, s, l⟩ = false := by
  unfold mayV
  dsimp only
  rw [h0, h1, h2, h3, h4, h5]
  rfl

set_option maxHeartbeats 4000000 in
set_option maxRecDepth 20000 in
theorem dataMay_any (k x : Int) (s : ByteArray) (a : Option Addr) (n c : Nat) (l : List Int) (w : World) (bound : Nat) (hb : bound ≤ w.heap.size) (h : Nums w bound a n l) :
    Calls Try.prog 11 #[.agg #[.int .i64 k, .int .i64 x, .string s, .slice a n c]] w fun e w' => e = .returned (.bool (mayV ⟨k, x, s.toList, l⟩)) ∧ Below w.heap.size w w' := by
  have HB := Lib.hid ((Below.refl w.heap.size w).alloc (Nat.le_refl _) (.cells #[.int .i64 k, .int .i64 x, .string s, .slice a n c] 33))
  have cl : ∀ (k' x' : Int) (s' : ByteArray) (v : Bool), v = sameV ⟨k, x, s.toList, l⟩ ⟨k', x', s'.toList, []⟩ → ∀ W, Below w.heap.size w W → Calls Try.prog 20 #[.agg #[.int .i64 k, .int .i64 x, .string s, .slice a n c], .agg #[.int .i64 k', .int .i64 x', .string s', .slice none 0 0]] W fun e w' =>
      e = .returned (.bool v) ∧ Below W.heap.size W w' := fun k' x' s' v hv W hW => by
    rw [hv]
    exact dataSame_any k x s a n c l k' x' s' none 0 0 [] W bound (Nat.le_trans hb hW.size) (h.below (hW.mono hb)) (Nums.zero _ _ _)
  have cll : ∀ (k' x' : Int) (s' : ByteArray) (v : Bool), v = sameV ⟨k, x, s.toList, l⟩ ⟨k', x', s'.toList, l⟩ → ∀ W, Below w.heap.size w W → Calls Try.prog 20 #[.agg #[.int .i64 k, .int .i64 x, .string s, .slice a n c], .agg #[.int .i64 k', .int .i64 x', .string s', .slice a n c]] W fun e w' =>
      e = .returned (.bool v) ∧ Below W.heap.size W w' := fun k' x' s' v hv W hW => by
    rw [hv]
    exact dataSame_any k x s a n c l k' x' s' a n c l W bound (Nat.le_trans hb hW.size) (h.below (hW.mono hb)) (h.below (hW.mono hb))
  have hn := h.1
  clear h
  cases z0 : (k == 0)
  · cases z1 : (k == 1)
    · cases z2 : (k == 2)
      · cases z3 : (k == 3)
        · cases z4 : (k == 4)
          · cases z5 : (k == 5)
            · have HF := Lib.hid (dmay6 x s.toList l z0 z1 z2 z3 z4 z5)
              clear cl cll hn
              go_enter Try.func11, Try.ntmps11
              go_wp2
              go_ret
              exact ⟨ret_bool HF.out.symm, HB.out⟩
            · obtain rfl := eq_of_beq z5
              clear z0 z1 z2 z3 z4 z5 cll hn
              have hm := dmay5 x s.toList l
              obtain ⟨v, hv⟩ : ∃ v, v = sameV ⟨5, x, s.toList, l⟩ ⟨5, x, s.toList, []⟩ := ⟨_, rfl⟩
              have CL := Lib.hid (cl 5 x s v hv)
              rw [← hv] at hm
              have HM := Lib.hid hm
              clear cl hv hm
              cases e1 : s.toList.isEmpty
              · cases e2 : decide (0 ≤ x)
                · have HF := Lib.hid (show mayV ⟨5, x, s.toList, l⟩ = false by rw [← HM.out, e1, e2]; rfl)
                  clear HM
                  go_enter Try.func11, Try.ntmps11
                  go_wp2
                  go_ret
                  exact ⟨ret_bool HF.out.symm, HB.out⟩
                · cases e3 : decide (x < 5)
                  · have HF := Lib.hid (show mayV ⟨5, x, s.toList, l⟩ = false by rw [← HM.out, e1, e2, e3]; rfl)
                    clear HM
                    go_enter Try.func11, Try.ntmps11
                    go_wp2
                    go_ret
                    exact ⟨ret_bool HF.out.symm, HB.out⟩
                  · have HF := Lib.hid (show mayV ⟨5, x, s.toList, l⟩ = v by rw [← HM.out, e1, e2, e3]; rfl)
                    clear HM
                    go_enter Try.func11, Try.ntmps11
                    go_wp2_with (first | (go_at_call 20; (with_reducible refine (CL.out _ HB.out).mono ?_); rintro e w1 ⟨rfl, hb1⟩) | fail)
                    go_ret
                    exact ⟨ret_bool HF.out.symm, HB.out.trans (hb1.mono HB.out.size)⟩
              · have HF := Lib.hid (show mayV ⟨5, x, s.toList, l⟩ = false by rw [← HM.out, e1]; rfl)
                clear HM
                go_enter Try.func11, Try.ntmps11
                go_wp2
                go_ret
                exact ⟨ret_bool HF.out.symm, HB.out⟩
          · obtain rfl := eq_of_beq z4
            clear z0 z1 z2 z3 z4 cl
            have hm := dmay4 x s.toList l
            obtain ⟨v, hv⟩ : ∃ v, v = sameV ⟨4, x, s.toList, l⟩ ⟨4, 0, [], l⟩ := ⟨_, rfl⟩
            have CL := Lib.hid (cll 4 0 ⟨#[]⟩ v (by rw [empty_list]; exact hv))
            rw [← hv, hn] at hm
            have HM := Lib.hid hm
            clear cll hv hm hn
            by_cases h16 : n ≤ 16
            · have e1 : decide ((n : Int) ≤ 16) = true := decide_eq_true (by omega)
              have HF := Lib.hid (show mayV ⟨4, x, s.toList, l⟩ = v by rw [← HM.out, decide_eq_true h16]; rfl)
              clear HM
              go_enter Try.func11, Try.ntmps11
              go_wp2_with (first | (go_at_call 20; (with_reducible refine (CL.out _ HB.out).mono ?_); rintro e w1 ⟨rfl, hb1⟩) | fail)
              go_ret
              exact ⟨ret_bool HF.out.symm, HB.out.trans (hb1.mono HB.out.size)⟩
            · have e1 : decide ((n : Int) ≤ 16) = false := decide_eq_false (by omega)
              have HF := Lib.hid (show mayV ⟨4, x, s.toList, l⟩ = false by rw [← HM.out, decide_eq_false h16]; rfl)
              clear HM
              go_enter Try.func11, Try.ntmps11
              go_wp2
              go_ret
              exact ⟨ret_bool HF.out.symm, HB.out⟩
        · obtain rfl := eq_of_beq z3
          clear z0 z1 z2 z3 cll hn
          have hm := dmay3 x s.toList l
          obtain ⟨v, hv⟩ : ∃ v, v = sameV ⟨3, x, s.toList, l⟩ ⟨3, 0, s.toList, []⟩ := ⟨_, rfl⟩
          have CL := Lib.hid (cl 3 0 s v hv)
          rw [← hv, lxLen] at hm
          have HM := Lib.hid hm
          clear cl hv hm
          by_cases h24 : s.size ≤ 24
          · have e1 : decide ((s.size : Int) ≤ 24) = true := decide_eq_true (by omega)
            have HF := Lib.hid (show mayV ⟨3, x, s.toList, l⟩ = v by rw [← HM.out, decide_eq_true h24]; rfl)
            clear HM
            go_enter Try.func11, Try.ntmps11
            go_wp2_with (first | (go_at_call 20; (with_reducible refine (CL.out _ HB.out).mono ?_); rintro e w1 ⟨rfl, hb1⟩) | fail)
            go_ret
            exact ⟨ret_bool HF.out.symm, HB.out.trans (hb1.mono HB.out.size)⟩
          · have e1 : decide ((s.size : Int) ≤ 24) = false := decide_eq_false (by omega)
            have HF := Lib.hid (show mayV ⟨3, x, s.toList, l⟩ = false by rw [← HM.out, decide_eq_false h24]; rfl)
            clear HM
            go_enter Try.func11, Try.ntmps11
            go_wp2
            go_ret
            exact ⟨ret_bool HF.out.symm, HB.out⟩
      · obtain rfl := eq_of_beq z2
        clear z0 z1 z2 cll hn
        have hm := dmay2 x s.toList l
        obtain ⟨v, hv⟩ : ∃ v, v = sameV ⟨2, x, s.toList, l⟩ ⟨2, x, [], []⟩ := ⟨_, rfl⟩
        have CL := Lib.hid (cl 2 x ⟨#[]⟩ v (by rw [empty_list]; exact hv))
        rw [← hv] at hm
        have HM := Lib.hid hm
        clear cl hv hm
        cases e1 : (x == 0)
        · cases e2 : (x == 1)
          · have HF := Lib.hid (show mayV ⟨2, x, s.toList, l⟩ = false by rw [← HM.out, e1, e2]; rfl)
            clear HM
            go_enter Try.func11, Try.ntmps11
            go_wp2
            go_ret
            exact ⟨ret_bool HF.out.symm, HB.out⟩
          · have HF := Lib.hid (show mayV ⟨2, x, s.toList, l⟩ = v by rw [← HM.out, e1, e2]; rfl)
            clear HM
            go_enter Try.func11, Try.ntmps11
            go_wp2_with (first | (go_at_call 20; (with_reducible refine (CL.out _ HB.out).mono ?_); rintro e w1 ⟨rfl, hb1⟩) | fail)
            go_ret
            exact ⟨ret_bool HF.out.symm, HB.out.trans (hb1.mono HB.out.size)⟩
        · have HF := Lib.hid (show mayV ⟨2, x, s.toList, l⟩ = v by rw [← HM.out, e1]; rfl)
          clear HM
          go_enter Try.func11, Try.ntmps11
          go_wp2_with (first | (go_at_call 20; (with_reducible refine (CL.out _ HB.out).mono ?_); rintro e w1 ⟨rfl, hb1⟩) | fail)
          go_ret
          exact ⟨ret_bool HF.out.symm, HB.out.trans (hb1.mono HB.out.size)⟩
    · obtain rfl := eq_of_beq z1
      clear z0 z1 cll hn
      obtain ⟨v, hv⟩ : ∃ v, v = sameV ⟨1, x, s.toList, l⟩ ⟨1, x, [], []⟩ := ⟨_, rfl⟩
      have CL := Lib.hid (cl 1 x ⟨#[]⟩ v (by rw [empty_list]; exact hv))
      have HF := Lib.hid (hv.trans (dmay1 x s.toList l))
      clear cl hv
      go_enter Try.func11, Try.ntmps11
      go_wp2_with (first | (go_at_call 20; (with_reducible refine (CL.out _ HB.out).mono ?_); rintro e w1 ⟨rfl, hb1⟩) | fail)
      go_ret
      exact ⟨ret_bool HF.out, HB.out.trans (hb1.mono HB.out.size)⟩
  · obtain rfl := eq_of_beq z0
    clear z0 cll hn
    obtain ⟨v, hv⟩ : ∃ v, v = sameV ⟨0, x, s.toList, l⟩ ⟨0, 0, [], []⟩ := ⟨_, rfl⟩
    have CL := Lib.hid (cl 0 0 ⟨#[]⟩ v (by rw [empty_list]; exact hv))
    have HF := Lib.hid (hv.trans (dmay0 x s.toList l))
    clear cl hv
    go_enter Try.func11, Try.ntmps11
    go_wp2_with (first | (go_at_call 20; (with_reducible refine (CL.out _ HB.out).mono ?_); rintro e w1 ⟨rfl, hb1⟩) | fail)
    go_ret
    exact ⟨ret_bool HF.out, HB.out.trans (hb1.mono HB.out.size)⟩
end Go.Proofs.Ythbakfceaaaamaa
