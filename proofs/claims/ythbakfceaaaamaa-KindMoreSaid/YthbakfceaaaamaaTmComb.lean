/- Contracts of the program's holds and combine. -/
import Derived.Test.YthbakfceaaaamaaTmConcat
import Derived.Test.YthbakfceaaaamaaDtMay
namespace Go.Proofs.Ythbakfceaaaamaa
open Go.RowKit

def holdsV (k : Int) (a b : Val) : Bool := if k = 11 then sameV a b else if k = 12 then decide (a.num < b.num) else if k = 13 then a.num == 1 && b.num == 1 else a.num == 1 || b.num == 1
set_option maxHeartbeats 2000000 in
theorem holds_any (k k1 x1 : Int) (s1 : ByteArray) (a1 : Option Addr) (n1 c1 : Nat) (l1 : List Int) (k2 x2 : Int) (s2 : ByteArray) (a2 : Option Addr) (n2 c2 : Nat) (l2 : List Int) (w : World) (bound : Nat) (hb : bound ≤ w.heap.size) (h1 : Nums w bound a1 n1 l1) (h2 : Nums w bound a2 n2 l2) (hk : k = 11 ∨ k = 12 ∨ k = 13 ∨ k = 14) :
    Calls Try.prog 61 #[.int .i64 k, .agg #[.int .i64 k1, .int .i64 x1, .string s1, .slice a1 n1 c1], .agg #[.int .i64 k2, .int .i64 x2, .string s2, .slice a2 n2 c2]] w fun e w' =>
      e = .returned (.bool (holdsV k ⟨k1, x1, s1.toList, l1⟩ ⟨k2, x2, s2.toList, l2⟩)) ∧ Below w.heap.size w w' := by
  have HB := Lib.hid (((Below.refl w.heap.size w).alloc (Nat.le_refl _) (.cells #[.int .i64 k1, .int .i64 x1, .string s1, .slice a1 n1 c1] 33)).alloc (by simp) (.cells #[.int .i64 k2, .int .i64 x2, .string s2, .slice a2 n2 c2] 33))
  have CS := Lib.hid (fun W (hW : Below w.heap.size w W) => dataSame_any k1 x1 s1 a1 n1 c1 l1 k2 x2 s2 a2 n2 c2 l2 W bound (by have := hW.size; omega) (h1.below (hW.mono hb)) (h2.below (hW.mono hb)))
  obtain ⟨A, hA⟩ : ∃ A : Val, A = ⟨k1, x1, s1.toList, l1⟩ := ⟨_, rfl⟩
  obtain ⟨B, hB⟩ : ∃ B : Val, B = ⟨k2, x2, s2.toList, l2⟩ := ⟨_, rfl⟩
  have hx1 : A.num = x1 := by rw [hA]
  have hx2 : B.num = x2 := by rw [hB]
  rw [← hA, ← hB] at CS ⊢
  clear hA hB h1 h2
  rcases hk with rfl | rfl | rfl | rfl
  · clear hx1 hx2
    go_enter Try.func61, Try.ntmps61
    go_wp2_with (first
      | (go_at_call 20; (with_reducible refine (CS.out _ HB.out).mono ?_)
         rintro e w1 ⟨rfl, hb1⟩
         have HB1 := Lib.hid (HB.out.trans (hb1.mono HB.out.size))
         clear hb1)
      | fail)
    go_ret
    exact ⟨rfl, HB1.out⟩
  · have HG := Lib.hid (show holdsV 12 A B = decide (x1 < x2) by rw [← hx1, ← hx2]; rfl)
    clear hx1 hx2
    go_enter Try.func61, Try.ntmps61
    go_wp2_with fail
    go_ret
    exact ⟨ret_bool HG.out.symm, HB.out⟩
  · have HG := Lib.hid (show holdsV 13 A B = (x1 == 1 && x2 == 1) by rw [← hx1, ← hx2]; rfl)
    clear hx1 hx2
    cases e1 : x1 == 1
    · have HG := Lib.hid (show holdsV 13 A B = false by rw [HG.out, e1]; rfl)
      go_enter Try.func61, Try.ntmps61
      go_wp2_with fail
      go_ret
      exact ⟨ret_bool HG.out.symm, HB.out⟩
    · have HG := Lib.hid (show holdsV 13 A B = (x2 == 1) by rw [HG.out, e1]; rfl)
      go_enter Try.func61, Try.ntmps61
      go_wp2_with fail
      go_ret
      exact ⟨ret_bool HG.out.symm, HB.out⟩
  · have HG := Lib.hid (show holdsV 14 A B = (x1 == 1 || x2 == 1) by rw [← hx1, ← hx2]; rfl)
    clear hx1 hx2
    cases e1 : x1 == 1
    · have HG := Lib.hid (show holdsV 14 A B = (x2 == 1) by rw [HG.out, e1]; rfl)
      go_enter Try.func61, Try.ntmps61
      go_wp2_with fail
      go_ret
      exact ⟨ret_bool HG.out.symm, HB.out⟩
    · have HG := Lib.hid (show holdsV 14 A B = true by rw [HG.out, e1]; rfl)
      go_enter Try.func61, Try.ntmps61
      go_wp2_with fail
      go_ret
      exact ⟨ret_bool HG.out.symm, HB.out⟩

/-- combine: the cases by the kind of the term. -/
theorem comb_calc {k : Int} {a b : Val} (hk : k = 6 ∨ k = 7 ∨ k = 8 ∨ k = 9 ∨ k = 10) : combV k a b = calcV k a.num b.num := by
  rcases hk with rfl | rfl | rfl | rfl | rfl <;> rfl
theorem comb_holds {k : Int} {a b : Val} (hk : k = 11 ∨ k = 12 ∨ k = 13 ∨ k = 14) : combV k a b = (boolV (holdsV k a b), 0) := by
  rcases hk with rfl | rfl | rfl | rfl <;> rfl
theorem Slot.boxed (w : World) (A B : Array Value) : Slot (((w.alloc (.cells A 33)).alloc (.cells B 33)).alloc (.cells #[.int .i64 0, .int .i64 0, .string ⟨#[]⟩, .slice none 0 0] 33)) (w.heap.size + 1 + 1) := by
  have h := Slot.new ((w.alloc (.cells A 33)).alloc (.cells B 33))
  rw [World.size_alloc, World.size_alloc] at h
  exact h
set_option maxHeartbeats 4000000 in
theorem combine_any (k k1 x1 : Int) (s1 : ByteArray) (a1 : Option Addr) (n1 c1 : Nat) (l1 : List Int) (k2 x2 : Int) (s2 : ByteArray) (a2 : Option Addr) (n2 c2 : Nat) (l2 : List Int) (w : World) (bound : Nat) (hb : bound ≤ w.heap.size) (h1 : Nums w bound a1 n1 l1) (h2 : Nums w bound a2 n2 l2)
    (hk : (k = 6 ∨ k = 7 ∨ k = 8 ∨ k = 9 ∨ k = 10) ∨ (k = 11 ∨ k = 12 ∨ k = 13 ∨ k = 14) ∨ k = 17 ∨ (k = 18 ∧ n1 ≤ 900) ∨ (k = 19 ∧ s1.size ≤ 24 ∧ s2.size ≤ 24)) :
    Calls Try.prog 43 #[.int .i64 k, .agg #[.int .i64 k1, .int .i64 x1, .string s1, .slice a1 n1 c1], .agg #[.int .i64 k2, .int .i64 x2, .string s2, .slice a2 n2 c2]] w (PairRet w (combV k ⟨k1, x1, s1.toList, l1⟩ ⟨k2, x2, s2.toList, l2⟩)) := by
  have HB := Lib.hid ((((Below.refl w.heap.size w).alloc (Nat.le_refl _) (.cells #[.int .i64 k1, .int .i64 x1, .string s1, .slice a1 n1 c1] 33)).alloc (by simp) (.cells #[.int .i64 k2, .int .i64 x2, .string s2, .slice a2 n2 c2] 33)).alloc (by simp <;> omega) (.cells #[.int .i64 0, .int .i64 0, .string ⟨#[]⟩, .slice none 0 0] 33))
  have HS := Lib.hid (Slot.boxed w #[.int .i64 k1, .int .i64 x1, .string s1, .slice a1 n1 c1] #[.int .i64 k2, .int .i64 x2, .string s2, .slice a2 n2 c2])
  have hR : w.heap.size ≤ w.heap.size + 1 + 1 := by omega
  have HRR := Lib.hid hR
  clear hR
  rcases hk with hk | hk | rfl | ⟨rfl, hn⟩ | ⟨rfl, hs1, hs2⟩
  · obtain ⟨r, hr⟩ : ∃ r, r = calcV k x1 x2 := ⟨_, rfl⟩
    have HG := Lib.hid (show combV k ⟨k1, x1, s1.toList, l1⟩ ⟨k2, x2, s2.toList, l2⟩ = r by rw [comb_calc hk, hr])
    have cc := calc_any k x1 x2 (((w.alloc (.cells #[.int .i64 k1, .int .i64 x1, .string s1, .slice a1 n1 c1] 33)).alloc (.cells #[.int .i64 k2, .int .i64 x2, .string s2, .slice a2 n2 c2] 33)).alloc (.cells #[.int .i64 0, .int .i64 0, .string ⟨#[]⟩, .slice none 0 0] 33)) hk
    rw [← hr] at cc
    have CC := Lib.hid cc
    have e11 : (k == 11) = false := by rw [beq_eq_false_iff_ne]; omega
    have e12 : (k == 12) = false := by rw [beq_eq_false_iff_ne]; omega
    have e13 : (k == 13) = false := by rw [beq_eq_false_iff_ne]; omega
    have e14 : (k == 14) = false := by rw [beq_eq_false_iff_ne]; omega
    have e17 : (k == 17) = false := by rw [beq_eq_false_iff_ne]; omega
    have e18 : (k == 18) = false := by rw [beq_eq_false_iff_ne]; omega
    have e19 : (k == 19) = false := by rw [beq_eq_false_iff_ne]; omega
    generalize combV k ⟨k1, x1, s1.toList, l1⟩ ⟨k2, x2, s2.toList, l2⟩ = R at HG ⊢
    clear hk h1 h2 hr cc
    go_enter Try.func43, Try.ntmps43
    go_wp2_with (first
        | (go_at_call 65; (with_reducible refine CC.out.mono ?_)
           rintro e w1 ⟨⟨s', a', n', c', rfl, hv, hf⟩, hb1⟩
           have HS1 := Lib.hid (HS.out.on hb1)
           have HB1 := Lib.hid (below_on HB.out hb1)
           have HV1 := Lib.hid hv
           have HF1 := Lib.hid hf
           obtain ⟨⟨c0, c1', c2', c3⟩, f0, f1, f2, f3⟩ := HS1.out.cells
           clear hv hf hb1)
        | fail)
    (try simp only [Exit.inBlock, Exit.then])
    refine end_pair rfl rfl rfl HS1.out ?_
    exact PairRet.is (PairRet.of_set HB1.out HRR.out HS.out.lt HV1.out HF1.out) HG.out
  · have HG := Lib.hid (comb_holds (a := ⟨k1, x1, s1.toList, l1⟩) (b := ⟨k2, x2, s2.toList, l2⟩) hk)
    have CH := Lib.hid (holds_any k k1 x1 s1 a1 n1 c1 l1 k2 x2 s2 a2 n2 c2 l2 (((w.alloc (.cells #[.int .i64 k1, .int .i64 x1, .string s1, .slice a1 n1 c1] 33)).alloc (.cells #[.int .i64 k2, .int .i64 x2, .string s2, .slice a2 n2 c2] 33)).alloc (.cells #[.int .i64 0, .int .i64 0, .string ⟨#[]⟩, .slice none 0 0] 33)) bound (by simp <;> omega) (h1.below (HB.out.mono hb)) (h2.below (HB.out.mono hb)) hk)
    generalize combV k ⟨k1, x1, s1.toList, l1⟩ ⟨k2, x2, s2.toList, l2⟩ = R at HG ⊢
    generalize holdsV k ⟨k1, x1, s1.toList, l1⟩ ⟨k2, x2, s2.toList, l2⟩ = b at HG CH
    have CT := Lib.hid (fun W => truth_any b W)
    obtain ⟨v, hv⟩ : ∃ v : Int, v = (if b then 1 else 0) := ⟨_, rfl⟩
    rw [← hv] at CT
    have HG := Lib.hid (show R = (⟨2, v, [], []⟩, 0) by rw [HG.out, hv]; rfl)
    clear h1 h2 hv
    rcases hk with rfl | rfl | rfl | rfl
    all_goals
      go_enter Try.func43, Try.ntmps43
      go_wp2_with (first
        | (go_at_call 61; (with_reducible refine CH.out.mono ?_)
           rintro e w1 ⟨rfl, hb1⟩
           have HS1 := Lib.hid (HS.out.on hb1)
           have HB1 := Lib.hid (below_on HB.out hb1)
           clear hb1)
        | (go_at_call 39; (with_reducible refine (CT.out _).mono ?_)
           rintro e w2 ⟨rfl, hb2⟩
           have HS2 := Lib.hid (HS1.out.on hb2)
           have HB2 := Lib.hid (below_on HB1.out hb2)
           obtain ⟨⟨c0, c1', c2', c3⟩, f0, f1, f2, f3⟩ := HS2.out.cells
           clear hb2)
        | fail)
      (try simp only [Exit.inBlock, Exit.then])
      refine end_pair rfl rfl rfl HS2.out ?_
      exact PairRet.is (PairRet.flat0 (below_set HB2.out HRR.out _ _ _ _)) HG.out
  · obtain ⟨r, hr⟩ : ∃ r, r = elemV l1 x2 := ⟨_, rfl⟩
    have HG := Lib.hid (show combV 17 ⟨k1, x1, s1.toList, l1⟩ ⟨k2, x2, s2.toList, l2⟩ = r by rw [hr]; rfl)
    have cc := element_any a1 n1 c1 l1 x2 (((w.alloc (.cells #[.int .i64 k1, .int .i64 x1, .string s1, .slice a1 n1 c1] 33)).alloc (.cells #[.int .i64 k2, .int .i64 x2, .string s2, .slice a2 n2 c2] 33)).alloc (.cells #[.int .i64 0, .int .i64 0, .string ⟨#[]⟩, .slice none 0 0] 33)) bound (h1.below (HB.out.mono hb))
    rw [← hr] at cc
    have CC := Lib.hid cc
    generalize combV 17 ⟨k1, x1, s1.toList, l1⟩ ⟨k2, x2, s2.toList, l2⟩ = R at HG ⊢
    clear h1 h2 hr cc
    go_enter Try.func43, Try.ntmps43
    go_wp2_with (first
        | (go_at_call 62; (with_reducible refine CC.out.mono ?_)
           rintro e w1 ⟨⟨s', a', n', c', rfl, hv, hf⟩, hb1⟩
           have HS1 := Lib.hid (HS.out.on hb1)
           have HB1 := Lib.hid (below_on HB.out hb1)
           have HV1 := Lib.hid hv
           have HF1 := Lib.hid hf
           obtain ⟨⟨c0, c1', c2', c3⟩, f0, f1, f2, f3⟩ := HS1.out.cells
           clear hv hf hb1)
        | fail)
    (try simp only [Exit.inBlock, Exit.then])
    refine end_pair rfl rfl rfl HS1.out ?_
    exact PairRet.is (PairRet.of_set HB1.out HRR.out HS.out.lt HV1.out HF1.out) HG.out
  · obtain ⟨r, hr⟩ : ∃ r, r = pushV l1 x2 := ⟨_, rfl⟩
    have HG := Lib.hid (show combV 18 ⟨k1, x1, s1.toList, l1⟩ ⟨k2, x2, s2.toList, l2⟩ = r by rw [hr]; rfl)
    have cc := push_any a1 n1 c1 l1 x2 (((w.alloc (.cells #[.int .i64 k1, .int .i64 x1, .string s1, .slice a1 n1 c1] 33)).alloc (.cells #[.int .i64 k2, .int .i64 x2, .string s2, .slice a2 n2 c2] 33)).alloc (.cells #[.int .i64 0, .int .i64 0, .string ⟨#[]⟩, .slice none 0 0] 33)) bound (by simp <;> omega) (h1.below (HB.out.mono hb)) hn
    rw [← hr] at cc
    have CC := Lib.hid cc
    generalize combV 18 ⟨k1, x1, s1.toList, l1⟩ ⟨k2, x2, s2.toList, l2⟩ = R at HG ⊢
    clear h1 h2 hr cc
    go_enter Try.func43, Try.ntmps43
    go_wp2_with (first
        | (go_at_call 63; (with_reducible refine CC.out.mono ?_)
           rintro e w1 ⟨⟨s', a', n', c', rfl, hv, hf⟩, hb1⟩
           have HS1 := Lib.hid (HS.out.on hb1)
           have HB1 := Lib.hid (below_on HB.out hb1)
           have HV1 := Lib.hid hv
           have HF1 := Lib.hid hf
           obtain ⟨⟨c0, c1', c2', c3⟩, f0, f1, f2, f3⟩ := HS1.out.cells
           clear hv hf hb1)
        | fail)
    (try simp only [Exit.inBlock, Exit.then])
    refine end_pair rfl rfl rfl HS1.out ?_
    exact PairRet.is (PairRet.of_set HB1.out HRR.out HS.out.lt HV1.out HF1.out) HG.out
  · obtain ⟨r, hr⟩ : ∃ r, r = joinV s1.toList s2.toList := ⟨_, rfl⟩
    have HG := Lib.hid (show combV 19 ⟨k1, x1, s1.toList, l1⟩ ⟨k2, x2, s2.toList, l2⟩ = r by rw [hr]; rfl)
    have cc := join_any s1 s2 (((w.alloc (.cells #[.int .i64 k1, .int .i64 x1, .string s1, .slice a1 n1 c1] 33)).alloc (.cells #[.int .i64 k2, .int .i64 x2, .string s2, .slice a2 n2 c2] 33)).alloc (.cells #[.int .i64 0, .int .i64 0, .string ⟨#[]⟩, .slice none 0 0] 33)) hs1 hs2
    rw [← hr] at cc
    have CC := Lib.hid cc
    generalize combV 19 ⟨k1, x1, s1.toList, l1⟩ ⟨k2, x2, s2.toList, l2⟩ = R at HG ⊢
    clear h1 h2 hr cc
    go_enter Try.func43, Try.ntmps43
    go_wp2_with (first
        | (go_at_call 64; (with_reducible refine CC.out.mono ?_)
           rintro e w1 ⟨⟨s', a', n', c', rfl, hv, hf⟩, hb1⟩
           have HS1 := Lib.hid (HS.out.on hb1)
           have HB1 := Lib.hid (below_on HB.out hb1)
           have HV1 := Lib.hid hv
           have HF1 := Lib.hid hf
           obtain ⟨⟨c0, c1', c2', c3⟩, f0, f1, f2, f3⟩ := HS1.out.cells
           clear hv hf hb1)
        | fail)
    (try simp only [Exit.inBlock, Exit.then])
    refine end_pair rfl rfl rfl HS1.out ?_
    exact PairRet.is (PairRet.of_set HB1.out HRR.out HS.out.lt HV1.out HF1.out) HG.out
end Go.Proofs.Ythbakfceaaaamaa
