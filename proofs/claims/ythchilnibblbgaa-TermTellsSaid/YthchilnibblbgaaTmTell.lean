/- Contracts of the reference's eval and Eval: what the tree means. -/
import Derived.Test.YthchilnibblbgaaTmRefE4
import Derived.Test.YthchilnibblbgaaTmRefE5
import Derived.Test.YthchilnibblbgaaTmRefE6
import Derived.Test.YthchilnibblbgaaRef2
import Derived.Test.YthchilnibblbgaaTmSome
import Derived.Test.YthchilnibblbgaaTmSteps
import Derived.Test.YthchilnibblbgaaTmSeats
import Derived.ShutString
namespace Go.Proofs.Ythchilnibblbgaa
open Go.RowKit

theorem kinds_two {k : Int} (h0 : 0 ≤ k) (h19 : k ≤ 19) (h : arT k = 2) : (k = 6 ∨ k = 7 ∨ k = 8 ∨ k = 12 ∨ k = 9 ∨ k = 10) ∨ k = 11 ∨ k = 13 ∨ k = 14 ∨ k = 19 ∨ k = 17 ∨ k = 18 := by
  unfold arT at h
  split at h
  · omega
  · split at h
    · omega
    · omega
theorem sound_kinds {t : Trm} (h : soundT t = true) : 0 ≤ t.kind ∧ t.kind ≤ 19 := by
  unfold soundT at h
  simp only [Bool.and_eq_true, decide_eq_true_eq] at h
  exact ⟨h.1.1.1.1.1.1, h.1.1.1.1.1.2⟩
theorem refTwo_any (k : Int) (nm : ByteArray) (x : Int) (tx : ByteArray) (l r : Int) (ak an : Int) (s : ByteArray) (a : Option Addr) (n c : Nat) (al : List Int) (bk bn : Int) (t : ByteArray) (b : Option Addr) (m d : Nat) (bl : List Int) (w : World) (bound : Nat) (hb : bound ≤ w.heap.size) (h : Nums w bound a n al) (h' : Nums w bound b m bl)
    (hA : mayV ⟨ak, an, s.toList, al⟩ = true) (hB : mayV ⟨bk, bn, t.toList, bl⟩ = true) (h0 : 0 ≤ k) (h19 : k ≤ 19) (hk : arT k = 2) :
    Calls Try.prog 64 #[.agg #[.int .i64 k, .string nm, .int .i64 x, .string tx, .int .i64 l, .int .i64 r], .agg #[.int .i64 ak, .int .i64 an, .string s, .slice a n c], .agg #[.int .i64 bk, .int .i64 bn, .string t, .slice b m d]] w (PairRet w (twoV k ⟨ak, an, s.toList, al⟩ ⟨bk, bn, t.toList, bl⟩)) := by
  rcases kinds_two h0 h19 hk with hk | rfl | rfl | rfl | rfl | rfl | rfl
  · exact refTwoNum_any k nm x tx l r ak an s a n c al bk bn t b m d bl w bound hb h h' hk
  · exact refTwoSame_any nm x tx l r ak an s a n c al bk bn t b m d bl w bound hb h h'
  · exact refTwoAnd_any nm x tx l r ak an s a n c al bk bn t b m d bl w bound hb h h' (fun e => mayV_bool_num hA e) (fun e => mayV_bool_num hB e)
  · exact refTwoOr_any nm x tx l r ak an s a n c al bk bn t b m d bl w bound hb h h' (fun e => mayV_bool_num hA e) (fun e => mayV_bool_num hB e)
  · exact refTwoJoin_any nm x tx l r ak an s a n c al bk bn t b m d bl w bound hb h h' (fun e => by have := (mayV_text_list hA e).2; rw [← lxLen]; exact this) (fun e => by have := (mayV_text_list hB e).2; rw [← lxLen]; exact this)
  · exact refTwo17_any nm x tx l r ak an s a n c al bk bn t b m d bl w bound hb h h' (fun e => by have := (mayV_list_text hA e).2; have := h.1; dsimp only at *; omega)
  · exact refTwo18_any nm x tx l r ak an s a n c al bk bn t b m d bl w bound hb h h' (fun e => by have := (mayV_list_text hA e).2; have := h.1; dsimp only at *; omega)

set_option maxHeartbeats 16000000 in
set_option maxRecDepth 20000 in
theorem refEvalT_any (L : List Trm) (env : List (Str × Val)) (la : Option Addr) (ln lc : Nat) (ea : Option Addr) (en ec : Nat) : ∀ e : Exp, Fits L e → ∀ w : World, Trms w w.heap.size la ln L → Binds w w.heap.size ea en env →
    Calls Try.prog 38 #[.slice la ln lc, .int .i64 e.at_, .slice ea en ec] w (PairRet w (evalE env e)) := by
  refine Exp.byKids ?_
  intro e ih hfit w hT hE
  have hin : e.at_ < ln := by have := hfit.lt; have := hT.1; omega
  obtain ⟨b, off, k, nm, x, tx, l, r, ha, hbb, hget, hns, hxs, p0, p1, p2, p3, p4, p5⟩ := hT.part hin
  have hterm : e.term = ⟨k, nm.toList, x, tx.toList, l, r⟩ := by
    have := hfit.here.1
    rw [hget] at this
    exact (Option.some.inj this).symm
  have hsd := hfit.here.2
  have hks := sound_kinds hsd
  have har := sound_arI hsd
  rw [hterm] at hks har
  dsimp only at hks har
  have cr := fun W => arity_any k W
  rw [har] at cr
  have hb1 := next_alloc w (.cells #[.int .i64 0, .int .i64 0, .string ⟨#[]⟩, .slice none 0 0] 33)
  have HS0 := Lib.hid (Slot.new w)
  have q0 := (hb1.cell (p := ⟨b, off + e.at_ * 6, none⟩) hbb).trans p0
  have q1 := (hb1.cell (p := ⟨b, off + e.at_ * 6 + 1, none⟩) hbb).trans p1
  have q2 := (hb1.cell (p := ⟨b, off + e.at_ * 6 + 2, none⟩) hbb).trans p2
  have q3 := (hb1.cell (p := ⟨b, off + e.at_ * 6 + 3, none⟩) hbb).trans p3
  have q4 := (hb1.cell (p := ⟨b, off + e.at_ * 6 + 4, none⟩) hbb).trans p4
  have q5 := (hb1.cell (p := ⟨b, off + e.at_ * 6 + 5, none⟩) hbb).trans p5
  have hb2 := next_alloc (w.alloc (.cells #[.int .i64 0, .int .i64 0, .string ⟨#[]⟩, .slice none 0 0] 33)) (.cells #[.int .i64 k, .string nm, .int .i64 x, .string tx, .int .i64 l, .int .i64 r] 38)
  have HB := Lib.hid (below_on hb1 hb2)
  have HS := Lib.hid (HS0.out.on hb2)
  have hbx := BoxU.new (w.alloc (.cells #[.int .i64 0, .int .i64 0, .string ⟨#[]⟩, .slice none 0 0] 33)) (.int .i64 k) (.string nm) (.int .i64 x) (.string tx) (.int .i64 l) (.int .i64 r)
  rw [World.size_alloc] at hbx
  have HX := Lib.hid hbx
  have HT := Lib.hid hT
  have HE := Lib.hid hE
  have CR := Lib.hid cr
  subst ha
  obtain ⟨pl, hpl⟩ : ∃ pl, pl = e.at_ := ⟨_, rfl⟩
  rw [← hpl] at q0 q1 q2 q3 q4 q5 hin ⊢
  clear hpl hb1 hb2 hbx p0 p1 p2 p3 p4 p5 hget hns hxs cr har hT hE
  cases e with
  | leaf i t =>
    simp only [Exp.term] at hterm
    subst hterm
    have ha0 := hfit.2.2
    dsimp only at ha0
    have hk6 : k = 0 ∨ k = 1 ∨ k = 2 ∨ k = 3 ∨ k = 4 ∨ k = 5 := by
      unfold arT at ha0
      split at ha0
      · cases ha0
      · split at ha0
        · omega
        · cases ha0
    rw [ha0] at CR
    have CL := Lib.hid (fun W (hW : Below w.heap.size w W) => refLeaf_any k nm x tx l r ea en ec env W w.heap.size hW.size (HE.out.below hW) hk6)
    simp only [evalE]
    generalize leafV env ⟨k, nm.toList, x, tx.toList, l, r⟩ = R at CL ⊢
    clear ih hfit hsd hks ha0 hk6
    go_enter Try.func38, Try.ntmps38
    go_wp2_with (first
      | (go_at_call 50; (with_reducible refine (CR.out _).mono ?_); rintro e w2 ⟨rfl, rfl⟩)
      | (go_at_call 62; (with_reducible refine (CL.out _ HB.out).mono ?_)
         rintro e w3 ⟨⟨s', a', n', c', rfl, hv, hf⟩, hb3⟩
         have HS3 := Lib.hid (HS.out.on hb3)
         have HB3 := Lib.hid (below_on HB.out hb3)
         have HV3 := Lib.hid hv
         have HF3 := Lib.hid hf
         obtain ⟨⟨c0, c1, c2, c3⟩, f0, f1, f2, f3⟩ := HS3.out.cells
         clear hb3 hv hf)
      | fail)
    (try simp only [Exit.inBlock, Exit.then])
    refine end_pair rfl rfl rfl HS3.out ?_
    exact PairRet.of_set HB3.out (Nat.le_refl _) HS.out.lt HV3.out HF3.out
  | one i t e1 =>
    simp only [Exp.term] at hterm
    subst hterm
    have ha1 := hfit.2.2.1
    dsimp only at ha1
    rw [ha1] at CR
    obtain ⟨p, hp⟩ : ∃ p, p = e1.at_ := ⟨_, rfl⟩
    have hl := hfit.2.2.2.1
    dsimp only at hl
    rw [← hp] at hl
    subst hl
    have cc1 := fun (W : World) (h1 : Trms W W.heap.size (some ⟨b, off, none⟩) ln L) (h2 : Binds W W.heap.size ea en env) => ih e1 (by simp [Exp.kids]) hfit.2.2.2.2.2 W h1 h2
    rw [← hp] at cc1
    have hm1 := evalE_may env hfit.2.2.2.2.2
    have hk2 : k = 15 ∨ k = 16 := by
      unfold arT at ha1
      split at ha1
      · assumption
      · split at ha1 <;> cases ha1
    simp only [evalE]
    clear ih hfit hsd hks ha1 hp
    obtain ⟨V, hV⟩ : ∃ V, V = evalE env e1 := ⟨_, rfl⟩
    rw [← hV] at cc1 hm1
    rw [← hV]
    clear hV
    obtain ⟨⟨vk, vn, vt, vl⟩, er⟩ := V
    have C1 := Lib.hid cc1
    clear cc1
    have HM1 := Lib.hid hm1
    dsimp only
    obtain ⟨R, hR⟩ : ∃ R, (if er = 0 then oneV k ⟨vk, vn, vt, vl⟩ else (zeroV, er)) = R := ⟨_, rfl⟩
    rw [hR]
    have HG := Lib.hid hR
    clear hR hm1
    cases he0 : (er == 0)
    · have e1' : (er != 0) = true := by unfold bne; rw [he0]; rfl
      have HZ := Lib.hid (show R = (zeroV, er) by rw [← HG.out, if_neg (by rw [beq_eq_false_iff_ne] at he0; exact he0)])
      clear he0 hk2
      go_enter Try.func38, Try.ntmps38
      go_wp2_with (first
      | (go_at_call 50; (with_reducible refine (CR.out _).mono ?_); rintro e w2 ⟨rfl, rfl⟩)
      | (go_at_call 38; (with_reducible refine (C1.out _ (HT.out.on HB.out) (HE.out.on HB.out)).mono ?_)
         rintro e w3 ⟨⟨s1, a1, n1, c1, he, hv, hf⟩, hb3⟩
         subst he
         have HB1 := Lib.hid (below_on (below_on HB.out hb3) (next_alloc w3 (.cells #[.int .i64 vk, .int .i64 vn, .string s1, .slice a1 n1 c1] 33)))
         have HS1 := Lib.hid ((HS.out.on hb3).on (next_alloc w3 (.cells #[.int .i64 vk, .int .i64 vn, .string s1, .slice a1 n1 c1] 33)))
         have HX1 := Lib.hid ((HX.out.on hb3).on (next_alloc w3 (.cells #[.int .i64 vk, .int .i64 vn, .string s1, .slice a1 n1 c1] 33)))
         have HV1 := Lib.hid (BoxV.new w3 (.int .i64 vk) (.int .i64 vn) (.string s1) (.slice a1 n1 c1))
         have HN1 := Lib.hid (hv.2.on (next_alloc w3 (.cells #[.int .i64 vk, .int .i64 vn, .string s1, .slice a1 n1 c1] 33)))
         have HT1 := Lib.hid (show s1.toList = vt from hv.1)
         obtain ⟨⟨c0, c1', c2, c3⟩, f0, f1, f2, f3⟩ := HS1.out.cells
         obtain ⟨⟨x0, x1, x2, x3, x4, x5⟩, _⟩ := HX1.out.cells
         obtain ⟨⟨y0, y1, y2, y3⟩, _⟩ := HV1.out.cells
         clear hv hf hb3)
      | fail)
      (try simp only [Exit.inBlock, Exit.then])
      refine end_pair rfl rfl rfl HS1.out ?_
      exact PairRet.is (PairRet.flat0 (below_set HB1.out (Nat.le_refl _) _ _ _ _)) HZ.out
    · obtain rfl := eq_of_beq he0
      have HZ := Lib.hid (show R = oneV k ⟨vk, vn, vt, vl⟩ by rw [← HG.out, if_pos rfl])
      have HK := Lib.hid hk2
      clear he0 hk2
      go_enter Try.func38, Try.ntmps38
      go_wp2_with (first
      | (go_at_call 50; (with_reducible refine (CR.out _).mono ?_); rintro e w2 ⟨rfl, rfl⟩)
      | (go_at_call 38; (with_reducible refine (C1.out _ (HT.out.on HB.out) (HE.out.on HB.out)).mono ?_)
         rintro e w3 ⟨⟨s1, a1, n1, c1, he, hv, hf⟩, hb3⟩
         subst he
         have HB1 := Lib.hid (below_on (below_on HB.out hb3) (next_alloc w3 (.cells #[.int .i64 vk, .int .i64 vn, .string s1, .slice a1 n1 c1] 33)))
         have HS1 := Lib.hid ((HS.out.on hb3).on (next_alloc w3 (.cells #[.int .i64 vk, .int .i64 vn, .string s1, .slice a1 n1 c1] 33)))
         have HX1 := Lib.hid ((HX.out.on hb3).on (next_alloc w3 (.cells #[.int .i64 vk, .int .i64 vn, .string s1, .slice a1 n1 c1] 33)))
         have HV1 := Lib.hid (BoxV.new w3 (.int .i64 vk) (.int .i64 vn) (.string s1) (.slice a1 n1 c1))
         have HN1 := Lib.hid (hv.2.on (next_alloc w3 (.cells #[.int .i64 vk, .int .i64 vn, .string s1, .slice a1 n1 c1] 33)))
         have HT1 := Lib.hid (show s1.toList = vt from hv.1)
         obtain ⟨⟨c0, c1', c2, c3⟩, f0, f1, f2, f3⟩ := HS1.out.cells
         obtain ⟨⟨x0, x1, x2, x3, x4, x5⟩, _⟩ := HX1.out.cells
         obtain ⟨⟨y0, y1, y2, y3⟩, _⟩ := HV1.out.cells
         clear hv hf hb3)
      | (go_at_call 63; (with_reducible refine (refOne_any k nm x tx (p : Int) r vk vn s1 a1 n1 c1 vl _ _ HN1.out HK.out).mono ?_)
         rintro e w4 ⟨⟨s', a', n', c', he, hv, hf⟩, hb4⟩
         rw [HT1.out, ← HZ.out] at he hv
         subst he
         have HS4 := Lib.hid (HS1.out.on hb4)
         have HB4 := Lib.hid (below_on HB1.out hb4)
         have HV4 := Lib.hid hv
         have HF4 := Lib.hid hf
         obtain ⟨⟨c0, c1', c2, c3⟩, f0, f1, f2, f3⟩ := HS4.out.cells
         clear hb4 hv hf)
      | fail)
      (try simp only [Exit.inBlock, Exit.then])
      refine end_pair rfl rfl rfl HS4.out ?_
      exact PairRet.of_set HB4.out (Nat.le_refl _) HS1.out.lt HV4.out HF4.out
  | two i t e1 e2 =>
    simp only [Exp.term] at hterm
    subst hterm
    have ha1 := hfit.2.2.1
    dsimp only at ha1
    rw [ha1] at CR
    obtain ⟨p, hp⟩ : ∃ p, p = e1.at_ := ⟨_, rfl⟩
    have hl := hfit.2.2.2.1
    dsimp only at hl
    rw [← hp] at hl
    subst hl
    have cc1 := fun (W : World) (h1 : Trms W W.heap.size (some ⟨b, off, none⟩) ln L) (h2 : Binds W W.heap.size ea en env) => ih e1 (by simp [Exp.kids]) hfit.2.2.2.2.2.2.2.1 W h1 h2
    rw [← hp] at cc1
    have hm1 := evalE_may env hfit.2.2.2.2.2.2.2.1
    obtain ⟨q, hq⟩ : ∃ q, q = e2.at_ := ⟨_, rfl⟩
    have hr := hfit.2.2.2.2.1
    dsimp only at hr
    rw [← hq] at hr
    subst hr
    have cc2 := fun (W : World) (h1 : Trms W W.heap.size (some ⟨b, off, none⟩) ln L) (h2 : Binds W W.heap.size ea en env) => ih e2 (by simp [Exp.kids]) hfit.2.2.2.2.2.2.2.2 W h1 h2
    rw [← hq] at cc2
    have hm2 := evalE_may env hfit.2.2.2.2.2.2.2.2
    have HK := Lib.hid (And.intro hks.1 (And.intro hks.2 ha1))
    simp only [evalE]
    clear ih hfit hsd hks ha1 hp hq
    obtain ⟨V, hV⟩ : ∃ V, V = evalE env e1 := ⟨_, rfl⟩
    obtain ⟨U, hU⟩ : ∃ U, U = evalE env e2 := ⟨_, rfl⟩
    rw [← hV] at cc1 hm1
    rw [← hU] at cc2 hm2
    rw [← hV, ← hU]
    clear hV hU
    have C1 := Lib.hid cc1
    have C2 := Lib.hid cc2
    clear cc1 cc2
    obtain ⟨⟨vk, vn, vt, vl⟩, er⟩ := V
    obtain ⟨⟨uk, un, ut, ul⟩, eq⟩ := U
    have HM1 := Lib.hid hm1
    have HM2 := Lib.hid hm2
    dsimp only
    obtain ⟨R, hR⟩ : ∃ R, (if er = 0 then (if eq = 0 then twoV k ⟨vk, vn, vt, vl⟩ ⟨uk, un, ut, ul⟩ else (zeroV, eq)) else (zeroV, er)) = R := ⟨_, rfl⟩
    rw [hR]
    have HG := Lib.hid hR
    clear hR hm1 hm2
    cases he0 : (er == 0)
    · have e1' : (er != 0) = true := by unfold bne; rw [he0]; rfl
      have HZ := Lib.hid (show R = (zeroV, er) by rw [← HG.out, if_neg (by rw [beq_eq_false_iff_ne] at he0; exact he0)])
      clear he0
      go_enter Try.func38, Try.ntmps38
      go_wp2_with (first
      | (go_at_call 50; (with_reducible refine (CR.out _).mono ?_); rintro e w2 ⟨rfl, rfl⟩)
      | (go_at_call 38; (with_reducible refine (C1.out _ (HT.out.on HB.out) (HE.out.on HB.out)).mono ?_)
         rintro e w3 ⟨⟨s1, a1, n1, c1, he, hv, hf⟩, hb3⟩
         subst he
         have HB1 := Lib.hid (below_on (below_on HB.out hb3) (next_alloc w3 (.cells #[.int .i64 vk, .int .i64 vn, .string s1, .slice a1 n1 c1] 33)))
         have HS1 := Lib.hid ((HS.out.on hb3).on (next_alloc w3 (.cells #[.int .i64 vk, .int .i64 vn, .string s1, .slice a1 n1 c1] 33)))
         have HX1 := Lib.hid ((HX.out.on hb3).on (next_alloc w3 (.cells #[.int .i64 vk, .int .i64 vn, .string s1, .slice a1 n1 c1] 33)))
         have HV1 := Lib.hid (BoxV.new w3 (.int .i64 vk) (.int .i64 vn) (.string s1) (.slice a1 n1 c1))
         have HN1 := Lib.hid (hv.2.on (next_alloc w3 (.cells #[.int .i64 vk, .int .i64 vn, .string s1, .slice a1 n1 c1] 33)))
         have HT1 := Lib.hid (show s1.toList = vt from hv.1)
         obtain ⟨⟨c0, c1', c2, c3⟩, f0, f1, f2, f3⟩ := HS1.out.cells
         obtain ⟨⟨x0, x1, x2, x3, x4, x5⟩, _⟩ := HX1.out.cells
         obtain ⟨⟨y0, y1, y2, y3⟩, _⟩ := HV1.out.cells
         clear hv hf hb3)
      | fail)
      (try simp only [Exit.inBlock, Exit.then])
      refine end_pair rfl rfl rfl HS1.out ?_
      exact PairRet.is (PairRet.flat0 (below_set HB1.out (Nat.le_refl _) _ _ _ _)) HZ.out
    obtain rfl := eq_of_beq he0
    clear he0
    cases hq0 : (eq == 0)
    · have e2' : (eq != 0) = true := by unfold bne; rw [hq0]; rfl
      have HZ := Lib.hid (show R = (zeroV, eq) by rw [← HG.out, if_pos rfl, if_neg (by rw [beq_eq_false_iff_ne] at hq0; exact hq0)])
      clear hq0
      go_enter Try.func38, Try.ntmps38
      go_wp2_with (first
      | (go_at_call 50; (with_reducible refine (CR.out _).mono ?_); rintro e w2 ⟨rfl, rfl⟩)
      | (go_at_call 38; (with_reducible refine (C1.out _ (HT.out.on HB.out) (HE.out.on HB.out)).mono ?_)
         rintro e w3 ⟨⟨s1, a1, n1, c1, he, hv, hf⟩, hb3⟩
         subst he
         have HB1 := Lib.hid (below_on (below_on HB.out hb3) (next_alloc w3 (.cells #[.int .i64 vk, .int .i64 vn, .string s1, .slice a1 n1 c1] 33)))
         have HS1 := Lib.hid ((HS.out.on hb3).on (next_alloc w3 (.cells #[.int .i64 vk, .int .i64 vn, .string s1, .slice a1 n1 c1] 33)))
         have HX1 := Lib.hid ((HX.out.on hb3).on (next_alloc w3 (.cells #[.int .i64 vk, .int .i64 vn, .string s1, .slice a1 n1 c1] 33)))
         have HV1 := Lib.hid (BoxV.new w3 (.int .i64 vk) (.int .i64 vn) (.string s1) (.slice a1 n1 c1))
         have HN1 := Lib.hid (hv.2.on (next_alloc w3 (.cells #[.int .i64 vk, .int .i64 vn, .string s1, .slice a1 n1 c1] 33)))
         have HT1 := Lib.hid (show s1.toList = vt from hv.1)
         obtain ⟨⟨c0, c1', c2, c3⟩, f0, f1, f2, f3⟩ := HS1.out.cells
         obtain ⟨⟨x0, x1, x2, x3, x4, x5⟩, _⟩ := HX1.out.cells
         obtain ⟨⟨y0, y1, y2, y3⟩, _⟩ := HV1.out.cells
         clear hv hf hb3)
      | (go_at_call 38; (with_reducible refine (C2.out _ (HT.out.on HB1.out) (HE.out.on HB1.out)).mono ?_)
         rintro e w5 ⟨⟨s2, a2, n2, c2, he, hv, hf⟩, hb5⟩
         subst he
         have HB2 := Lib.hid (below_on (below_on HB1.out hb5) (next_alloc w5 (.cells #[.int .i64 uk, .int .i64 un, .string s2, .slice a2 n2 c2] 33)))
         have HS2 := Lib.hid ((HS1.out.on hb5).on (next_alloc w5 (.cells #[.int .i64 uk, .int .i64 un, .string s2, .slice a2 n2 c2] 33)))
         have HX2 := Lib.hid ((HX1.out.on hb5).on (next_alloc w5 (.cells #[.int .i64 uk, .int .i64 un, .string s2, .slice a2 n2 c2] 33)))
         have HV1 := Lib.hid ((HV1.out.on hb5).on (next_alloc w5 (.cells #[.int .i64 uk, .int .i64 un, .string s2, .slice a2 n2 c2] 33)))
         have HN1 := Lib.hid ((HN1.out.on hb5).on (next_alloc w5 (.cells #[.int .i64 uk, .int .i64 un, .string s2, .slice a2 n2 c2] 33)))
         have HV2 := Lib.hid (BoxV.new w5 (.int .i64 uk) (.int .i64 un) (.string s2) (.slice a2 n2 c2))
         have HN2 := Lib.hid (hv.2.on (next_alloc w5 (.cells #[.int .i64 uk, .int .i64 un, .string s2, .slice a2 n2 c2] 33)))
         have HT2 := Lib.hid (show s2.toList = ut from hv.1)
         obtain ⟨⟨c0, c1', c2', c3⟩, f0, f1, f2, f3⟩ := HS2.out.cells
         obtain ⟨⟨x0, x1, x2, x3, x4, x5⟩, _⟩ := HX2.out.cells
         obtain ⟨⟨y0, y1, y2, y3⟩, _⟩ := HV1.out.cells
         obtain ⟨⟨z0, z1, z2, z3⟩, _⟩ := HV2.out.cells
         clear hv hf hb5)
      | fail)
      (try simp only [Exit.inBlock, Exit.then])
      refine end_pair rfl rfl rfl HS2.out ?_
      exact PairRet.is (PairRet.flat0 (below_set HB2.out (Nat.le_refl _) _ _ _ _)) HZ.out
    · obtain rfl := eq_of_beq hq0
      have HZ := Lib.hid (show R = twoV k ⟨vk, vn, vt, vl⟩ ⟨uk, un, ut, ul⟩ by rw [← HG.out, if_pos rfl, if_pos rfl])
      clear hq0
      go_enter Try.func38, Try.ntmps38
      go_wp2_with (first
      | (go_at_call 50; (with_reducible refine (CR.out _).mono ?_); rintro e w2 ⟨rfl, rfl⟩)
      | (go_at_call 38; (with_reducible refine (C1.out _ (HT.out.on HB.out) (HE.out.on HB.out)).mono ?_)
         rintro e w3 ⟨⟨s1, a1, n1, c1, he, hv, hf⟩, hb3⟩
         subst he
         have HB1 := Lib.hid (below_on (below_on HB.out hb3) (next_alloc w3 (.cells #[.int .i64 vk, .int .i64 vn, .string s1, .slice a1 n1 c1] 33)))
         have HS1 := Lib.hid ((HS.out.on hb3).on (next_alloc w3 (.cells #[.int .i64 vk, .int .i64 vn, .string s1, .slice a1 n1 c1] 33)))
         have HX1 := Lib.hid ((HX.out.on hb3).on (next_alloc w3 (.cells #[.int .i64 vk, .int .i64 vn, .string s1, .slice a1 n1 c1] 33)))
         have HV1 := Lib.hid (BoxV.new w3 (.int .i64 vk) (.int .i64 vn) (.string s1) (.slice a1 n1 c1))
         have HN1 := Lib.hid (hv.2.on (next_alloc w3 (.cells #[.int .i64 vk, .int .i64 vn, .string s1, .slice a1 n1 c1] 33)))
         have HT1 := Lib.hid (show s1.toList = vt from hv.1)
         obtain ⟨⟨c0, c1', c2, c3⟩, f0, f1, f2, f3⟩ := HS1.out.cells
         obtain ⟨⟨x0, x1, x2, x3, x4, x5⟩, _⟩ := HX1.out.cells
         obtain ⟨⟨y0, y1, y2, y3⟩, _⟩ := HV1.out.cells
         clear hv hf hb3)
      | (go_at_call 38; (with_reducible refine (C2.out _ (HT.out.on HB1.out) (HE.out.on HB1.out)).mono ?_)
         rintro e w5 ⟨⟨s2, a2, n2, c2, he, hv, hf⟩, hb5⟩
         subst he
         have HB2 := Lib.hid (below_on (below_on HB1.out hb5) (next_alloc w5 (.cells #[.int .i64 uk, .int .i64 un, .string s2, .slice a2 n2 c2] 33)))
         have HS2 := Lib.hid ((HS1.out.on hb5).on (next_alloc w5 (.cells #[.int .i64 uk, .int .i64 un, .string s2, .slice a2 n2 c2] 33)))
         have HX2 := Lib.hid ((HX1.out.on hb5).on (next_alloc w5 (.cells #[.int .i64 uk, .int .i64 un, .string s2, .slice a2 n2 c2] 33)))
         have HV1 := Lib.hid ((HV1.out.on hb5).on (next_alloc w5 (.cells #[.int .i64 uk, .int .i64 un, .string s2, .slice a2 n2 c2] 33)))
         have HN1 := Lib.hid ((HN1.out.on hb5).on (next_alloc w5 (.cells #[.int .i64 uk, .int .i64 un, .string s2, .slice a2 n2 c2] 33)))
         have HV2 := Lib.hid (BoxV.new w5 (.int .i64 uk) (.int .i64 un) (.string s2) (.slice a2 n2 c2))
         have HN2 := Lib.hid (hv.2.on (next_alloc w5 (.cells #[.int .i64 uk, .int .i64 un, .string s2, .slice a2 n2 c2] 33)))
         have HT2 := Lib.hid (show s2.toList = ut from hv.1)
         obtain ⟨⟨c0, c1', c2', c3⟩, f0, f1, f2, f3⟩ := HS2.out.cells
         obtain ⟨⟨x0, x1, x2, x3, x4, x5⟩, _⟩ := HX2.out.cells
         obtain ⟨⟨y0, y1, y2, y3⟩, _⟩ := HV1.out.cells
         obtain ⟨⟨z0, z1, z2, z3⟩, _⟩ := HV2.out.cells
         clear hv hf hb5)
      | (go_at_call 64; (with_reducible refine (refTwo_any k nm x tx (p : Int) (q : Int) vk vn s1 a1 n1 c1 vl uk un s2 a2 n2 c2 ul _ _ (Nat.le_refl _) HN1.out HN2.out (by rw [HT1.out]; exact HM1.out) (by rw [HT2.out]; exact HM2.out) HK.out.1 HK.out.2.1 HK.out.2.2).mono ?_)
         rintro e w6 ⟨⟨s', a', n', c', he, hv, hf⟩, hb6⟩
         rw [HT1.out, HT2.out, ← HZ.out] at he hv
         subst he
         have HS6 := Lib.hid (HS2.out.on hb6)
         have HB6 := Lib.hid (below_on HB2.out hb6)
         have HV6 := Lib.hid hv
         have HF6 := Lib.hid hf
         obtain ⟨⟨c0, c1', c2', c3⟩, f0, f1, f2, f3⟩ := HS6.out.cells
         clear hb6 hv hf)
      | fail)
      (try simp only [Exit.inBlock, Exit.then])
      refine end_pair rfl rfl rfl HS6.out ?_
      exact PairRet.of_set HB6.out (Nat.le_refl _) HS2.out.lt HV6.out HF6.out
set_option maxHeartbeats 4000000 in
theorem refEval_any (la : Option Addr) (ln lc : Nat) (L : List Trm) (root : Int) (ea : Option Addr) (en ec : Nat) (env : List (Str × Val)) (w : World) (hT : Trms w w.heap.size la ln L) (hE : Binds w w.heap.size ea en env) (hn : ln ≤ 1000) :
    Calls Try.prog 22 #[.slice la ln lc, .int .i64 root, .slice ea en ec] w (PairRet w (evalF L root env)) := by
  have hb1 := next_alloc w (.cells #[.int .i64 0, .int .i64 0, .string ⟨#[]⟩, .slice none 0 0] 33)
  have HB := Lib.hid hb1
  have HS := Lib.hid (Slot.new w)
  have HT := Lib.hid hT
  have HE := Lib.hid hE
  have CM := Lib.hid (fun W (h : Trms W W.heap.size la ln L) => refTermMay_any la ln lc L root W h hn)
  clear hb1 hT hE
  cases hm : mayF L root
  · have HZ := Lib.hid (evalF_none (env := env) hm)
    rw [hm] at CM
    generalize evalF L root env = R at HZ ⊢
    clear hm
    go_enter Try.func22, Try.ntmps22
    go_wp2_with (first
      | (go_at_call 23; (with_reducible refine (CM.out _ (HT.out.on HB.out)).mono ?_)
         rintro e w1 ⟨rfl, hb⟩
         have HS1 := Lib.hid (HS.out.on hb)
         have HB1 := Lib.hid (below_on HB.out hb)
         obtain ⟨⟨c0, c1, c2, c3⟩, f0, f1, f2, f3⟩ := HS1.out.cells
         clear hb)
      | fail)
    (try simp only [Exit.inBlock, Exit.then])
    refine end_pair rfl rfl rfl HS1.out ?_
    exact PairRet.is (PairRet.flat0 (below_set HB1.out (Nat.le_refl _) _ _ _ _)) HZ.out
  · obtain ⟨e0, hg⟩ := (mayF_iff L root).1 hm
    obtain ⟨r, hr⟩ : ∃ r : Nat, root = (r : Int) := ⟨e0.at_, hg.2.1.symm⟩
    subst hr
    have her : e0.at_ = r := by have := hg.2.1; omega
    have HZ := Lib.hid (evalF_good (env := env) hg)
    have ce := fun (W : World) (h1 : Trms W W.heap.size la ln L) (h2 : Binds W W.heap.size ea en env) => refEvalT_any L env la ln lc ea en ec e0 hg.2.2.1 W h1 h2
    rw [her] at ce
    rw [hm] at CM
    generalize evalF L (r : Int) env = R at HZ ⊢
    generalize evalE env e0 = q at HZ ce
    have CE := Lib.hid ce
    clear hm hg her ce
    go_enter Try.func22, Try.ntmps22
    go_wp2_with (first
      | (go_at_call 23; (with_reducible refine (CM.out _ (HT.out.on HB.out)).mono ?_)
         rintro e w1 ⟨rfl, hb⟩
         have HS1 := Lib.hid (HS.out.on hb)
         have HB1 := Lib.hid (below_on HB.out hb)
         clear hb)
      | (go_at_call 38; (with_reducible refine (CE.out _ (HT.out.on HB1.out) (HE.out.on HB1.out)).mono ?_)
         rintro e w3 ⟨⟨s', a', n', c', rfl, hv, hf⟩, hb3⟩
         have HS3 := Lib.hid (HS1.out.on hb3)
         have HB3 := Lib.hid (below_on HB1.out hb3)
         have HV3 := Lib.hid hv
         have HF3 := Lib.hid hf
         have HSL := Lib.hid HS1.out.lt
         obtain ⟨⟨c0, c1, c2, c3⟩, f0, f1, f2, f3⟩ := HS3.out.cells
         clear hb3 hv hf)
      | fail)
    (try simp only [Exit.inBlock, Exit.then])
    refine end_pair rfl rfl rfl HS3.out ?_
    exact PairRet.is (PairRet.of_set HB3.out (Nat.le_refl _) HSL.out HV3.out HF3.out) HZ.out
end Go.Proofs.Ythchilnibblbgaa

/- The law TermTells returns true, whatever its arguments. -/
namespace Go.Proofs.Ythchilnibblbgaa
open Go.RowKit

set_option maxHeartbeats 16000000 in
set_option maxRecDepth 20000 in
theorem termTells_walk (a : Option Addr) (n c : Nat) (L : List Trm) (root : Int) (ea : Option Addr) (en ec : Nat) (env : List (Str × Val)) (w : World)
    (hT : n ≤ 1000 → Trms w w.heap.size a n L) (hE : BindsL w w.heap.size ea en env) :
    Calls Try.prog 6 #[.slice a n c, .int .i64 root, .slice ea en ec] w fun e w' => e = .returned (.bool true) ∧ Below w.heap.size w w' := by
  by_cases hn : 200 < n
  · have d1 : decide ((200 : Int) < (n : Int)) = true := decide_eq_true (by omega)
    clear hT hE
    go_enter Try.func6, Try.ntmps6
    go_wp2_with (first | (go_at_call 13; (with_reducible refine (first_any _).mono ?_); rintro e w1 ⟨rfl, hb1⟩; have HB := Lib.hid hb1; clear hb1) | fail)
    go_ret
    exact ⟨rfl, HB.out⟩
  have d1 : decide ((200 : Int) < (n : Int)) = false := decide_eq_false (by omega)
  have hn8 : n ≤ 800 := by omega
  have HL := Lib.hid (hT (by omega))
  have HE := Lib.hid hE
  clear hT hE
  obtain ⟨b1, hb1⟩ : ∃ b, someE env = b := ⟨_, rfl⟩
  have HS1 := Lib.hid hb1
  have hen : b1 = true → en ≤ 40 := fun h => by rw [h] at hb1; have := (someE_iff.1 hb1).1; have := HE.out.1; omega
  clear hb1
  cases b1
  case false =>
    clear hen
    go_enter Try.func6, Try.ntmps6
    go_wp2_with (first
      | (go_at_call 13; (with_reducible refine (first_any _).mono ?_); rintro e w1 ⟨rfl, hb1⟩; have HB := Lib.hid hb1; clear hb1)
      | (go_at_call 14; (with_reducible refine (some_any ea en ec env _ _ (HE.out.below HB.out)).mono ?_); rintro e w2 ⟨he, rfl⟩; rw [HS1.out] at he; subst he)
      | fail)
    go_ret
    exact ⟨rfl, HB.out⟩
  have HE0 := Lib.hid (HE.out.short (by have := hen rfl; omega))
  clear hen
  obtain ⟨R, hR⟩ : ∃ R, evalF L root env = R := ⟨_, rfl⟩
  obtain ⟨bm, hbm⟩ : ∃ b, mayF L root = b := ⟨_, rfl⟩
  obtain ⟨V, hV⟩ : ∃ V, varsF L root = V := ⟨_, rfl⟩
  have HR := Lib.hid hR
  have HM := Lib.hid hbm
  have HV := Lib.hid hV
  clear hR hbm hV
  obtain ⟨⟨vk, vn, vt, vl⟩, er⟩ := R
  have HSV := Lib.hid (sameV_iff.2 (rfl : (⟨vk, vn, vt, vl⟩ : Val) = ⟨vk, vn, vt, vl⟩))
  cases bm
  all_goals
    go_enter Try.func6, Try.ntmps6
    go_wp2_with (first
      | (go_at_call 13; (with_reducible refine (first_any _).mono ?_); rintro e w1 ⟨rfl, hb1⟩; have HB := Lib.hid hb1; clear hb1)
      | (go_at_call 14; (with_reducible refine (some_any ea en ec env _ _ (HE.out.below HB.out)).mono ?_); rintro e w2 ⟨he, rfl⟩; rw [HS1.out] at he; subst he)
      | (go_at_call 17; (with_reducible refine (termEval_any a n c L root ea en ec env _ _ (Nat.le_refl _) (HL.out.on HB.out) (HE0.out.on HB.out)).mono ?_)
         rintro e wv ⟨⟨s1, a1, n1, c1, he, hv, hf⟩, hb⟩
         rw [HR.out] at he hv
         subst he
         have HB := Lib.hid (below_on (below_on HB.out hb) (next_alloc wv (.cells #[.int .i64 vk, .int .i64 vn, .string s1, .slice a1 n1 c1] 33)))
         have HN1 := Lib.hid (hv.2.on (next_alloc wv (.cells #[.int .i64 vk, .int .i64 vn, .string s1, .slice a1 n1 c1] 33)))
         have HSA := Lib.hid hv.1
         have HX1 := Lib.hid (BoxV.new wv (.int .i64 vk) (.int .i64 vn) (.string s1) (.slice a1 n1 c1))
         clear hv hf hb)
      | (go_at_call 22; (with_reducible refine (refEval_any a n c L root ea en ec env _ (HL.out.on HB.out) (HE0.out.on HB.out) (by omega)).mono ?_)
         rintro e wu ⟨⟨s2, a2, n2, c2, he, hv, hf⟩, hb⟩
         rw [HR.out] at he hv
         subst he
         have HB := Lib.hid (below_on (below_on HB.out hb) (next_alloc wu (.cells #[.int .i64 vk, .int .i64 vn, .string s2, .slice a2 n2 c2] 33)))
         have HN1 := Lib.hid ((HN1.out.on hb).on (next_alloc wu (.cells #[.int .i64 vk, .int .i64 vn, .string s2, .slice a2 n2 c2] 33)))
         have HX1 := Lib.hid ((HX1.out.on hb).on (next_alloc wu (.cells #[.int .i64 vk, .int .i64 vn, .string s2, .slice a2 n2 c2] 33)))
         have HN2 := Lib.hid (hv.2.on (next_alloc wu (.cells #[.int .i64 vk, .int .i64 vn, .string s2, .slice a2 n2 c2] 33)))
         have HSB := Lib.hid hv.1
         have HX2 := Lib.hid (BoxV.new wu (.int .i64 vk) (.int .i64 vn) (.string s2) (.slice a2 n2 c2))
         clear hv hf hb)
      | (go_at_call 15; (with_reducible refine (termMay_any a n c L root _ _ (Nat.le_refl _) (HL.out.on HB.out)).mono ?_)
         rintro e w5 ⟨he, hb⟩
         rw [HM.out] at he
         subst he
         have HB := Lib.hid (below_on HB.out hb)
         have HN1 := Lib.hid (HN1.out.on hb)
         have HX1 := Lib.hid (HX1.out.on hb)
         have HN2 := Lib.hid (HN2.out.on hb)
         have HX2 := Lib.hid (HX2.out.on hb)
         clear hb)
      | (go_at_call 23; (with_reducible refine (refTermMay_any a n c L root _ (HL.out.on HB.out) (by omega)).mono ?_)
         rintro e w6 ⟨he, hb⟩
         rw [HM.out] at he
         subst he
         have HB := Lib.hid (below_on HB.out hb)
         have HN1 := Lib.hid (HN1.out.on hb)
         have HX1 := Lib.hid (HX1.out.on hb)
         have HN2 := Lib.hid (HN2.out.on hb)
         have HX2 := Lib.hid (HX2.out.on hb)
         clear hb)
      | (go_at_call 25; (with_reducible refine (termVars_any a n c L root _ _ (Nat.le_refl _) (HL.out.on HB.out)).mono ?_)
         rintro e wa ⟨⟨p1, p2, p3, rfl, hs, _⟩, hb⟩
         rw [HV.out] at hs
         have HB := Lib.hid (below_on HB.out hb)
         have HN1 := Lib.hid (HN1.out.on hb)
         have HX1 := Lib.hid (HX1.out.on hb)
         have HN2 := Lib.hid (HN2.out.on hb)
         have HX2 := Lib.hid (HX2.out.on hb)
         have HP := Lib.hid hs
         clear hs hb)
      | (go_at_call 26; (with_reducible refine (refVars_any a n c L root _ (HL.out.on HB.out) hn8).mono ?_)
         rintro e wb ⟨⟨q1, q2, q3, rfl, hs⟩, hb⟩
         rw [HV.out] at hs
         have HB := Lib.hid (below_on HB.out hb)
         have HN1 := Lib.hid (HN1.out.on hb)
         have HX1 := Lib.hid (HX1.out.on hb)
         have HN2 := Lib.hid (HN2.out.on hb)
         have HX2 := Lib.hid (HX2.out.on hb)
         have HP := Lib.hid (HP.out.on hb)
         have HQ := Lib.hid hs
         clear hs hb)
      | (go_at_call 24; (with_reducible refine (same_any p1 q1 p2 q2 p3 q3 V V _ _ HP.out HQ.out).mono ?_)
         rintro e wz ⟨he, ⟨qq, rfl⟩⟩
         rw [decide_eq_true rfl] at he
         subst he
         have HB := Lib.hid (below_drewN HB.out qq)
         have HN1 := Lib.hid (HN1.out.drewN qq)
         have HN2 := Lib.hid (HN2.out.drewN qq)
         obtain ⟨⟨x0, x1, x2, x3⟩, _⟩ := HX1.out.cells
         obtain ⟨⟨y0, y1, y2, y3⟩, _⟩ := HX2.out.cells)
      | (go_at_call 27; (with_reducible refine (refSame_any vk vn s1 a1 n1 c1 vl vk vn s2 a2 n2 c2 vl _ _ (Nat.le_refl _) HN1.out HN2.out).mono ?_)
         rintro e w9 ⟨he, hb⟩
         rw [HSA.out, HSB.out, HSV.out] at he
         subst he
         have HB := Lib.hid (below_on HB.out hb)
         clear hb)
      | fail)
    go_ret
    exact ⟨rfl, HB.out⟩
end Go.Proofs.Ythchilnibblbgaa

/- The statement TermTells holds for every argument, with no condition. -/
namespace Go.Proofs.Ythchilnibblbgaa.termTells
open Go Go.ChangeShapes Go.WideShapes Go.ChangeAt Go.RowKit
open Go.ChangeMaps (open_string shut_string)

set_option maxRecDepth 100000 in
theorem lifted (os : Os) (started : os.Started) (H : Type) (enc : TypeId × Value → H) :
    ReturnsInHanded {} Try.checked os 6 .any (Rows.termTellsSpec.pre6 enc Try.prog Try.f6 Rows.termTellsRow.domain false) (Rows.termTellsSpec.post enc Try.prog Try.f6 false true false false) := by
  refine returnsInHanded_of_change (C := Try.checked) seatOwn started (by kernel_rfl) Try.func6
    (ChangeSpec.witness6 (enc := enc) (C := Try.checked) false ⟨#[], #[.slice none 0 0, .int .i64 0, .slice none 0 0], []⟩ 8 (by kernel_rfl) (by kernel_rfl) (by kernel_rfl) (by kernel_rfl)) ?_
  intro W base args ds gs before hval0 hW hcnd _
  have hval : ∀ (j : Nat) t v, Try.f6.params[j]? = some t → args[j]? = some v → Value.okWide Try.prog W .any base t v := hval0
  have hW' := hW
  obtain ⟨p, q, hA0, hV, rfl, hfz, hnd⟩ := hW
  have hA : DataW.TrodAll enc Try.prog W 0 (fun _ => true) true Try.f6.params.toList args.toList ds p := hA0
  rw [Try.params6] at hA hval
  obtain ⟨v0, vs0, d0, ds0, p0, q0, hargs, rfl, rfl, h0, r0⟩ := trodAll_cons hA
  obtain ⟨v1, vs1, d1, ds1, p1, q1, rfl, rfl, rfl, h1, r1⟩ := trodAll_cons r0
  obtain ⟨v2, vs2, d2, ds2, p2, q2, rfl, rfl, rfl, h2, r2⟩ := trodAll_cons r1
  obtain ⟨rfl, rfl, rfl⟩ := trodAll_nil r2
  obtain rfl : args = #[v0, v1, v2] := by cases args; simp_all
  obtain ⟨rfl, rfl⟩ := trodVars_none hV
  have k0 := h0
  have lt0 := args_below k0
  obtain ⟨fu0, hf0⟩ := h0
  obtain ⟨ia0, ilen0, icap0, rfl⟩ := okWide_slice Try.underlying22 (hval 0 22 v0 rfl rfl)
  obtain ⟨a0, n0, c0, l0, hv0, hn0, hc0⟩ := open_trms hf0
  injection hv0 with ea0 en0 ec0
  subst ea0 en0 ec0
  have k1 := h1
  have lt1 := args_below k1
  obtain ⟨a1, rfl, rfl, rfl, w1⟩ := open_int Try.underlying3 (hval 1 3 v1 rfl rfl) h1
  have k2 := h2
  have lt2 := args_below k2
  obtain ⟨fu2, hf2⟩ := h2
  obtain ⟨ia2, ilen2, icap2, rfl⟩ := okWide_slice Try.underlying23 (hval 2 23 v2 rfl rfl)
  obtain ⟨a2, n2, c2, l2, hv2, hn2, hc2⟩ := open_binds hf2
  injection hv2 with ea2 en2 ec2
  subst ea2 en2 ec2
  clear hA0 hval0
  refine (termTells_walk ia0 ilen0 icap0 l0 a1 ia2 ilen2 icap2 l2 W hn0 hn2 ).mono fun e W' ⟨he, bel⟩ => ?_
  subst he
  exact ⟨_, rfl, _, _, _, [], _, [], hW', trodAll_mk1 (shut_bool Try.underlying4 _), (trodAll_cons_mk (Below.trod seatLaidOut (by kernel_rfl) (of_decide_eq_true (by kernel_rfl)) k0 bel lt0) (trodAll_cons_mk (Below.trod seatLaidOut (by kernel_rfl) (of_decide_eq_true (by kernel_rfl)) k1 bel lt1) (trodAll_cons_mk (Below.trod seatLaidOut (by kernel_rfl) (of_decide_eq_true (by kernel_rfl)) k2 bel lt2) trodAll_mk0))), rfl, bel.frame _, fun h => by cases h⟩

theorem over : Rows.termTellsRow.holds Try.pinned (OpenSpec.ofChange Rows.termTellsSpec) :=
  OpenClaim.holds_of_wide 6 Try.f6 rfl rfl rfl rfl rfl rfl rfl ⟨rfl, rfl, rfl, rfl, rfl⟩ rfl rfl rfl rfl rfl (by kernel_rfl) Try.func6 (by kernel_rfl)
    (of_decide_eq_true (by kernel_rfl)) (by unfold Func.isWrapper; first | (rw [if_pos (by decide +kernel)]; kernel_rfl) | (rw [if_neg (by decide +kernel)]; exact ⟨rfl, rfl⟩))
    (fun os started H enc _ => lifted os started H enc)

theorem proved : Rows.TermTellsSaid :=
  over
#print axioms proved
end Go.Proofs.Ythchilnibblbgaa.termTells
