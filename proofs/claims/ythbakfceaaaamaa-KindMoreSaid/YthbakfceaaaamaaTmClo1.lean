/- Contracts of the program's evaluating closure: terms of one operand, of two. -/
import Derived.Test.YthbakfceaaaamaaTmClo0
namespace Go.Proofs.Ythbakfceaaaamaa
open Go.RowKit

theorem evalOne_any (k : Int) (nm : ByteArray) (x : Int) (tx : ByteArray) (l r : Int) (a' : Option Addr) (c' : Nat) (A : Val) (ea : Option Addr) (en ec : Nat) (w : World) (bound : Nat) (hb : bound ≤ w.heap.size) (h : Vals w bound a' 1 [A]) (hm : mayV A = true) (hk : arT k = 1) :
    Calls Try.prog 23 #[.agg #[.int .i64 k, .string nm, .int .i64 x, .string tx, .int .i64 l, .int .i64 r], .slice a' 1 c', .slice ea en ec] w (PairRet w (oneV k A)) := by
  have hk2 : k = 15 ∨ k = 16 := by
    unfold arT at hk
    split at hk
    · assumption
    · split at hk <;> cases hk
  rcases hk2 with rfl | rfl
  · exact evalOne15_any nm x tx l r a' c' A ea en ec w bound hb h
  · exact evalOne16_any nm x tx l r a' c' A ea en ec w bound hb h hm
theorem Nums.beside_from {w w' : World} {g base : Nat} {a : Option Addr} {n : Nat} {l : List Int} (h : Nums w w.heap.size a n l) (hf : From base a n) (hb : Beside g w w') (hg : g < base) : Nums w' w'.heap.size a n l :=
  ⟨h.1, h.2.1, fun hn => by
    obtain ⟨b, off, e, hbl, hc⟩ := h.2.2 hn
    obtain ⟨b', off', e', hbb⟩ := hf hn
    rw [e] at e'
    injection e' with e'
    injection e' with e1 e2 _
    refine ⟨b, off, e, Nat.lt_of_lt_of_le hbl hb.size, fun j y hj => (hb.cell (p := ⟨b, off + j, none⟩) hbl (by show b ≠ g; omega)).trans (hc j y hj)⟩⟩
theorem Slot.beside {W W' : World} {R g : Nat} (h : Slot W R) (hb : Beside g W W') (hg : R ≠ g) : Slot W' R := (hb.block R h.lt hg).trans h
theorem EReady.beside {W W' : World} {L : List Trm} {env : List (Str × Val)} {la ea : Option Addr} {ln lc en ec bound cl cw ce g : Nat} (h : EReady W L env la ln lc ea en ec bound cl cw ce) (hb : Beside g W W') (h1g : bound ≤ g) (h2g : cl < g) (h3g : cw < g) (h4g : ce < g) : EReady W' L env la ln lc ea en ec bound cl cw ce := by
  obtain ⟨h1, h2, h3, h4, h5, h6, h7, h8, h9⟩ := h
  have := hb.size
  have hbl := hb.below h1g h3
  exact ⟨h1.below hbl, h2.below hbl, by omega, by omega, by omega, by omega, (hb.cell (p := ⟨cl, 0, none⟩) h4 (by show cl ≠ g; omega)).trans h7, (hb.cell (p := ⟨cw, 0, none⟩) h5 (by show cw ≠ g; omega)).trans h8, (hb.cell (p := ⟨ce, 0, none⟩) h6 (by show ce ≠ g; omega)).trans h9⟩
/-- The first operand's value is laid behind no other. -/
theorem vals_one {w3 w4 : World} {v' : Value} {vk vn : Int} {s : ByteArray} {a : Option Addr} {n c : Nat} {A : Val} (hk : vk = A.kind) (hn : vn = A.num) (ho : VOwn w4 v' ([] ++ [⟨vk, vn, s, a, n, c⟩])) (hv : HasV w3 w3.heap.size A s a n) (hb : Below w3.heap.size w3 w4) :
    ∃ a' c', v' = .slice a' 1 c' ∧ Vals w4 w4.heap.size a' 1 [A] :=
  ho.vals rfl (by simp) fun j b x hj hx => by
    have h0 : j = 0 := by
      obtain ⟨h1, _⟩ := List.getElem?_eq_some_iff.1 hx
      simp at h1
      exact h1
    subst h0
    obtain rfl : (⟨vk, vn, s, a, n, c⟩ : BV) = b := by simpa using hj
    obtain rfl : A = x := by simpa using hx
    exact ⟨hk, hn, hv.1, (hv.2.below hb).more hb.size⟩
set_option maxHeartbeats 8000000 in
theorem clo1_any (L : List Trm) (env : List (Str × Val)) (la : Option Addr) (ln lc : Nat) (ea : Option Addr) (en ec : Nat) (bound cl cw ce i : Nat) (t : Trm) (w : World) (hi : L[i]? = some t) (har : arT t.kind = 1) (ci : Nat) (A : Val) (er : Int) (hci : t.l = (ci : Int)) (hmA : mayV A = true) (hA : ∀ W, EReady W L env la ln lc ea en ec bound cl cw ce → Calls Try.prog 21 #[.int .i64 ci, .pointer (some ⟨cl, 0, none⟩), .pointer (some ⟨cw, 0, none⟩), .pointer (some ⟨ce, 0, none⟩)] W (PairRet W (A, er))) (hR : EReady w L env la ln lc ea en ec bound cl cw ce) :
    Calls Try.prog 21 #[.int .i64 i, .pointer (some ⟨cl, 0, none⟩), .pointer (some ⟨cw, 0, none⟩), .pointer (some ⟨ce, 0, none⟩)] w (PairRet w (if er = 0 then oneV t.kind A else (zeroV, er))) := by
  have hin : i < ln := by
    obtain ⟨h1, _⟩ := List.getElem?_eq_some_iff.1 hi
    have := hR.1.1
    omega
  have hb0 := (Below.refl w.heap.size w).alloc (Nat.le_refl _) (.cells #[.int .i64 0, .int .i64 0, .string ⟨#[]⟩, .slice none 0 0] 33)
  have HB := Lib.hid hb0
  have HS := Lib.hid (Slot.new w)
  have HR1 := Lib.hid (hR.on hb0)
  obtain ⟨_, _, _, _, _, _, ccl, ccw, cce⟩ := hR.on hb0
  obtain ⟨b, off, t', ha, hbb, hget, _, hnl, htl, p0, p1, p2, p3, p4, p5⟩ := hR.1.at_ hin
  rw [hi] at hget
  obtain rfl := Option.some.inj hget
  subst ha
  obtain ⟨nm, hnm⟩ : ∃ nm, nm = lxS t.name := ⟨_, rfl⟩
  obtain ⟨tx, htx⟩ : ∃ tx, tx = lxS t.text := ⟨_, rfl⟩
  have hTT : (⟨t.kind, nm.toList, t.num, tx.toList, t.l, t.r⟩ : Trm) = t := by rw [hnm, htx, lxS_toList, lxS_toList]
  have co := fun W => operands_any t.kind nm t.num tx t.l t.r W
  rw [hTT, opsT1 har] at co
  have cv := fun (a' : Option Addr) (c' : Nat) (A : Val) W (hm : mayV A = true) (h : Vals W W.heap.size a' 1 [A]) => evalOne_any t.kind nm t.num tx t.l t.r a' c' A ea en ec W W.heap.size (Nat.le_refl _) h hm har
  rw [← hnm] at p1
  rw [← htx] at p3
  have CV := Lib.hid cv
  have HQ := Lib.hid (And.intro p0 (And.intro p1 (And.intro p2 (And.intro p3 (And.intro p4 p5)))))
  have hbw : b < w.heap.size := by have := hR.2.2.1; omega
  have hlw : cl < w.heap.size := hR.2.2.2.1
  have hww : cw < w.heap.size := hR.2.2.2.2.1
  have hew : ce < w.heap.size := hR.2.2.2.2.2.1
  obtain ⟨tk, htk⟩ : ∃ tk, tk = t.kind := ⟨_, rfl⟩
  obtain ⟨tn, htn⟩ : ∃ tn, tn = t.num := ⟨_, rfl⟩
  obtain ⟨tl, htl2⟩ : ∃ tl, tl = t.l := ⟨_, rfl⟩
  obtain ⟨tr, htr⟩ : ∃ tr, tr = t.r := ⟨_, rfl⟩
  rw [← htk, ← htn, ← htl2, ← htr] at CV HQ
  rw [← htk, ← htn, ← htl2, ← htr] at co
  have CO := Lib.hid co
  obtain rfl : tl = (ci : Int) := htl2.trans hci
  have HMA := Lib.hid hmA
  clear hci hmA
  have CA := Lib.hid hA
  have q0 := (hb0.cell (p := ⟨b, off + i * 6, none⟩) hbw).trans HQ.out.1
  have q1 := (hb0.cell (p := ⟨b, off + i * 6 + 1, none⟩) hbw).trans HQ.out.2.1
  have q2 := (hb0.cell (p := ⟨b, off + i * 6 + 2, none⟩) hbw).trans HQ.out.2.2.1
  have q3 := (hb0.cell (p := ⟨b, off + i * 6 + 3, none⟩) hbw).trans HQ.out.2.2.2.1
  have q4 := (hb0.cell (p := ⟨b, off + i * 6 + 4, none⟩) hbw).trans HQ.out.2.2.2.2.1
  have q5 := (hb0.cell (p := ⟨b, off + i * 6 + 5, none⟩) hbw).trans HQ.out.2.2.2.2.2
  clear co cv hnm htx hTT hnl htl hi har hb0 htn htl2 htr hR p0 p1 p2 p3 p4 p5
  have hne : b ≠ w.heap.size := by omega
  have hnel : cl ≠ w.heap.size := by omega
  have hnee : ce ≠ w.heap.size := by omega
  clear hA
  obtain ⟨R, hRR⟩ : ∃ R, R = if er = 0 then oneV tk A else (zeroV, er) := ⟨_, rfl⟩
  rw [show (if er = 0 then oneV t.kind A else (zeroV, er)) = R by rw [hRR, htk]]
  obtain ⟨Ak, hAk⟩ : ∃ Ak, Ak = A.kind := ⟨_, rfl⟩
  obtain ⟨An, hAn⟩ : ∃ An, An = A.num := ⟨_, rfl⟩
  have HA := Lib.hid (And.intro hAk hAn)
  clear hAk hAn htk
  cases he0 : er == 0
  · have ne0 : (er != 0) = true := by unfold bne; rw [he0]; rfl
    have HG := Lib.hid (show R = (zeroV, er) by rw [hRR, if_neg (by rw [beq_eq_false_iff_ne] at he0; exact he0)])
    clear hRR he0
    go_enter Try.func21, Try.ntmps21
    go_wp2_with (first
      | (go_at_call 22; (with_reducible refine (CO.out _).mono ?_)
         rintro e w2 ⟨⟨ao, no, co, rfl, hnums, _⟩, hb2⟩
         have HB2 := Lib.hid (below_on HB.out hb2)
         have HS2 := Lib.hid (HS.out.on hb2)
         have HR2 := Lib.hid (HR1.out.on hb2)
         have hno : no = 1 := by have := hnums.1; simpa using this.symm
         subst hno
         obtain ⟨_, _, _, _, _, _, ccl, ccw, cce⟩ := HR2.out
         obtain ⟨b2, o2, y, hao, hb2w, hy, y0⟩ := hnums.at_ (k := 0) (by omega)
         obtain rfl : _ = y := by simpa using hy
         subst hao
         rw [Nat.add_zero] at y0
         have HW2 := Lib.hid hb2w
         have r0 := (HB2.out.cell (p := ⟨b, off + i * 6, none⟩) hbw).trans HQ.out.1
         have r1 := (HB2.out.cell (p := ⟨b, off + i * 6 + 1, none⟩) hbw).trans HQ.out.2.1
         have r2 := (HB2.out.cell (p := ⟨b, off + i * 6 + 2, none⟩) hbw).trans HQ.out.2.2.1
         have r3 := (HB2.out.cell (p := ⟨b, off + i * 6 + 3, none⟩) hbw).trans HQ.out.2.2.2.1
         have r4 := (HB2.out.cell (p := ⟨b, off + i * 6 + 4, none⟩) hbw).trans HQ.out.2.2.2.2.1
         have r5 := (HB2.out.cell (p := ⟨b, off + i * 6 + 5, none⟩) hbw).trans HQ.out.2.2.2.2.2
         clear hb2 hnums hy hb2w q0 q1 q2 q3 q4 q5)
      | fail)
    refine wp_loop_rounds 2 ?_
    rw [rounds_succ]
    go_wp2_with (first
      | (go_at_call 21; (with_reducible refine (CA.out _ HR2.out).mono ?_)
         rintro e w3 ⟨⟨s3, a3, n3, c3, rfl, hv, hf⟩, hb3⟩
         have HB3 := Lib.hid (below_on HB2.out hb3)
         have HS3 := Lib.hid (HS2.out.on hb3)
         have HR3 := Lib.hid (HR2.out.on hb3)
         have HV3 := Lib.hid hv
         have HF3 := Lib.hid hf
         obtain ⟨_, _, _, _, _, _, ccl, ccw, cce⟩ := HR3.out
         have HS3a := Lib.hid (HS3.out.alloc (.cells #[.int .i64 A.kind, .int .i64 A.num, .string s3, .slice a3 n3 c3] 33))
         obtain ⟨⟨d0, d1', d2', d3⟩, g0, g1, g2, g3⟩ := HS3a.out.cells
         clear hb3 hv hf)
      | fail)
    (try simp only [Exit.inBlock, Exit.then])
    refine end_pair rfl rfl rfl HS3a.out ?_
    exact PairRet.is (PairRet.flat0 (below_set (HB3.out.alloc HB3.out.size _) (Nat.le_refl _) _ _ _ _)) HG.out
  · obtain rfl := eq_of_beq he0
    have HG := Lib.hid (show R = oneV tk A by rw [hRR, if_pos rfl])
    clear hRR he0
    go_enter Try.func21, Try.ntmps21
    go_wp2_with (first
      | (go_at_call 22; (with_reducible refine (CO.out _).mono ?_)
         rintro e w2 ⟨⟨ao, no, co, rfl, hnums, _⟩, hb2⟩
         have HB2 := Lib.hid (below_on HB.out hb2)
         have HS2 := Lib.hid (HS.out.on hb2)
         have HR2 := Lib.hid (HR1.out.on hb2)
         have hno : no = 1 := by have := hnums.1; simpa using this.symm
         subst hno
         obtain ⟨_, _, _, _, _, _, ccl, ccw, cce⟩ := HR2.out
         obtain ⟨b2, o2, y, hao, hb2w, hy, y0⟩ := hnums.at_ (k := 0) (by omega)
         obtain rfl : _ = y := by simpa using hy
         subst hao
         rw [Nat.add_zero] at y0
         have HW2 := Lib.hid hb2w
         have r0 := (HB2.out.cell (p := ⟨b, off + i * 6, none⟩) hbw).trans HQ.out.1
         have r1 := (HB2.out.cell (p := ⟨b, off + i * 6 + 1, none⟩) hbw).trans HQ.out.2.1
         have r2 := (HB2.out.cell (p := ⟨b, off + i * 6 + 2, none⟩) hbw).trans HQ.out.2.2.1
         have r3 := (HB2.out.cell (p := ⟨b, off + i * 6 + 3, none⟩) hbw).trans HQ.out.2.2.2.1
         have r4 := (HB2.out.cell (p := ⟨b, off + i * 6 + 4, none⟩) hbw).trans HQ.out.2.2.2.2.1
         have r5 := (HB2.out.cell (p := ⟨b, off + i * 6 + 5, none⟩) hbw).trans HQ.out.2.2.2.2.2
         clear hb2 hnums hy hb2w q0 q1 q2 q3 q4 q5)
      | fail)
    refine wp_loop_rounds 2 ?_
    rw [rounds_succ]
    go_wp2_with (first
      | (go_at_call 21; (with_reducible refine (CA.out _ HR2.out).mono ?_)
         rintro e w3 ⟨⟨s3, a3, n3, c3, rfl, hv, hf⟩, hb3⟩
         have HB3 := Lib.hid (below_on HB2.out hb3)
         have HS3 := Lib.hid (HS2.out.on hb3)
         have HR3 := Lib.hid (HR2.out.on hb3)
         have HV3 := Lib.hid hv
         have HF3 := Lib.hid hf
         obtain ⟨_, _, _, _, _, _, ccl, ccw, cce⟩ := HR3.out
         clear hb3 hv hf)
      | (at_builtin
         refine wpList_append_vals rfl (.tmp 32) (.tmp 34) rfl (.slice none 0 0) [] ⟨A.kind, A.num, s3, a3, n3, c3⟩ rfl rfl rfl (by simp) (VOwn.zero _) (by simp) ?_
         intro v' w4 ho hg _
         have hb4 := grown_below hg
         have hbl : Below w3.heap.size w3 w4 := (((Below.refl _ w3).alloc (Nat.le_refl _) _).alloc (by simp) _).trans (hb4.mono (by simp <;> omega))
         obtain ⟨aa, cc, rfl, hvals⟩ := vals_one rfl rfl ho HV3.out hbl
         have HVL := Lib.hid hvals
         have HB4 := Lib.hid (below_on HB3.out hbl)
         have HS4 := Lib.hid (HS3.out.on hbl)
         have HR4 := Lib.hid (HR3.out.on hbl)
         obtain ⟨_, _, _, _, _, _, ccl, ccw, cce⟩ := HR4.out
         have r0 := (HB4.out.cell (p := ⟨b, off + i * 6, none⟩) hbw).trans HQ.out.1
         have r1 := (HB4.out.cell (p := ⟨b, off + i * 6 + 1, none⟩) hbw).trans HQ.out.2.1
         have r2 := (HB4.out.cell (p := ⟨b, off + i * 6 + 2, none⟩) hbw).trans HQ.out.2.2.1
         have r3 := (HB4.out.cell (p := ⟨b, off + i * 6 + 3, none⟩) hbw).trans HQ.out.2.2.2.1
         have r4 := (HB4.out.cell (p := ⟨b, off + i * 6 + 4, none⟩) hbw).trans HQ.out.2.2.2.2.1
         have r5 := (HB4.out.cell (p := ⟨b, off + i * 6 + 5, none⟩) hbw).trans HQ.out.2.2.2.2.2
         clear ho hg hb4 hbl hvals)
      | fail)
    rw [rounds_succ]
    go_wp2
    go_region_held3 (fun W => (W.cell? ⟨cl, 0, none⟩ = some (.slice (some ⟨b, off, none⟩) ln lc) ∧ W.cell? ⟨ce, 0, none⟩ = some (.slice ea en ec)) ∧ W.cell? ⟨b, off + i * 6, none⟩ = some (.int .i64 tk) ∧ W.cell? ⟨b, off + i * 6 + 1, none⟩ = some (.string nm) ∧ W.cell? ⟨b, off + i * 6 + 2, none⟩ = some (.int .i64 tn) ∧ W.cell? ⟨b, off + i * 6 + 3, none⟩ = some (.string tx) ∧ W.cell? ⟨b, off + i * 6 + 4, none⟩ = some (.int .i64 (ci : Int)) ∧ W.cell? ⟨b, off + i * 6 + 5, none⟩ = some (.int .i64 tr)) (first | exact ⟨⟨ccl, cce⟩, r0, r1, r2, r3, r4, r5⟩ | exact ⟨⟨(set_keep hnel _ _ _ _).trans ccl, (set_keep hnee _ _ _ _).trans cce⟩, (set_keep hne _ _ _ _).trans r0, (set_keep hne _ _ _ _).trans r1, (set_keep hne _ _ _ _).trans r2, (set_keep hne _ _ _ _).trans r3, (set_keep hne _ _ _ _).trans r4, (set_keep hne _ _ _ _).trans r5⟩) (first
      | (go_at_call 23; (with_reducible refine (CV.out _ _ A _ ?_ ?_).mono ?_)
         · exact HMA.out
         · exact HVL.out
         rintro e wn ⟨⟨s', a', n', c', rfl, hv, hf⟩, hbn⟩
         have HSn := Lib.hid (HS4.out.on (W' := wn) ⟨hbn.os, hbn.tape, hbn.output, hbn.size, hbn.block⟩)
         have HBn := Lib.hid (show Below w.heap.size w wn from below_on HB4.out ⟨hbn.os, hbn.tape, hbn.output, hbn.size, hbn.block⟩)
         have HRn := Lib.hid (HR4.out.on (W' := wn) ⟨hbn.os, hbn.tape, hbn.output, hbn.size, hbn.block⟩)
         have HVn := Lib.hid hv
         have HFn := Lib.hid (show From w4.heap.size a' n' from hf)
         obtain ⟨_, _, _, _, _, _, ccl, ccw, cce⟩ := HRn.out
         have r0 := (HBn.out.cell (p := ⟨b, off + i * 6, none⟩) hbw).trans HQ.out.1
         have r1 := (HBn.out.cell (p := ⟨b, off + i * 6 + 1, none⟩) hbw).trans HQ.out.2.1
         have r2 := (HBn.out.cell (p := ⟨b, off + i * 6 + 2, none⟩) hbw).trans HQ.out.2.2.1
         have r3 := (HBn.out.cell (p := ⟨b, off + i * 6 + 3, none⟩) hbw).trans HQ.out.2.2.2.1
         have r4 := (HBn.out.cell (p := ⟨b, off + i * 6 + 4, none⟩) hbw).trans HQ.out.2.2.2.2.1
         have r5 := (HBn.out.cell (p := ⟨b, off + i * 6 + 5, none⟩) hbw).trans HQ.out.2.2.2.2.2
         obtain ⟨⟨d0, d1', d2', d3⟩, g0, g1, g2, g3⟩ := HSn.out.cells
         clear hbn hv hf)
      | fail)
    all_goals go_wp2
    all_goals (try simp only [Exit.inBlock, Exit.then])
    all_goals refine end_pair rfl rfl rfl HSn.out ?_
    all_goals exact PairRet.is (PairRet.of_set HBn.out (Nat.le_refl _) HS4.out.lt HVn.out HFn.out) HG.out
end Go.Proofs.Ythbakfceaaaamaa
