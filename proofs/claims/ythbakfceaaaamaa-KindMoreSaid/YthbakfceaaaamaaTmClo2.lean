/- Contract of the program's evaluating closure: terms of two operands. -/
import Derived.Test.YthbakfceaaaamaaTmClo1
namespace Go.Proofs.Ythbakfceaaaamaa
open Go.RowKit

/-- Where the array of a slice that the call made lies. -/
theorem own_at {w : World} {v' : Value} {bs : List BV} {m : Nat} (h : VOwn w v' bs) (hpos : 0 < bs.length) (hat : v'.ownBlock = none ∨ v'.ownBlock = some m) : ∃ g cap, v' = .slice (some ⟨g, 0, none⟩) bs.length cap ∧ g < w.heap.size ∧ g = m := by
  have hlt := h.lt
  rcases h.2 with ⟨h0, h1⟩ | ⟨g, cap, cur, rfl, hbase, hh, h1, h2, h3, h4⟩
  · have h5 := encBV_len bs
    rw [h1] at h5
    simp at h5
    omega
  · refine ⟨g, cap, rfl, (hlt g rfl).2, ?_⟩
    rcases hat with h | h
    · cases h
    · injection h
theorem vals_two {w4 : World} {v' : Value} {vk vn : Int} {s : ByteArray} {a : Option Addr} {n c : Nat} {A : Val} {vk' vn' : Int} {s' : ByteArray} {a' : Option Addr} {n' c' : Nat} {B : Val} (hk : vk = A.kind) (hn : vn = A.num) (hk' : vk' = B.kind) (hn' : vn' = B.num)
    (ho : VOwn w4 v' ([⟨vk, vn, s, a, n, c⟩] ++ [⟨vk', vn', s', a', n', c'⟩])) (hv : HasV w4 w4.heap.size A s a n) (hv' : HasV w4 w4.heap.size B s' a' n') :
    ∃ a' c', v' = .slice a' 2 c' ∧ Vals w4 w4.heap.size a' 2 [A, B] :=
  ho.vals rfl (by simp) fun j b x hj hx => by
    have h0 : j < 2 := by
      obtain ⟨h1, _⟩ := List.getElem?_eq_some_iff.1 hx
      simpa using h1
    rcases (show j = 0 ∨ j = 1 by omega) with rfl | rfl
    · obtain rfl : (⟨vk, vn, s, a, n, c⟩ : BV) = b := by simpa using hj
      obtain rfl : A = x := by simpa using hx
      exact ⟨hk, hn, hv.1, hv.2⟩
    · obtain rfl : (⟨vk', vn', s', a', n', c'⟩ : BV) = b := by simpa using hj
      obtain rfl : B = x := by simpa using hx
      exact ⟨hk', hn', hv'.1, hv'.2⟩
set_option maxHeartbeats 8000000 in
theorem clo2_any (L : List Trm) (env : List (Str × Val)) (la : Option Addr) (ln lc : Nat) (ea : Option Addr) (en ec : Nat) (bound cl cw ce i : Nat) (t : Trm) (w : World) (hi : L[i]? = some t) (har : arT t.kind = 2) (ci di : Nat) (A B : Val) (er es : Int) (hsd : soundT t = true) (hci : t.l = (ci : Int)) (hdi : t.r = (di : Int)) (hmA : mayV A = true) (hmB : mayV B = true) (hA : ∀ W, EReady W L env la ln lc ea en ec bound cl cw ce → Calls Try.prog 21 #[.int .i64 ci, .pointer (some ⟨cl, 0, none⟩), .pointer (some ⟨cw, 0, none⟩), .pointer (some ⟨ce, 0, none⟩)] W (PairRet W (A, er))) (hB : ∀ W, EReady W L env la ln lc ea en ec bound cl cw ce → Calls Try.prog 21 #[.int .i64 di, .pointer (some ⟨cl, 0, none⟩), .pointer (some ⟨cw, 0, none⟩), .pointer (some ⟨ce, 0, none⟩)] W (PairRet W (B, es))) (hR : EReady w L env la ln lc ea en ec bound cl cw ce) :
    Calls Try.prog 21 #[.int .i64 i, .pointer (some ⟨cl, 0, none⟩), .pointer (some ⟨cw, 0, none⟩), .pointer (some ⟨ce, 0, none⟩)] w (PairRet w (if er = 0 then (if es = 0 then twoV t.kind A B else (zeroV, es)) else (zeroV, er))) := by
  have hin : i < ln := by
    obtain ⟨h1, _⟩ := List.getElem?_eq_some_iff.1 hi
    have := hR.1.1
    omega
  have hb0 := (Below.refl w.heap.size w).alloc (Nat.le_refl _) (.cells #[.int .i64 0, .int .i64 0, .string ⟨#[]⟩, .slice none 0 0] 33)
  have HB := Lib.hid hb0
  have HS := Lib.hid (Slot.new w)
  have HR1 := Lib.hid (hR.on hb0)
  obtain ⟨_, _, _, _, _, _, ccl, ccw, cce⟩ := hR.on hb0
  obtain ⟨b, off, t', ha, hbb, hget, _, hnl, htl, p0, p1, p2, p3, p4, p5⟩ := hR.1.at_ hin
  rw [hi] at hget
  obtain rfl := Option.some.inj hget
  subst ha
  obtain ⟨nm, hnm⟩ : ∃ nm, nm = lxS t.name := ⟨_, rfl⟩
  obtain ⟨tx, htx⟩ : ∃ tx, tx = lxS t.text := ⟨_, rfl⟩
  have hTT : (⟨t.kind, nm.toList, t.num, tx.toList, t.l, t.r⟩ : Trm) = t := by rw [hnm, htx, lxS_toList, lxS_toList]
  have co := fun W => operands_any t.kind nm t.num tx t.l t.r W
  rw [hTT, opsT2 har] at co
  have hk19 : 0 ≤ t.kind ∧ t.kind ≤ 19 := by
    unfold soundT at hsd
    simp only [Bool.and_eq_true, decide_eq_true_eq] at hsd
    exact ⟨hsd.1.1.1.1.1.1, hsd.1.1.1.1.1.2⟩
  have cv := fun (a' : Option Addr) (c' : Nat) (A B : Val) W (hmA : mayV A = true) (hmB : mayV B = true) (h : Vals W W.heap.size a' 2 [A, B]) => evalTwo_any t.kind nm t.num tx t.l t.r a' c' A B ea en ec W W.heap.size (Nat.le_refl _) h hmA hmB har hk19.1 hk19.2
  rw [← hnm] at p1
  rw [← htx] at p3
  have CV := Lib.hid cv
  have HQ := Lib.hid (And.intro p0 (And.intro p1 (And.intro p2 (And.intro p3 (And.intro p4 p5)))))
  have hbw : b < w.heap.size := by have := hR.2.2.1; omega
  have HBZ := Lib.hid hR.2.2.1
  have hlw : cl < w.heap.size := hR.2.2.2.1
  have hww : cw < w.heap.size := hR.2.2.2.2.1
  have hew : ce < w.heap.size := hR.2.2.2.2.2.1
  obtain ⟨tk, htk⟩ : ∃ tk, tk = t.kind := ⟨_, rfl⟩
  obtain ⟨tn, htn⟩ : ∃ tn, tn = t.num := ⟨_, rfl⟩
  obtain ⟨tl, htl2⟩ : ∃ tl, tl = t.l := ⟨_, rfl⟩
  obtain ⟨tr, htr⟩ : ∃ tr, tr = t.r := ⟨_, rfl⟩
  rw [← htk, ← htn, ← htl2, ← htr] at CV HQ
  rw [← htk, ← htn, ← htl2, ← htr] at co
  have CO := Lib.hid co
  obtain rfl : tl = (ci : Int) := htl2.trans hci
  obtain rfl : tr = (di : Int) := htr.trans hdi
  have HMA := Lib.hid hmA
  have HMB := Lib.hid hmB
  clear hci hdi hmA hmB hk19 hsd
  have CA := Lib.hid hA
  have CB := Lib.hid hB
  have q0 := (hb0.cell (p := ⟨b, off + i * 6, none⟩) hbw).trans HQ.out.1
  have q1 := (hb0.cell (p := ⟨b, off + i * 6 + 1, none⟩) hbw).trans HQ.out.2.1
  have q2 := (hb0.cell (p := ⟨b, off + i * 6 + 2, none⟩) hbw).trans HQ.out.2.2.1
  have q3 := (hb0.cell (p := ⟨b, off + i * 6 + 3, none⟩) hbw).trans HQ.out.2.2.2.1
  have q4 := (hb0.cell (p := ⟨b, off + i * 6 + 4, none⟩) hbw).trans HQ.out.2.2.2.2.1
  have q5 := (hb0.cell (p := ⟨b, off + i * 6 + 5, none⟩) hbw).trans HQ.out.2.2.2.2.2
  clear co cv hnm htx hTT hnl htl hi har hb0 htn htl2 htr hR p0 p1 p2 p3 p4 p5
  have hne : b ≠ w.heap.size := by omega
  have hnel : cl ≠ w.heap.size := by omega
  have hnee : ce ≠ w.heap.size := by omega
  clear hA hB
  obtain ⟨R, hRR⟩ : ∃ R, R = if er = 0 then (if es = 0 then twoV tk A B else (zeroV, es)) else (zeroV, er) := ⟨_, rfl⟩
  rw [show (if er = 0 then (if es = 0 then twoV t.kind A B else (zeroV, es)) else (zeroV, er)) = R by rw [hRR, htk]]
  have hlz : bound ≤ w.heap.size := HBZ.out
  clear htk
  cases he0 : er == 0
  · have ne0 : (er != 0) = true := by unfold bne; rw [he0]; rfl
    have HG := Lib.hid (show R = (zeroV, er) by rw [hRR, if_neg (by rw [beq_eq_false_iff_ne] at he0; exact he0)])
    clear hRR he0
    go_enter Try.func21, Try.ntmps21
    go_wp2_with (first
      | (go_at_call 22; (with_reducible refine (CO.out _).mono ?_)
         rintro e w2 ⟨⟨ao, no, co, rfl, hnums, _⟩, hb2⟩
         have HB2 := Lib.hid (below_on HB.out hb2)
         have HS2 := Lib.hid (HS.out.on hb2)
         have HR2 := Lib.hid (HR1.out.on hb2)
         have hno : no = 2 := by have := hnums.1; simpa using this.symm
         subst hno
         obtain ⟨_, _, _, _, _, _, ccl, ccw, cce⟩ := HR2.out
         obtain ⟨b2, o2, y, hao, hb2w, hy, y0⟩ := hnums.at_ (k := 0) (by omega)
         obtain rfl : _ = y := by simpa using hy
         obtain ⟨b2', o2', y', hao', _, hy', z0⟩ := hnums.at_ (k := 1) (by omega)
         obtain rfl : _ = y' := by simpa using hy'
         rw [hao] at hao'
         obtain ⟨rfl, rfl⟩ : b2 = b2' ∧ o2 = o2' := by injection hao' with he; injection he with h1 h2 _; exact ⟨h1, h2⟩
         subst hao
         rw [Nat.add_zero] at y0
         have HZ0 := Lib.hid z0
         have HW2 := Lib.hid hb2w
         have r0 := (HB2.out.cell (p := ⟨b, off + i * 6, none⟩) hbw).trans HQ.out.1
         have r1 := (HB2.out.cell (p := ⟨b, off + i * 6 + 1, none⟩) hbw).trans HQ.out.2.1
         have r2 := (HB2.out.cell (p := ⟨b, off + i * 6 + 2, none⟩) hbw).trans HQ.out.2.2.1
         have r3 := (HB2.out.cell (p := ⟨b, off + i * 6 + 3, none⟩) hbw).trans HQ.out.2.2.2.1
         have r4 := (HB2.out.cell (p := ⟨b, off + i * 6 + 4, none⟩) hbw).trans HQ.out.2.2.2.2.1
         have r5 := (HB2.out.cell (p := ⟨b, off + i * 6 + 5, none⟩) hbw).trans HQ.out.2.2.2.2.2
         clear hb2 hnums hy hy' hao' hb2w z0 q0 q1 q2 q3 q4 q5)
      | fail)
    refine wp_loop_rounds 3 ?_
    rw [rounds_succ]
    go_wp2_with (first
      | (go_at_call 21; (with_reducible refine (CA.out _ HR2.out).mono ?_)
         rintro e w3 ⟨⟨s3, a3, n3, c3, rfl, hv, hf⟩, hb3⟩
         have HB3 := Lib.hid (below_on HB2.out hb3)
         have HS3 := Lib.hid (HS2.out.on hb3)
         have HR3 := Lib.hid (HR2.out.on hb3)
         have HV3 := Lib.hid hv
         have HF3 := Lib.hid hf
         obtain ⟨_, _, _, _, _, _, ccl, ccw, cce⟩ := HR3.out
         have HS3a := Lib.hid (HS3.out.alloc (.cells #[.int .i64 A.kind, .int .i64 A.num, .string s3, .slice a3 n3 c3] 33))
         obtain ⟨⟨d0, d1', d2', d3⟩, g0, g1, g2, g3⟩ := HS3a.out.cells
         clear hb3 hv hf)
      | fail)
    (try simp only [Exit.inBlock, Exit.then])
    refine end_pair rfl rfl rfl HS3a.out ?_
    exact PairRet.is (PairRet.flat0 (below_set (HB3.out.alloc HB3.out.size _) (Nat.le_refl _) _ _ _ _)) HG.out
  · obtain rfl := eq_of_beq he0
    cases he1 : es == 0
    · have ne1 : (es != 0) = true := by unfold bne; rw [he1]; rfl
      have HG := Lib.hid (show R = (zeroV, es) by rw [hRR, if_pos rfl, if_neg (by rw [beq_eq_false_iff_ne] at he1; exact he1)])
      clear hRR he0 he1
      go_enter Try.func21, Try.ntmps21
      go_wp2_with (first
        | (go_at_call 22; (with_reducible refine (CO.out _).mono ?_)
           rintro e w2 ⟨⟨ao, no, co, rfl, hnums, _⟩, hb2⟩
           have HB2 := Lib.hid (below_on HB.out hb2)
           have HS2 := Lib.hid (HS.out.on hb2)
           have HR2 := Lib.hid (HR1.out.on hb2)
           have hno : no = 2 := by have := hnums.1; simpa using this.symm
           subst hno
           obtain ⟨_, _, _, _, _, _, ccl, ccw, cce⟩ := HR2.out
           obtain ⟨b2, o2, y, hao, hb2w, hy, y0⟩ := hnums.at_ (k := 0) (by omega)
           obtain rfl : _ = y := by simpa using hy
           obtain ⟨b2', o2', y', hao', _, hy', z0⟩ := hnums.at_ (k := 1) (by omega)
           obtain rfl : _ = y' := by simpa using hy'
           rw [hao] at hao'
           obtain ⟨rfl, rfl⟩ : b2 = b2' ∧ o2 = o2' := by injection hao' with he; injection he with h1 h2 _; exact ⟨h1, h2⟩
           subst hao
           rw [Nat.add_zero] at y0
           have HZ0 := Lib.hid z0
           have HW2 := Lib.hid hb2w
           have r0 := (HB2.out.cell (p := ⟨b, off + i * 6, none⟩) hbw).trans HQ.out.1
           have r1 := (HB2.out.cell (p := ⟨b, off + i * 6 + 1, none⟩) hbw).trans HQ.out.2.1
           have r2 := (HB2.out.cell (p := ⟨b, off + i * 6 + 2, none⟩) hbw).trans HQ.out.2.2.1
           have r3 := (HB2.out.cell (p := ⟨b, off + i * 6 + 3, none⟩) hbw).trans HQ.out.2.2.2.1
           have r4 := (HB2.out.cell (p := ⟨b, off + i * 6 + 4, none⟩) hbw).trans HQ.out.2.2.2.2.1
           have r5 := (HB2.out.cell (p := ⟨b, off + i * 6 + 5, none⟩) hbw).trans HQ.out.2.2.2.2.2
           clear hb2 hnums hy hy' hao' hb2w z0 q0 q1 q2 q3 q4 q5)
        | fail)
      refine wp_loop_rounds 3 ?_
      rw [rounds_succ]
      go_wp2_with (first
        | (go_at_call 21; (with_reducible refine (CA.out _ HR2.out).mono ?_)
           rintro e w3 ⟨⟨s3, a3, n3, c3, rfl, hv, hf⟩, hb3⟩
           have HB3 := Lib.hid (below_on HB2.out hb3)
           have HS3 := Lib.hid (HS2.out.on hb3)
           have HR3 := Lib.hid (HR2.out.on hb3)
           have HV3 := Lib.hid hv
           have HF3 := Lib.hid hf
           obtain ⟨_, _, _, _, _, _, ccl, ccw, cce⟩ := HR3.out
           have HX23 := Lib.hid (show Below w2.heap.size w2 w3 from hb3)
           clear hb3 hv hf)
        | (at_builtin
           refine wpList_append_vals rfl (.tmp 32) (.tmp 34) rfl (.slice none 0 0) [] ⟨A.kind, A.num, s3, a3, n3, c3⟩ rfl rfl rfl (by simp) (VOwn.zero _) (by simp) ?_
           intro v' w4 ho hg hat
           have hb4 := grown_below hg
           have hbl : Below w3.heap.size w3 w4 := (((Below.refl _ w3).alloc (Nat.le_refl _) _).alloc (by simp) _).trans (hb4.mono (by simp <;> omega))
           obtain ⟨aa, cc, rfl, hvals⟩ := vals_one rfl rfl ho HV3.out hbl
           obtain ⟨ga, gcap, ecq, hga, hga2⟩ := own_at ho (by simp) hat
           obtain ⟨rfl, rfl⟩ : aa = some ⟨ga, 0, none⟩ ∧ cc = gcap := by injection ecq with h1 _ h2; exact ⟨h1, h2⟩
           have hga3 : ga = w3.heap.size + 1 + 1 := by rw [hga2]; simp
           have HO4 := Lib.hid ho
           have HGA := Lib.hid (And.intro hga hga3)
           have HN4 := Lib.hid (HV3.out.2.below hbl)
           have HB4 := Lib.hid (below_on HB3.out hbl)
           have HS4 := Lib.hid (HS3.out.on hbl)
           have HR4 := Lib.hid (HR3.out.on hbl)
           obtain ⟨_, _, _, _, _, _, ccl, ccw, cce⟩ := HR4.out
           have z1 : w4.cell? ⟨b2, o2 + 1, none⟩ = some (.int .i64 di) := ((hbl.mono HX23.out.size).cell (p := ⟨b2, o2 + 1, none⟩) HW2.out).trans ((HX23.out.cell (p := ⟨b2, o2 + 1, none⟩) HW2.out).trans HZ0.out)
           have r0 := (HB4.out.cell (p := ⟨b, off + i * 6, none⟩) hbw).trans HQ.out.1
           have r1 := (HB4.out.cell (p := ⟨b, off + i * 6 + 1, none⟩) hbw).trans HQ.out.2.1
           have r2 := (HB4.out.cell (p := ⟨b, off + i * 6 + 2, none⟩) hbw).trans HQ.out.2.2.1
           have r3 := (HB4.out.cell (p := ⟨b, off + i * 6 + 3, none⟩) hbw).trans HQ.out.2.2.2.1
           have r4 := (HB4.out.cell (p := ⟨b, off + i * 6 + 4, none⟩) hbw).trans HQ.out.2.2.2.2.1
           have r5 := (HB4.out.cell (p := ⟨b, off + i * 6 + 5, none⟩) hbw).trans HQ.out.2.2.2.2.2
           clear ho hg hb4 hbl hvals hat ecq hga hga2 hga3)
        | fail)
      rw [rounds_succ]
      go_wp2_with (first
        | (go_at_call 21; (with_reducible refine (CB.out _ HR4.out).mono ?_)
           rintro e w5 ⟨⟨s5, a5, n5, c5, rfl, hv, hf⟩, hb3⟩
           have HB5 := Lib.hid (below_on HB4.out hb3)
           have HS5 := Lib.hid (HS4.out.on hb3)
           have HR5 := Lib.hid (HR4.out.on hb3)
           have HV5 := Lib.hid hv
           have HF5 := Lib.hid hf
           obtain ⟨_, _, _, _, _, _, ccl, ccw, cce⟩ := HR5.out
           have HS5a := Lib.hid (HS5.out.alloc (.cells #[.int .i64 B.kind, .int .i64 B.num, .string s5, .slice a5 n5 c5] 33))
           obtain ⟨⟨d0, d1', d2', d3⟩, g0, g1, g2, g3⟩ := HS5a.out.cells
           clear hb3 hv hf)
        | fail)
      (try simp only [Exit.inBlock, Exit.then])
      refine end_pair rfl rfl rfl HS5a.out ?_
      exact PairRet.is (PairRet.flat0 (below_set (HB5.out.alloc HB5.out.size _) (Nat.le_refl _) _ _ _ _)) HG.out
    · obtain rfl := eq_of_beq he1
      have HG := Lib.hid (show R = twoV tk A B by rw [hRR, if_pos rfl, if_pos rfl])
      clear hRR he0 he1
      go_enter Try.func21, Try.ntmps21
      go_wp2_with (first
        | (go_at_call 22; (with_reducible refine (CO.out _).mono ?_)
           rintro e w2 ⟨⟨ao, no, co, rfl, hnums, _⟩, hb2⟩
           have HB2 := Lib.hid (below_on HB.out hb2)
           have HS2 := Lib.hid (HS.out.on hb2)
           have HR2 := Lib.hid (HR1.out.on hb2)
           have hno : no = 2 := by have := hnums.1; simpa using this.symm
           subst hno
           obtain ⟨_, _, _, _, _, _, ccl, ccw, cce⟩ := HR2.out
           obtain ⟨b2, o2, y, hao, hb2w, hy, y0⟩ := hnums.at_ (k := 0) (by omega)
           obtain rfl : _ = y := by simpa using hy
           obtain ⟨b2', o2', y', hao', _, hy', z0⟩ := hnums.at_ (k := 1) (by omega)
           obtain rfl : _ = y' := by simpa using hy'
           rw [hao] at hao'
           obtain ⟨rfl, rfl⟩ : b2 = b2' ∧ o2 = o2' := by injection hao' with he; injection he with h1 h2 _; exact ⟨h1, h2⟩
           subst hao
           rw [Nat.add_zero] at y0
           have HZ0 := Lib.hid z0
           have HW2 := Lib.hid hb2w
           have r0 := (HB2.out.cell (p := ⟨b, off + i * 6, none⟩) hbw).trans HQ.out.1
           have r1 := (HB2.out.cell (p := ⟨b, off + i * 6 + 1, none⟩) hbw).trans HQ.out.2.1
           have r2 := (HB2.out.cell (p := ⟨b, off + i * 6 + 2, none⟩) hbw).trans HQ.out.2.2.1
           have r3 := (HB2.out.cell (p := ⟨b, off + i * 6 + 3, none⟩) hbw).trans HQ.out.2.2.2.1
           have r4 := (HB2.out.cell (p := ⟨b, off + i * 6 + 4, none⟩) hbw).trans HQ.out.2.2.2.2.1
           have r5 := (HB2.out.cell (p := ⟨b, off + i * 6 + 5, none⟩) hbw).trans HQ.out.2.2.2.2.2
           clear hb2 hnums hy hy' hao' hb2w z0 q0 q1 q2 q3 q4 q5)
        | fail)
      refine wp_loop_rounds 3 ?_
      rw [rounds_succ]
      go_wp2_with (first
        | (go_at_call 21; (with_reducible refine (CA.out _ HR2.out).mono ?_)
           rintro e w3 ⟨⟨s3, a3, n3, c3, rfl, hv, hf⟩, hb3⟩
           have HB3 := Lib.hid (below_on HB2.out hb3)
           have HS3 := Lib.hid (HS2.out.on hb3)
           have HR3 := Lib.hid (HR2.out.on hb3)
           have HV3 := Lib.hid hv
           have HF3 := Lib.hid hf
           obtain ⟨_, _, _, _, _, _, ccl, ccw, cce⟩ := HR3.out
           have HX23 := Lib.hid (show Below w2.heap.size w2 w3 from hb3)
           clear hb3 hv hf)
        | (at_builtin
           refine wpList_append_vals rfl (.tmp 32) (.tmp 34) rfl (.slice none 0 0) [] ⟨A.kind, A.num, s3, a3, n3, c3⟩ rfl rfl rfl (by simp) (VOwn.zero _) (by simp) ?_
           intro v' w4 ho hg hat
           have hb4 := grown_below hg
           have hbl : Below w3.heap.size w3 w4 := (((Below.refl _ w3).alloc (Nat.le_refl _) _).alloc (by simp) _).trans (hb4.mono (by simp <;> omega))
           obtain ⟨aa, cc, rfl, hvals⟩ := vals_one rfl rfl ho HV3.out hbl
           obtain ⟨ga, gcap, ecq, hga, hga2⟩ := own_at ho (by simp) hat
           obtain ⟨rfl, rfl⟩ : aa = some ⟨ga, 0, none⟩ ∧ cc = gcap := by injection ecq with h1 _ h2; exact ⟨h1, h2⟩
           have hga3 : ga = w3.heap.size + 1 + 1 := by rw [hga2]; simp
           have HO4 := Lib.hid ho
           have HGA := Lib.hid (And.intro hga hga3)
           have HN4 := Lib.hid (HV3.out.2.below hbl)
           have HB4 := Lib.hid (below_on HB3.out hbl)
           have HS4 := Lib.hid (HS3.out.on hbl)
           have HR4 := Lib.hid (HR3.out.on hbl)
           obtain ⟨_, _, _, _, _, _, ccl, ccw, cce⟩ := HR4.out
           have z1 : w4.cell? ⟨b2, o2 + 1, none⟩ = some (.int .i64 di) := ((hbl.mono HX23.out.size).cell (p := ⟨b2, o2 + 1, none⟩) HW2.out).trans ((HX23.out.cell (p := ⟨b2, o2 + 1, none⟩) HW2.out).trans HZ0.out)
           have r0 := (HB4.out.cell (p := ⟨b, off + i * 6, none⟩) hbw).trans HQ.out.1
           have r1 := (HB4.out.cell (p := ⟨b, off + i * 6 + 1, none⟩) hbw).trans HQ.out.2.1
           have r2 := (HB4.out.cell (p := ⟨b, off + i * 6 + 2, none⟩) hbw).trans HQ.out.2.2.1
           have r3 := (HB4.out.cell (p := ⟨b, off + i * 6 + 3, none⟩) hbw).trans HQ.out.2.2.2.1
           have r4 := (HB4.out.cell (p := ⟨b, off + i * 6 + 4, none⟩) hbw).trans HQ.out.2.2.2.2.1
           have r5 := (HB4.out.cell (p := ⟨b, off + i * 6 + 5, none⟩) hbw).trans HQ.out.2.2.2.2.2
           clear ho hg hb4 hbl hvals hat ecq hga hga2 hga3)
        | fail)
      rw [rounds_succ]
      go_wp2_with (first
        | (go_at_call 21; (with_reducible refine (CB.out _ HR4.out).mono ?_)
           rintro e w5 ⟨⟨s5, a5, n5, c5, rfl, hv, hf⟩, hb3⟩
           have HB5 := Lib.hid (below_on HB4.out hb3)
           have HS5 := Lib.hid (HS4.out.on hb3)
           have HR5 := Lib.hid (HR4.out.on hb3)
           have HV5 := Lib.hid hv
           have HF5 := Lib.hid hf
           obtain ⟨_, _, _, _, _, _, ccl, ccw, cce⟩ := HR5.out
           have HO5 := Lib.hid (HO4.out.kept hb3)
           have HL45 := Lib.hid hb3.size
           have HN5 := Lib.hid (HN4.out.below (hb3.mono (by have := HGA.out.2; have := HGA.out.1; omega)))
           have HG3 := Lib.hid (show w3.heap.size ≤ ga ∧ ga < w5.heap.size from ⟨by have := HGA.out.2; omega, by have := HGA.out.1; have := hb3.size; omega⟩)
           have HWG := Lib.hid (show w.heap.size < ga by have := HGA.out.2; have := HS3.out.lt; omega)
           clear hb3 hv hf)
        | (at_builtin
           refine wpList_append_vals rfl (.tmp 32) (.tmp 34) rfl (.slice (some ⟨ga, 0, none⟩) 1 cc) [⟨A.kind, A.num, s3, a3, n3, c3⟩] ⟨B.kind, B.num, s5, a5, n5, c5⟩ rfl rfl rfl (by simp) (HO5.out.kept ((Below.refl _ w5).alloc (Nat.le_refl _) _)) (by simp) ?_
           intro v' w6 ho hg _
           have hb6 := grown_beside hg
           have hlow : ga < w4.heap.size := HGA.out.1
           have hl45 := HL45.out
           have h05 : Below w5.heap.size w5 ((w5.alloc (.cells #[.int .i64 B.kind, .int .i64 B.num, .string s5, .slice a5 n5 c5] 33)).alloc (.cells #[.int .i64 B.kind, .int .i64 B.num, .string s5, .slice a5 n5 c5] 33)) := ((Below.refl _ w5).alloc (Nat.le_refl _) _).alloc (by simp) _
           have hbes : Beside ga w5 w6 := (Beside.of_below h05).trans hb6
           have hNA : Nums w6 w6.heap.size a3 n3 A.list := ((HN5.out).keep (fun p hp => hbes.cell (by have := HG3.out; omega) (by have := HG3.out; omega))).more (by have := hbes.size; have := HG3.out; omega)
           have hNB : Nums w6 w6.heap.size a5 n5 B.list := HV5.out.2.beside_from HF5.out hbes hlow
           obtain ⟨aa, cc', rfl, hvals⟩ := vals_two rfl rfl rfl rfl ho ⟨HV3.out.1, hNA⟩ ⟨HV5.out.1, hNB⟩
           have HVL := Lib.hid hvals
           have hwg : w.heap.size < ga := HWG.out
           have HB6 := Lib.hid (HB5.out.trans (hbes.below (B := w.heap.size) (by omega) HB5.out.size))
           have HS6 := Lib.hid (HS5.out.beside hbes (by omega))
           have HR6 := Lib.hid (HR5.out.beside hbes (by omega) (by omega) (by omega) (by omega))
           obtain ⟨_, _, _, _, _, _, ccl, ccw, cce⟩ := HR6.out
           have r0 := (HB6.out.cell (p := ⟨b, off + i * 6, none⟩) hbw).trans HQ.out.1
           have r1 := (HB6.out.cell (p := ⟨b, off + i * 6 + 1, none⟩) hbw).trans HQ.out.2.1
           have r2 := (HB6.out.cell (p := ⟨b, off + i * 6 + 2, none⟩) hbw).trans HQ.out.2.2.1
           have r3 := (HB6.out.cell (p := ⟨b, off + i * 6 + 3, none⟩) hbw).trans HQ.out.2.2.2.1
           have r4 := (HB6.out.cell (p := ⟨b, off + i * 6 + 4, none⟩) hbw).trans HQ.out.2.2.2.2.1
           have r5 := (HB6.out.cell (p := ⟨b, off + i * 6 + 5, none⟩) hbw).trans HQ.out.2.2.2.2.2
           clear ho hg hb6 hbes h05 hNA hNB hvals)
        | fail)
      rw [rounds_succ]
      go_wp2
      go_region_held3 (fun W => (W.cell? ⟨cl, 0, none⟩ = some (.slice (some ⟨b, off, none⟩) ln lc) ∧ W.cell? ⟨ce, 0, none⟩ = some (.slice ea en ec)) ∧ W.cell? ⟨b, off + i * 6, none⟩ = some (.int .i64 tk) ∧ W.cell? ⟨b, off + i * 6 + 1, none⟩ = some (.string nm) ∧ W.cell? ⟨b, off + i * 6 + 2, none⟩ = some (.int .i64 tn) ∧ W.cell? ⟨b, off + i * 6 + 3, none⟩ = some (.string tx) ∧ W.cell? ⟨b, off + i * 6 + 4, none⟩ = some (.int .i64 (ci : Int)) ∧ W.cell? ⟨b, off + i * 6 + 5, none⟩ = some (.int .i64 (di : Int))) (first | exact ⟨⟨ccl, cce⟩, r0, r1, r2, r3, r4, r5⟩ | exact ⟨⟨(set_keep hnel _ _ _ _).trans ccl, (set_keep hnee _ _ _ _).trans cce⟩, (set_keep hne _ _ _ _).trans r0, (set_keep hne _ _ _ _).trans r1, (set_keep hne _ _ _ _).trans r2, (set_keep hne _ _ _ _).trans r3, (set_keep hne _ _ _ _).trans r4, (set_keep hne _ _ _ _).trans r5⟩) (first
        | (go_at_call 23; (with_reducible refine (CV.out _ _ A B _ ?_ ?_ ?_).mono ?_)
           · exact HMA.out
           · exact HMB.out
           · exact HVL.out
           rintro e wn ⟨⟨s', a', n', c', rfl, hv, hf⟩, hbn⟩
           have HSn := Lib.hid (HS6.out.on (W' := wn) ⟨hbn.os, hbn.tape, hbn.output, hbn.size, hbn.block⟩)
           have HBn := Lib.hid (show Below w.heap.size w wn from below_on HB6.out ⟨hbn.os, hbn.tape, hbn.output, hbn.size, hbn.block⟩)
           have HRn := Lib.hid (HR6.out.on (W' := wn) ⟨hbn.os, hbn.tape, hbn.output, hbn.size, hbn.block⟩)
           have HVn := Lib.hid hv
           have HFn := Lib.hid (show From w6.heap.size a' n' from hf)
           obtain ⟨_, _, _, _, _, _, ccl, ccw, cce⟩ := HRn.out
           have r0 := (HBn.out.cell (p := ⟨b, off + i * 6, none⟩) hbw).trans HQ.out.1
           have r1 := (HBn.out.cell (p := ⟨b, off + i * 6 + 1, none⟩) hbw).trans HQ.out.2.1
           have r2 := (HBn.out.cell (p := ⟨b, off + i * 6 + 2, none⟩) hbw).trans HQ.out.2.2.1
           have r3 := (HBn.out.cell (p := ⟨b, off + i * 6 + 3, none⟩) hbw).trans HQ.out.2.2.2.1
           have r4 := (HBn.out.cell (p := ⟨b, off + i * 6 + 4, none⟩) hbw).trans HQ.out.2.2.2.2.1
           have r5 := (HBn.out.cell (p := ⟨b, off + i * 6 + 5, none⟩) hbw).trans HQ.out.2.2.2.2.2
           obtain ⟨⟨d0, d1', d2', d3⟩, g0, g1, g2, g3⟩ := HSn.out.cells
           clear hbn hv hf)
        | fail)
      all_goals go_wp2
      all_goals (try simp only [Exit.inBlock, Exit.then])
      all_goals refine end_pair rfl rfl rfl HSn.out ?_
      all_goals exact PairRet.is (PairRet.of_set HBn.out (Nat.le_refl _) HS6.out.lt HVn.out HFn.out) HG.out
end Go.Proofs.Ythbakfceaaaamaa
