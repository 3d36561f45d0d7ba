/- Contract of the program's evalTerm: terms of two operands. -/
import Derived.Test.YthbakfceaaaamaaTmOne
namespace Go.Proofs.Ythbakfceaaaamaa
open Go.RowKit

theorem kind2 {k : Int} (h : arT k = 2) (h1 : 0 ≤ k) (h2 : k ≤ 19) : k = 11 ∨ (k = 13 ∨ k = 14) ∨ (k = 17 ∨ k = 18) ∨ k = 19 ∨ (k = 6 ∨ k = 7 ∨ k = 8 ∨ k = 9 ∨ k = 10 ∨ k = 12) := by
  unfold arT at h
  split at h
  · cases h
  · split at h
    · cases h
    · omega
set_option maxHeartbeats 4000000 in
theorem evalTwo_any (k : Int) (nm : ByteArray) (x : Int) (tx : ByteArray) (l r : Int) (a' : Option Addr) (c' : Nat) (A B : Val) (ea : Option Addr) (en ec : Nat) (w : World) (bound : Nat) (hb : bound ≤ w.heap.size) (h : Vals w bound a' 2 [A, B]) (hmA : mayV A = true) (hmB : mayV B = true) (hk2 : arT k = 2) (hk0 : 0 ≤ k) (hk19 : k ≤ 19) :
    Calls Try.prog 23 #[.agg #[.int .i64 k, .string nm, .int .i64 x, .string tx, .int .i64 l, .int .i64 r], .slice a' 2 c', .slice ea en ec] w (PairRet w (twoV k A B)) := by
  have HB := Lib.hid (((Below.refl w.heap.size w).alloc (Nat.le_refl _) (.cells #[.int .i64 k, .string nm, .int .i64 x, .string tx, .int .i64 l, .int .i64 r] 49)).alloc (by simp) (.cells #[.int .i64 0, .int .i64 0, .string ⟨#[]⟩, .slice none 0 0] 33))
  have HS := Lib.hid (Slot.boxed1 w #[.int .i64 k, .string nm, .int .i64 x, .string tx, .int .i64 l, .int .i64 r])
  have HT := Lib.hid (show BoxT ((w.alloc (.cells #[.int .i64 k, .string nm, .int .i64 x, .string tx, .int .i64 l, .int .i64 r] 49)).alloc (.cells #[.int .i64 0, .int .i64 0, .string ⟨#[]⟩, .slice none 0 0] 33)) w.heap.size k nm x tx l r from (BoxT.new w k nm x tx l r).on ((Below.refl _ _).alloc (Nat.le_refl _) _))
  have hR : w.heap.size ≤ w.heap.size + 1 := by omega
  have HRR := Lib.hid hR
  clear hR
  have HV := Lib.hid h
  have hkk := kind2 hk2 hk0 hk19
  have cf := fit2_any k a' c' A B ((w.alloc (.cells #[.int .i64 k, .string nm, .int .i64 x, .string tx, .int .i64 l, .int .i64 r] 49)).alloc (.cells #[.int .i64 0, .int .i64 0, .string ⟨#[]⟩, .slice none 0 0] 33)) bound (by simp <;> omega) (h.alloc hb HB.out) hkk
  have e0 : (k == 0) = false := by rw [beq_eq_false_iff_ne]; omega
  have e1 : (k == 1) = false := by rw [beq_eq_false_iff_ne]; omega
  have e2 : (k == 2) = false := by rw [beq_eq_false_iff_ne]; omega
  have e3 : (k == 3) = false := by rw [beq_eq_false_iff_ne]; omega
  have e4 : (k == 4) = false := by rw [beq_eq_false_iff_ne]; omega
  have e5 : (k == 5) = false := by rw [beq_eq_false_iff_ne]; omega
  have e15 : (k == 15) = false := by rw [beq_eq_false_iff_ne]; omega
  have e16 : (k == 16) = false := by rw [beq_eq_false_iff_ne]; omega
  cases hf : fitsV k A B
  · rw [hf] at cf
    have HG := Lib.hid (twoV_fit hf)
    generalize twoV k A B = R at HG ⊢
    have CF := Lib.hid cf
    clear cf h hf hmA hmB hk2 hk0 hk19 hkk
    go_enter Try.func23, Try.ntmps23
    go_wp2_with (first
        | (go_at_call 42; (with_reducible refine CF.out.mono ?_)
           rintro e w1 ⟨rfl, hb1⟩
           have HS1 := Lib.hid (HS.out.on hb1)
           have HB1 := Lib.hid (below_on HB.out hb1)
           obtain ⟨⟨c0, c1', c2', c3⟩, f0, f1, f2, f3⟩ := HS1.out.cells
           obtain ⟨t0, t1, t2, t3, t4, t5, t6⟩ := HT.out.on hb1
           clear hb1)
        | fail)
    (try simp only [Exit.inBlock, Exit.then])
    refine end_pair rfl rfl rfl HS1.out ?_
    exact PairRet.is (PairRet.flat0 (below_set HB1.out HRR.out _ _ _ _)) HG.out
  · rw [hf] at cf
    obtain ⟨b, off, v0, s0, la0, ln0, lc0, rfl, hbb, hv0, qz, hst0, hnn0⟩ := h.at_ (k := 0) (by omega)
    obtain ⟨b', off', v1, s1, la1, ln1, lc1, he, _, hv1, rz, hst1, hnn1⟩ := h.at_ (k := 1) (by omega)
    obtain ⟨rfl, rfl⟩ : b = b' ∧ off = off' := by injection he with he; injection he with h1 h2 _; exact ⟨h1, h2⟩
    obtain rfl : A = v0 := by simpa using hv0
    obtain rfl : B = v1 := by simpa using hv1
    rw [Nat.zero_mul, Nat.add_zero] at qz
    rw [Nat.one_mul] at rz
    have hbw : b < w.heap.size := by omega
    have hne : b ≠ w.heap.size + 1 := by omega
    have hne2 : w.heap.size ≠ w.heap.size + 1 := by omega
    have hs24 : ∀ {v : Val} {s : ByteArray}, mayV v = true → v.kind = 3 → s.toList = v.text → s.size ≤ 24 := fun {v s} h1 h2 h3 => by
      have h4 := lxLen s
      rw [h3] at h4
      have := (mayV_text_list h1 h2).2
      omega
    have hcond : (k = 6 ∨ k = 7 ∨ k = 8 ∨ k = 9 ∨ k = 10) ∨ (k = 11 ∨ k = 12 ∨ k = 13 ∨ k = 14) ∨ k = 17 ∨ (k = 18 ∧ ln0 ≤ 900) ∨ (k = 19 ∧ s0.size ≤ 24 ∧ s1.size ≤ 24) := by
      by_cases k18 : k = 18
      · refine .inr (.inr (.inr (.inl ⟨k18, ?_⟩)))
        have := mayV_len hmA
        have := hnn0.1
        omega
      by_cases k19 : k = 19
      · subst k19
        have hff : (A.kind == 3 && B.kind == 3) = true := hf
        simp at hff
        exact .inr (.inr (.inr (.inr ⟨rfl, hs24 hmA hff.1 hst0, hs24 hmB hff.2 hst1⟩)))
      omega
    obtain ⟨vk, hvk⟩ : ∃ vk, vk = A.kind := ⟨_, rfl⟩
    obtain ⟨vn, hvn⟩ : ∃ vn, vn = A.num := ⟨_, rfl⟩
    obtain ⟨uk, huk⟩ : ∃ uk, uk = B.kind := ⟨_, rfl⟩
    obtain ⟨un, hun⟩ : ∃ un, un = B.num := ⟨_, rfl⟩
    obtain ⟨R, hR⟩ : ∃ R, R = twoV k A B := ⟨_, rfl⟩
    have hR2 : R = combV k ⟨vk, vn, s0.toList, A.list⟩ ⟨uk, un, s1.toList, B.list⟩ := by rw [hR, twoV_comb hf, hvk, hvn, huk, hun, hst0, hst1]
    have cc := fun W (hW : Below w.heap.size w W) => combine_any k vk vn s0 la0 ln0 lc0 A.list uk un s1 la1 ln1 lc1 B.list W bound (by have := hW.size; omega) (hnn0.below (hW.mono hb)) (hnn1.below (hW.mono hb)) hcond
    rw [← hR2] at cc
    rw [← hR]
    rw [← hvk, ← hvn] at qz
    rw [← huk, ← hun] at rz
    have CC := Lib.hid cc
    have CF := Lib.hid cf
    have HQ := Lib.hid qz
    have HZ := Lib.hid rz
    clear cf cc h hf hmA hmB hk2 hk0 hk19 hkk hcond hs24 hR hR2 hvk hvn huk hun hv0 hv1 he qz rz hst0 hst1 hnn0 hnn1
    go_enter Try.func23, Try.ntmps23
    go_wp2_with (first
        | (go_at_call 42; (with_reducible refine CF.out.mono ?_)
           rintro e w1 ⟨rfl, hb1⟩
           have HS1 := Lib.hid (HS.out.on hb1)
           have HB1 := Lib.hid (below_on HB.out hb1)
           have HT1 := Lib.hid (HT.out.on hb1)
           obtain ⟨t0, t1, t2, t3, t4, t5, t6⟩ := HT1.out
           have q0 := (HB1.out.cell (p := ⟨b, off, none⟩) hbw).trans HQ.out.1
           have q1 := (HB1.out.cell (p := ⟨b, off + 1, none⟩) hbw).trans HQ.out.2.1
           have q2 := (HB1.out.cell (p := ⟨b, off + 2, none⟩) hbw).trans HQ.out.2.2.1
           have q3 := (HB1.out.cell (p := ⟨b, off + 3, none⟩) hbw).trans HQ.out.2.2.2
           have r0 := (HB1.out.cell (p := ⟨b, off + 4, none⟩) hbw).trans HZ.out.1
           have r1 := (HB1.out.cell (p := ⟨b, off + 4 + 1, none⟩) hbw).trans HZ.out.2.1
           have r2 := (HB1.out.cell (p := ⟨b, off + 4 + 2, none⟩) hbw).trans HZ.out.2.2.1
           have r3 := (HB1.out.cell (p := ⟨b, off + 4 + 3, none⟩) hbw).trans HZ.out.2.2.2
           clear hb1)
        | fail)
    go_region_held3 (fun W => (W.cell? ⟨w.heap.size, 0, none⟩ = some (.int .i64 k) ∧ W.cell? ⟨b, off, none⟩ = some (.int .i64 vk) ∧ W.cell? ⟨b, off + 1, none⟩ = some (.int .i64 vn) ∧ W.cell? ⟨b, off + 2, none⟩ = some (.string s0) ∧ W.cell? ⟨b, off + 3, none⟩ = some (.slice la0 ln0 lc0)) ∧ W.cell? ⟨b, off + 4, none⟩ = some (.int .i64 uk) ∧ W.cell? ⟨b, off + 4 + 1, none⟩ = some (.int .i64 un) ∧ W.cell? ⟨b, off + 4 + 2, none⟩ = some (.string s1) ∧ W.cell? ⟨b, off + 4 + 3, none⟩ = some (.slice la1 ln1 lc1)) (first | exact ⟨⟨t1, q0, q1, q2, q3⟩, r0, r1, r2, r3⟩ | exact ⟨⟨(set_keep hne2 _ _ _ _).trans t1, (set_keep hne _ _ _ _).trans q0, (set_keep hne _ _ _ _).trans q1, (set_keep hne _ _ _ _).trans q2, (set_keep hne _ _ _ _).trans q3⟩, (set_keep hne _ _ _ _).trans r0, (set_keep hne _ _ _ _).trans r1, (set_keep hne _ _ _ _).trans r2, (set_keep hne _ _ _ _).trans r3⟩) (first
      | (go_at_call 43; (with_reducible refine (CC.out _ ?_).mono ?_)
         · first | exact HB1.out | exact HB1.out.drew | exact below_drewN HB1.out _
         rintro e wn ⟨⟨s', a2, n2, c2, rfl, hv, hf⟩, hbn⟩
         have HS2 := Lib.hid (HS1.out.on (W' := wn) ⟨hbn.os, hbn.tape, hbn.output, hbn.size, hbn.block⟩)
         have HB2 := Lib.hid (show Below w.heap.size w wn from below_on HB1.out ⟨hbn.os, hbn.tape, hbn.output, hbn.size, hbn.block⟩)
         have HV2 := Lib.hid hv
         have HF2 := Lib.hid (show From w1.heap.size a2 n2 from hf)
         have t1 := (HT1.out.on (W' := wn) ⟨hbn.os, hbn.tape, hbn.output, hbn.size, hbn.block⟩).2.1
         have q0 := (HB2.out.cell (p := ⟨b, off, none⟩) hbw).trans HQ.out.1
         have q1 := (HB2.out.cell (p := ⟨b, off + 1, none⟩) hbw).trans HQ.out.2.1
         have q2 := (HB2.out.cell (p := ⟨b, off + 2, none⟩) hbw).trans HQ.out.2.2.1
         have q3 := (HB2.out.cell (p := ⟨b, off + 3, none⟩) hbw).trans HQ.out.2.2.2
         have r0 := (HB2.out.cell (p := ⟨b, off + 4, none⟩) hbw).trans HZ.out.1
         have r1 := (HB2.out.cell (p := ⟨b, off + 4 + 1, none⟩) hbw).trans HZ.out.2.1
         have r2 := (HB2.out.cell (p := ⟨b, off + 4 + 2, none⟩) hbw).trans HZ.out.2.2.1
         have r3 := (HB2.out.cell (p := ⟨b, off + 4 + 3, none⟩) hbw).trans HZ.out.2.2.2
         obtain ⟨⟨d0, d1', d2', d3⟩, g0, g1, g2, g3⟩ := HS2.out.cells
         clear hbn hv hf)
      | fail)
    all_goals go_wp2
    all_goals (try simp only [Exit.inBlock, Exit.then])
    all_goals refine end_pair rfl rfl rfl HS2.out ?_
    all_goals exact PairRet.of_set HB2.out HRR.out HS1.out.lt HV2.out HF2.out
end Go.Proofs.Ythbakfceaaaamaa
