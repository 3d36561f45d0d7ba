/- Contracts of the program's evalTerm: terms of one operand, of two. -/
import Derived.Test.YthbakfceaaaamaaTmLeafs
import Derived.Test.YthbakfceaaaamaaTmEq
namespace Go.Proofs.Ythbakfceaaaamaa
open Go.RowKit

theorem oneV_fit {k : Int} {A : Val} (hk : k = 15 ∨ k = 16) (h : fit1V k A = false) : oneV k A = (zeroV, 402) := by
  unfold fit1V at h
  unfold oneV
  rcases hk with rfl | rfl
  · simp at h; simp [h]
  · simp at h; simp [h]
theorem twoV_fit {k : Int} {A B : Val} (h : fitsV k A B = false) : twoV k A B = (zeroV, 402) := by
  unfold twoV; rw [h]; rfl
theorem twoV_comb {k : Int} {A B : Val} (h : fitsV k A B = true) : twoV k A B = combV k A B := by
  unfold twoV; rw [if_pos h]

set_option maxHeartbeats 4000000 in
theorem evalOne15_any (nm : ByteArray) (x : Int) (tx : ByteArray) (l r : Int) (a' : Option Addr) (c' : Nat) (A : Val) (ea : Option Addr) (en ec : Nat) (w : World) (bound : Nat) (hb : bound ≤ w.heap.size) (h : Vals w bound a' 1 [A]) :
    Calls Try.prog 23 #[.agg #[.int .i64 15, .string nm, .int .i64 x, .string tx, .int .i64 l, .int .i64 r], .slice a' 1 c', .slice ea en ec] w (PairRet w (oneV 15 A)) := by
  have HB := Lib.hid (((Below.refl w.heap.size w).alloc (Nat.le_refl _) (.cells #[.int .i64 15, .string nm, .int .i64 x, .string tx, .int .i64 l, .int .i64 r] 49)).alloc (by simp) (.cells #[.int .i64 0, .int .i64 0, .string ⟨#[]⟩, .slice none 0 0] 33))
  have HS := Lib.hid (Slot.boxed1 w #[.int .i64 15, .string nm, .int .i64 x, .string tx, .int .i64 l, .int .i64 r])
  have HT := Lib.hid (show BoxT ((w.alloc (.cells #[.int .i64 15, .string nm, .int .i64 x, .string tx, .int .i64 l, .int .i64 r] 49)).alloc (.cells #[.int .i64 0, .int .i64 0, .string ⟨#[]⟩, .slice none 0 0] 33)) w.heap.size 15 nm x tx l r from (BoxT.new w 15 nm x tx l r).on ((Below.refl _ _).alloc (Nat.le_refl _) _))
  have hR : w.heap.size ≤ w.heap.size + 1 := by omega
  have HRR := Lib.hid hR
  clear hR
  have HV := Lib.hid h
  have cf := fit1_any 15 a' c' A ((w.alloc (.cells #[.int .i64 15, .string nm, .int .i64 x, .string tx, .int .i64 l, .int .i64 r] 49)).alloc (.cells #[.int .i64 0, .int .i64 0, .string ⟨#[]⟩, .slice none 0 0] 33)) bound (by simp <;> omega) (h.alloc hb HB.out) (by omega)
  cases hf : fit1V 15 A
  · rw [hf] at cf
    have HG := Lib.hid (oneV_fit (by omega) hf)
    generalize oneV 15 A = R at HG ⊢
    have CF := Lib.hid cf
    clear cf h hf
    go_enter Try.func23, Try.ntmps23
    go_wp2_with (first
        | (go_at_call 42; (with_reducible refine CF.out.mono ?_)
           rintro e w1 ⟨rfl, hb1⟩
           have HS1 := Lib.hid (HS.out.on hb1)
           have HB1 := Lib.hid (below_on HB.out hb1)
           have HT1 := Lib.hid (HT.out.on hb1)
           have HV1 := Lib.hid (HV.out.alloc hb HB1.out)
           obtain ⟨⟨c0, c1', c2', c3⟩, f0, f1, f2, f3⟩ := HS1.out.cells
           obtain ⟨t0, t1, t2, t3, t4, t5, t6⟩ := HT1.out
           clear hb1)
        | fail)
    (try simp only [Exit.inBlock, Exit.then])
    refine end_pair rfl rfl rfl HS1.out ?_
    exact PairRet.is (PairRet.flat0 (below_set HB1.out HRR.out _ _ _ _)) HG.out
  · rw [hf] at cf
    obtain ⟨b, off, v0, s0, la0, ln0, lc0, rfl, hbb, hv0, qz, hst, hnn⟩ := h.at_ (k := 0) (by omega)
    obtain rfl : A = v0 := by simpa using hv0
    rw [Nat.zero_mul, Nat.add_zero] at qz
    have hbw : b < w.heap.size := by omega
    obtain ⟨vk, hvk⟩ : ∃ vk, vk = A.kind := ⟨_, rfl⟩
    obtain ⟨vn, hvn⟩ : ∃ vn, vn = A.num := ⟨_, rfl⟩
    have HG := Lib.hid (show oneV 15 A = (boolV (vn == 0), 0) by
      unfold fit1V at hf
      simp at hf
      rw [hvn]
      unfold oneV
      simp [hf])
    rw [← hvk, ← hvn] at qz
    generalize oneV 15 A = R at HG ⊢
    have CT := Lib.hid (fun W => truth_any (vn == 0) W)
    obtain ⟨v, hv⟩ : ∃ v : Int, v = (if (vn == 0) = true then 1 else 0) := ⟨_, rfl⟩
    rw [← hv] at CT
    have HG := Lib.hid (show R = (⟨2, v, [], []⟩, 0) by rw [HG.out, hv]; rfl)
    have CF := Lib.hid cf
    have HQ := Lib.hid qz
    clear cf h hf hv hvk hvn hv0 qz hst hnn
    go_enter Try.func23, Try.ntmps23
    go_wp2_with (first
        | (go_at_call 42; (with_reducible refine CF.out.mono ?_)
           rintro e w1 ⟨rfl, hb1⟩
           have HS1 := Lib.hid (HS.out.on hb1)
           have HB1 := Lib.hid (below_on HB.out hb1)
           have HT1 := Lib.hid (HT.out.on hb1)
           have HV1 := Lib.hid (HV.out.alloc hb HB1.out)
           obtain ⟨⟨c0, c1', c2', c3⟩, f0, f1, f2, f3⟩ := HS1.out.cells
           obtain ⟨t0, t1, t2, t3, t4, t5, t6⟩ := HT1.out
           have qz := HQ.out
           have q0 := (HB1.out.cell (p := ⟨b, off, none⟩) hbw).trans qz.1
           have q1 := (HB1.out.cell (p := ⟨b, off + 1, none⟩) hbw).trans qz.2.1
           have q2 := (HB1.out.cell (p := ⟨b, off + 2, none⟩) hbw).trans qz.2.2.1
           have q3 := (HB1.out.cell (p := ⟨b, off + 3, none⟩) hbw).trans qz.2.2.2
           clear qz
           clear hb1)
        | (go_at_call 39; (with_reducible refine (CT.out _).mono ?_)
           rintro e w2 ⟨rfl, hb2⟩
           have HS2 := Lib.hid (HS1.out.on hb2)
           have HB2 := Lib.hid (below_on HB1.out hb2)
           obtain ⟨⟨d0, d1', d2', d3⟩, e0, e1, e2, e3⟩ := HS2.out.cells
           clear hb2)
        | fail)
    (try simp only [Exit.inBlock, Exit.then])
    refine end_pair rfl rfl rfl HS2.out ?_
    exact PairRet.is (PairRet.flat0 (below_set HB2.out HRR.out _ _ _ _)) HG.out
set_option maxHeartbeats 4000000 in
theorem evalOne16_any (nm : ByteArray) (x : Int) (tx : ByteArray) (l r : Int) (a' : Option Addr) (c' : Nat) (A : Val) (ea : Option Addr) (en ec : Nat) (w : World) (bound : Nat) (hb : bound ≤ w.heap.size) (h : Vals w bound a' 1 [A]) (hm : mayV A = true) :
    Calls Try.prog 23 #[.agg #[.int .i64 16, .string nm, .int .i64 x, .string tx, .int .i64 l, .int .i64 r], .slice a' 1 c', .slice ea en ec] w (PairRet w (oneV 16 A)) := by
  have HB := Lib.hid (((Below.refl w.heap.size w).alloc (Nat.le_refl _) (.cells #[.int .i64 16, .string nm, .int .i64 x, .string tx, .int .i64 l, .int .i64 r] 49)).alloc (by simp) (.cells #[.int .i64 0, .int .i64 0, .string ⟨#[]⟩, .slice none 0 0] 33))
  have HS := Lib.hid (Slot.boxed1 w #[.int .i64 16, .string nm, .int .i64 x, .string tx, .int .i64 l, .int .i64 r])
  have HT := Lib.hid (show BoxT ((w.alloc (.cells #[.int .i64 16, .string nm, .int .i64 x, .string tx, .int .i64 l, .int .i64 r] 49)).alloc (.cells #[.int .i64 0, .int .i64 0, .string ⟨#[]⟩, .slice none 0 0] 33)) w.heap.size 16 nm x tx l r from (BoxT.new w 16 nm x tx l r).on ((Below.refl _ _).alloc (Nat.le_refl _) _))
  have hR : w.heap.size ≤ w.heap.size + 1 := by omega
  have HRR := Lib.hid hR
  clear hR
  have HV := Lib.hid h
  have cf := fit1_any 16 a' c' A ((w.alloc (.cells #[.int .i64 16, .string nm, .int .i64 x, .string tx, .int .i64 l, .int .i64 r] 49)).alloc (.cells #[.int .i64 0, .int .i64 0, .string ⟨#[]⟩, .slice none 0 0] 33)) bound (by simp <;> omega) (h.alloc hb HB.out) (by omega)
  cases hf : fit1V 16 A
  · rw [hf] at cf
    have HG := Lib.hid (oneV_fit (by omega) hf)
    generalize oneV 16 A = R at HG ⊢
    have CF := Lib.hid cf
    clear cf h hf
    go_enter Try.func23, Try.ntmps23
    go_wp2_with (first
        | (go_at_call 42; (with_reducible refine CF.out.mono ?_)
           rintro e w1 ⟨rfl, hb1⟩
           have HS1 := Lib.hid (HS.out.on hb1)
           have HB1 := Lib.hid (below_on HB.out hb1)
           have HT1 := Lib.hid (HT.out.on hb1)
           have HV1 := Lib.hid (HV.out.alloc hb HB1.out)
           obtain ⟨⟨c0, c1', c2', c3⟩, f0, f1, f2, f3⟩ := HS1.out.cells
           obtain ⟨t0, t1, t2, t3, t4, t5, t6⟩ := HT1.out
           clear hb1)
        | fail)
    (try simp only [Exit.inBlock, Exit.then])
    refine end_pair rfl rfl rfl HS1.out ?_
    exact PairRet.is (PairRet.flat0 (below_set HB1.out HRR.out _ _ _ _)) HG.out
  · rw [hf] at cf
    obtain ⟨b, off, v0, s0, la0, ln0, lc0, rfl, hbb, hv0, qz, hst, hnn⟩ := h.at_ (k := 0) (by omega)
    obtain rfl : A = v0 := by simpa using hv0
    rw [Nat.zero_mul, Nat.add_zero] at qz
    have hbw : b < w.heap.size := by omega
    have hne : b ≠ w.heap.size + 1 := by omega
    obtain ⟨vk, hvk⟩ : ∃ vk, vk = A.kind := ⟨_, rfl⟩
    obtain ⟨vn, hvn⟩ : ∃ vn, vn = A.num := ⟨_, rfl⟩
    have hs24 : s0.size ≤ 24 := by
      have h2 := lxLen s0
      rw [hst] at h2
      unfold fit1V at hf
      simp at hf
      rcases hf with hf | hf
      · have := (mayV_text_list hm hf).2; omega
      · have := (mayV_list_text hm hf).1; rw [this] at h2; simp at h2; omega
    have hl16 : ln0 ≤ 16 := by have := mayV_len hm; have := hnn.1; omega
    have hwr : IntKind.i64.wrap ((s0.size : Int) + (ln0 : Int)) = (s0.size : Int) + (ln0 : Int) := by rw [IntKind.wrap_i64]; omega
    have HG := Lib.hid (show oneV 16 A = (⟨1, IntKind.i64.wrap ((s0.size : Int) + (ln0 : Int)), [], []⟩, 0) by
      rw [hwr]
      unfold fit1V at hf
      simp at hf
      have h1 := hnn.1
      have h2 := lxLen s0
      rw [hst] at h2
      show oneV 16 A = (intV _, 0)
      unfold oneV
      rcases hf with hf | hf
      · obtain ⟨e1, _⟩ := mayV_text_list hm hf
        rw [e1] at h1
        simp [hf]
        have : ln0 = 0 := by simpa using h1.symm
        rw [this, ← h2]; simp
      · obtain ⟨e1, _⟩ := mayV_list_text hm hf
        rw [e1] at h2
        simp [hf]
        have : s0.size = 0 := by simpa using h2.symm
        rw [this, h1]; simp)
    rw [← hvk, ← hvn] at qz
    generalize oneV 16 A = R at HG ⊢
    have CF := Lib.hid cf
    have HQ := Lib.hid qz
    clear cf h hf hvk hvn hv0 qz hst hnn hm hwr
    go_enter Try.func23, Try.ntmps23
    go_wp2_with (first
        | (go_at_call 42; (with_reducible refine CF.out.mono ?_)
           rintro e w1 ⟨rfl, hb1⟩
           have HS1 := Lib.hid (HS.out.on hb1)
           have HB1 := Lib.hid (below_on HB.out hb1)
           have HT1 := Lib.hid (HT.out.on hb1)
           have HV1 := Lib.hid (HV.out.alloc hb HB1.out)
           obtain ⟨⟨c0, c1', c2', c3⟩, f0, f1, f2, f3⟩ := HS1.out.cells
           obtain ⟨t0, t1, t2, t3, t4, t5, t6⟩ := HT1.out
           have qz := HQ.out
           have q0 := (HB1.out.cell (p := ⟨b, off, none⟩) hbw).trans qz.1
           have q1 := (HB1.out.cell (p := ⟨b, off + 1, none⟩) hbw).trans qz.2.1
           have q2 := (HB1.out.cell (p := ⟨b, off + 2, none⟩) hbw).trans qz.2.2.1
           have q3 := (HB1.out.cell (p := ⟨b, off + 3, none⟩) hbw).trans qz.2.2.2
           clear qz
           clear hb1)
        | fail)
    go_region_held3 (fun W => W.cell? ⟨b, off + 2, none⟩ = some (.string s0) ∧ W.cell? ⟨b, off + 3, none⟩ = some (.slice la0 ln0 lc0)) (first | exact ⟨q2, q3⟩ | exact ⟨(set_keep hne _ _ _ _).trans q2, (set_keep hne _ _ _ _).trans q3⟩) (first
      | (go_at_call 38; (with_reducible refine (tNumber_any _ _).mono ?_)
         rintro e wn ⟨rfl, hbn⟩
         have HS2 := Lib.hid (HS1.out.on (W' := wn) ⟨hbn.os, hbn.tape, hbn.output, hbn.size, hbn.block⟩)
         have HB2 := Lib.hid (show Below w.heap.size w wn from below_on HB1.out ⟨hbn.os, hbn.tape, hbn.output, hbn.size, hbn.block⟩)
         have q2 := (HB2.out.cell (p := ⟨b, off + 2, none⟩) hbw).trans HQ.out.2.2.1
         have q3 := (HB2.out.cell (p := ⟨b, off + 3, none⟩) hbw).trans HQ.out.2.2.2
         obtain ⟨⟨d0, d1', d2', d3⟩, e0, e1, e2, e3⟩ := HS2.out.cells
         clear hbn)
      | fail)
    all_goals go_wp2
    all_goals (try simp only [Exit.inBlock, Exit.then])
    all_goals refine end_pair rfl rfl rfl HS2.out ?_
    all_goals exact PairRet.is (PairRet.flat0 (below_set HB2.out HRR.out _ _ _ _)) HG.out
end Go.Proofs.Ythbakfceaaaamaa
