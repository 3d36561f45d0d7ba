/- Contracts of the reference's two: numbers, and the same. -/
import Derived.Test.YthchilnibblbgaaTmRefEs
namespace Go.Proofs.Ythchilnibblbgaa
open Go.RowKit

set_option maxHeartbeats 8000000 in
set_option maxRecDepth 20000 in
theorem refTwoNum_any (k : Int) (nm : ByteArray) (x : Int) (tx : ByteArray) (l r : Int) (ak an : Int) (s : ByteArray) (a : Option Addr) (n c : Nat) (al : List Int) (bk bn : Int) (t : ByteArray) (b : Option Addr) (m d : Nat) (bl : List Int) (w : World) (bound : Nat) (hb : bound ≤ w.heap.size) (h : Nums w bound a n al) (h' : Nums w bound b m bl) (hk : k = 6 ∨ k = 7 ∨ k = 8 ∨ k = 12 ∨ k = 9 ∨ k = 10) :
    Calls Try.prog 64 #[.agg #[.int .i64 k, .string nm, .int .i64 x, .string tx, .int .i64 l, .int .i64 r], .agg #[.int .i64 ak, .int .i64 an, .string s, .slice a n c], .agg #[.int .i64 bk, .int .i64 bn, .string t, .slice b m d]] w (PairRet w (twoV k ⟨ak, an, s.toList, al⟩ ⟨bk, bn, t.toList, bl⟩)) := by
  have HB := Lib.hid (((((Below.refl w.heap.size w).alloc (Nat.le_refl _) (.cells #[.int .i64 k, .string nm, .int .i64 x, .string tx, .int .i64 l, .int .i64 r] 38)).alloc (by simp) (.cells #[.int .i64 ak, .int .i64 an, .string s, .slice a n c] 33)).alloc (by simp; omega) (.cells #[.int .i64 bk, .int .i64 bn, .string t, .slice b m d] 33)).alloc (by simp; omega) (.cells #[.int .i64 0, .int .i64 0, .string ⟨#[]⟩, .slice none 0 0] 33))
  have hs0 := Slot.new (((w.alloc (.cells #[.int .i64 k, .string nm, .int .i64 x, .string tx, .int .i64 l, .int .i64 r] 38)).alloc (.cells #[.int .i64 ak, .int .i64 an, .string s, .slice a n c] 33)).alloc (.cells #[.int .i64 bk, .int .i64 bn, .string t, .slice b m d] 33))
  rw [World.size_alloc, World.size_alloc, World.size_alloc] at hs0
  have HS := Lib.hid hs0
  have HN := Lib.hid (h.below (HB.out.mono hb))
  have HM := Lib.hid (h'.below (HB.out.mono hb))
  obtain ⟨⟨c0, c1, c2, c3⟩, f0, f1, f2, f3⟩ := hs0.cells
  clear hs0 h h'
  have HG := Lib.hid (show twoV k ⟨ak, an, s.toList, al⟩ ⟨bk, bn, t.toList, bl⟩ = if (ak == 1 && bk == 1) then calcV k an bn else (zeroV, 402) by
    rcases hk with rfl | rfl | rfl | rfl | rfl | rfl <;> rfl)
  generalize twoV k ⟨ak, an, s.toList, al⟩ ⟨bk, bn, t.toList, bl⟩ = R at HG ⊢
  have CC := fun W => refNumbers_any k an bn W hk
  have k11 : (k == 11) = false := by rw [beq_eq_false_iff_ne]; omega
  have k13 : (k == 13) = false := by rw [beq_eq_false_iff_ne]; omega
  have k14 : (k == 14) = false := by rw [beq_eq_false_iff_ne]; omega
  have k19 : (k == 19) = false := by rw [beq_eq_false_iff_ne]; omega
  have k17 : (k == 17) = false := by rw [beq_eq_false_iff_ne]; omega
  have k18 : (k == 18) = false := by rw [beq_eq_false_iff_ne]; omega
  have hk2 : decide (k ≤ 10) = true ∨ (decide (k ≤ 10) = false ∧ (k == 12) = true) := by
    rcases hk with rfl | rfl | rfl | rfl | rfl | rfl <;> decide
  clear hk
  generalize calcV k an bn = q at HG CC
  have CC := Lib.hid CC
  cases ha : (ak == 1)
  · have HZ := Lib.hid (show R = (zeroV, 402) by rw [HG.out, ha]; rfl)
    rcases hk2 with h10 | ⟨h10, h12⟩
    all_goals
      go_enter Try.func64, Try.ntmps64
      go_wp2_with fail
      (try simp only [Exit.inBlock, Exit.then])
      refine bodyPost_ret (v := .tuple #[.agg #[.int .i64 0, .int .i64 0, .string ⟨#[]⟩, .slice none 0 0], .int .i64 402]) (by simp [results, go_sem]) rfl ?_
      exact PairRet.is (PairRet.flat0 (((((Below.refl w.heap.size w).alloc (Nat.le_refl _) _).alloc (by simp) _).alloc (by simp; omega) _).alloc (by simp; omega) _)) HZ.out
  · cases hbk : (bk == 1)
    · have HZ := Lib.hid (show R = (zeroV, 402) by rw [HG.out, ha, hbk]; rfl)
      rcases hk2 with h10 | ⟨h10, h12⟩
      all_goals
        go_enter Try.func64, Try.ntmps64
        go_wp2_with fail
        (try simp only [Exit.inBlock, Exit.then])
        refine bodyPost_ret (v := .tuple #[.agg #[.int .i64 0, .int .i64 0, .string ⟨#[]⟩, .slice none 0 0], .int .i64 402]) (by simp [results, go_sem]) rfl ?_
        exact PairRet.is (PairRet.flat0 (((((Below.refl w.heap.size w).alloc (Nat.le_refl _) _).alloc (by simp) _).alloc (by simp; omega) _).alloc (by simp; omega) _)) HZ.out
    · have HZ := Lib.hid (show R = q by rw [HG.out, ha, hbk]; rfl)
      rcases hk2 with h10 | ⟨h10, h12⟩
      all_goals
        go_enter Try.func64, Try.ntmps64
        go_wp2_with (first
          | (go_at_call 84; (with_reducible refine (CC.out _).mono ?_)
             rintro e w3 ⟨⟨s', a', n', c', rfl, hv, hf⟩, hb3⟩
             have HS3 := Lib.hid (HS.out.on hb3)
             have HB3 := Lib.hid (below_on HB.out hb3)
             have HV3 := Lib.hid hv
             have HF3 := Lib.hid hf
             obtain ⟨⟨c0, c1, c2, c3⟩, f0, f1, f2, f3⟩ := HS3.out.cells
             clear hb3 hv hf)
          | fail)
        (try simp only [Exit.inBlock, Exit.then])
        refine end_pair rfl rfl rfl HS3.out ?_
        exact PairRet.is (PairRet.of_set HB3.out (by omega) HS.out.lt HV3.out HF3.out) HZ.out
set_option maxHeartbeats 8000000 in
set_option maxRecDepth 20000 in
theorem refTwoSame_any (nm : ByteArray) (x : Int) (tx : ByteArray) (l r : Int) (ak an : Int) (s : ByteArray) (a : Option Addr) (n c : Nat) (al : List Int) (bk bn : Int) (t : ByteArray) (b : Option Addr) (m d : Nat) (bl : List Int) (w : World) (bound : Nat) (hb : bound ≤ w.heap.size) (h : Nums w bound a n al) (h' : Nums w bound b m bl) :
    Calls Try.prog 64 #[.agg #[.int .i64 11, .string nm, .int .i64 x, .string tx, .int .i64 l, .int .i64 r], .agg #[.int .i64 ak, .int .i64 an, .string s, .slice a n c], .agg #[.int .i64 bk, .int .i64 bn, .string t, .slice b m d]] w (PairRet w (twoV 11 ⟨ak, an, s.toList, al⟩ ⟨bk, bn, t.toList, bl⟩)) := by
  have HB := Lib.hid (((((Below.refl w.heap.size w).alloc (Nat.le_refl _) (.cells #[.int .i64 11, .string nm, .int .i64 x, .string tx, .int .i64 l, .int .i64 r] 38)).alloc (by simp) (.cells #[.int .i64 ak, .int .i64 an, .string s, .slice a n c] 33)).alloc (by simp; omega) (.cells #[.int .i64 bk, .int .i64 bn, .string t, .slice b m d] 33)).alloc (by simp; omega) (.cells #[.int .i64 0, .int .i64 0, .string ⟨#[]⟩, .slice none 0 0] 33))
  have hs0 := Slot.new (((w.alloc (.cells #[.int .i64 11, .string nm, .int .i64 x, .string tx, .int .i64 l, .int .i64 r] 38)).alloc (.cells #[.int .i64 ak, .int .i64 an, .string s, .slice a n c] 33)).alloc (.cells #[.int .i64 bk, .int .i64 bn, .string t, .slice b m d] 33))
  rw [World.size_alloc, World.size_alloc, World.size_alloc] at hs0
  have HS := Lib.hid hs0
  have HN := Lib.hid (h.below (HB.out.mono hb))
  have HM := Lib.hid (h'.below (HB.out.mono hb))
  obtain ⟨⟨c0, c1, c2, c3⟩, f0, f1, f2, f3⟩ := hs0.cells
  clear hs0 h h'
  have HG := Lib.hid (show twoV 11 ⟨ak, an, s.toList, al⟩ ⟨bk, bn, t.toList, bl⟩ = if (ak == bk && ak != 5) then (boolV (sameV ⟨ak, an, s.toList, al⟩ ⟨bk, bn, t.toList, bl⟩), 0) else (zeroV, 402) from rfl)
  generalize twoV 11 ⟨ak, an, s.toList, al⟩ ⟨bk, bn, t.toList, bl⟩ = R at HG ⊢
  obtain ⟨q, hq⟩ : ∃ q, sameV ⟨ak, an, s.toList, al⟩ ⟨bk, bn, t.toList, bl⟩ = q := ⟨_, rfl⟩
  rw [hq] at HG
  have HSM := Lib.hid hq
  clear hq
  cases hab : (ak == bk)
  · have HZ := Lib.hid (show R = (zeroV, 402) by rw [HG.out, hab]; rfl)
    go_enter Try.func64, Try.ntmps64
    go_wp2_with fail
    (try simp only [Exit.inBlock, Exit.then])
    refine bodyPost_ret (v := .tuple #[.agg #[.int .i64 0, .int .i64 0, .string ⟨#[]⟩, .slice none 0 0], .int .i64 402]) (by simp [results, go_sem]) rfl ?_
    exact PairRet.is (PairRet.flat0 (((((Below.refl w.heap.size w).alloc (Nat.le_refl _) _).alloc (by simp) _).alloc (by simp; omega) _).alloc (by simp; omega) _)) HZ.out
  · cases h5 : (ak != 5)
    · have HZ := Lib.hid (show R = (zeroV, 402) by rw [HG.out, hab, h5]; rfl)
      go_enter Try.func64, Try.ntmps64
      go_wp2_with fail
      (try simp only [Exit.inBlock, Exit.then])
      refine bodyPost_ret (v := .tuple #[.agg #[.int .i64 0, .int .i64 0, .string ⟨#[]⟩, .slice none 0 0], .int .i64 402]) (by simp [results, go_sem]) rfl ?_
      exact PairRet.is (PairRet.flat0 (((((Below.refl w.heap.size w).alloc (Nat.le_refl _) _).alloc (by simp) _).alloc (by simp; omega) _).alloc (by simp; omega) _)) HZ.out
    · have HZ := Lib.hid (show R = (boolV q, 0) by rw [HG.out, hab, h5]; rfl)
      cases q
      all_goals
        go_enter Try.func64, Try.ntmps64
        go_wp2_with (first
          | (go_at_call 27; (with_reducible refine (refSame_any ak an s a n c al bk bn t b m d bl _ bound (by simp; omega) HN.out HM.out).mono ?_)
             rintro e w2 ⟨he, hb2⟩
             rw [HSM.out] at he
             subst he
             have HS2 := Lib.hid (HS.out.on hb2)
             have HB2 := Lib.hid (below_on HB.out hb2)
             clear hb2)
          | (go_at_call 82; (with_reducible refine (refTruth_any _ _).mono ?_)
             rintro e w3 ⟨rfl, hb3⟩
             have HS3 := Lib.hid (HS2.out.on hb3)
             have HB3 := Lib.hid (below_on HB2.out hb3)
             obtain ⟨⟨c0, c1, c2, c3⟩, f0, f1, f2, f3⟩ := HS3.out.cells
             clear hb3)
          | fail)
        (try simp only [Exit.inBlock, Exit.then])
        refine end_pair rfl rfl rfl HS3.out ?_
        exact PairRet.is (PairRet.flat0 (below_set HB3.out (by omega) _ _ _ _)) HZ.out
end Go.Proofs.Ythchilnibblbgaa
