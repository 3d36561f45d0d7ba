/- Contracts of the reference's two: bools. -/
import Derived.Test.YthchilnibblbgaaTmRefEs
namespace Go.Proofs.Ythchilnibblbgaa
open Go.RowKit

set_option maxHeartbeats 8000000 in
set_option maxRecDepth 20000 in
theorem refTwoAnd_any (nm : ByteArray) (x : Int) (tx : ByteArray) (l r : Int) (ak an : Int) (s : ByteArray) (a : Option Addr) (n c : Nat) (al : List Int) (bk bn : Int) (t : ByteArray) (b : Option Addr) (m d : Nat) (bl : List Int) (w : World) (bound : Nat) (hb : bound ≤ w.heap.size) (h : Nums w bound a n al) (h' : Nums w bound b m bl) (ha2 : ak = 2 → an = 0 ∨ an = 1) (hb2 : bk = 2 → bn = 0 ∨ bn = 1) :
    Calls Try.prog 64 #[.agg #[.int .i64 13, .string nm, .int .i64 x, .string tx, .int .i64 l, .int .i64 r], .agg #[.int .i64 ak, .int .i64 an, .string s, .slice a n c], .agg #[.int .i64 bk, .int .i64 bn, .string t, .slice b m d]] w (PairRet w (twoV 13 ⟨ak, an, s.toList, al⟩ ⟨bk, bn, t.toList, bl⟩)) := by
  have HB := Lib.hid (((((Below.refl w.heap.size w).alloc (Nat.le_refl _) (.cells #[.int .i64 13, .string nm, .int .i64 x, .string tx, .int .i64 l, .int .i64 r] 38)).alloc (by simp) (.cells #[.int .i64 ak, .int .i64 an, .string s, .slice a n c] 33)).alloc (by simp; omega) (.cells #[.int .i64 bk, .int .i64 bn, .string t, .slice b m d] 33)).alloc (by simp; omega) (.cells #[.int .i64 0, .int .i64 0, .string ⟨#[]⟩, .slice none 0 0] 33))
  have hs0 := Slot.new (((w.alloc (.cells #[.int .i64 13, .string nm, .int .i64 x, .string tx, .int .i64 l, .int .i64 r] 38)).alloc (.cells #[.int .i64 ak, .int .i64 an, .string s, .slice a n c] 33)).alloc (.cells #[.int .i64 bk, .int .i64 bn, .string t, .slice b m d] 33))
  rw [World.size_alloc, World.size_alloc, World.size_alloc] at hs0
  have HS := Lib.hid hs0
  have HN := Lib.hid (h.below (HB.out.mono hb))
  have HM := Lib.hid (h'.below (HB.out.mono hb))
  obtain ⟨⟨c0, c1, c2, c3⟩, f0, f1, f2, f3⟩ := hs0.cells
  clear hs0 h h'
  have HG := Lib.hid (show twoV 13 ⟨ak, an, s.toList, al⟩ ⟨bk, bn, t.toList, bl⟩ = if (ak == 2 && bk == 2) then (boolV (an == 1 && bn == 1), 0) else (zeroV, 402) from rfl)
  generalize twoV 13 ⟨ak, an, s.toList, al⟩ ⟨bk, bn, t.toList, bl⟩ = R at HG ⊢
  cases ha : (ak == 2)
  · have HZ := Lib.hid (show R = (zeroV, 402) by rw [HG.out, ha]; rfl)
    clear ha2 hb2
    go_enter Try.func64, Try.ntmps64
    go_wp2_with fail
    (try simp only [Exit.inBlock, Exit.then])
    refine bodyPost_ret (v := .tuple #[.agg #[.int .i64 0, .int .i64 0, .string ⟨#[]⟩, .slice none 0 0], .int .i64 402]) (by simp [results, go_sem]) rfl ?_
    exact PairRet.is (PairRet.flat0 (((((Below.refl w.heap.size w).alloc (Nat.le_refl _) _).alloc (by simp) _).alloc (by simp; omega) _).alloc (by simp; omega) _)) HZ.out
  · cases hbk : (bk == 2)
    · have HZ := Lib.hid (show R = (zeroV, 402) by rw [HG.out, ha, hbk]; rfl)
      clear ha2 hb2
      go_enter Try.func64, Try.ntmps64
      go_wp2_with fail
      (try simp only [Exit.inBlock, Exit.then])
      refine bodyPost_ret (v := .tuple #[.agg #[.int .i64 0, .int .i64 0, .string ⟨#[]⟩, .slice none 0 0], .int .i64 402]) (by simp [results, go_sem]) rfl ?_
      exact PairRet.is (PairRet.flat0 (((((Below.refl w.heap.size w).alloc (Nat.le_refl _) _).alloc (by simp) _).alloc (by simp; omega) _).alloc (by simp; omega) _)) HZ.out
    · have HZ := Lib.hid (show R = (boolV (an == 1 && bn == 1), 0) by rw [HG.out, ha, hbk]; rfl)
      have hx := ha2 (eq_of_beq ha)
      have hy := hb2 (eq_of_beq hbk)
      clear ha2 hb2
      rcases hx with rfl | rfl <;> rcases hy with rfl | rfl
      all_goals
        go_enter Try.func64, Try.ntmps64
        go_wp2_with (first
          | (go_at_call 82; (with_reducible refine (refTruth_any _ _).mono ?_)
             rintro e w3 ⟨rfl, hb3⟩
             have HS3 := Lib.hid (HS.out.on hb3)
             have HB3 := Lib.hid (below_on HB.out hb3)
             obtain ⟨⟨c0, c1, c2, c3⟩, f0, f1, f2, f3⟩ := HS3.out.cells
             clear hb3)
          | fail)
        (try simp only [Exit.inBlock, Exit.then])
        refine end_pair rfl rfl rfl HS3.out ?_
        exact PairRet.is (PairRet.flat0 (below_set HB3.out (by omega) _ _ _ _)) (HZ.out.trans rfl)
set_option maxHeartbeats 8000000 in
set_option maxRecDepth 20000 in
theorem refTwoOr_any (nm : ByteArray) (x : Int) (tx : ByteArray) (l r : Int) (ak an : Int) (s : ByteArray) (a : Option Addr) (n c : Nat) (al : List Int) (bk bn : Int) (t : ByteArray) (b : Option Addr) (m d : Nat) (bl : List Int) (w : World) (bound : Nat) (hb : bound ≤ w.heap.size) (h : Nums w bound a n al) (h' : Nums w bound b m bl) (ha2 : ak = 2 → an = 0 ∨ an = 1) (hb2 : bk = 2 → bn = 0 ∨ bn = 1) :
    Calls Try.prog 64 #[.agg #[.int .i64 14, .string nm, .int .i64 x, .string tx, .int .i64 l, .int .i64 r], .agg #[.int .i64 ak, .int .i64 an, .string s, .slice a n c], .agg #[.int .i64 bk, .int .i64 bn, .string t, .slice b m d]] w (PairRet w (twoV 14 ⟨ak, an, s.toList, al⟩ ⟨bk, bn, t.toList, bl⟩)) := by
  have HB := Lib.hid (((((Below.refl w.heap.size w).alloc (Nat.le_refl _) (.cells #[.int .i64 14, .string nm, .int .i64 x, .string tx, .int .i64 l, .int .i64 r] 38)).alloc (by simp) (.cells #[.int .i64 ak, .int .i64 an, .string s, .slice a n c] 33)).alloc (by simp; omega) (.cells #[.int .i64 bk, .int .i64 bn, .string t, .slice b m d] 33)).alloc (by simp; omega) (.cells #[.int .i64 0, .int .i64 0, .string ⟨#[]⟩, .slice none 0 0] 33))
  have hs0 := Slot.new (((w.alloc (.cells #[.int .i64 14, .string nm, .int .i64 x, .string tx, .int .i64 l, .int .i64 r] 38)).alloc (.cells #[.int .i64 ak, .int .i64 an, .string s, .slice a n c] 33)).alloc (.cells #[.int .i64 bk, .int .i64 bn, .string t, .slice b m d] 33))
  rw [World.size_alloc, World.size_alloc, World.size_alloc] at hs0
  have HS := Lib.hid hs0
  have HN := Lib.hid (h.below (HB.out.mono hb))
  have HM := Lib.hid (h'.below (HB.out.mono hb))
  obtain ⟨⟨c0, c1, c2, c3⟩, f0, f1, f2, f3⟩ := hs0.cells
  clear hs0 h h'
  have HG := Lib.hid (show twoV 14 ⟨ak, an, s.toList, al⟩ ⟨bk, bn, t.toList, bl⟩ = if (ak == 2 && bk == 2) then (boolV (an == 1 || bn == 1), 0) else (zeroV, 402) from rfl)
  generalize twoV 14 ⟨ak, an, s.toList, al⟩ ⟨bk, bn, t.toList, bl⟩ = R at HG ⊢
  cases ha : (ak == 2)
  · have HZ := Lib.hid (show R = (zeroV, 402) by rw [HG.out, ha]; rfl)
    clear ha2 hb2
    go_enter Try.func64, Try.ntmps64
    go_wp2_with fail
    (try simp only [Exit.inBlock, Exit.then])
    refine bodyPost_ret (v := .tuple #[.agg #[.int .i64 0, .int .i64 0, .string ⟨#[]⟩, .slice none 0 0], .int .i64 402]) (by simp [results, go_sem]) rfl ?_
    exact PairRet.is (PairRet.flat0 (((((Below.refl w.heap.size w).alloc (Nat.le_refl _) _).alloc (by simp) _).alloc (by simp; omega) _).alloc (by simp; omega) _)) HZ.out
  · cases hbk : (bk == 2)
    · have HZ := Lib.hid (show R = (zeroV, 402) by rw [HG.out, ha, hbk]; rfl)
      clear ha2 hb2
      go_enter Try.func64, Try.ntmps64
      go_wp2_with fail
      (try simp only [Exit.inBlock, Exit.then])
      refine bodyPost_ret (v := .tuple #[.agg #[.int .i64 0, .int .i64 0, .string ⟨#[]⟩, .slice none 0 0], .int .i64 402]) (by simp [results, go_sem]) rfl ?_
      exact PairRet.is (PairRet.flat0 (((((Below.refl w.heap.size w).alloc (Nat.le_refl _) _).alloc (by simp) _).alloc (by simp; omega) _).alloc (by simp; omega) _)) HZ.out
    · have HZ := Lib.hid (show R = (boolV (an == 1 || bn == 1), 0) by rw [HG.out, ha, hbk]; rfl)
      have hx := ha2 (eq_of_beq ha)
      have hy := hb2 (eq_of_beq hbk)
      clear ha2 hb2
      rcases hx with rfl | rfl <;> rcases hy with rfl | rfl
      all_goals
        go_enter Try.func64, Try.ntmps64
        go_wp2_with (first
          | (go_at_call 82; (with_reducible refine (refTruth_any _ _).mono ?_)
             rintro e w3 ⟨rfl, hb3⟩
             have HS3 := Lib.hid (HS.out.on hb3)
             have HB3 := Lib.hid (below_on HB.out hb3)
             obtain ⟨⟨c0, c1, c2, c3⟩, f0, f1, f2, f3⟩ := HS3.out.cells
             clear hb3)
          | fail)
        (try simp only [Exit.inBlock, Exit.then])
        refine end_pair rfl rfl rfl HS3.out ?_
        exact PairRet.is (PairRet.flat0 (below_set HB3.out (by omega) _ _ _ _)) (HZ.out.trans rfl)
end Go.Proofs.Ythchilnibblbgaa
