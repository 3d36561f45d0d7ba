/- Contracts of the reference's two: texts, lists. -/
import Derived.Test.YthchilnibblbgaaTmRefEs
import Derived.Laws.Concat
namespace Go.Proofs.Ythchilnibblbgaa
open Go.RowKit

theorem ba_cat (s t : ByteArray) : (s ++ t).toList = s.toList ++ t.toList := by
  rw [ByteArray.toList_eq, ByteArray.toList_eq, ByteArray.toList_eq]; simp
set_option maxHeartbeats 8000000 in
set_option maxRecDepth 20000 in
theorem refTwoJoin_any (nm : ByteArray) (x : Int) (tx : ByteArray) (l r : Int) (ak an : Int) (s : ByteArray) (a : Option Addr) (n c : Nat) (al : List Int) (bk bn : Int) (t : ByteArray) (b : Option Addr) (m d : Nat) (bl : List Int) (w : World) (bound : Nat) (hb : bound ≤ w.heap.size) (h : Nums w bound a n al) (h' : Nums w bound b m bl) (hs : ak = 3 → s.size ≤ 24) (ht : bk = 3 → t.size ≤ 24) :
    Calls Try.prog 64 #[.agg #[.int .i64 19, .string nm, .int .i64 x, .string tx, .int .i64 l, .int .i64 r], .agg #[.int .i64 ak, .int .i64 an, .string s, .slice a n c], .agg #[.int .i64 bk, .int .i64 bn, .string t, .slice b m d]] w (PairRet w (twoV 19 ⟨ak, an, s.toList, al⟩ ⟨bk, bn, t.toList, bl⟩)) := by
  have HB := Lib.hid (((((Below.refl w.heap.size w).alloc (Nat.le_refl _) (.cells #[.int .i64 19, .string nm, .int .i64 x, .string tx, .int .i64 l, .int .i64 r] 38)).alloc (by simp) (.cells #[.int .i64 ak, .int .i64 an, .string s, .slice a n c] 33)).alloc (by simp; omega) (.cells #[.int .i64 bk, .int .i64 bn, .string t, .slice b m d] 33)).alloc (by simp; omega) (.cells #[.int .i64 0, .int .i64 0, .string ⟨#[]⟩, .slice none 0 0] 33))
  have hs0 := Slot.new (((w.alloc (.cells #[.int .i64 19, .string nm, .int .i64 x, .string tx, .int .i64 l, .int .i64 r] 38)).alloc (.cells #[.int .i64 ak, .int .i64 an, .string s, .slice a n c] 33)).alloc (.cells #[.int .i64 bk, .int .i64 bn, .string t, .slice b m d] 33))
  rw [World.size_alloc, World.size_alloc, World.size_alloc] at hs0
  have HS := Lib.hid hs0
  have HN := Lib.hid (h.below (HB.out.mono hb))
  have HM := Lib.hid (h'.below (HB.out.mono hb))
  obtain ⟨⟨c0, c1, c2, c3⟩, f0, f1, f2, f3⟩ := hs0.cells
  clear hs0 h h'
  have HG := Lib.hid (show twoV 19 ⟨ak, an, s.toList, al⟩ ⟨bk, bn, t.toList, bl⟩ = if (ak == 3 && bk == 3) then (if 24 < s.toList.length + t.toList.length then (zeroV, 405) else (textV (s.toList ++ t.toList), 0)) else (zeroV, 402) from rfl)
  rw [lxLen, lxLen] at HG
  generalize twoV 19 ⟨ak, an, s.toList, al⟩ ⟨bk, bn, t.toList, bl⟩ = R at HG ⊢
  cases ha : (ak == 3)
  · have HZ := Lib.hid (show R = (zeroV, 402) by rw [HG.out, ha]; rfl)
    clear hs ht
    go_enter Try.func64, Try.ntmps64
    go_wp2_with fail
    (try simp only [Exit.inBlock, Exit.then])
    refine bodyPost_ret (v := .tuple #[.agg #[.int .i64 0, .int .i64 0, .string ⟨#[]⟩, .slice none 0 0], .int .i64 402]) (by simp [results, go_sem]) rfl ?_
    exact PairRet.is (PairRet.flat0 (((((Below.refl w.heap.size w).alloc (Nat.le_refl _) _).alloc (by simp) _).alloc (by simp; omega) _).alloc (by simp; omega) _)) HZ.out
  · cases hbk : (bk == 3)
    · have HZ := Lib.hid (show R = (zeroV, 402) by rw [HG.out, ha, hbk]; rfl)
      clear hs ht
      go_enter Try.func64, Try.ntmps64
      go_wp2_with fail
      (try simp only [Exit.inBlock, Exit.then])
      refine bodyPost_ret (v := .tuple #[.agg #[.int .i64 0, .int .i64 0, .string ⟨#[]⟩, .slice none 0 0], .int .i64 402]) (by simp [results, go_sem]) rfl ?_
      exact PairRet.is (PairRet.flat0 (((((Below.refl w.heap.size w).alloc (Nat.le_refl _) _).alloc (by simp) _).alloc (by simp; omega) _).alloc (by simp; omega) _)) HZ.out
    · have hs1 := hs (eq_of_beq ha)
      have ht1 := ht (eq_of_beq hbk)
      clear hs ht
      by_cases h24 : 24 < s.size + t.size
      · have d24 : decide ((24 : Int) < (s.size : Int) + (t.size : Int)) = true := decide_eq_true (by omega)
        have HZ := Lib.hid (show R = (zeroV, 405) by rw [HG.out, ha, hbk]; simp only [Bool.and_self, if_true]; rw [if_pos h24])
        go_enter Try.func64, Try.ntmps64
        go_wp2_with fail
        (try simp only [Exit.inBlock, Exit.then])
        refine bodyPost_ret (v := .tuple #[.agg #[.int .i64 0, .int .i64 0, .string ⟨#[]⟩, .slice none 0 0], .int .i64 405]) (by simp [results, go_sem]) rfl ?_
        exact PairRet.is (PairRet.flat0 (((((Below.refl w.heap.size w).alloc (Nat.le_refl _) _).alloc (by simp) _).alloc (by simp; omega) _).alloc (by simp; omega) _)) HZ.out
      · have d24 : decide ((24 : Int) < (s.size : Int) + (t.size : Int)) = false := decide_eq_false (by omega)
        have HZ := Lib.hid (show R = (textV (s ++ t).toList, 0) by rw [HG.out, ha, hbk, ba_cat]; simp only [Bool.and_self, if_true]; rw [if_neg h24])
        go_enter Try.func64, Try.ntmps64
        go_wp2_with fail
        (try simp only [Exit.inBlock, Exit.then])
        refine bodyPost_ret (v := .tuple #[.agg #[.int .i64 3, .int .i64 0, .string (s ++ t), .slice none 0 0], .int .i64 0]) (by simp [results, go_sem]) rfl ?_
        exact PairRet.is (PairRet.flat (((((Below.refl w.heap.size w).alloc (Nat.le_refl _) _).alloc (by simp) _).alloc (by simp; omega) _).alloc (by simp; omega) _)) HZ.out
set_option maxHeartbeats 8000000 in
set_option maxRecDepth 20000 in
theorem refTwo17_any (nm : ByteArray) (x : Int) (tx : ByteArray) (l r : Int) (ak an : Int) (s : ByteArray) (a : Option Addr) (n c : Nat) (al : List Int) (bk bn : Int) (t : ByteArray) (b : Option Addr) (m d : Nat) (bl : List Int) (w : World) (bound : Nat) (hb : bound ≤ w.heap.size) (h : Nums w bound a n al) (h' : Nums w bound b m bl) (hl : ak = 4 → n ≤ 16) :
    Calls Try.prog 64 #[.agg #[.int .i64 17, .string nm, .int .i64 x, .string tx, .int .i64 l, .int .i64 r], .agg #[.int .i64 ak, .int .i64 an, .string s, .slice a n c], .agg #[.int .i64 bk, .int .i64 bn, .string t, .slice b m d]] w (PairRet w (twoV 17 ⟨ak, an, s.toList, al⟩ ⟨bk, bn, t.toList, bl⟩)) := by
  have HB := Lib.hid (((((Below.refl w.heap.size w).alloc (Nat.le_refl _) (.cells #[.int .i64 17, .string nm, .int .i64 x, .string tx, .int .i64 l, .int .i64 r] 38)).alloc (by simp) (.cells #[.int .i64 ak, .int .i64 an, .string s, .slice a n c] 33)).alloc (by simp; omega) (.cells #[.int .i64 bk, .int .i64 bn, .string t, .slice b m d] 33)).alloc (by simp; omega) (.cells #[.int .i64 0, .int .i64 0, .string ⟨#[]⟩, .slice none 0 0] 33))
  have hs0 := Slot.new (((w.alloc (.cells #[.int .i64 17, .string nm, .int .i64 x, .string tx, .int .i64 l, .int .i64 r] 38)).alloc (.cells #[.int .i64 ak, .int .i64 an, .string s, .slice a n c] 33)).alloc (.cells #[.int .i64 bk, .int .i64 bn, .string t, .slice b m d] 33))
  rw [World.size_alloc, World.size_alloc, World.size_alloc] at hs0
  have HS := Lib.hid hs0
  have HN := Lib.hid (h.below (HB.out.mono hb))
  have HM := Lib.hid (h'.below (HB.out.mono hb))
  obtain ⟨⟨c0, c1, c2, c3⟩, f0, f1, f2, f3⟩ := hs0.cells
  clear hs0 h h'
  have HG := Lib.hid (show twoV 17 ⟨ak, an, s.toList, al⟩ ⟨bk, bn, t.toList, bl⟩ = if (ak == 4 && bk == 1) then (if (17 : Int) = 17 then elemV al bn else pushV al bn) else (zeroV, 402) from rfl)
  generalize twoV 17 ⟨ak, an, s.toList, al⟩ ⟨bk, bn, t.toList, bl⟩ = R at HG ⊢
  cases ha : (ak == 4)
  · have HZ := Lib.hid (show R = (zeroV, 402) by rw [HG.out, ha]; rfl)
    clear hl
    go_enter Try.func64, Try.ntmps64
    go_wp2_with fail
    (try simp only [Exit.inBlock, Exit.then])
    refine bodyPost_ret (v := .tuple #[.agg #[.int .i64 0, .int .i64 0, .string ⟨#[]⟩, .slice none 0 0], .int .i64 402]) (by simp [results, go_sem]) rfl ?_
    exact PairRet.is (PairRet.flat0 (((((Below.refl w.heap.size w).alloc (Nat.le_refl _) _).alloc (by simp) _).alloc (by simp; omega) _).alloc (by simp; omega) _)) HZ.out
  · cases hbk : (bk == 1)
    · have HZ := Lib.hid (show R = (zeroV, 402) by rw [HG.out, ha, hbk]; rfl)
      clear hl
      go_enter Try.func64, Try.ntmps64
      go_wp2_with fail
      (try simp only [Exit.inBlock, Exit.then])
      refine bodyPost_ret (v := .tuple #[.agg #[.int .i64 0, .int .i64 0, .string ⟨#[]⟩, .slice none 0 0], .int .i64 402]) (by simp [results, go_sem]) rfl ?_
      exact PairRet.is (PairRet.flat0 (((((Below.refl w.heap.size w).alloc (Nat.le_refl _) _).alloc (by simp) _).alloc (by simp; omega) _).alloc (by simp; omega) _)) HZ.out
    · have HZ := Lib.hid (show R = (if (17 : Int) = 17 then elemV al bn else pushV al bn) by rw [HG.out, ha, hbk]; rfl)
      have CC := Lib.hid (refListed_any 17 bn a n c al _ bound (Nat.le_trans hb HB.out.size) HN.out (hl (eq_of_beq ha)) (by decide))
      clear hl
      generalize (if (17 : Int) = 17 then elemV al bn else pushV al bn) = q at HZ CC
      go_enter Try.func64, Try.ntmps64
      go_wp2_with (first
        | (go_at_call 83; (with_reducible refine CC.out.mono ?_)
           rintro e w3 ⟨⟨s', a', n', c', rfl, hv, hf⟩, hb3⟩
           have HS3 := Lib.hid (HS.out.on hb3)
           have HB3 := Lib.hid (below_on HB.out hb3)
           have HV3 := Lib.hid hv
           have HF3 := Lib.hid hf
           obtain ⟨⟨c0, c1, c2, c3⟩, f0, f1, f2, f3⟩ := HS3.out.cells
           clear hb3 hv hf)
        | fail)
      (try simp only [Exit.inBlock, Exit.then])
      refine end_pair rfl rfl rfl HS3.out ?_
      exact PairRet.is (PairRet.of_set HB3.out (by omega) HS.out.lt HV3.out HF3.out) HZ.out
set_option maxHeartbeats 8000000 in
set_option maxRecDepth 20000 in
theorem refTwo18_any (nm : ByteArray) (x : Int) (tx : ByteArray) (l r : Int) (ak an : Int) (s : ByteArray) (a : Option Addr) (n c : Nat) (al : List Int) (bk bn : Int) (t : ByteArray) (b : Option Addr) (m d : Nat) (bl : List Int) (w : World) (bound : Nat) (hb : bound ≤ w.heap.size) (h : Nums w bound a n al) (h' : Nums w bound b m bl) (hl : ak = 4 → n ≤ 16) :
    Calls Try.prog 64 #[.agg #[.int .i64 18, .string nm, .int .i64 x, .string tx, .int .i64 l, .int .i64 r], .agg #[.int .i64 ak, .int .i64 an, .string s, .slice a n c], .agg #[.int .i64 bk, .int .i64 bn, .string t, .slice b m d]] w (PairRet w (twoV 18 ⟨ak, an, s.toList, al⟩ ⟨bk, bn, t.toList, bl⟩)) := by
  have HB := Lib.hid (((((Below.refl w.heap.size w).alloc (Nat.le_refl _) (.cells #[.int .i64 18, .string nm, .int .i64 x, .string tx, .int .i64 l, .int .i64 r] 38)).alloc (by simp) (.cells #[.int .i64 ak, .int .i64 an, .string s, .slice a n c] 33)).alloc (by simp; omega) (.cells #[.int .i64 bk, .int .i64 bn, .string t, .slice b m d] 33)).alloc (by simp; omega) (.cells #[.int .i64 0, .int .i64 0, .string ⟨#[]⟩, .slice none 0 0] 33))
  have hs0 := Slot.new (((w.alloc (.cells #[.int .i64 18, .string nm, .int .i64 x, .string tx, .int .i64 l, .int .i64 r] 38)).alloc (.cells #[.int .i64 ak, .int .i64 an, .string s, .slice a n c] 33)).alloc (.cells #[.int .i64 bk, .int .i64 bn, .string t, .slice b m d] 33))
  rw [World.size_alloc, World.size_alloc, World.size_alloc] at hs0
  have HS := Lib.hid hs0
  have HN := Lib.hid (h.below (HB.out.mono hb))
  have HM := Lib.hid (h'.below (HB.out.mono hb))
  obtain ⟨⟨c0, c1, c2, c3⟩, f0, f1, f2, f3⟩ := hs0.cells
  clear hs0 h h'
  have HG := Lib.hid (show twoV 18 ⟨ak, an, s.toList, al⟩ ⟨bk, bn, t.toList, bl⟩ = if (ak == 4 && bk == 1) then (if (18 : Int) = 17 then elemV al bn else pushV al bn) else (zeroV, 402) from rfl)
  generalize twoV 18 ⟨ak, an, s.toList, al⟩ ⟨bk, bn, t.toList, bl⟩ = R at HG ⊢
  cases ha : (ak == 4)
  · have HZ := Lib.hid (show R = (zeroV, 402) by rw [HG.out, ha]; rfl)
    clear hl
    go_enter Try.func64, Try.ntmps64
    go_wp2_with fail
    (try simp only [Exit.inBlock, Exit.then])
    refine bodyPost_ret (v := .tuple #[.agg #[.int .i64 0, .int .i64 0, .string ⟨#[]⟩, .slice none 0 0], .int .i64 402]) (by simp [results, go_sem]) rfl ?_
    exact PairRet.is (PairRet.flat0 (((((Below.refl w.heap.size w).alloc (Nat.le_refl _) _).alloc (by simp) _).alloc (by simp; omega) _).alloc (by simp; omega) _)) HZ.out
  · cases hbk : (bk == 1)
    · have HZ := Lib.hid (show R = (zeroV, 402) by rw [HG.out, ha, hbk]; rfl)
      clear hl
      go_enter Try.func64, Try.ntmps64
      go_wp2_with fail
      (try simp only [Exit.inBlock, Exit.then])
      refine bodyPost_ret (v := .tuple #[.agg #[.int .i64 0, .int .i64 0, .string ⟨#[]⟩, .slice none 0 0], .int .i64 402]) (by simp [results, go_sem]) rfl ?_
      exact PairRet.is (PairRet.flat0 (((((Below.refl w.heap.size w).alloc (Nat.le_refl _) _).alloc (by simp) _).alloc (by simp; omega) _).alloc (by simp; omega) _)) HZ.out
    · have HZ := Lib.hid (show R = (if (18 : Int) = 17 then elemV al bn else pushV al bn) by rw [HG.out, ha, hbk]; rfl)
      have CC := Lib.hid (refListed_any 18 bn a n c al _ bound (Nat.le_trans hb HB.out.size) HN.out (hl (eq_of_beq ha)) (by decide))
      clear hl
      generalize (if (18 : Int) = 17 then elemV al bn else pushV al bn) = q at HZ CC
      go_enter Try.func64, Try.ntmps64
      go_wp2_with (first
        | (go_at_call 83; (with_reducible refine CC.out.mono ?_)
           rintro e w3 ⟨⟨s', a', n', c', rfl, hv, hf⟩, hb3⟩
           have HS3 := Lib.hid (HS.out.on hb3)
           have HB3 := Lib.hid (below_on HB.out hb3)
           have HV3 := Lib.hid hv
           have HF3 := Lib.hid hf
           obtain ⟨⟨c0, c1, c2, c3⟩, f0, f1, f2, f3⟩ := HS3.out.cells
           clear hb3 hv hf)
        | fail)
      (try simp only [Exit.inBlock, Exit.then])
      refine end_pair rfl rfl rfl HS3.out ?_
      exact PairRet.is (PairRet.of_set HB3.out (by omega) HS.out.lt HV3.out HF3.out) HZ.out
end Go.Proofs.Ythchilnibblbgaa
