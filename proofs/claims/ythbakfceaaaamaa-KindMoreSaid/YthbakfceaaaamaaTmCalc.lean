/- Contracts of calculate, element, join of the program. -/
import Derived.Test.YthbakfceaaaamaaTmVal
import Derived.Lib.Hide
namespace Go.Proofs.Ythbakfceaaaamaa
open Go.RowKit

theorem empty_toList : (⟨#[]⟩ : ByteArray).toList = [] := by simp [ByteArray.toList_eq]
theorem PairRet.flat {w w' : World} {k n ev : Int} {s : ByteArray} (hb : Below w.heap.size w w') : PairRet w (⟨k, n, s.toList, []⟩, ev) (.returned (.tuple #[.agg #[.int .i64 k, .int .i64 n, .string s, .slice none 0 0], .int .i64 ev])) w' :=
  ⟨⟨s, none, 0, 0, rfl, ⟨rfl, Nums.zero _ _ _⟩, From.zero _ _⟩, hb⟩
theorem PairRet.flat0 {w w' : World} {k n ev : Int} (hb : Below w.heap.size w w') : PairRet w (⟨k, n, [], []⟩, ev) (.returned (.tuple #[.agg #[.int .i64 k, .int .i64 n, .string ⟨#[]⟩, .slice none 0 0], .int .i64 ev])) w' :=
  ⟨⟨⟨#[]⟩, none, 0, 0, rfl, ⟨empty_toList, Nums.zero _ _ _⟩, From.zero _ _⟩, hb⟩
theorem PairRet.is {w w' : World} {r r' : Val × Int} {e : Ending} (h : PairRet w r e w') (hr : r' = r) : PairRet w r' e w' := hr ▸ h

set_option maxHeartbeats 2000000 in
theorem calc_any (k x y : Int) (w : World) (hk : k = 6 ∨ k = 7 ∨ k = 8 ∨ k = 9 ∨ k = 10) : Calls Try.prog 65 #[.int .i64 k, .int .i64 x, .int .i64 y] w (PairRet w (calcV k x y)) := by
  have HB := Lib.hid ((Below.refl w.heap.size w).alloc (Nat.le_refl _) (.cells #[.int .i64 0, .int .i64 0, .string ⟨#[]⟩, .slice none 0 0] 33))
  have HS := Lib.hid (Slot.new w)
  rcases hk with rfl | rfl | rfl | rfl | rfl
  iterate 3
    · go_enter Try.func65, Try.ntmps65
      go_wp2_with (first
        | (go_at_call 38; (with_reducible refine (tNumber_any _ _).mono ?_)
           rintro e w1 ⟨rfl, hb1⟩
           have HS1 := Lib.hid (HS.out.on hb1)
           have HB1 := Lib.hid (below_on HB.out hb1)
           obtain ⟨⟨c0, c1, c2, c3⟩, f0, f1, f2, f3⟩ := HS1.out.cells
           clear hb1)
        | fail)
      (try simp only [Exit.inBlock, Exit.then])
      refine end_pair rfl rfl rfl HS1.out ?_
      exact PairRet.flat0 (below_set HB1.out (Nat.le_refl _) _ _ _ _)
  · cases hy : y == 0
    · have hy0 : ¬ y = 0 := by rw [beq_eq_false_iff_ne] at hy; exact hy
      have HG := Lib.hid (show calcV 9 x y = (intV (wrap64 (x.tdiv y)), 0) by
        rw [beq_eq_false_iff_ne] at hy
        show (if y = 0 then _ else _) = _
        rw [if_neg hy]; rfl)
      go_enter Try.func65, Try.ntmps65
      go_wp2_with (first
        | (go_at_call 38; (with_reducible refine (tNumber_any _ _).mono ?_)
           rintro e w1 ⟨rfl, hb1⟩
           have HS1 := Lib.hid (HS.out.on hb1)
           have HB1 := Lib.hid (below_on HB.out hb1)
           obtain ⟨⟨c0, c1, c2, c3⟩, f0, f1, f2, f3⟩ := HS1.out.cells
           clear hb1)
        | fail)
      (try simp only [Exit.inBlock, Exit.then])
      refine end_pair rfl rfl rfl HS1.out ?_
      exact PairRet.is (PairRet.flat0 (below_set HB1.out (Nat.le_refl _) _ _ _ _)) HG.out
    · have HG := Lib.hid (show calcV 9 x y = (zeroV, 403) by
        show (if y = 0 then _ else _) = _
        rw [if_pos (eq_of_beq hy)])
      go_enter Try.func65, Try.ntmps65
      go_wp2_with fail
      refine bodyPost_ret (v := .tuple #[.agg #[.int .i64 0, .int .i64 0, .string ⟨#[]⟩, .slice none 0 0], .int .i64 403]) (by simp [results, go_sem]) rfl ?_
      exact PairRet.is (PairRet.flat0 HB.out) HG.out
  · cases hy : y == 0
    · have hy0 : ¬ y = 0 := by rw [beq_eq_false_iff_ne] at hy; exact hy
      have HG := Lib.hid (show calcV 10 x y = (intV (x.tmod y), 0) by
        rw [beq_eq_false_iff_ne] at hy
        show (if y = 0 then _ else _) = _
        rw [if_neg hy]; rfl)
      go_enter Try.func65, Try.ntmps65
      go_wp2_with (first
        | (go_at_call 38; (with_reducible refine (tNumber_any _ _).mono ?_)
           rintro e w1 ⟨rfl, hb1⟩
           have HS1 := Lib.hid (HS.out.on hb1)
           have HB1 := Lib.hid (below_on HB.out hb1)
           obtain ⟨⟨c0, c1, c2, c3⟩, f0, f1, f2, f3⟩ := HS1.out.cells
           clear hb1)
        | fail)
      (try simp only [Exit.inBlock, Exit.then])
      refine end_pair rfl rfl rfl HS1.out ?_
      exact PairRet.is (PairRet.flat0 (below_set HB1.out (Nat.le_refl _) _ _ _ _)) HG.out
    · have HG := Lib.hid (show calcV 10 x y = (zeroV, 403) by
        show (if y = 0 then _ else _) = _
        rw [if_pos (eq_of_beq hy)])
      go_enter Try.func65, Try.ntmps65
      go_wp2_with fail
      refine bodyPost_ret (v := .tuple #[.agg #[.int .i64 0, .int .i64 0, .string ⟨#[]⟩, .slice none 0 0], .int .i64 403]) (by simp [results, go_sem]) rfl ?_
      exact PairRet.is (PairRet.flat0 HB.out) HG.out

theorem element_any (a : Option Addr) (n c : Nat) (l : List Int) (p : Int) (w : World) (bound : Nat) (h : Nums w bound a n l) :
    Calls Try.prog 62 #[.slice a n c, .int .i64 p] w (PairRet w (elemV l p)) := by
  have HB := Lib.hid ((Below.refl w.heap.size w).alloc (Nat.le_refl _) (.cells #[.int .i64 0, .int .i64 0, .string ⟨#[]⟩, .slice none 0 0] 33))
  have HS := Lib.hid (Slot.new w)
  have hl := h.1
  have hs := h.2.1
  have HN := Lib.hid h
  clear h
  cases d0 : decide (p < 0)
  · cases d1 : decide ((n : Int) ≤ p)
    · obtain ⟨k, rfl⟩ : ∃ k : Nat, p = (k : Int) := ⟨p.toNat, by have := of_decide_eq_false d0; omega⟩
      have hk : k < n := by have := of_decide_eq_false d1; omega
      obtain ⟨b, off, x, rfl, hbb, hx, x0⟩ := HN.out.at_ hk
      have HG := Lib.hid (show elemV l (k : Int) = (intV x, 0) by
        unfold elemV
        rw [if_pos ⟨by omega, by omega⟩, Int.toNat_natCast, List.getD_eq_getElem?_getD, hx]; rfl)
      clear hl hx
      have hbw : b < w.heap.size := by
        rcases Nat.lt_or_ge b w.heap.size with h | h
        · exact h
        · have : w.cell? ⟨b, off + k, none⟩ = none := by unfold World.cell?; rw [Array.getElem?_eq_none h]
          rw [this] at x0; cases x0
      go_enter Try.func62, Try.ntmps62
      go_wp2_with (first
        | (go_at_call 38; (with_reducible refine (tNumber_any _ _).mono ?_)
           rintro e w1 ⟨rfl, hb1⟩
           have HS1 := Lib.hid (HS.out.on hb1)
           have HB1 := Lib.hid (below_on HB.out hb1)
           obtain ⟨⟨c0, c1, c2, c3⟩, f0, f1, f2, f3⟩ := HS1.out.cells
           clear hb1)
        | fail)
      (try simp only [Exit.inBlock, Exit.then])
      refine end_pair rfl rfl rfl HS1.out ?_
      exact PairRet.is (PairRet.flat0 (below_set HB1.out (Nat.le_refl _) _ _ _ _)) HG.out
    · have HG := Lib.hid (show elemV l p = (zeroV, 404) by
        unfold elemV
        rw [if_neg (fun h => by have := of_decide_eq_true d1; omega)])
      clear hl
      go_enter Try.func62, Try.ntmps62
      go_wp2_with fail
      refine bodyPost_ret (v := .tuple #[.agg #[.int .i64 0, .int .i64 0, .string ⟨#[]⟩, .slice none 0 0], .int .i64 404]) (by simp [results, go_sem]) rfl ?_
      exact PairRet.is (PairRet.flat0 HB.out) HG.out
  · have HG := Lib.hid (show elemV l p = (zeroV, 404) by
      unfold elemV
      rw [if_neg (fun h => by have := of_decide_eq_true d0; omega)])
    clear hl
    go_enter Try.func62, Try.ntmps62
    go_wp2_with fail
    refine bodyPost_ret (v := .tuple #[.agg #[.int .i64 0, .int .i64 0, .string ⟨#[]⟩, .slice none 0 0], .int .i64 404]) (by simp [results, go_sem]) rfl ?_
    exact PairRet.is (PairRet.flat0 HB.out) HG.out

theorem toList_add (s t : ByteArray) : (s ++ t).toList = s.toList ++ t.toList := by
  rw [ByteArray.toList_eq, ByteArray.toList_eq, ByteArray.toList_eq, ByteArray.data_append, Array.toList_append]
theorem join_any (s t : ByteArray) (w : World) (hs : s.size ≤ 24) (ht : t.size ≤ 24) :
    Calls Try.prog 64 #[.string s, .string t] w (PairRet w (joinV s.toList t.toList)) := by
  have HB := Lib.hid ((Below.refl w.heap.size w).alloc (Nat.le_refl _) (.cells #[.int .i64 0, .int .i64 0, .string ⟨#[]⟩, .slice none 0 0] 33))
  have HS := Lib.hid (Slot.new w)
  by_cases h : 24 < s.size + t.size
  · have d : decide ((24 : Int) < (s.size : Int) + (t.size : Int)) = true := decide_eq_true (by omega)
    have HG := Lib.hid (show joinV s.toList t.toList = (zeroV, 405) by unfold joinV; rw [lxLen, lxLen, if_pos h])
    go_enter Try.func64, Try.ntmps64
    go_wp2_with fail
    refine bodyPost_ret (v := .tuple #[.agg #[.int .i64 0, .int .i64 0, .string ⟨#[]⟩, .slice none 0 0], .int .i64 405]) (by simp [results, go_sem]) rfl ?_
    exact PairRet.is (PairRet.flat0 HB.out) HG.out
  · have d : decide ((24 : Int) < (s.size : Int) + (t.size : Int)) = false := decide_eq_false (by omega)
    have HG := Lib.hid (show joinV s.toList t.toList = (⟨3, 0, (s ++ t).toList, []⟩, 0) by unfold joinV; rw [lxLen, lxLen, if_neg h, toList_add]; rfl)
    go_enter Try.func64, Try.ntmps64
    go_wp2_with (first
      | (go_at_call 40; (with_reducible refine (text_any _ _).mono ?_)
         rintro e w1 ⟨rfl, hb1⟩
         have HS1 := Lib.hid (HS.out.on hb1)
         have HB1 := Lib.hid (below_on HB.out hb1)
         obtain ⟨⟨c0, c1, c2, c3⟩, f0, f1, f2, f3⟩ := HS1.out.cells
         clear hb1)
      | fail)
    (try simp only [Exit.inBlock, Exit.then])
    refine end_pair rfl rfl rfl HS1.out ?_
    exact PairRet.is (PairRet.flat (below_set HB1.out (Nat.le_refl _) _ _ _ _)) HG.out
end Go.Proofs.Ythbakfceaaaamaa
