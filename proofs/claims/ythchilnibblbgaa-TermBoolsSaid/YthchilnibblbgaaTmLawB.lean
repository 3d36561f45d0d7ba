/- The law TermBools returns true, whatever its arguments. -/
import Derived.Test.YthchilnibblbgaaTmLawX
namespace Go.Proofs.Ythchilnibblbgaa
open Go.RowKit

def bitT (x : Int) : Trm := ⟨2, [], x, [], -1, -1⟩
def bits (b : Bool) : Int := if b then 1 else 0
theorem sound_bit (b : Bool) : soundT (bitT (bits b)) = true := by cases b <;> rfl
def brT (x y : Int) : List Trm := [bitT x, bitT y]
def ntT (x : Int) : List Trm := [bitT x, ⟨15, [], 0, [], 0, -1⟩]
def bdT (x k : Int) : List Trm := [bitT x, numT 1, numT 0, twoT 9 1 2, numT 3, twoT 11 3 4, twoT k 0 5]
theorem bit_val (a : Bool) : leafV [] (bitT (bits a)) = (boolV a, 0) := by cases a <;> rfl
theorem and_val (a b : Bool) : evalF (brT (bits a) (bits b) ++ [twoT 13 0 1]) 2 [] = (⟨2, bits (a && b), [], []⟩, 0) := by
  show evalF [bitT (bits a), bitT (bits b), twoT 13 0 1] 2 [] = _
  rw [evalF_two _ (sound_bit a) rfl (sound_bit b) rfl rfl (by omega) (by omega)]
  simp only [evalE, bit_val, if_true]
  cases a <;> cases b <;> rfl
theorem or_val (a b : Bool) : evalF (brT (bits a) (bits b) ++ [twoT 14 0 1]) 2 [] = (⟨2, bits (a || b), [], []⟩, 0) := by
  show evalF [bitT (bits a), bitT (bits b), twoT 14 0 1] 2 [] = _
  rw [evalF_two _ (sound_bit a) rfl (sound_bit b) rfl rfl (by omega) (by omega)]
  simp only [evalE, bit_val, if_true]
  cases a <;> cases b <;> rfl
theorem not_val (a : Bool) : evalF (ntT (bits a)) 1 [] = (⟨2, bits (!a), [], []⟩, 0) := by
  rw [evalF_good (L := ntT (bits a)) (root := 1) (e := .one 1 ⟨15, [], 0, [], 0, -1⟩ (.leaf 0 (bitT (bits a)))) ⟨by simp [ntT], rfl, ⟨rfl, rfl, rfl, rfl, by simp [Exp.at_], ⟨rfl, sound_bit a, rfl⟩⟩, by simp [Exp.places], by simp [Exp.deep]⟩]
  simp only [evalE, bit_val, if_true]
  cases a <;> rfl
def bdE (x k : Int) : Exp := .two 6 (twoT k 0 5) (.leaf 0 (bitT x)) (.two 5 (twoT 11 3 4) (.two 3 (twoT 9 1 2) (.leaf 1 (numT 1)) (.leaf 2 (numT 0))) (.leaf 4 (numT 3)))
theorem bad_val (a : Bool) {k : Int} (hk : k = 13 ∨ k = 14) : evalF (bdT (bits a) k) 6 [] = (⟨0, 0, [], []⟩, 403) := by
  have hs : soundT (twoT k 0 5) = true ∧ arT (twoT k 0 5).kind = 2 := by rcases hk with rfl | rfl <;> exact ⟨rfl, rfl⟩
  rw [evalF_good (L := bdT (bits a) k) (root := 6) (e := bdE (bits a) k) ⟨by simp [bdT], rfl, ⟨rfl, hs.1, hs.2, rfl, rfl, by simp [Exp.at_], by simp [Exp.at_], ⟨rfl, sound_bit a, rfl⟩, ⟨rfl, rfl, rfl, rfl, rfl, by decide, by decide, ⟨rfl, rfl, rfl, rfl, rfl, by decide, by decide, ⟨rfl, sound_num 1, rfl⟩, ⟨rfl, sound_num 0, rfl⟩⟩, ⟨rfl, sound_num 3, rfl⟩⟩⟩, by simp [bdE, Exp.places], by simp [bdE, Exp.deep]⟩]
  simp only [bdE, evalE, bit_val, if_true]
  rfl
theorem Trms.of_heap {W : World} {cs : Array Value} {g n : Nat} (L : List Trm) (h : W.heap[g]? = some (.cells cs 38 (0, 0))) (hc : cs = (encTrms L).toArray) (hn : L.length = n) (hl : n ≤ 100000) (hm : ∀ t ∈ L, t.name.length ≤ maxLen ∧ t.text.length ≤ maxLen) :
    Trms W W.heap.size (some ⟨g, 0, none⟩) n L := by
  subst hc
  have hg : g < W.heap.size := by
    rcases Nat.lt_or_ge g W.heap.size with h1 | h1
    · exact h1
    · rw [Array.getElem?_eq_none h1] at h; cases h
  refine ⟨hn, by omega, hm, fun _ => ⟨g, 0, rfl, hg, fun j t hj => ?_⟩⟩
  have hc : ∀ i, i < 6 → W.cell? ⟨g, 0 + j * 6 + i, none⟩ = (encTrm t)[i]? := fun i hi => by
    rw [cell_of_row _ _ _ _ _ _ h, List.getElem?_toArray, Nat.zero_add]
    exact flat_at (f := encTrm) (m := 6) (fun _ => rfl) L j t hj i hi
  exact ⟨by have := hc 0 (by omega); rw [Nat.add_zero] at this; rw [this]; rfl, by rw [hc 1 (by omega)]; rfl, by rw [hc 2 (by omega)]; rfl, by rw [hc 3 (by omega)]; rfl, by rw [hc 4 (by omega)]; rfl, by rw [hc 5 (by omega)]; rfl⟩
theorem set_heap {W : World} {cs : Array Value} {g o : Nat} {ty : TypeId} (h : W.heap[g]? = some (.cells cs ty (0, 0))) (u : Value) : (W.setCell ⟨g, o, none⟩ u).heap[g]? = some (.cells (cs.setIfInBounds o u) ty (0, 0)) := by
  have hlt := lt_of_block h
  have h' : W.heap[g] = .cells cs ty (0, 0) := by simpa [Array.getElem?_eq_getElem hlt] using h
  show (W.heap.modify g _)[g]? = _
  rw [Array.getElem?_eq_getElem (by simpa using hlt), Array.getElem_modify_self, h']
  rfl
theorem row_cells {W : World} {bound g : Nat} {x y : Int} (h : Trms W bound (some ⟨g, 0, none⟩) 2 (brT x y)) : W.cell? ⟨g, 0, none⟩ = some (.int .i64 2) ∧ W.cell? ⟨g, 1, none⟩ = some (.string ⟨#[]⟩) ∧ W.cell? ⟨g, 2, none⟩ = some (.int .i64 x) ∧ W.cell? ⟨g, 3, none⟩ = some (.string ⟨#[]⟩) ∧ W.cell? ⟨g, 4, none⟩ = some (.int .i64 (-1)) ∧ W.cell? ⟨g, 5, none⟩ = some (.int .i64 (-1)) := by
  obtain ⟨b, off, e, _, hc⟩ := h.2.2.2 (by omega)
  injection e with e
  injection e with e1 e2 _
  subst e1 e2
  exact hc 0 (bitT x) rfl

set_option maxHeartbeats 8000000 in
set_option maxRecDepth 20000 in
theorem termBools_false_false (w : World) : Calls Try.prog 11 #[.bool false, .bool false] w fun e w' => e = .returned (.bool true) ∧ Below w.heap.size w w' := by
  have CF := Lib.hid (first_any w)
  have CE1 := Lib.hid (fun (a : Option Addr) (c : Nat) (W : World) (hT : Trms W W.heap.size a 3 (brT 0 0 ++ [twoT 13 0 1])) => show Calls Try.prog 17 #[.slice a 3 c, .int .i64 2, .slice none 0 0] W (PairRet W (⟨2, 0, [], []⟩, 0)) from (and_val false false) ▸ termEval_any a 3 c (brT 0 0 ++ [twoT 13 0 1]) 2 none 0 0 [] W W.heap.size (Nat.le_refl _) hT (Binds.zero _ _ _))
  have CE2 := Lib.hid (fun (a : Option Addr) (c : Nat) (W : World) (hT : Trms W W.heap.size a 3 (brT 0 0 ++ [twoT 14 0 1])) => show Calls Try.prog 17 #[.slice a 3 c, .int .i64 2, .slice none 0 0] W (PairRet W (⟨2, 0, [], []⟩, 0)) from (or_val false false) ▸ termEval_any a 3 c (brT 0 0 ++ [twoT 14 0 1]) 2 none 0 0 [] W W.heap.size (Nat.le_refl _) hT (Binds.zero _ _ _))
  have CE3 := Lib.hid (fun (g : Nat) (W : World) (hT : Trms W W.heap.size (some ⟨g, 0, none⟩) 2 (ntT 0)) => show Calls Try.prog 17 #[.slice (some ⟨g, 0, none⟩) 2 2, .int .i64 1, .slice none 0 0] W (PairRet W (⟨2, 1, [], []⟩, 0)) from (not_val false) ▸ termEval_any (some ⟨g, 0, none⟩) 2 2 (ntT 0) 1 none 0 0 [] W W.heap.size (Nat.le_refl _) hT (Binds.zero _ _ _))
  have CE4 := Lib.hid (fun (g : Nat) (W : World) (hT : Trms W W.heap.size (some ⟨g, 0, none⟩) 7 (bdT 0 13)) => show Calls Try.prog 17 #[.slice (some ⟨g, 0, none⟩) 7 7, .int .i64 6, .slice none 0 0] W (PairRet W (⟨0, 0, [], []⟩, 403)) from (bad_val false (.inl rfl)) ▸ termEval_any (some ⟨g, 0, none⟩) 7 7 (bdT 0 13) 6 none 0 0 [] W W.heap.size (Nat.le_refl _) hT (Binds.zero _ _ _))
  have CE5 := Lib.hid (fun (g : Nat) (W : World) (hT : Trms W W.heap.size (some ⟨g, 0, none⟩) 7 (bdT 0 14)) => show Calls Try.prog 17 #[.slice (some ⟨g, 0, none⟩) 7 7, .int .i64 6, .slice none 0 0] W (PairRet W (⟨0, 0, [], []⟩, 403)) from (bad_val false (.inr rfl)) ▸ termEval_any (some ⟨g, 0, none⟩) 7 7 (bdT 0 14) 6 none 0 0 [] W W.heap.size (Nat.le_refl _) hT (Binds.zero _ _ _))
  go_enter Try.func11, Try.ntmps11
  go_wp2_with (first
  | (go_at_call 13; (with_reducible refine CF.out.mono ?_)
     rintro e w1 ⟨rfl, hb1⟩
     have HB := Lib.hid (below_on hb1 (next_alloc w1 (.cells #[.int .i64 2, .string ⟨#[]⟩, .int .i64 0, .string ⟨#[]⟩, .int .i64 (-1), .int .i64 (-1), .int .i64 2, .string ⟨#[]⟩, .int .i64 0, .string ⟨#[]⟩, .int .i64 (-1), .int .i64 (-1)] 38)))
     have HRW := Lib.hid (Trms.made w1 #[.int .i64 2, .string ⟨#[]⟩, .int .i64 0, .string ⟨#[]⟩, .int .i64 (-1), .int .i64 (-1), .int .i64 2, .string ⟨#[]⟩, .int .i64 0, .string ⟨#[]⟩, .int .i64 (-1), .int .i64 (-1)] (brT 0 0) 2 w1.heap.size rfl rfl rfl (by omega) (short_trms rfl))
     clear hb1)
  | (at_builtin
     refine wpList_append_trms rfl (.const (.slice none 0 0)) (.tmp 29) rfl (w1.alloc (.cells #[.int .i64 2, .string ⟨#[]⟩, .int .i64 0, .string ⟨#[]⟩, .int .i64 (-1), .int .i64 (-1), .int .i64 2, .string ⟨#[]⟩, .int .i64 0, .string ⟨#[]⟩, .int .i64 (-1), .int .i64 (-1)] 38)).heap.size _ [] _ _ _ (brT 0 0) _ rfl rfl (TOwn.zero _ _) HRW.out (Nat.le_refl _) (by simp) (w1.alloc (.cells #[.int .i64 2, .string ⟨#[]⟩, .int .i64 0, .string ⟨#[]⟩, .int .i64 (-1), .int .i64 (-1), .int .i64 2, .string ⟨#[]⟩, .int .i64 0, .string ⟨#[]⟩, .int .i64 (-1), .int .i64 (-1)] 38)) (Below.refl _ _) ?_
     intro vp wp ho hbn
     rw [List.nil_append] at ho
     have HOp := Lib.hid ho
     have HGp := Lib.hid hbn
     clear ho hbn)
  | (go_at_call 21; (with_reducible refine (two_any 13 0 1 _).mono ?_)
     rintro e wtp ⟨rfl, hbn⟩
     have HOp := Lib.hid (HOp.out.kept hbn)
     have HGTp := Lib.hid (HGp.out.trans (hbn.mono HGp.out.size))
     clear hbn)
  | (at_builtin
     refine wpList_append_trms rfl (.tmp 30) (.tmp 32) rfl (w1.alloc (.cells #[.int .i64 2, .string ⟨#[]⟩, .int .i64 0, .string ⟨#[]⟩, .int .i64 (-1), .int .i64 (-1), .int .i64 2, .string ⟨#[]⟩, .int .i64 0, .string ⟨#[]⟩, .int .i64 (-1), .int .i64 (-1)] 38)).heap.size vp (brT 0 0) _ 1 1 [twoT 13 0 1] _ rfl rfl (HOp.out.alloc _) (Trms.made wtp _ [twoT 13 0 1] 1 wtp.heap.size rfl rfl rfl (by omega) (short_trms rfl)) (Nat.le_trans HGTp.out.size (by simp)) (by simp [brT]) (w1.alloc (.cells #[.int .i64 2, .string ⟨#[]⟩, .int .i64 0, .string ⟨#[]⟩, .int .i64 (-1), .int .i64 (-1), .int .i64 2, .string ⟨#[]⟩, .int .i64 0, .string ⟨#[]⟩, .int .i64 (-1), .int .i64 (-1)] 38)) (HGTp.out.alloc HGTp.out.size _) ?_
     intro vvp wrp ho hbn
     obtain ⟨aap, ccp, rfl, hT8⟩ : ∃ a c, vvp = .slice a 3 c ∧ Trms wrp wrp.heap.size a 3 (brT 0 0 ++ [twoT 13 0 1]) := ho.sees (by simp [brT]) (short_trms rfl)
     have HTp := Lib.hid hT8
     have HB := Lib.hid (below_on HB.out hbn)
     have HRW := Lib.hid (HRW.out.on hbn)
     clear ho hbn hT8)
  | (go_at_call 17; (with_reducible refine (CE1.out _ _ _ ?_).mono ?_)
     · exact HTp.out
     rintro e we ⟨⟨se, ae, ne, ce, rfl, hv, hf⟩, hbv⟩
     have HB := Lib.hid (below_on (below_on HB.out hbv) (next_alloc we (.cells #[.int .i64 2, .int .i64 0, .string se, .slice ae ne ce] 33)))
     have HRW := Lib.hid ((HRW.out.on hbv).on (next_alloc we (.cells #[.int .i64 2, .int .i64 0, .string se, .slice ae ne ce] 33)))
     have HX1 := Lib.hid (BoxV.new we (.int .i64 2) (.int .i64 0) (.string se) (.slice ae ne ce))
     clear hv hf hbv)
  | (at_builtin
     refine wpList_append_trms rfl (.const (.slice none 0 0)) (.tmp 38) rfl (we.alloc (.cells #[.int .i64 2, .int .i64 0, .string se, .slice ae ne ce] 33)).heap.size _ [] _ _ _ (brT 0 0) _ rfl rfl (TOwn.zero _ _) HRW.out (Nat.le_refl _) (by simp) (we.alloc (.cells #[.int .i64 2, .int .i64 0, .string se, .slice ae ne ce] 33)) (Below.refl _ _) ?_
     intro vu wu ho hbn
     rw [List.nil_append] at ho
     have HOu := Lib.hid ho
     have HGu := Lib.hid hbn
     clear ho hbn)
  | (go_at_call 21; (with_reducible refine (two_any 14 0 1 _).mono ?_)
     rintro e wtu ⟨rfl, hbn⟩
     have HOu := Lib.hid (HOu.out.kept hbn)
     have HGTu := Lib.hid (HGu.out.trans (hbn.mono HGu.out.size))
     clear hbn)
  | (at_builtin
     refine wpList_append_trms rfl (.tmp 39) (.tmp 41) rfl (we.alloc (.cells #[.int .i64 2, .int .i64 0, .string se, .slice ae ne ce] 33)).heap.size vu (brT 0 0) _ 1 1 [twoT 14 0 1] _ rfl rfl (HOu.out.alloc _) (Trms.made wtu _ [twoT 14 0 1] 1 wtu.heap.size rfl rfl rfl (by omega) (short_trms rfl)) (Nat.le_trans HGTu.out.size (by simp)) (by simp [brT]) (we.alloc (.cells #[.int .i64 2, .int .i64 0, .string se, .slice ae ne ce] 33)) (HGTu.out.alloc HGTu.out.size _) ?_
     intro vvu wru ho hbn
     obtain ⟨aau, ccu, rfl, hT8⟩ : ∃ a c, vvu = .slice a 3 c ∧ Trms wru wru.heap.size a 3 (brT 0 0 ++ [twoT 14 0 1]) := ho.sees (by simp [brT]) (short_trms rfl)
     have HTu := Lib.hid hT8
     have HB := Lib.hid (below_on HB.out hbn)
     have HRW := Lib.hid (HRW.out.on hbn)
     have HX1 := Lib.hid (HX1.out.on hbn)
     clear ho hbn hT8)
  | (go_at_call 17; (with_reducible refine (CE2.out _ _ _ ?_).mono ?_)
     · exact HTu.out
     rintro e wf ⟨⟨sf, af, nf, cf, rfl, hv, hf⟩, hbv⟩
     have HB := Lib.hid (below_on (below_on HB.out hbv) (next_alloc wf (.cells #[.int .i64 2, .int .i64 0, .string sf, .slice af nf cf] 33)))
     have HRW := Lib.hid ((HRW.out.on hbv).on (next_alloc wf (.cells #[.int .i64 2, .int .i64 0, .string sf, .slice af nf cf] 33)))
     have HX1 := Lib.hid ((HX1.out.on hbv).on (next_alloc wf (.cells #[.int .i64 2, .int .i64 0, .string sf, .slice af nf cf] 33)))
     have HX2 := Lib.hid (BoxV.new wf (.int .i64 2) (.int .i64 0) (.string sf) (.slice af nf cf))
     obtain ⟨q0, q1, q2, q3, q4, q5⟩ := row_cells HRW.out
     clear hv hf hbv)
  | (go_at_call 17; (with_reducible refine (CE3.out _ _ ?_).mono ?_)
     · exact Trms.made _ #[.int .i64 2, .string ⟨#[]⟩, .int .i64 0, .string ⟨#[]⟩, .int .i64 (-1), .int .i64 (-1), .int .i64 15, .string ⟨#[]⟩, .int .i64 0, .string ⟨#[]⟩, .int .i64 0, .int .i64 (-1)] (ntT 0) 2 _ (by simp) rfl rfl (by omega) (short_trms rfl)
     rintro e wg ⟨⟨sg, ag, ng, cg, rfl, hv, hf⟩, hbv⟩
     have HB := Lib.hid (below_on (below_on (below_on HB.out (next_alloc _ _)) hbv) (next_alloc wg (.cells #[.int .i64 2, .int .i64 1, .string sg, .slice ag ng cg] 33)))
     have HRW := Lib.hid (((HRW.out.on (next_alloc _ _)).on hbv).on (next_alloc wg (.cells #[.int .i64 2, .int .i64 1, .string sg, .slice ag ng cg] 33)))
     have HX1 := Lib.hid (((HX1.out.on (next_alloc _ _)).on hbv).on (next_alloc wg (.cells #[.int .i64 2, .int .i64 1, .string sg, .slice ag ng cg] 33)))
     have HX2 := Lib.hid (((HX2.out.on (next_alloc _ _)).on hbv).on (next_alloc wg (.cells #[.int .i64 2, .int .i64 1, .string sg, .slice ag ng cg] 33)))
     have HX3 := Lib.hid (BoxV.new wg (.int .i64 2) (.int .i64 1) (.string sg) (.slice ag ng cg))
     obtain ⟨q0, q1, q2, q3, q4, q5⟩ := row_cells HRW.out
     clear hv hf hbv)
  | fail)
  go_region_held3 (fun W => W.cell? ⟨w1.heap.size, 0, none⟩ = some (.int .i64 2) ∧ W.cell? ⟨w1.heap.size, 1, none⟩ = some (.string ⟨#[]⟩) ∧ W.cell? ⟨w1.heap.size, 2, none⟩ = some (.int .i64 0) ∧ W.cell? ⟨w1.heap.size, 3, none⟩ = some (.string ⟨#[]⟩) ∧ W.cell? ⟨w1.heap.size, 4, none⟩ = some (.int .i64 (-1)) ∧ W.cell? ⟨w1.heap.size, 5, none⟩ = some (.int .i64 (-1))) (first | exact ⟨q0, q1, q2, q3, q4, q5⟩ | (obtain ⟨q0, q1, q2, q3, q4, q5⟩ := row_cells (HRW.out.on (next_alloc _ _)); exact ⟨q0, q1, q2, q3, q4, q5⟩)) (first
  | (go_at_call 30; (with_reducible refine (num_any _ _).mono ?_)
     rintro e wn ⟨rfl, hbn⟩
     have HB := Lib.hid (show Below w.heap.size w wn from below_on HB.out ⟨hbn.os, hbn.tape, hbn.output, hbn.size, hbn.block⟩)
     have HRW := Lib.hid (HRW.out.on (W' := wn) ⟨hbn.os, hbn.tape, hbn.output, hbn.size, hbn.block⟩)
     have HX1 := Lib.hid (HX1.out.on (W' := wn) ⟨hbn.os, hbn.tape, hbn.output, hbn.size, hbn.block⟩)
     have HX2 := Lib.hid (HX2.out.on (W' := wn) ⟨hbn.os, hbn.tape, hbn.output, hbn.size, hbn.block⟩)
     have HX3 := Lib.hid (HX3.out.on (W' := wn) ⟨hbn.os, hbn.tape, hbn.output, hbn.size, hbn.block⟩)
     obtain ⟨q0, q1, q2, q3, q4, q5⟩ := row_cells HRW.out
     clear hbn)
  | (go_at_call 21; (with_reducible refine (two_any _ _ _ _).mono ?_)
     rintro e wn ⟨rfl, hbn⟩
     have HB := Lib.hid (show Below w.heap.size w wn from below_on HB.out ⟨hbn.os, hbn.tape, hbn.output, hbn.size, hbn.block⟩)
     have HRW := Lib.hid (HRW.out.on (W' := wn) ⟨hbn.os, hbn.tape, hbn.output, hbn.size, hbn.block⟩)
     have HX1 := Lib.hid (HX1.out.on (W' := wn) ⟨hbn.os, hbn.tape, hbn.output, hbn.size, hbn.block⟩)
     have HX2 := Lib.hid (HX2.out.on (W' := wn) ⟨hbn.os, hbn.tape, hbn.output, hbn.size, hbn.block⟩)
     have HX3 := Lib.hid (HX3.out.on (W' := wn) ⟨hbn.os, hbn.tape, hbn.output, hbn.size, hbn.block⟩)
     obtain ⟨q0, q1, q2, q3, q4, q5⟩ := row_cells HRW.out
     clear hbn)
  | fail)
  all_goals
    have hwa : Below wn.heap.size wn (wn.alloc (.cells #[.int .i64 2, .string ⟨#[]⟩, .int .i64 0, .string ⟨#[]⟩, .int .i64 (-1), .int .i64 (-1), .int .i64 1, .string ⟨#[]⟩, .int .i64 1, .string ⟨#[]⟩, .int .i64 (-1), .int .i64 (-1), .int .i64 1, .string ⟨#[]⟩, .int .i64 0, .string ⟨#[]⟩, .int .i64 (-1), .int .i64 (-1), .int .i64 9, .string ⟨#[]⟩, .int .i64 0, .string ⟨#[]⟩, .int .i64 1, .int .i64 2, .int .i64 1, .string ⟨#[]⟩, .int .i64 3, .string ⟨#[]⟩, .int .i64 (-1), .int .i64 (-1), .int .i64 11, .string ⟨#[]⟩, .int .i64 0, .string ⟨#[]⟩, .int .i64 3, .int .i64 4, .int .i64 13, .string ⟨#[]⟩, .int .i64 0, .string ⟨#[]⟩, .int .i64 0, .int .i64 5] 38)) := next_alloc _ _
    have HWA := Lib.hid hwa
    have HTB := Lib.hid (Trms.made wn #[.int .i64 2, .string ⟨#[]⟩, .int .i64 0, .string ⟨#[]⟩, .int .i64 (-1), .int .i64 (-1), .int .i64 1, .string ⟨#[]⟩, .int .i64 1, .string ⟨#[]⟩, .int .i64 (-1), .int .i64 (-1), .int .i64 1, .string ⟨#[]⟩, .int .i64 0, .string ⟨#[]⟩, .int .i64 (-1), .int .i64 (-1), .int .i64 9, .string ⟨#[]⟩, .int .i64 0, .string ⟨#[]⟩, .int .i64 1, .int .i64 2, .int .i64 1, .string ⟨#[]⟩, .int .i64 3, .string ⟨#[]⟩, .int .i64 (-1), .int .i64 (-1), .int .i64 11, .string ⟨#[]⟩, .int .i64 0, .string ⟨#[]⟩, .int .i64 3, .int .i64 4, .int .i64 13, .string ⟨#[]⟩, .int .i64 0, .string ⟨#[]⟩, .int .i64 0, .int .i64 5] (bdT 0 13) 7 wn.heap.size rfl rfl rfl (by omega) (short_trms rfl))
    have HHB := Lib.hid (show (wn.alloc (.cells #[.int .i64 2, .string ⟨#[]⟩, .int .i64 0, .string ⟨#[]⟩, .int .i64 (-1), .int .i64 (-1), .int .i64 1, .string ⟨#[]⟩, .int .i64 1, .string ⟨#[]⟩, .int .i64 (-1), .int .i64 (-1), .int .i64 1, .string ⟨#[]⟩, .int .i64 0, .string ⟨#[]⟩, .int .i64 (-1), .int .i64 (-1), .int .i64 9, .string ⟨#[]⟩, .int .i64 0, .string ⟨#[]⟩, .int .i64 1, .int .i64 2, .int .i64 1, .string ⟨#[]⟩, .int .i64 3, .string ⟨#[]⟩, .int .i64 (-1), .int .i64 (-1), .int .i64 11, .string ⟨#[]⟩, .int .i64 0, .string ⟨#[]⟩, .int .i64 3, .int .i64 4, .int .i64 13, .string ⟨#[]⟩, .int .i64 0, .string ⟨#[]⟩, .int .i64 0, .int .i64 5] 38)).heap[wn.heap.size]? = some (.cells #[.int .i64 2, .string ⟨#[]⟩, .int .i64 0, .string ⟨#[]⟩, .int .i64 (-1), .int .i64 (-1), .int .i64 1, .string ⟨#[]⟩, .int .i64 1, .string ⟨#[]⟩, .int .i64 (-1), .int .i64 (-1), .int .i64 1, .string ⟨#[]⟩, .int .i64 0, .string ⟨#[]⟩, .int .i64 (-1), .int .i64 (-1), .int .i64 9, .string ⟨#[]⟩, .int .i64 0, .string ⟨#[]⟩, .int .i64 1, .int .i64 2, .int .i64 1, .string ⟨#[]⟩, .int .i64 3, .string ⟨#[]⟩, .int .i64 (-1), .int .i64 (-1), .int .i64 11, .string ⟨#[]⟩, .int .i64 0, .string ⟨#[]⟩, .int .i64 3, .int .i64 4, .int .i64 13, .string ⟨#[]⟩, .int .i64 0, .string ⟨#[]⟩, .int .i64 0, .int .i64 5] 38 (0, 0)) from heap_alloc_new wn _)
    clear hwa
    go_wp2_with (first
      | (go_at_call 17; (with_reducible refine (CE4.out _ _ ?_).mono ?_)
         · exact HTB.out
         rintro e wh ⟨⟨sh, ah, nh, ch, rfl, hv, hf⟩, hbv⟩
         have hbw : Below (wn.alloc (.cells #[.int .i64 2, .string ⟨#[]⟩, .int .i64 0, .string ⟨#[]⟩, .int .i64 (-1), .int .i64 (-1), .int .i64 1, .string ⟨#[]⟩, .int .i64 1, .string ⟨#[]⟩, .int .i64 (-1), .int .i64 (-1), .int .i64 1, .string ⟨#[]⟩, .int .i64 0, .string ⟨#[]⟩, .int .i64 (-1), .int .i64 (-1), .int .i64 9, .string ⟨#[]⟩, .int .i64 0, .string ⟨#[]⟩, .int .i64 1, .int .i64 2, .int .i64 1, .string ⟨#[]⟩, .int .i64 3, .string ⟨#[]⟩, .int .i64 (-1), .int .i64 (-1), .int .i64 11, .string ⟨#[]⟩, .int .i64 0, .string ⟨#[]⟩, .int .i64 3, .int .i64 4, .int .i64 13, .string ⟨#[]⟩, .int .i64 0, .string ⟨#[]⟩, .int .i64 0, .int .i64 5] 38)).heap.size (wn.alloc (.cells #[.int .i64 2, .string ⟨#[]⟩, .int .i64 0, .string ⟨#[]⟩, .int .i64 (-1), .int .i64 (-1), .int .i64 1, .string ⟨#[]⟩, .int .i64 1, .string ⟨#[]⟩, .int .i64 (-1), .int .i64 (-1), .int .i64 1, .string ⟨#[]⟩, .int .i64 0, .string ⟨#[]⟩, .int .i64 (-1), .int .i64 (-1), .int .i64 9, .string ⟨#[]⟩, .int .i64 0, .string ⟨#[]⟩, .int .i64 1, .int .i64 2, .int .i64 1, .string ⟨#[]⟩, .int .i64 3, .string ⟨#[]⟩, .int .i64 (-1), .int .i64 (-1), .int .i64 11, .string ⟨#[]⟩, .int .i64 0, .string ⟨#[]⟩, .int .i64 3, .int .i64 4, .int .i64 13, .string ⟨#[]⟩, .int .i64 0, .string ⟨#[]⟩, .int .i64 0, .int .i64 5] 38)) wh := ⟨hbv.os, hbv.tape, hbv.output, hbv.size, hbv.block⟩
         have hbx : Below wn.heap.size wn (wh.alloc (.cells #[.int .i64 0, .int .i64 0, .string sh, .slice ah nh ch] 33)) := below_on (below_on HWA.out hbw) (next_alloc wh (.cells #[.int .i64 0, .int .i64 0, .string sh, .slice ah nh ch] 33))
         have hlt : wn.heap.size < (wn.alloc (.cells #[.int .i64 2, .string ⟨#[]⟩, .int .i64 0, .string ⟨#[]⟩, .int .i64 (-1), .int .i64 (-1), .int .i64 1, .string ⟨#[]⟩, .int .i64 1, .string ⟨#[]⟩, .int .i64 (-1), .int .i64 (-1), .int .i64 1, .string ⟨#[]⟩, .int .i64 0, .string ⟨#[]⟩, .int .i64 (-1), .int .i64 (-1), .int .i64 9, .string ⟨#[]⟩, .int .i64 0, .string ⟨#[]⟩, .int .i64 1, .int .i64 2, .int .i64 1, .string ⟨#[]⟩, .int .i64 3, .string ⟨#[]⟩, .int .i64 (-1), .int .i64 (-1), .int .i64 11, .string ⟨#[]⟩, .int .i64 0, .string ⟨#[]⟩, .int .i64 3, .int .i64 4, .int .i64 13, .string ⟨#[]⟩, .int .i64 0, .string ⟨#[]⟩, .int .i64 0, .int .i64 5] 38)).heap.size := by simp
         have hg : (wh.alloc (.cells #[.int .i64 0, .int .i64 0, .string sh, .slice ah nh ch] 33)).heap[wn.heap.size]? = some (.cells #[.int .i64 2, .string ⟨#[]⟩, .int .i64 0, .string ⟨#[]⟩, .int .i64 (-1), .int .i64 (-1), .int .i64 1, .string ⟨#[]⟩, .int .i64 1, .string ⟨#[]⟩, .int .i64 (-1), .int .i64 (-1), .int .i64 1, .string ⟨#[]⟩, .int .i64 0, .string ⟨#[]⟩, .int .i64 (-1), .int .i64 (-1), .int .i64 9, .string ⟨#[]⟩, .int .i64 0, .string ⟨#[]⟩, .int .i64 1, .int .i64 2, .int .i64 1, .string ⟨#[]⟩, .int .i64 3, .string ⟨#[]⟩, .int .i64 (-1), .int .i64 (-1), .int .i64 11, .string ⟨#[]⟩, .int .i64 0, .string ⟨#[]⟩, .int .i64 3, .int .i64 4, .int .i64 13, .string ⟨#[]⟩, .int .i64 0, .string ⟨#[]⟩, .int .i64 0, .int .i64 5] 38 (0, 0)) := ((next_alloc wh (.cells #[.int .i64 0, .int .i64 0, .string sh, .slice ah nh ch] 33)).block _ (Nat.lt_of_lt_of_le hlt hbw.size)).trans ((hbw.block _ hlt).trans HHB.out)
         have g0 : (wh.alloc (.cells #[.int .i64 0, .int .i64 0, .string sh, .slice ah nh ch] 33)).cell? ⟨wn.heap.size, 36, none⟩ = some (.int .i64 13) := by rw [cell_of_row _ _ _ _ _ _ hg]; rfl
         have g1 : (wh.alloc (.cells #[.int .i64 0, .int .i64 0, .string sh, .slice ah nh ch] 33)).frozen? ⟨wn.heap.size, 36, none⟩ = false := by unfold World.frozen?; rw [hg]; rfl
         have HT5 := Lib.hid (Trms.of_heap (n := 7) (bdT 0 14) (set_heap (o := 36) hg (.int .i64 14)) rfl rfl (by omega) (short_trms rfl))
         have hn1 := HX1.out.lt
         have hn2 := HX2.out.lt
         have hn3 := HX3.out.lt
         have HY1 := Lib.hid (show BoxV ((wh.alloc (.cells #[.int .i64 0, .int .i64 0, .string sh, .slice ah nh ch] 33)).setCell ⟨wn.heap.size, 36, none⟩ (.int .i64 14)) _ _ _ _ _ from (Below.heap_setCell _ ⟨wn.heap.size, 36, none⟩ _ _ (by show _ ≠ wn.heap.size; omega)).trans (HX1.out.on hbx))
         have HY2 := Lib.hid (show BoxV ((wh.alloc (.cells #[.int .i64 0, .int .i64 0, .string sh, .slice ah nh ch] 33)).setCell ⟨wn.heap.size, 36, none⟩ (.int .i64 14)) _ _ _ _ _ from (Below.heap_setCell _ ⟨wn.heap.size, 36, none⟩ _ _ (by show _ ≠ wn.heap.size; omega)).trans (HX2.out.on hbx))
         have HY3 := Lib.hid (show BoxV ((wh.alloc (.cells #[.int .i64 0, .int .i64 0, .string sh, .slice ah nh ch] 33)).setCell ⟨wn.heap.size, 36, none⟩ (.int .i64 14)) _ _ _ _ _ from (Below.heap_setCell _ ⟨wn.heap.size, 36, none⟩ _ _ (by show _ ≠ wn.heap.size; omega)).trans (HX3.out.on hbx))
         have HBS := Lib.hid ((below_on HB.out hbx).setCell (p := ⟨wn.heap.size, 36, none⟩) HB.out.size (.int .i64 14))
         clear hv hf hbv hbw hbx hlt hg hn1 hn2 hn3)
      | (go_at_call 17; (with_reducible refine (CE5.out _ _ ?_).mono ?_)
         · exact HT5.out
         rintro e wi ⟨⟨si, ai, ni, ci, rfl, hv, hf⟩, hbv⟩
         have HBS := Lib.hid (below_on (below_on HBS.out hbv) (next_alloc wi (.cells #[.int .i64 0, .int .i64 0, .string si, .slice ai ni ci] 33)))
         obtain ⟨⟨x0, x1, x2, x3⟩, _⟩ := ((HY1.out.on hbv).on (next_alloc wi (.cells #[.int .i64 0, .int .i64 0, .string si, .slice ai ni ci] 33))).cells
         obtain ⟨⟨y0, y1, y2, y3⟩, _⟩ := ((HY2.out.on hbv).on (next_alloc wi (.cells #[.int .i64 0, .int .i64 0, .string si, .slice ai ni ci] 33))).cells
         obtain ⟨⟨z0, z1, z2, z3⟩, _⟩ := ((HY3.out.on hbv).on (next_alloc wi (.cells #[.int .i64 0, .int .i64 0, .string si, .slice ai ni ci] 33))).cells
         clear hv hf hbv)
      | fail)
    go_ret
    exact ⟨rfl, HBS.out⟩

set_option maxHeartbeats 8000000 in
set_option maxRecDepth 20000 in
theorem termBools_false_true (w : World) : Calls Try.prog 11 #[.bool false, .bool true] w fun e w' => e = .returned (.bool true) ∧ Below w.heap.size w w' := by
  have CF := Lib.hid (first_any w)
  have CE1 := Lib.hid (fun (a : Option Addr) (c : Nat) (W : World) (hT : Trms W W.heap.size a 3 (brT 0 1 ++ [twoT 13 0 1])) => show Calls Try.prog 17 #[.slice a 3 c, .int .i64 2, .slice none 0 0] W (PairRet W (⟨2, 0, [], []⟩, 0)) from (and_val false true) ▸ termEval_any a 3 c (brT 0 1 ++ [twoT 13 0 1]) 2 none 0 0 [] W W.heap.size (Nat.le_refl _) hT (Binds.zero _ _ _))
  have CE2 := Lib.hid (fun (a : Option Addr) (c : Nat) (W : World) (hT : Trms W W.heap.size a 3 (brT 0 1 ++ [twoT 14 0 1])) => show Calls Try.prog 17 #[.slice a 3 c, .int .i64 2, .slice none 0 0] W (PairRet W (⟨2, 1, [], []⟩, 0)) from (or_val false true) ▸ termEval_any a 3 c (brT 0 1 ++ [twoT 14 0 1]) 2 none 0 0 [] W W.heap.size (Nat.le_refl _) hT (Binds.zero _ _ _))
  have CE3 := Lib.hid (fun (g : Nat) (W : World) (hT : Trms W W.heap.size (some ⟨g, 0, none⟩) 2 (ntT 0)) => show Calls Try.prog 17 #[.slice (some ⟨g, 0, none⟩) 2 2, .int .i64 1, .slice none 0 0] W (PairRet W (⟨2, 1, [], []⟩, 0)) from (not_val false) ▸ termEval_any (some ⟨g, 0, none⟩) 2 2 (ntT 0) 1 none 0 0 [] W W.heap.size (Nat.le_refl _) hT (Binds.zero _ _ _))
  have CE4 := Lib.hid (fun (g : Nat) (W : World) (hT : Trms W W.heap.size (some ⟨g, 0, none⟩) 7 (bdT 0 13)) => show Calls Try.prog 17 #[.slice (some ⟨g, 0, none⟩) 7 7, .int .i64 6, .slice none 0 0] W (PairRet W (⟨0, 0, [], []⟩, 403)) from (bad_val false (.inl rfl)) ▸ termEval_any (some ⟨g, 0, none⟩) 7 7 (bdT 0 13) 6 none 0 0 [] W W.heap.size (Nat.le_refl _) hT (Binds.zero _ _ _))
  have CE5 := Lib.hid (fun (g : Nat) (W : World) (hT : Trms W W.heap.size (some ⟨g, 0, none⟩) 7 (bdT 0 14)) => show Calls Try.prog 17 #[.slice (some ⟨g, 0, none⟩) 7 7, .int .i64 6, .slice none 0 0] W (PairRet W (⟨0, 0, [], []⟩, 403)) from (bad_val false (.inr rfl)) ▸ termEval_any (some ⟨g, 0, none⟩) 7 7 (bdT 0 14) 6 none 0 0 [] W W.heap.size (Nat.le_refl _) hT (Binds.zero _ _ _))
  go_enter Try.func11, Try.ntmps11
  go_wp2_with (first
  | (go_at_call 13; (with_reducible refine CF.out.mono ?_)
     rintro e w1 ⟨rfl, hb1⟩
     have HB := Lib.hid (below_on hb1 (next_alloc w1 (.cells #[.int .i64 2, .string ⟨#[]⟩, .int .i64 0, .string ⟨#[]⟩, .int .i64 (-1), .int .i64 (-1), .int .i64 2, .string ⟨#[]⟩, .int .i64 1, .string ⟨#[]⟩, .int .i64 (-1), .int .i64 (-1)] 38)))
     have HRW := Lib.hid (Trms.made w1 #[.int .i64 2, .string ⟨#[]⟩, .int .i64 0, .string ⟨#[]⟩, .int .i64 (-1), .int .i64 (-1), .int .i64 2, .string ⟨#[]⟩, .int .i64 1, .string ⟨#[]⟩, .int .i64 (-1), .int .i64 (-1)] (brT 0 1) 2 w1.heap.size rfl rfl rfl (by omega) (short_trms rfl))
     clear hb1)
  | (at_builtin
     refine wpList_append_trms rfl (.const (.slice none 0 0)) (.tmp 29) rfl (w1.alloc (.cells #[.int .i64 2, .string ⟨#[]⟩, .int .i64 0, .string ⟨#[]⟩, .int .i64 (-1), .int .i64 (-1), .int .i64 2, .string ⟨#[]⟩, .int .i64 1, .string ⟨#[]⟩, .int .i64 (-1), .int .i64 (-1)] 38)).heap.size _ [] _ _ _ (brT 0 1) _ rfl rfl (TOwn.zero _ _) HRW.out (Nat.le_refl _) (by simp) (w1.alloc (.cells #[.int .i64 2, .string ⟨#[]⟩, .int .i64 0, .string ⟨#[]⟩, .int .i64 (-1), .int .i64 (-1), .int .i64 2, .string ⟨#[]⟩, .int .i64 1, .string ⟨#[]⟩, .int .i64 (-1), .int .i64 (-1)] 38)) (Below.refl _ _) ?_
     intro vp wp ho hbn
     rw [List.nil_append] at ho
     have HOp := Lib.hid ho
     have HGp := Lib.hid hbn
     clear ho hbn)
  | (go_at_call 21; (with_reducible refine (two_any 13 0 1 _).mono ?_)
     rintro e wtp ⟨rfl, hbn⟩
     have HOp := Lib.hid (HOp.out.kept hbn)
     have HGTp := Lib.hid (HGp.out.trans (hbn.mono HGp.out.size))
     clear hbn)
  | (at_builtin
     refine wpList_append_trms rfl (.tmp 30) (.tmp 32) rfl (w1.alloc (.cells #[.int .i64 2, .string ⟨#[]⟩, .int .i64 0, .string ⟨#[]⟩, .int .i64 (-1), .int .i64 (-1), .int .i64 2, .string ⟨#[]⟩, .int .i64 1, .string ⟨#[]⟩, .int .i64 (-1), .int .i64 (-1)] 38)).heap.size vp (brT 0 1) _ 1 1 [twoT 13 0 1] _ rfl rfl (HOp.out.alloc _) (Trms.made wtp _ [twoT 13 0 1] 1 wtp.heap.size rfl rfl rfl (by omega) (short_trms rfl)) (Nat.le_trans HGTp.out.size (by simp)) (by simp [brT]) (w1.alloc (.cells #[.int .i64 2, .string ⟨#[]⟩, .int .i64 0, .string ⟨#[]⟩, .int .i64 (-1), .int .i64 (-1), .int .i64 2, .string ⟨#[]⟩, .int .i64 1, .string ⟨#[]⟩, .int .i64 (-1), .int .i64 (-1)] 38)) (HGTp.out.alloc HGTp.out.size _) ?_
     intro vvp wrp ho hbn
     obtain ⟨aap, ccp, rfl, hT8⟩ : ∃ a c, vvp = .slice a 3 c ∧ Trms wrp wrp.heap.size a 3 (brT 0 1 ++ [twoT 13 0 1]) := ho.sees (by simp [brT]) (short_trms rfl)
     have HTp := Lib.hid hT8
     have HB := Lib.hid (below_on HB.out hbn)
     have HRW := Lib.hid (HRW.out.on hbn)
     clear ho hbn hT8)
  | (go_at_call 17; (with_reducible refine (CE1.out _ _ _ ?_).mono ?_)
     · exact HTp.out
     rintro e we ⟨⟨se, ae, ne, ce, rfl, hv, hf⟩, hbv⟩
     have HB := Lib.hid (below_on (below_on HB.out hbv) (next_alloc we (.cells #[.int .i64 2, .int .i64 0, .string se, .slice ae ne ce] 33)))
     have HRW := Lib.hid ((HRW.out.on hbv).on (next_alloc we (.cells #[.int .i64 2, .int .i64 0, .string se, .slice ae ne ce] 33)))
     have HX1 := Lib.hid (BoxV.new we (.int .i64 2) (.int .i64 0) (.string se) (.slice ae ne ce))
     clear hv hf hbv)
  | (at_builtin
     refine wpList_append_trms rfl (.const (.slice none 0 0)) (.tmp 38) rfl (we.alloc (.cells #[.int .i64 2, .int .i64 0, .string se, .slice ae ne ce] 33)).heap.size _ [] _ _ _ (brT 0 1) _ rfl rfl (TOwn.zero _ _) HRW.out (Nat.le_refl _) (by simp) (we.alloc (.cells #[.int .i64 2, .int .i64 0, .string se, .slice ae ne ce] 33)) (Below.refl _ _) ?_
     intro vu wu ho hbn
     rw [List.nil_append] at ho
     have HOu := Lib.hid ho
     have HGu := Lib.hid hbn
     clear ho hbn)
  | (go_at_call 21; (with_reducible refine (two_any 14 0 1 _).mono ?_)
     rintro e wtu ⟨rfl, hbn⟩
     have HOu := Lib.hid (HOu.out.kept hbn)
     have HGTu := Lib.hid (HGu.out.trans (hbn.mono HGu.out.size))
     clear hbn)
  | (at_builtin
     refine wpList_append_trms rfl (.tmp 39) (.tmp 41) rfl (we.alloc (.cells #[.int .i64 2, .int .i64 0, .string se, .slice ae ne ce] 33)).heap.size vu (brT 0 1) _ 1 1 [twoT 14 0 1] _ rfl rfl (HOu.out.alloc _) (Trms.made wtu _ [twoT 14 0 1] 1 wtu.heap.size rfl rfl rfl (by omega) (short_trms rfl)) (Nat.le_trans HGTu.out.size (by simp)) (by simp [brT]) (we.alloc (.cells #[.int .i64 2, .int .i64 0, .string se, .slice ae ne ce] 33)) (HGTu.out.alloc HGTu.out.size _) ?_
     intro vvu wru ho hbn
     obtain ⟨aau, ccu, rfl, hT8⟩ : ∃ a c, vvu = .slice a 3 c ∧ Trms wru wru.heap.size a 3 (brT 0 1 ++ [twoT 14 0 1]) := ho.sees (by simp [brT]) (short_trms rfl)
     have HTu := Lib.hid hT8
     have HB := Lib.hid (below_on HB.out hbn)
     have HRW := Lib.hid (HRW.out.on hbn)
     have HX1 := Lib.hid (HX1.out.on hbn)
     clear ho hbn hT8)
  | (go_at_call 17; (with_reducible refine (CE2.out _ _ _ ?_).mono ?_)
     · exact HTu.out
     rintro e wf ⟨⟨sf, af, nf, cf, rfl, hv, hf⟩, hbv⟩
     have HB := Lib.hid (below_on (below_on HB.out hbv) (next_alloc wf (.cells #[.int .i64 2, .int .i64 1, .string sf, .slice af nf cf] 33)))
     have HRW := Lib.hid ((HRW.out.on hbv).on (next_alloc wf (.cells #[.int .i64 2, .int .i64 1, .string sf, .slice af nf cf] 33)))
     have HX1 := Lib.hid ((HX1.out.on hbv).on (next_alloc wf (.cells #[.int .i64 2, .int .i64 1, .string sf, .slice af nf cf] 33)))
     have HX2 := Lib.hid (BoxV.new wf (.int .i64 2) (.int .i64 1) (.string sf) (.slice af nf cf))
     obtain ⟨q0, q1, q2, q3, q4, q5⟩ := row_cells HRW.out
     clear hv hf hbv)
  | (go_at_call 17; (with_reducible refine (CE3.out _ _ ?_).mono ?_)
     · exact Trms.made _ #[.int .i64 2, .string ⟨#[]⟩, .int .i64 0, .string ⟨#[]⟩, .int .i64 (-1), .int .i64 (-1), .int .i64 15, .string ⟨#[]⟩, .int .i64 0, .string ⟨#[]⟩, .int .i64 0, .int .i64 (-1)] (ntT 0) 2 _ (by simp) rfl rfl (by omega) (short_trms rfl)
     rintro e wg ⟨⟨sg, ag, ng, cg, rfl, hv, hf⟩, hbv⟩
     have HB := Lib.hid (below_on (below_on (below_on HB.out (next_alloc _ _)) hbv) (next_alloc wg (.cells #[.int .i64 2, .int .i64 1, .string sg, .slice ag ng cg] 33)))
     have HRW := Lib.hid (((HRW.out.on (next_alloc _ _)).on hbv).on (next_alloc wg (.cells #[.int .i64 2, .int .i64 1, .string sg, .slice ag ng cg] 33)))
     have HX1 := Lib.hid (((HX1.out.on (next_alloc _ _)).on hbv).on (next_alloc wg (.cells #[.int .i64 2, .int .i64 1, .string sg, .slice ag ng cg] 33)))
     have HX2 := Lib.hid (((HX2.out.on (next_alloc _ _)).on hbv).on (next_alloc wg (.cells #[.int .i64 2, .int .i64 1, .string sg, .slice ag ng cg] 33)))
     have HX3 := Lib.hid (BoxV.new wg (.int .i64 2) (.int .i64 1) (.string sg) (.slice ag ng cg))
     obtain ⟨q0, q1, q2, q3, q4, q5⟩ := row_cells HRW.out
     clear hv hf hbv)
  | fail)
  go_region_held3 (fun W => W.cell? ⟨w1.heap.size, 0, none⟩ = some (.int .i64 2) ∧ W.cell? ⟨w1.heap.size, 1, none⟩ = some (.string ⟨#[]⟩) ∧ W.cell? ⟨w1.heap.size, 2, none⟩ = some (.int .i64 0) ∧ W.cell? ⟨w1.heap.size, 3, none⟩ = some (.string ⟨#[]⟩) ∧ W.cell? ⟨w1.heap.size, 4, none⟩ = some (.int .i64 (-1)) ∧ W.cell? ⟨w1.heap.size, 5, none⟩ = some (.int .i64 (-1))) (first | exact ⟨q0, q1, q2, q3, q4, q5⟩ | (obtain ⟨q0, q1, q2, q3, q4, q5⟩ := row_cells (HRW.out.on (next_alloc _ _)); exact ⟨q0, q1, q2, q3, q4, q5⟩)) (first
  | (go_at_call 30; (with_reducible refine (num_any _ _).mono ?_)
     rintro e wn ⟨rfl, hbn⟩
     have HB := Lib.hid (show Below w.heap.size w wn from below_on HB.out ⟨hbn.os, hbn.tape, hbn.output, hbn.size, hbn.block⟩)
     have HRW := Lib.hid (HRW.out.on (W' := wn) ⟨hbn.os, hbn.tape, hbn.output, hbn.size, hbn.block⟩)
     have HX1 := Lib.hid (HX1.out.on (W' := wn) ⟨hbn.os, hbn.tape, hbn.output, hbn.size, hbn.block⟩)
     have HX2 := Lib.hid (HX2.out.on (W' := wn) ⟨hbn.os, hbn.tape, hbn.output, hbn.size, hbn.block⟩)
     have HX3 := Lib.hid (HX3.out.on (W' := wn) ⟨hbn.os, hbn.tape, hbn.output, hbn.size, hbn.block⟩)
     obtain ⟨q0, q1, q2, q3, q4, q5⟩ := row_cells HRW.out
     clear hbn)
  | (go_at_call 21; (with_reducible refine (two_any _ _ _ _).mono ?_)
     rintro e wn ⟨rfl, hbn⟩
     have HB := Lib.hid (show Below w.heap.size w wn from below_on HB.out ⟨hbn.os, hbn.tape, hbn.output, hbn.size, hbn.block⟩)
     have HRW := Lib.hid (HRW.out.on (W' := wn) ⟨hbn.os, hbn.tape, hbn.output, hbn.size, hbn.block⟩)
     have HX1 := Lib.hid (HX1.out.on (W' := wn) ⟨hbn.os, hbn.tape, hbn.output, hbn.size, hbn.block⟩)
     have HX2 := Lib.hid (HX2.out.on (W' := wn) ⟨hbn.os, hbn.tape, hbn.output, hbn.size, hbn.block⟩)
     have HX3 := Lib.hid (HX3.out.on (W' := wn) ⟨hbn.os, hbn.tape, hbn.output, hbn.size, hbn.block⟩)
     obtain ⟨q0, q1, q2, q3, q4, q5⟩ := row_cells HRW.out
     clear hbn)
  | fail)
  all_goals
    have hwa : Below wn.heap.size wn (wn.alloc (.cells #[.int .i64 2, .string ⟨#[]⟩, .int .i64 0, .string ⟨#[]⟩, .int .i64 (-1), .int .i64 (-1), .int .i64 1, .string ⟨#[]⟩, .int .i64 1, .string ⟨#[]⟩, .int .i64 (-1), .int .i64 (-1), .int .i64 1, .string ⟨#[]⟩, .int .i64 0, .string ⟨#[]⟩, .int .i64 (-1), .int .i64 (-1), .int .i64 9, .string ⟨#[]⟩, .int .i64 0, .string ⟨#[]⟩, .int .i64 1, .int .i64 2, .int .i64 1, .string ⟨#[]⟩, .int .i64 3, .string ⟨#[]⟩, .int .i64 (-1), .int .i64 (-1), .int .i64 11, .string ⟨#[]⟩, .int .i64 0, .string ⟨#[]⟩, .int .i64 3, .int .i64 4, .int .i64 13, .string ⟨#[]⟩, .int .i64 0, .string ⟨#[]⟩, .int .i64 0, .int .i64 5] 38)) := next_alloc _ _
    have HWA := Lib.hid hwa
    have HTB := Lib.hid (Trms.made wn #[.int .i64 2, .string ⟨#[]⟩, .int .i64 0, .string ⟨#[]⟩, .int .i64 (-1), .int .i64 (-1), .int .i64 1, .string ⟨#[]⟩, .int .i64 1, .string ⟨#[]⟩, .int .i64 (-1), .int .i64 (-1), .int .i64 1, .string ⟨#[]⟩, .int .i64 0, .string ⟨#[]⟩, .int .i64 (-1), .int .i64 (-1), .int .i64 9, .string ⟨#[]⟩, .int .i64 0, .string ⟨#[]⟩, .int .i64 1, .int .i64 2, .int .i64 1, .string ⟨#[]⟩, .int .i64 3, .string ⟨#[]⟩, .int .i64 (-1), .int .i64 (-1), .int .i64 11, .string ⟨#[]⟩, .int .i64 0, .string ⟨#[]⟩, .int .i64 3, .int .i64 4, .int .i64 13, .string ⟨#[]⟩, .int .i64 0, .string ⟨#[]⟩, .int .i64 0, .int .i64 5] (bdT 0 13) 7 wn.heap.size rfl rfl rfl (by omega) (short_trms rfl))
    have HHB := Lib.hid (show (wn.alloc (.cells #[.int .i64 2, .string ⟨#[]⟩, .int .i64 0, .string ⟨#[]⟩, .int .i64 (-1), .int .i64 (-1), .int .i64 1, .string ⟨#[]⟩, .int .i64 1, .string ⟨#[]⟩, .int .i64 (-1), .int .i64 (-1), .int .i64 1, .string ⟨#[]⟩, .int .i64 0, .string ⟨#[]⟩, .int .i64 (-1), .int .i64 (-1), .int .i64 9, .string ⟨#[]⟩, .int .i64 0, .string ⟨#[]⟩, .int .i64 1, .int .i64 2, .int .i64 1, .string ⟨#[]⟩, .int .i64 3, .string ⟨#[]⟩, .int .i64 (-1), .int .i64 (-1), .int .i64 11, .string ⟨#[]⟩, .int .i64 0, .string ⟨#[]⟩, .int .i64 3, .int .i64 4, .int .i64 13, .string ⟨#[]⟩, .int .i64 0, .string ⟨#[]⟩, .int .i64 0, .int .i64 5] 38)).heap[wn.heap.size]? = some (.cells #[.int .i64 2, .string ⟨#[]⟩, .int .i64 0, .string ⟨#[]⟩, .int .i64 (-1), .int .i64 (-1), .int .i64 1, .string ⟨#[]⟩, .int .i64 1, .string ⟨#[]⟩, .int .i64 (-1), .int .i64 (-1), .int .i64 1, .string ⟨#[]⟩, .int .i64 0, .string ⟨#[]⟩, .int .i64 (-1), .int .i64 (-1), .int .i64 9, .string ⟨#[]⟩, .int .i64 0, .string ⟨#[]⟩, .int .i64 1, .int .i64 2, .int .i64 1, .string ⟨#[]⟩, .int .i64 3, .string ⟨#[]⟩, .int .i64 (-1), .int .i64 (-1), .int .i64 11, .string ⟨#[]⟩, .int .i64 0, .string ⟨#[]⟩, .int .i64 3, .int .i64 4, .int .i64 13, .string ⟨#[]⟩, .int .i64 0, .string ⟨#[]⟩, .int .i64 0, .int .i64 5] 38 (0, 0)) from heap_alloc_new wn _)
    clear hwa
    go_wp2_with (first
      | (go_at_call 17; (with_reducible refine (CE4.out _ _ ?_).mono ?_)
         · exact HTB.out
         rintro e wh ⟨⟨sh, ah, nh, ch, rfl, hv, hf⟩, hbv⟩
         have hbw : Below (wn.alloc (.cells #[.int .i64 2, .string ⟨#[]⟩, .int .i64 0, .string ⟨#[]⟩, .int .i64 (-1), .int .i64 (-1), .int .i64 1, .string ⟨#[]⟩, .int .i64 1, .string ⟨#[]⟩, .int .i64 (-1), .int .i64 (-1), .int .i64 1, .string ⟨#[]⟩, .int .i64 0, .string ⟨#[]⟩, .int .i64 (-1), .int .i64 (-1), .int .i64 9, .string ⟨#[]⟩, .int .i64 0, .string ⟨#[]⟩, .int .i64 1, .int .i64 2, .int .i64 1, .string ⟨#[]⟩, .int .i64 3, .string ⟨#[]⟩, .int .i64 (-1), .int .i64 (-1), .int .i64 11, .string ⟨#[]⟩, .int .i64 0, .string ⟨#[]⟩, .int .i64 3, .int .i64 4, .int .i64 13, .string ⟨#[]⟩, .int .i64 0, .string ⟨#[]⟩, .int .i64 0, .int .i64 5] 38)).heap.size (wn.alloc (.cells #[.int .i64 2, .string ⟨#[]⟩, .int .i64 0, .string ⟨#[]⟩, .int .i64 (-1), .int .i64 (-1), .int .i64 1, .string ⟨#[]⟩, .int .i64 1, .string ⟨#[]⟩, .int .i64 (-1), .int .i64 (-1), .int .i64 1, .string ⟨#[]⟩, .int .i64 0, .string ⟨#[]⟩, .int .i64 (-1), .int .i64 (-1), .int .i64 9, .string ⟨#[]⟩, .int .i64 0, .string ⟨#[]⟩, .int .i64 1, .int .i64 2, .int .i64 1, .string ⟨#[]⟩, .int .i64 3, .string ⟨#[]⟩, .int .i64 (-1), .int .i64 (-1), .int .i64 11, .string ⟨#[]⟩, .int .i64 0, .string ⟨#[]⟩, .int .i64 3, .int .i64 4, .int .i64 13, .string ⟨#[]⟩, .int .i64 0, .string ⟨#[]⟩, .int .i64 0, .int .i64 5] 38)) wh := ⟨hbv.os, hbv.tape, hbv.output, hbv.size, hbv.block⟩
         have hbx : Below wn.heap.size wn (wh.alloc (.cells #[.int .i64 0, .int .i64 0, .string sh, .slice ah nh ch] 33)) := below_on (below_on HWA.out hbw) (next_alloc wh (.cells #[.int .i64 0, .int .i64 0, .string sh, .slice ah nh ch] 33))
         have hlt : wn.heap.size < (wn.alloc (.cells #[.int .i64 2, .string ⟨#[]⟩, .int .i64 0, .string ⟨#[]⟩, .int .i64 (-1), .int .i64 (-1), .int .i64 1, .string ⟨#[]⟩, .int .i64 1, .string ⟨#[]⟩, .int .i64 (-1), .int .i64 (-1), .int .i64 1, .string ⟨#[]⟩, .int .i64 0, .string ⟨#[]⟩, .int .i64 (-1), .int .i64 (-1), .int .i64 9, .string ⟨#[]⟩, .int .i64 0, .string ⟨#[]⟩, .int .i64 1, .int .i64 2, .int .i64 1, .string ⟨#[]⟩, .int .i64 3, .string ⟨#[]⟩, .int .i64 (-1), .int .i64 (-1), .int .i64 11, .string ⟨#[]⟩, .int .i64 0, .string ⟨#[]⟩, .int .i64 3, .int .i64 4, .int .i64 13, .string ⟨#[]⟩, .int .i64 0, .string ⟨#[]⟩, .int .i64 0, .int .i64 5] 38)).heap.size := by simp
         have hg : (wh.alloc (.cells #[.int .i64 0, .int .i64 0, .string sh, .slice ah nh ch] 33)).heap[wn.heap.size]? = some (.cells #[.int .i64 2, .string ⟨#[]⟩, .int .i64 0, .string ⟨#[]⟩, .int .i64 (-1), .int .i64 (-1), .int .i64 1, .string ⟨#[]⟩, .int .i64 1, .string ⟨#[]⟩, .int .i64 (-1), .int .i64 (-1), .int .i64 1, .string ⟨#[]⟩, .int .i64 0, .string ⟨#[]⟩, .int .i64 (-1), .int .i64 (-1), .int .i64 9, .string ⟨#[]⟩, .int .i64 0, .string ⟨#[]⟩, .int .i64 1, .int .i64 2, .int .i64 1, .string ⟨#[]⟩, .int .i64 3, .string ⟨#[]⟩, .int .i64 (-1), .int .i64 (-1), .int .i64 11, .string ⟨#[]⟩, .int .i64 0, .string ⟨#[]⟩, .int .i64 3, .int .i64 4, .int .i64 13, .string ⟨#[]⟩, .int .i64 0, .string ⟨#[]⟩, .int .i64 0, .int .i64 5] 38 (0, 0)) := ((next_alloc wh (.cells #[.int .i64 0, .int .i64 0, .string sh, .slice ah nh ch] 33)).block _ (Nat.lt_of_lt_of_le hlt hbw.size)).trans ((hbw.block _ hlt).trans HHB.out)
         have g0 : (wh.alloc (.cells #[.int .i64 0, .int .i64 0, .string sh, .slice ah nh ch] 33)).cell? ⟨wn.heap.size, 36, none⟩ = some (.int .i64 13) := by rw [cell_of_row _ _ _ _ _ _ hg]; rfl
         have g1 : (wh.alloc (.cells #[.int .i64 0, .int .i64 0, .string sh, .slice ah nh ch] 33)).frozen? ⟨wn.heap.size, 36, none⟩ = false := by unfold World.frozen?; rw [hg]; rfl
         have HT5 := Lib.hid (Trms.of_heap (n := 7) (bdT 0 14) (set_heap (o := 36) hg (.int .i64 14)) rfl rfl (by omega) (short_trms rfl))
         have hn1 := HX1.out.lt
         have hn2 := HX2.out.lt
         have hn3 := HX3.out.lt
         have HY1 := Lib.hid (show BoxV ((wh.alloc (.cells #[.int .i64 0, .int .i64 0, .string sh, .slice ah nh ch] 33)).setCell ⟨wn.heap.size, 36, none⟩ (.int .i64 14)) _ _ _ _ _ from (Below.heap_setCell _ ⟨wn.heap.size, 36, none⟩ _ _ (by show _ ≠ wn.heap.size; omega)).trans (HX1.out.on hbx))
         have HY2 := Lib.hid (show BoxV ((wh.alloc (.cells #[.int .i64 0, .int .i64 0, .string sh, .slice ah nh ch] 33)).setCell ⟨wn.heap.size, 36, none⟩ (.int .i64 14)) _ _ _ _ _ from (Below.heap_setCell _ ⟨wn.heap.size, 36, none⟩ _ _ (by show _ ≠ wn.heap.size; omega)).trans (HX2.out.on hbx))
         have HY3 := Lib.hid (show BoxV ((wh.alloc (.cells #[.int .i64 0, .int .i64 0, .string sh, .slice ah nh ch] 33)).setCell ⟨wn.heap.size, 36, none⟩ (.int .i64 14)) _ _ _ _ _ from (Below.heap_setCell _ ⟨wn.heap.size, 36, none⟩ _ _ (by show _ ≠ wn.heap.size; omega)).trans (HX3.out.on hbx))
         have HBS := Lib.hid ((below_on HB.out hbx).setCell (p := ⟨wn.heap.size, 36, none⟩) HB.out.size (.int .i64 14))
         clear hv hf hbv hbw hbx hlt hg hn1 hn2 hn3)
      | (go_at_call 17; (with_reducible refine (CE5.out _ _ ?_).mono ?_)
         · exact HT5.out
         rintro e wi ⟨⟨si, ai, ni, ci, rfl, hv, hf⟩, hbv⟩
         have HBS := Lib.hid (below_on (below_on HBS.out hbv) (next_alloc wi (.cells #[.int .i64 0, .int .i64 0, .string si, .slice ai ni ci] 33)))
         obtain ⟨⟨x0, x1, x2, x3⟩, _⟩ := ((HY1.out.on hbv).on (next_alloc wi (.cells #[.int .i64 0, .int .i64 0, .string si, .slice ai ni ci] 33))).cells
         obtain ⟨⟨y0, y1, y2, y3⟩, _⟩ := ((HY2.out.on hbv).on (next_alloc wi (.cells #[.int .i64 0, .int .i64 0, .string si, .slice ai ni ci] 33))).cells
         obtain ⟨⟨z0, z1, z2, z3⟩, _⟩ := ((HY3.out.on hbv).on (next_alloc wi (.cells #[.int .i64 0, .int .i64 0, .string si, .slice ai ni ci] 33))).cells
         clear hv hf hbv)
      | fail)
    go_ret
    exact ⟨rfl, HBS.out⟩

set_option maxHeartbeats 8000000 in
set_option maxRecDepth 20000 in
theorem termBools_true_false (w : World) : Calls Try.prog 11 #[.bool true, .bool false] w fun e w' => e = .returned (.bool true) ∧ Below w.heap.size w w' := by
  have CF := Lib.hid (first_any w)
  have CE1 := Lib.hid (fun (a : Option Addr) (c : Nat) (W : World) (hT : Trms W W.heap.size a 3 (brT 1 0 ++ [twoT 13 0 1])) => show Calls Try.prog 17 #[.slice a 3 c, .int .i64 2, .slice none 0 0] W (PairRet W (⟨2, 0, [], []⟩, 0)) from (and_val true false) ▸ termEval_any a 3 c (brT 1 0 ++ [twoT 13 0 1]) 2 none 0 0 [] W W.heap.size (Nat.le_refl _) hT (Binds.zero _ _ _))
  have CE2 := Lib.hid (fun (a : Option Addr) (c : Nat) (W : World) (hT : Trms W W.heap.size a 3 (brT 1 0 ++ [twoT 14 0 1])) => show Calls Try.prog 17 #[.slice a 3 c, .int .i64 2, .slice none 0 0] W (PairRet W (⟨2, 1, [], []⟩, 0)) from (or_val true false) ▸ termEval_any a 3 c (brT 1 0 ++ [twoT 14 0 1]) 2 none 0 0 [] W W.heap.size (Nat.le_refl _) hT (Binds.zero _ _ _))
  have CE3 := Lib.hid (fun (g : Nat) (W : World) (hT : Trms W W.heap.size (some ⟨g, 0, none⟩) 2 (ntT 1)) => show Calls Try.prog 17 #[.slice (some ⟨g, 0, none⟩) 2 2, .int .i64 1, .slice none 0 0] W (PairRet W (⟨2, 0, [], []⟩, 0)) from (not_val true) ▸ termEval_any (some ⟨g, 0, none⟩) 2 2 (ntT 1) 1 none 0 0 [] W W.heap.size (Nat.le_refl _) hT (Binds.zero _ _ _))
  have CE4 := Lib.hid (fun (g : Nat) (W : World) (hT : Trms W W.heap.size (some ⟨g, 0, none⟩) 7 (bdT 1 13)) => show Calls Try.prog 17 #[.slice (some ⟨g, 0, none⟩) 7 7, .int .i64 6, .slice none 0 0] W (PairRet W (⟨0, 0, [], []⟩, 403)) from (bad_val true (.inl rfl)) ▸ termEval_any (some ⟨g, 0, none⟩) 7 7 (bdT 1 13) 6 none 0 0 [] W W.heap.size (Nat.le_refl _) hT (Binds.zero _ _ _))
  have CE5 := Lib.hid (fun (g : Nat) (W : World) (hT : Trms W W.heap.size (some ⟨g, 0, none⟩) 7 (bdT 1 14)) => show Calls Try.prog 17 #[.slice (some ⟨g, 0, none⟩) 7 7, .int .i64 6, .slice none 0 0] W (PairRet W (⟨0, 0, [], []⟩, 403)) from (bad_val true (.inr rfl)) ▸ termEval_any (some ⟨g, 0, none⟩) 7 7 (bdT 1 14) 6 none 0 0 [] W W.heap.size (Nat.le_refl _) hT (Binds.zero _ _ _))
  go_enter Try.func11, Try.ntmps11
  go_wp2_with (first
  | (go_at_call 13; (with_reducible refine CF.out.mono ?_)
     rintro e w1 ⟨rfl, hb1⟩
     have HB := Lib.hid (below_on hb1 (next_alloc w1 (.cells #[.int .i64 2, .string ⟨#[]⟩, .int .i64 1, .string ⟨#[]⟩, .int .i64 (-1), .int .i64 (-1), .int .i64 2, .string ⟨#[]⟩, .int .i64 0, .string ⟨#[]⟩, .int .i64 (-1), .int .i64 (-1)] 38)))
     have HRW := Lib.hid (Trms.made w1 #[.int .i64 2, .string ⟨#[]⟩, .int .i64 1, .string ⟨#[]⟩, .int .i64 (-1), .int .i64 (-1), .int .i64 2, .string ⟨#[]⟩, .int .i64 0, .string ⟨#[]⟩, .int .i64 (-1), .int .i64 (-1)] (brT 1 0) 2 w1.heap.size rfl rfl rfl (by omega) (short_trms rfl))
     clear hb1)
  | (at_builtin
     refine wpList_append_trms rfl (.const (.slice none 0 0)) (.tmp 29) rfl (w1.alloc (.cells #[.int .i64 2, .string ⟨#[]⟩, .int .i64 1, .string ⟨#[]⟩, .int .i64 (-1), .int .i64 (-1), .int .i64 2, .string ⟨#[]⟩, .int .i64 0, .string ⟨#[]⟩, .int .i64 (-1), .int .i64 (-1)] 38)).heap.size _ [] _ _ _ (brT 1 0) _ rfl rfl (TOwn.zero _ _) HRW.out (Nat.le_refl _) (by simp) (w1.alloc (.cells #[.int .i64 2, .string ⟨#[]⟩, .int .i64 1, .string ⟨#[]⟩, .int .i64 (-1), .int .i64 (-1), .int .i64 2, .string ⟨#[]⟩, .int .i64 0, .string ⟨#[]⟩, .int .i64 (-1), .int .i64 (-1)] 38)) (Below.refl _ _) ?_
     intro vp wp ho hbn
     rw [List.nil_append] at ho
     have HOp := Lib.hid ho
     have HGp := Lib.hid hbn
     clear ho hbn)
  | (go_at_call 21; (with_reducible refine (two_any 13 0 1 _).mono ?_)
     rintro e wtp ⟨rfl, hbn⟩
     have HOp := Lib.hid (HOp.out.kept hbn)
     have HGTp := Lib.hid (HGp.out.trans (hbn.mono HGp.out.size))
     clear hbn)
  | (at_builtin
     refine wpList_append_trms rfl (.tmp 30) (.tmp 32) rfl (w1.alloc (.cells #[.int .i64 2, .string ⟨#[]⟩, .int .i64 1, .string ⟨#[]⟩, .int .i64 (-1), .int .i64 (-1), .int .i64 2, .string ⟨#[]⟩, .int .i64 0, .string ⟨#[]⟩, .int .i64 (-1), .int .i64 (-1)] 38)).heap.size vp (brT 1 0) _ 1 1 [twoT 13 0 1] _ rfl rfl (HOp.out.alloc _) (Trms.made wtp _ [twoT 13 0 1] 1 wtp.heap.size rfl rfl rfl (by omega) (short_trms rfl)) (Nat.le_trans HGTp.out.size (by simp)) (by simp [brT]) (w1.alloc (.cells #[.int .i64 2, .string ⟨#[]⟩, .int .i64 1, .string ⟨#[]⟩, .int .i64 (-1), .int .i64 (-1), .int .i64 2, .string ⟨#[]⟩, .int .i64 0, .string ⟨#[]⟩, .int .i64 (-1), .int .i64 (-1)] 38)) (HGTp.out.alloc HGTp.out.size _) ?_
     intro vvp wrp ho hbn
     obtain ⟨aap, ccp, rfl, hT8⟩ : ∃ a c, vvp = .slice a 3 c ∧ Trms wrp wrp.heap.size a 3 (brT 1 0 ++ [twoT 13 0 1]) := ho.sees (by simp [brT]) (short_trms rfl)
     have HTp := Lib.hid hT8
     have HB := Lib.hid (below_on HB.out hbn)
     have HRW := Lib.hid (HRW.out.on hbn)
     clear ho hbn hT8)
  | (go_at_call 17; (with_reducible refine (CE1.out _ _ _ ?_).mono ?_)
     · exact HTp.out
     rintro e we ⟨⟨se, ae, ne, ce, rfl, hv, hf⟩, hbv⟩
     have HB := Lib.hid (below_on (below_on HB.out hbv) (next_alloc we (.cells #[.int .i64 2, .int .i64 0, .string se, .slice ae ne ce] 33)))
     have HRW := Lib.hid ((HRW.out.on hbv).on (next_alloc we (.cells #[.int .i64 2, .int .i64 0, .string se, .slice ae ne ce] 33)))
     have HX1 := Lib.hid (BoxV.new we (.int .i64 2) (.int .i64 0) (.string se) (.slice ae ne ce))
     clear hv hf hbv)
  | (at_builtin
     refine wpList_append_trms rfl (.const (.slice none 0 0)) (.tmp 38) rfl (we.alloc (.cells #[.int .i64 2, .int .i64 0, .string se, .slice ae ne ce] 33)).heap.size _ [] _ _ _ (brT 1 0) _ rfl rfl (TOwn.zero _ _) HRW.out (Nat.le_refl _) (by simp) (we.alloc (.cells #[.int .i64 2, .int .i64 0, .string se, .slice ae ne ce] 33)) (Below.refl _ _) ?_
     intro vu wu ho hbn
     rw [List.nil_append] at ho
     have HOu := Lib.hid ho
     have HGu := Lib.hid hbn
     clear ho hbn)
  | (go_at_call 21; (with_reducible refine (two_any 14 0 1 _).mono ?_)
     rintro e wtu ⟨rfl, hbn⟩
     have HOu := Lib.hid (HOu.out.kept hbn)
     have HGTu := Lib.hid (HGu.out.trans (hbn.mono HGu.out.size))
     clear hbn)
  | (at_builtin
     refine wpList_append_trms rfl (.tmp 39) (.tmp 41) rfl (we.alloc (.cells #[.int .i64 2, .int .i64 0, .string se, .slice ae ne ce] 33)).heap.size vu (brT 1 0) _ 1 1 [twoT 14 0 1] _ rfl rfl (HOu.out.alloc _) (Trms.made wtu _ [twoT 14 0 1] 1 wtu.heap.size rfl rfl rfl (by omega) (short_trms rfl)) (Nat.le_trans HGTu.out.size (by simp)) (by simp [brT]) (we.alloc (.cells #[.int .i64 2, .int .i64 0, .string se, .slice ae ne ce] 33)) (HGTu.out.alloc HGTu.out.size _) ?_
     intro vvu wru ho hbn
     obtain ⟨aau, ccu, rfl, hT8⟩ : ∃ a c, vvu = .slice a 3 c ∧ Trms wru wru.heap.size a 3 (brT 1 0 ++ [twoT 14 0 1]) := ho.sees (by simp [brT]) (short_trms rfl)
     have HTu := Lib.hid hT8
     have HB := Lib.hid (below_on HB.out hbn)
     have HRW := Lib.hid (HRW.out.on hbn)
     have HX1 := Lib.hid (HX1.out.on hbn)
     clear ho hbn hT8)
  | (go_at_call 17; (with_reducible refine (CE2.out _ _ _ ?_).mono ?_)
     · exact HTu.out
     rintro e wf ⟨⟨sf, af, nf, cf, rfl, hv, hf⟩, hbv⟩
     have HB := Lib.hid (below_on (below_on HB.out hbv) (next_alloc wf (.cells #[.int .i64 2, .int .i64 1, .string sf, .slice af nf cf] 33)))
     have HRW := Lib.hid ((HRW.out.on hbv).on (next_alloc wf (.cells #[.int .i64 2, .int .i64 1, .string sf, .slice af nf cf] 33)))
     have HX1 := Lib.hid ((HX1.out.on hbv).on (next_alloc wf (.cells #[.int .i64 2, .int .i64 1, .string sf, .slice af nf cf] 33)))
     have HX2 := Lib.hid (BoxV.new wf (.int .i64 2) (.int .i64 1) (.string sf) (.slice af nf cf))
     obtain ⟨q0, q1, q2, q3, q4, q5⟩ := row_cells HRW.out
     clear hv hf hbv)
  | (go_at_call 17; (with_reducible refine (CE3.out _ _ ?_).mono ?_)
     · exact Trms.made _ #[.int .i64 2, .string ⟨#[]⟩, .int .i64 1, .string ⟨#[]⟩, .int .i64 (-1), .int .i64 (-1), .int .i64 15, .string ⟨#[]⟩, .int .i64 0, .string ⟨#[]⟩, .int .i64 0, .int .i64 (-1)] (ntT 1) 2 _ (by simp) rfl rfl (by omega) (short_trms rfl)
     rintro e wg ⟨⟨sg, ag, ng, cg, rfl, hv, hf⟩, hbv⟩
     have HB := Lib.hid (below_on (below_on (below_on HB.out (next_alloc _ _)) hbv) (next_alloc wg (.cells #[.int .i64 2, .int .i64 0, .string sg, .slice ag ng cg] 33)))
     have HRW := Lib.hid (((HRW.out.on (next_alloc _ _)).on hbv).on (next_alloc wg (.cells #[.int .i64 2, .int .i64 0, .string sg, .slice ag ng cg] 33)))
     have HX1 := Lib.hid (((HX1.out.on (next_alloc _ _)).on hbv).on (next_alloc wg (.cells #[.int .i64 2, .int .i64 0, .string sg, .slice ag ng cg] 33)))
     have HX2 := Lib.hid (((HX2.out.on (next_alloc _ _)).on hbv).on (next_alloc wg (.cells #[.int .i64 2, .int .i64 0, .string sg, .slice ag ng cg] 33)))
     have HX3 := Lib.hid (BoxV.new wg (.int .i64 2) (.int .i64 0) (.string sg) (.slice ag ng cg))
     obtain ⟨q0, q1, q2, q3, q4, q5⟩ := row_cells HRW.out
     clear hv hf hbv)
  | fail)
  go_region_held3 (fun W => W.cell? ⟨w1.heap.size, 0, none⟩ = some (.int .i64 2) ∧ W.cell? ⟨w1.heap.size, 1, none⟩ = some (.string ⟨#[]⟩) ∧ W.cell? ⟨w1.heap.size, 2, none⟩ = some (.int .i64 1) ∧ W.cell? ⟨w1.heap.size, 3, none⟩ = some (.string ⟨#[]⟩) ∧ W.cell? ⟨w1.heap.size, 4, none⟩ = some (.int .i64 (-1)) ∧ W.cell? ⟨w1.heap.size, 5, none⟩ = some (.int .i64 (-1))) (first | exact ⟨q0, q1, q2, q3, q4, q5⟩ | (obtain ⟨q0, q1, q2, q3, q4, q5⟩ := row_cells (HRW.out.on (next_alloc _ _)); exact ⟨q0, q1, q2, q3, q4, q5⟩)) (first
  | (go_at_call 30; (with_reducible refine (num_any _ _).mono ?_)
     rintro e wn ⟨rfl, hbn⟩
     have HB := Lib.hid (show Below w.heap.size w wn from below_on HB.out ⟨hbn.os, hbn.tape, hbn.output, hbn.size, hbn.block⟩)
     have HRW := Lib.hid (HRW.out.on (W' := wn) ⟨hbn.os, hbn.tape, hbn.output, hbn.size, hbn.block⟩)
     have HX1 := Lib.hid (HX1.out.on (W' := wn) ⟨hbn.os, hbn.tape, hbn.output, hbn.size, hbn.block⟩)
     have HX2 := Lib.hid (HX2.out.on (W' := wn) ⟨hbn.os, hbn.tape, hbn.output, hbn.size, hbn.block⟩)
     have HX3 := Lib.hid (HX3.out.on (W' := wn) ⟨hbn.os, hbn.tape, hbn.output, hbn.size, hbn.block⟩)
     obtain ⟨q0, q1, q2, q3, q4, q5⟩ := row_cells HRW.out
     clear hbn)
  | (go_at_call 21; (with_reducible refine (two_any _ _ _ _).mono ?_)
     rintro e wn ⟨rfl, hbn⟩
     have HB := Lib.hid (show Below w.heap.size w wn from below_on HB.out ⟨hbn.os, hbn.tape, hbn.output, hbn.size, hbn.block⟩)
     have HRW := Lib.hid (HRW.out.on (W' := wn) ⟨hbn.os, hbn.tape, hbn.output, hbn.size, hbn.block⟩)
     have HX1 := Lib.hid (HX1.out.on (W' := wn) ⟨hbn.os, hbn.tape, hbn.output, hbn.size, hbn.block⟩)
     have HX2 := Lib.hid (HX2.out.on (W' := wn) ⟨hbn.os, hbn.tape, hbn.output, hbn.size, hbn.block⟩)
     have HX3 := Lib.hid (HX3.out.on (W' := wn) ⟨hbn.os, hbn.tape, hbn.output, hbn.size, hbn.block⟩)
     obtain ⟨q0, q1, q2, q3, q4, q5⟩ := row_cells HRW.out
     clear hbn)
  | fail)
  all_goals
    have hwa : Below wn.heap.size wn (wn.alloc (.cells #[.int .i64 2, .string ⟨#[]⟩, .int .i64 1, .string ⟨#[]⟩, .int .i64 (-1), .int .i64 (-1), .int .i64 1, .string ⟨#[]⟩, .int .i64 1, .string ⟨#[]⟩, .int .i64 (-1), .int .i64 (-1), .int .i64 1, .string ⟨#[]⟩, .int .i64 0, .string ⟨#[]⟩, .int .i64 (-1), .int .i64 (-1), .int .i64 9, .string ⟨#[]⟩, .int .i64 0, .string ⟨#[]⟩, .int .i64 1, .int .i64 2, .int .i64 1, .string ⟨#[]⟩, .int .i64 3, .string ⟨#[]⟩, .int .i64 (-1), .int .i64 (-1), .int .i64 11, .string ⟨#[]⟩, .int .i64 0, .string ⟨#[]⟩, .int .i64 3, .int .i64 4, .int .i64 13, .string ⟨#[]⟩, .int .i64 0, .string ⟨#[]⟩, .int .i64 0, .int .i64 5] 38)) := next_alloc _ _
    have HWA := Lib.hid hwa
    have HTB := Lib.hid (Trms.made wn #[.int .i64 2, .string ⟨#[]⟩, .int .i64 1, .string ⟨#[]⟩, .int .i64 (-1), .int .i64 (-1), .int .i64 1, .string ⟨#[]⟩, .int .i64 1, .string ⟨#[]⟩, .int .i64 (-1), .int .i64 (-1), .int .i64 1, .string ⟨#[]⟩, .int .i64 0, .string ⟨#[]⟩, .int .i64 (-1), .int .i64 (-1), .int .i64 9, .string ⟨#[]⟩, .int .i64 0, .string ⟨#[]⟩, .int .i64 1, .int .i64 2, .int .i64 1, .string ⟨#[]⟩, .int .i64 3, .string ⟨#[]⟩, .int .i64 (-1), .int .i64 (-1), .int .i64 11, .string ⟨#[]⟩, .int .i64 0, .string ⟨#[]⟩, .int .i64 3, .int .i64 4, .int .i64 13, .string ⟨#[]⟩, .int .i64 0, .string ⟨#[]⟩, .int .i64 0, .int .i64 5] (bdT 1 13) 7 wn.heap.size rfl rfl rfl (by omega) (short_trms rfl))
    have HHB := Lib.hid (show (wn.alloc (.cells #[.int .i64 2, .string ⟨#[]⟩, .int .i64 1, .string ⟨#[]⟩, .int .i64 (-1), .int .i64 (-1), .int .i64 1, .string ⟨#[]⟩, .int .i64 1, .string ⟨#[]⟩, .int .i64 (-1), .int .i64 (-1), .int .i64 1, .string ⟨#[]⟩, .int .i64 0, .string ⟨#[]⟩, .int .i64 (-1), .int .i64 (-1), .int .i64 9, .string ⟨#[]⟩, .int .i64 0, .string ⟨#[]⟩, .int .i64 1, .int .i64 2, .int .i64 1, .string ⟨#[]⟩, .int .i64 3, .string ⟨#[]⟩, .int .i64 (-1), .int .i64 (-1), .int .i64 11, .string ⟨#[]⟩, .int .i64 0, .string ⟨#[]⟩, .int .i64 3, .int .i64 4, .int .i64 13, .string ⟨#[]⟩, .int .i64 0, .string ⟨#[]⟩, .int .i64 0, .int .i64 5] 38)).heap[wn.heap.size]? = some (.cells #[.int .i64 2, .string ⟨#[]⟩, .int .i64 1, .string ⟨#[]⟩, .int .i64 (-1), .int .i64 (-1), .int .i64 1, .string ⟨#[]⟩, .int .i64 1, .string ⟨#[]⟩, .int .i64 (-1), .int .i64 (-1), .int .i64 1, .string ⟨#[]⟩, .int .i64 0, .string ⟨#[]⟩, .int .i64 (-1), .int .i64 (-1), .int .i64 9, .string ⟨#[]⟩, .int .i64 0, .string ⟨#[]⟩, .int .i64 1, .int .i64 2, .int .i64 1, .string ⟨#[]⟩, .int .i64 3, .string ⟨#[]⟩, .int .i64 (-1), .int .i64 (-1), .int .i64 11, .string ⟨#[]⟩, .int .i64 0, .string ⟨#[]⟩, .int .i64 3, .int .i64 4, .int .i64 13, .string ⟨#[]⟩, .int .i64 0, .string ⟨#[]⟩, .int .i64 0, .int .i64 5] 38 (0, 0)) from heap_alloc_new wn _)
    clear hwa
    go_wp2_with (first
      | (go_at_call 17; (with_reducible refine (CE4.out _ _ ?_).mono ?_)
         · exact HTB.out
         rintro e wh ⟨⟨sh, ah, nh, ch, rfl, hv, hf⟩, hbv⟩
         have hbw : Below (wn.alloc (.cells #[.int .i64 2, .string ⟨#[]⟩, .int .i64 1, .string ⟨#[]⟩, .int .i64 (-1), .int .i64 (-1), .int .i64 1, .string ⟨#[]⟩, .int .i64 1, .string ⟨#[]⟩, .int .i64 (-1), .int .i64 (-1), .int .i64 1, .string ⟨#[]⟩, .int .i64 0, .string ⟨#[]⟩, .int .i64 (-1), .int .i64 (-1), .int .i64 9, .string ⟨#[]⟩, .int .i64 0, .string ⟨#[]⟩, .int .i64 1, .int .i64 2, .int .i64 1, .string ⟨#[]⟩, .int .i64 3, .string ⟨#[]⟩, .int .i64 (-1), .int .i64 (-1), .int .i64 11, .string ⟨#[]⟩, .int .i64 0, .string ⟨#[]⟩, .int .i64 3, .int .i64 4, .int .i64 13, .string ⟨#[]⟩, .int .i64 0, .string ⟨#[]⟩, .int .i64 0, .int .i64 5] 38)).heap.size (wn.alloc (.cells #[.int .i64 2, .string ⟨#[]⟩, .int .i64 1, .string ⟨#[]⟩, .int .i64 (-1), .int .i64 (-1), .int .i64 1, .string ⟨#[]⟩, .int .i64 1, .string ⟨#[]⟩, .int .i64 (-1), .int .i64 (-1), .int .i64 1, .string ⟨#[]⟩, .int .i64 0, .string ⟨#[]⟩, .int .i64 (-1), .int .i64 (-1), .int .i64 9, .string ⟨#[]⟩, .int .i64 0, .string ⟨#[]⟩, .int .i64 1, .int .i64 2, .int .i64 1, .string ⟨#[]⟩, .int .i64 3, .string ⟨#[]⟩, .int .i64 (-1), .int .i64 (-1), .int .i64 11, .string ⟨#[]⟩, .int .i64 0, .string ⟨#[]⟩, .int .i64 3, .int .i64 4, .int .i64 13, .string ⟨#[]⟩, .int .i64 0, .string ⟨#[]⟩, .int .i64 0, .int .i64 5] 38)) wh := ⟨hbv.os, hbv.tape, hbv.output, hbv.size, hbv.block⟩
         have hbx : Below wn.heap.size wn (wh.alloc (.cells #[.int .i64 0, .int .i64 0, .string sh, .slice ah nh ch] 33)) := below_on (below_on HWA.out hbw) (next_alloc wh (.cells #[.int .i64 0, .int .i64 0, .string sh, .slice ah nh ch] 33))
         have hlt : wn.heap.size < (wn.alloc (.cells #[.int .i64 2, .string ⟨#[]⟩, .int .i64 1, .string ⟨#[]⟩, .int .i64 (-1), .int .i64 (-1), .int .i64 1, .string ⟨#[]⟩, .int .i64 1, .string ⟨#[]⟩, .int .i64 (-1), .int .i64 (-1), .int .i64 1, .string ⟨#[]⟩, .int .i64 0, .string ⟨#[]⟩, .int .i64 (-1), .int .i64 (-1), .int .i64 9, .string ⟨#[]⟩, .int .i64 0, .string ⟨#[]⟩, .int .i64 1, .int .i64 2, .int .i64 1, .string ⟨#[]⟩, .int .i64 3, .string ⟨#[]⟩, .int .i64 (-1), .int .i64 (-1), .int .i64 11, .string ⟨#[]⟩, .int .i64 0, .string ⟨#[]⟩, .int .i64 3, .int .i64 4, .int .i64 13, .string ⟨#[]⟩, .int .i64 0, .string ⟨#[]⟩, .int .i64 0, .int .i64 5] 38)).heap.size := by simp
         have hg : (wh.alloc (.cells #[.int .i64 0, .int .i64 0, .string sh, .slice ah nh ch] 33)).heap[wn.heap.size]? = some (.cells #[.int .i64 2, .string ⟨#[]⟩, .int .i64 1, .string ⟨#[]⟩, .int .i64 (-1), .int .i64 (-1), .int .i64 1, .string ⟨#[]⟩, .int .i64 1, .string ⟨#[]⟩, .int .i64 (-1), .int .i64 (-1), .int .i64 1, .string ⟨#[]⟩, .int .i64 0, .string ⟨#[]⟩, .int .i64 (-1), .int .i64 (-1), .int .i64 9, .string ⟨#[]⟩, .int .i64 0, .string ⟨#[]⟩, .int .i64 1, .int .i64 2, .int .i64 1, .string ⟨#[]⟩, .int .i64 3, .string ⟨#[]⟩, .int .i64 (-1), .int .i64 (-1), .int .i64 11, .string ⟨#[]⟩, .int .i64 0, .string ⟨#[]⟩, .int .i64 3, .int .i64 4, .int .i64 13, .string ⟨#[]⟩, .int .i64 0, .string ⟨#[]⟩, .int .i64 0, .int .i64 5] 38 (0, 0)) := ((next_alloc wh (.cells #[.int .i64 0, .int .i64 0, .string sh, .slice ah nh ch] 33)).block _ (Nat.lt_of_lt_of_le hlt hbw.size)).trans ((hbw.block _ hlt).trans HHB.out)
         have g0 : (wh.alloc (.cells #[.int .i64 0, .int .i64 0, .string sh, .slice ah nh ch] 33)).cell? ⟨wn.heap.size, 36, none⟩ = some (.int .i64 13) := by rw [cell_of_row _ _ _ _ _ _ hg]; rfl
         have g1 : (wh.alloc (.cells #[.int .i64 0, .int .i64 0, .string sh, .slice ah nh ch] 33)).frozen? ⟨wn.heap.size, 36, none⟩ = false := by unfold World.frozen?; rw [hg]; rfl
         have HT5 := Lib.hid (Trms.of_heap (n := 7) (bdT 1 14) (set_heap (o := 36) hg (.int .i64 14)) rfl rfl (by omega) (short_trms rfl))
         have hn1 := HX1.out.lt
         have hn2 := HX2.out.lt
         have hn3 := HX3.out.lt
         have HY1 := Lib.hid (show BoxV ((wh.alloc (.cells #[.int .i64 0, .int .i64 0, .string sh, .slice ah nh ch] 33)).setCell ⟨wn.heap.size, 36, none⟩ (.int .i64 14)) _ _ _ _ _ from (Below.heap_setCell _ ⟨wn.heap.size, 36, none⟩ _ _ (by show _ ≠ wn.heap.size; omega)).trans (HX1.out.on hbx))
         have HY2 := Lib.hid (show BoxV ((wh.alloc (.cells #[.int .i64 0, .int .i64 0, .string sh, .slice ah nh ch] 33)).setCell ⟨wn.heap.size, 36, none⟩ (.int .i64 14)) _ _ _ _ _ from (Below.heap_setCell _ ⟨wn.heap.size, 36, none⟩ _ _ (by show _ ≠ wn.heap.size; omega)).trans (HX2.out.on hbx))
         have HY3 := Lib.hid (show BoxV ((wh.alloc (.cells #[.int .i64 0, .int .i64 0, .string sh, .slice ah nh ch] 33)).setCell ⟨wn.heap.size, 36, none⟩ (.int .i64 14)) _ _ _ _ _ from (Below.heap_setCell _ ⟨wn.heap.size, 36, none⟩ _ _ (by show _ ≠ wn.heap.size; omega)).trans (HX3.out.on hbx))
         have HBS := Lib.hid ((below_on HB.out hbx).setCell (p := ⟨wn.heap.size, 36, none⟩) HB.out.size (.int .i64 14))
         clear hv hf hbv hbw hbx hlt hg hn1 hn2 hn3)
      | (go_at_call 17; (with_reducible refine (CE5.out _ _ ?_).mono ?_)
         · exact HT5.out
         rintro e wi ⟨⟨si, ai, ni, ci, rfl, hv, hf⟩, hbv⟩
         have HBS := Lib.hid (below_on (below_on HBS.out hbv) (next_alloc wi (.cells #[.int .i64 0, .int .i64 0, .string si, .slice ai ni ci] 33)))
         obtain ⟨⟨x0, x1, x2, x3⟩, _⟩ := ((HY1.out.on hbv).on (next_alloc wi (.cells #[.int .i64 0, .int .i64 0, .string si, .slice ai ni ci] 33))).cells
         obtain ⟨⟨y0, y1, y2, y3⟩, _⟩ := ((HY2.out.on hbv).on (next_alloc wi (.cells #[.int .i64 0, .int .i64 0, .string si, .slice ai ni ci] 33))).cells
         obtain ⟨⟨z0, z1, z2, z3⟩, _⟩ := ((HY3.out.on hbv).on (next_alloc wi (.cells #[.int .i64 0, .int .i64 0, .string si, .slice ai ni ci] 33))).cells
         clear hv hf hbv)
      | fail)
    go_ret
    exact ⟨rfl, HBS.out⟩

set_option maxHeartbeats 8000000 in
set_option maxRecDepth 20000 in
theorem termBools_true_true (w : World) : Calls Try.prog 11 #[.bool true, .bool true] w fun e w' => e = .returned (.bool true) ∧ Below w.heap.size w w' := by
  have CF := Lib.hid (first_any w)
  have CE1 := Lib.hid (fun (a : Option Addr) (c : Nat) (W : World) (hT : Trms W W.heap.size a 3 (brT 1 1 ++ [twoT 13 0 1])) => show Calls Try.prog 17 #[.slice a 3 c, .int .i64 2, .slice none 0 0] W (PairRet W (⟨2, 1, [], []⟩, 0)) from (and_val true true) ▸ termEval_any a 3 c (brT 1 1 ++ [twoT 13 0 1]) 2 none 0 0 [] W W.heap.size (Nat.le_refl _) hT (Binds.zero _ _ _))
  have CE2 := Lib.hid (fun (a : Option Addr) (c : Nat) (W : World) (hT : Trms W W.heap.size a 3 (brT 1 1 ++ [twoT 14 0 1])) => show Calls Try.prog 17 #[.slice a 3 c, .int .i64 2, .slice none 0 0] W (PairRet W (⟨2, 1, [], []⟩, 0)) from (or_val true true) ▸ termEval_any a 3 c (brT 1 1 ++ [twoT 14 0 1]) 2 none 0 0 [] W W.heap.size (Nat.le_refl _) hT (Binds.zero _ _ _))
  have CE3 := Lib.hid (fun (g : Nat) (W : World) (hT : Trms W W.heap.size (some ⟨g, 0, none⟩) 2 (ntT 1)) => show Calls Try.prog 17 #[.slice (some ⟨g, 0, none⟩) 2 2, .int .i64 1, .slice none 0 0] W (PairRet W (⟨2, 0, [], []⟩, 0)) from (not_val true) ▸ termEval_any (some ⟨g, 0, none⟩) 2 2 (ntT 1) 1 none 0 0 [] W W.heap.size (Nat.le_refl _) hT (Binds.zero _ _ _))
  have CE4 := Lib.hid (fun (g : Nat) (W : World) (hT : Trms W W.heap.size (some ⟨g, 0, none⟩) 7 (bdT 1 13)) => show Calls Try.prog 17 #[.slice (some ⟨g, 0, none⟩) 7 7, .int .i64 6, .slice none 0 0] W (PairRet W (⟨0, 0, [], []⟩, 403)) from (bad_val true (.inl rfl)) ▸ termEval_any (some ⟨g, 0, none⟩) 7 7 (bdT 1 13) 6 none 0 0 [] W W.heap.size (Nat.le_refl _) hT (Binds.zero _ _ _))
  have CE5 := Lib.hid (fun (g : Nat) (W : World) (hT : Trms W W.heap.size (some ⟨g, 0, none⟩) 7 (bdT 1 14)) => show Calls Try.prog 17 #[.slice (some ⟨g, 0, none⟩) 7 7, .int .i64 6, .slice none 0 0] W (PairRet W (⟨0, 0, [], []⟩, 403)) from (bad_val true (.inr rfl)) ▸ termEval_any (some ⟨g, 0, none⟩) 7 7 (bdT 1 14) 6 none 0 0 [] W W.heap.size (Nat.le_refl _) hT (Binds.zero _ _ _))
  go_enter Try.func11, Try.ntmps11
  go_wp2_with (first
  | (go_at_call 13; (with_reducible refine CF.out.mono ?_)
     rintro e w1 ⟨rfl, hb1⟩
     have HB := Lib.hid (below_on hb1 (next_alloc w1 (.cells #[.int .i64 2, .string ⟨#[]⟩, .int .i64 1, .string ⟨#[]⟩, .int .i64 (-1), .int .i64 (-1), .int .i64 2, .string ⟨#[]⟩, .int .i64 1, .string ⟨#[]⟩, .int .i64 (-1), .int .i64 (-1)] 38)))
     have HRW := Lib.hid (Trms.made w1 #[.int .i64 2, .string ⟨#[]⟩, .int .i64 1, .string ⟨#[]⟩, .int .i64 (-1), .int .i64 (-1), .int .i64 2, .string ⟨#[]⟩, .int .i64 1, .string ⟨#[]⟩, .int .i64 (-1), .int .i64 (-1)] (brT 1 1) 2 w1.heap.size rfl rfl rfl (by omega) (short_trms rfl))
     clear hb1)
  | (at_builtin
     refine wpList_append_trms rfl (.const (.slice none 0 0)) (.tmp 29) rfl (w1.alloc (.cells #[.int .i64 2, .string ⟨#[]⟩, .int .i64 1, .string ⟨#[]⟩, .int .i64 (-1), .int .i64 (-1), .int .i64 2, .string ⟨#[]⟩, .int .i64 1, .string ⟨#[]⟩, .int .i64 (-1), .int .i64 (-1)] 38)).heap.size _ [] _ _ _ (brT 1 1) _ rfl rfl (TOwn.zero _ _) HRW.out (Nat.le_refl _) (by simp) (w1.alloc (.cells #[.int .i64 2, .string ⟨#[]⟩, .int .i64 1, .string ⟨#[]⟩, .int .i64 (-1), .int .i64 (-1), .int .i64 2, .string ⟨#[]⟩, .int .i64 1, .string ⟨#[]⟩, .int .i64 (-1), .int .i64 (-1)] 38)) (Below.refl _ _) ?_
     intro vp wp ho hbn
     rw [List.nil_append] at ho
     have HOp := Lib.hid ho
     have HGp := Lib.hid hbn
     clear ho hbn)
  | (go_at_call 21; (with_reducible refine (two_any 13 0 1 _).mono ?_)
     rintro e wtp ⟨rfl, hbn⟩
     have HOp := Lib.hid (HOp.out.kept hbn)
     have HGTp := Lib.hid (HGp.out.trans (hbn.mono HGp.out.size))
     clear hbn)
  | (at_builtin
     refine wpList_append_trms rfl (.tmp 30) (.tmp 32) rfl (w1.alloc (.cells #[.int .i64 2, .string ⟨#[]⟩, .int .i64 1, .string ⟨#[]⟩, .int .i64 (-1), .int .i64 (-1), .int .i64 2, .string ⟨#[]⟩, .int .i64 1, .string ⟨#[]⟩, .int .i64 (-1), .int .i64 (-1)] 38)).heap.size vp (brT 1 1) _ 1 1 [twoT 13 0 1] _ rfl rfl (HOp.out.alloc _) (Trms.made wtp _ [twoT 13 0 1] 1 wtp.heap.size rfl rfl rfl (by omega) (short_trms rfl)) (Nat.le_trans HGTp.out.size (by simp)) (by simp [brT]) (w1.alloc (.cells #[.int .i64 2, .string ⟨#[]⟩, .int .i64 1, .string ⟨#[]⟩, .int .i64 (-1), .int .i64 (-1), .int .i64 2, .string ⟨#[]⟩, .int .i64 1, .string ⟨#[]⟩, .int .i64 (-1), .int .i64 (-1)] 38)) (HGTp.out.alloc HGTp.out.size _) ?_
     intro vvp wrp ho hbn
     obtain ⟨aap, ccp, rfl, hT8⟩ : ∃ a c, vvp = .slice a 3 c ∧ Trms wrp wrp.heap.size a 3 (brT 1 1 ++ [twoT 13 0 1]) := ho.sees (by simp [brT]) (short_trms rfl)
     have HTp := Lib.hid hT8
     have HB := Lib.hid (below_on HB.out hbn)
     have HRW := Lib.hid (HRW.out.on hbn)
     clear ho hbn hT8)
  | (go_at_call 17; (with_reducible refine (CE1.out _ _ _ ?_).mono ?_)
     · exact HTp.out
     rintro e we ⟨⟨se, ae, ne, ce, rfl, hv, hf⟩, hbv⟩
     have HB := Lib.hid (below_on (below_on HB.out hbv) (next_alloc we (.cells #[.int .i64 2, .int .i64 1, .string se, .slice ae ne ce] 33)))
     have HRW := Lib.hid ((HRW.out.on hbv).on (next_alloc we (.cells #[.int .i64 2, .int .i64 1, .string se, .slice ae ne ce] 33)))
     have HX1 := Lib.hid (BoxV.new we (.int .i64 2) (.int .i64 1) (.string se) (.slice ae ne ce))
     clear hv hf hbv)
  | (at_builtin
     refine wpList_append_trms rfl (.const (.slice none 0 0)) (.tmp 38) rfl (we.alloc (.cells #[.int .i64 2, .int .i64 1, .string se, .slice ae ne ce] 33)).heap.size _ [] _ _ _ (brT 1 1) _ rfl rfl (TOwn.zero _ _) HRW.out (Nat.le_refl _) (by simp) (we.alloc (.cells #[.int .i64 2, .int .i64 1, .string se, .slice ae ne ce] 33)) (Below.refl _ _) ?_
     intro vu wu ho hbn
     rw [List.nil_append] at ho
     have HOu := Lib.hid ho
     have HGu := Lib.hid hbn
     clear ho hbn)
  | (go_at_call 21; (with_reducible refine (two_any 14 0 1 _).mono ?_)
     rintro e wtu ⟨rfl, hbn⟩
     have HOu := Lib.hid (HOu.out.kept hbn)
     have HGTu := Lib.hid (HGu.out.trans (hbn.mono HGu.out.size))
     clear hbn)
  | (at_builtin
     refine wpList_append_trms rfl (.tmp 39) (.tmp 41) rfl (we.alloc (.cells #[.int .i64 2, .int .i64 1, .string se, .slice ae ne ce] 33)).heap.size vu (brT 1 1) _ 1 1 [twoT 14 0 1] _ rfl rfl (HOu.out.alloc _) (Trms.made wtu _ [twoT 14 0 1] 1 wtu.heap.size rfl rfl rfl (by omega) (short_trms rfl)) (Nat.le_trans HGTu.out.size (by simp)) (by simp [brT]) (we.alloc (.cells #[.int .i64 2, .int .i64 1, .string se, .slice ae ne ce] 33)) (HGTu.out.alloc HGTu.out.size _) ?_
     intro vvu wru ho hbn
     obtain ⟨aau, ccu, rfl, hT8⟩ : ∃ a c, vvu = .slice a 3 c ∧ Trms wru wru.heap.size a 3 (brT 1 1 ++ [twoT 14 0 1]) := ho.sees (by simp [brT]) (short_trms rfl)
     have HTu := Lib.hid hT8
     have HB := Lib.hid (below_on HB.out hbn)
     have HRW := Lib.hid (HRW.out.on hbn)
     have HX1 := Lib.hid (HX1.out.on hbn)
     clear ho hbn hT8)
  | (go_at_call 17; (with_reducible refine (CE2.out _ _ _ ?_).mono ?_)
     · exact HTu.out
     rintro e wf ⟨⟨sf, af, nf, cf, rfl, hv, hf⟩, hbv⟩
     have HB := Lib.hid (below_on (below_on HB.out hbv) (next_alloc wf (.cells #[.int .i64 2, .int .i64 1, .string sf, .slice af nf cf] 33)))
     have HRW := Lib.hid ((HRW.out.on hbv).on (next_alloc wf (.cells #[.int .i64 2, .int .i64 1, .string sf, .slice af nf cf] 33)))
     have HX1 := Lib.hid ((HX1.out.on hbv).on (next_alloc wf (.cells #[.int .i64 2, .int .i64 1, .string sf, .slice af nf cf] 33)))
     have HX2 := Lib.hid (BoxV.new wf (.int .i64 2) (.int .i64 1) (.string sf) (.slice af nf cf))
     obtain ⟨q0, q1, q2, q3, q4, q5⟩ := row_cells HRW.out
     clear hv hf hbv)
  | (go_at_call 17; (with_reducible refine (CE3.out _ _ ?_).mono ?_)
     · exact Trms.made _ #[.int .i64 2, .string ⟨#[]⟩, .int .i64 1, .string ⟨#[]⟩, .int .i64 (-1), .int .i64 (-1), .int .i64 15, .string ⟨#[]⟩, .int .i64 0, .string ⟨#[]⟩, .int .i64 0, .int .i64 (-1)] (ntT 1) 2 _ (by simp) rfl rfl (by omega) (short_trms rfl)
     rintro e wg ⟨⟨sg, ag, ng, cg, rfl, hv, hf⟩, hbv⟩
     have HB := Lib.hid (below_on (below_on (below_on HB.out (next_alloc _ _)) hbv) (next_alloc wg (.cells #[.int .i64 2, .int .i64 0, .string sg, .slice ag ng cg] 33)))
     have HRW := Lib.hid (((HRW.out.on (next_alloc _ _)).on hbv).on (next_alloc wg (.cells #[.int .i64 2, .int .i64 0, .string sg, .slice ag ng cg] 33)))
     have HX1 := Lib.hid (((HX1.out.on (next_alloc _ _)).on hbv).on (next_alloc wg (.cells #[.int .i64 2, .int .i64 0, .string sg, .slice ag ng cg] 33)))
     have HX2 := Lib.hid (((HX2.out.on (next_alloc _ _)).on hbv).on (next_alloc wg (.cells #[.int .i64 2, .int .i64 0, .string sg, .slice ag ng cg] 33)))
     have HX3 := Lib.hid (BoxV.new wg (.int .i64 2) (.int .i64 0) (.string sg) (.slice ag ng cg))
     obtain ⟨q0, q1, q2, q3, q4, q5⟩ := row_cells HRW.out
     clear hv hf hbv)
  | fail)
  go_region_held3 (fun W => W.cell? ⟨w1.heap.size, 0, none⟩ = some (.int .i64 2) ∧ W.cell? ⟨w1.heap.size, 1, none⟩ = some (.string ⟨#[]⟩) ∧ W.cell? ⟨w1.heap.size, 2, none⟩ = some (.int .i64 1) ∧ W.cell? ⟨w1.heap.size, 3, none⟩ = some (.string ⟨#[]⟩) ∧ W.cell? ⟨w1.heap.size, 4, none⟩ = some (.int .i64 (-1)) ∧ W.cell? ⟨w1.heap.size, 5, none⟩ = some (.int .i64 (-1))) (first | exact ⟨q0, q1, q2, q3, q4, q5⟩ | (obtain ⟨q0, q1, q2, q3, q4, q5⟩ := row_cells (HRW.out.on (next_alloc _ _)); exact ⟨q0, q1, q2, q3, q4, q5⟩)) (first
  | (go_at_call 30; (with_reducible refine (num_any _ _).mono ?_)
     rintro e wn ⟨rfl, hbn⟩
     have HB := Lib.hid (show Below w.heap.size w wn from below_on HB.out ⟨hbn.os, hbn.tape, hbn.output, hbn.size, hbn.block⟩)
     have HRW := Lib.hid (HRW.out.on (W' := wn) ⟨hbn.os, hbn.tape, hbn.output, hbn.size, hbn.block⟩)
     have HX1 := Lib.hid (HX1.out.on (W' := wn) ⟨hbn.os, hbn.tape, hbn.output, hbn.size, hbn.block⟩)
     have HX2 := Lib.hid (HX2.out.on (W' := wn) ⟨hbn.os, hbn.tape, hbn.output, hbn.size, hbn.block⟩)
     have HX3 := Lib.hid (HX3.out.on (W' := wn) ⟨hbn.os, hbn.tape, hbn.output, hbn.size, hbn.block⟩)
     obtain ⟨q0, q1, q2, q3, q4, q5⟩ := row_cells HRW.out
     clear hbn)
  | (go_at_call 21; (with_reducible refine (two_any _ _ _ _).mono ?_)
     rintro e wn ⟨rfl, hbn⟩
     have HB := Lib.hid (show Below w.heap.size w wn from below_on HB.out ⟨hbn.os, hbn.tape, hbn.output, hbn.size, hbn.block⟩)
     have HRW := Lib.hid (HRW.out.on (W' := wn) ⟨hbn.os, hbn.tape, hbn.output, hbn.size, hbn.block⟩)
     have HX1 := Lib.hid (HX1.out.on (W' := wn) ⟨hbn.os, hbn.tape, hbn.output, hbn.size, hbn.block⟩)
     have HX2 := Lib.hid (HX2.out.on (W' := wn) ⟨hbn.os, hbn.tape, hbn.output, hbn.size, hbn.block⟩)
     have HX3 := Lib.hid (HX3.out.on (W' := wn) ⟨hbn.os, hbn.tape, hbn.output, hbn.size, hbn.block⟩)
     obtain ⟨q0, q1, q2, q3, q4, q5⟩ := row_cells HRW.out
     clear hbn)
  | fail)
  all_goals
    have hwa : Below wn.heap.size wn (wn.alloc (.cells #[.int .i64 2, .string ⟨#[]⟩, .int .i64 1, .string ⟨#[]⟩, .int .i64 (-1), .int .i64 (-1), .int .i64 1, .string ⟨#[]⟩, .int .i64 1, .string ⟨#[]⟩, .int .i64 (-1), .int .i64 (-1), .int .i64 1, .string ⟨#[]⟩, .int .i64 0, .string ⟨#[]⟩, .int .i64 (-1), .int .i64 (-1), .int .i64 9, .string ⟨#[]⟩, .int .i64 0, .string ⟨#[]⟩, .int .i64 1, .int .i64 2, .int .i64 1, .string ⟨#[]⟩, .int .i64 3, .string ⟨#[]⟩, .int .i64 (-1), .int .i64 (-1), .int .i64 11, .string ⟨#[]⟩, .int .i64 0, .string ⟨#[]⟩, .int .i64 3, .int .i64 4, .int .i64 13, .string ⟨#[]⟩, .int .i64 0, .string ⟨#[]⟩, .int .i64 0, .int .i64 5] 38)) := next_alloc _ _
    have HWA := Lib.hid hwa
    have HTB := Lib.hid (Trms.made wn #[.int .i64 2, .string ⟨#[]⟩, .int .i64 1, .string ⟨#[]⟩, .int .i64 (-1), .int .i64 (-1), .int .i64 1, .string ⟨#[]⟩, .int .i64 1, .string ⟨#[]⟩, .int .i64 (-1), .int .i64 (-1), .int .i64 1, .string ⟨#[]⟩, .int .i64 0, .string ⟨#[]⟩, .int .i64 (-1), .int .i64 (-1), .int .i64 9, .string ⟨#[]⟩, .int .i64 0, .string ⟨#[]⟩, .int .i64 1, .int .i64 2, .int .i64 1, .string ⟨#[]⟩, .int .i64 3, .string ⟨#[]⟩, .int .i64 (-1), .int .i64 (-1), .int .i64 11, .string ⟨#[]⟩, .int .i64 0, .string ⟨#[]⟩, .int .i64 3, .int .i64 4, .int .i64 13, .string ⟨#[]⟩, .int .i64 0, .string ⟨#[]⟩, .int .i64 0, .int .i64 5] (bdT 1 13) 7 wn.heap.size rfl rfl rfl (by omega) (short_trms rfl))
    have HHB := Lib.hid (show (wn.alloc (.cells #[.int .i64 2, .string ⟨#[]⟩, .int .i64 1, .string ⟨#[]⟩, .int .i64 (-1), .int .i64 (-1), .int .i64 1, .string ⟨#[]⟩, .int .i64 1, .string ⟨#[]⟩, .int .i64 (-1), .int .i64 (-1), .int .i64 1, .string ⟨#[]⟩, .int .i64 0, .string ⟨#[]⟩, .int .i64 (-1), .int .i64 (-1), .int .i64 9, .string ⟨#[]⟩, .int .i64 0, .string ⟨#[]⟩, .int .i64 1, .int .i64 2, .int .i64 1, .string ⟨#[]⟩, .int .i64 3, .string ⟨#[]⟩, .int .i64 (-1), .int .i64 (-1), .int .i64 11, .string ⟨#[]⟩, .int .i64 0, .string ⟨#[]⟩, .int .i64 3, .int .i64 4, .int .i64 13, .string ⟨#[]⟩, .int .i64 0, .string ⟨#[]⟩, .int .i64 0, .int .i64 5] 38)).heap[wn.heap.size]? = some (.cells #[.int .i64 2, .string ⟨#[]⟩, .int .i64 1, .string ⟨#[]⟩, .int .i64 (-1), .int .i64 (-1), .int .i64 1, .string ⟨#[]⟩, .int .i64 1, .string ⟨#[]⟩, .int .i64 (-1), .int .i64 (-1), .int .i64 1, .string ⟨#[]⟩, .int .i64 0, .string ⟨#[]⟩, .int .i64 (-1), .int .i64 (-1), .int .i64 9, .string ⟨#[]⟩, .int .i64 0, .string ⟨#[]⟩, .int .i64 1, .int .i64 2, .int .i64 1, .string ⟨#[]⟩, .int .i64 3, .string ⟨#[]⟩, .int .i64 (-1), .int .i64 (-1), .int .i64 11, .string ⟨#[]⟩, .int .i64 0, .string ⟨#[]⟩, .int .i64 3, .int .i64 4, .int .i64 13, .string ⟨#[]⟩, .int .i64 0, .string ⟨#[]⟩, .int .i64 0, .int .i64 5] 38 (0, 0)) from heap_alloc_new wn _)
    clear hwa
    go_wp2_with (first
      | (go_at_call 17; (with_reducible refine (CE4.out _ _ ?_).mono ?_)
         · exact HTB.out
         rintro e wh ⟨⟨sh, ah, nh, ch, rfl, hv, hf⟩, hbv⟩
         have hbw : Below (wn.alloc (.cells #[.int .i64 2, .string ⟨#[]⟩, .int .i64 1, .string ⟨#[]⟩, .int .i64 (-1), .int .i64 (-1), .int .i64 1, .string ⟨#[]⟩, .int .i64 1, .string ⟨#[]⟩, .int .i64 (-1), .int .i64 (-1), .int .i64 1, .string ⟨#[]⟩, .int .i64 0, .string ⟨#[]⟩, .int .i64 (-1), .int .i64 (-1), .int .i64 9, .string ⟨#[]⟩, .int .i64 0, .string ⟨#[]⟩, .int .i64 1, .int .i64 2, .int .i64 1, .string ⟨#[]⟩, .int .i64 3, .string ⟨#[]⟩, .int .i64 (-1), .int .i64 (-1), .int .i64 11, .string ⟨#[]⟩, .int .i64 0, .string ⟨#[]⟩, .int .i64 3, .int .i64 4, .int .i64 13, .string ⟨#[]⟩, .int .i64 0, .string ⟨#[]⟩, .int .i64 0, .int .i64 5] 38)).heap.size (wn.alloc (.cells #[.int .i64 2, .string ⟨#[]⟩, .int .i64 1, .string ⟨#[]⟩, .int .i64 (-1), .int .i64 (-1), .int .i64 1, .string ⟨#[]⟩, .int .i64 1, .string ⟨#[]⟩, .int .i64 (-1), .int .i64 (-1), .int .i64 1, .string ⟨#[]⟩, .int .i64 0, .string ⟨#[]⟩, .int .i64 (-1), .int .i64 (-1), .int .i64 9, .string ⟨#[]⟩, .int .i64 0, .string ⟨#[]⟩, .int .i64 1, .int .i64 2, .int .i64 1, .string ⟨#[]⟩, .int .i64 3, .string ⟨#[]⟩, .int .i64 (-1), .int .i64 (-1), .int .i64 11, .string ⟨#[]⟩, .int .i64 0, .string ⟨#[]⟩, .int .i64 3, .int .i64 4, .int .i64 13, .string ⟨#[]⟩, .int .i64 0, .string ⟨#[]⟩, .int .i64 0, .int .i64 5] 38)) wh := ⟨hbv.os, hbv.tape, hbv.output, hbv.size, hbv.block⟩
         have hbx : Below wn.heap.size wn (wh.alloc (.cells #[.int .i64 0, .int .i64 0, .string sh, .slice ah nh ch] 33)) := below_on (below_on HWA.out hbw) (next_alloc wh (.cells #[.int .i64 0, .int .i64 0, .string sh, .slice ah nh ch] 33))
         have hlt : wn.heap.size < (wn.alloc (.cells #[.int .i64 2, .string ⟨#[]⟩, .int .i64 1, .string ⟨#[]⟩, .int .i64 (-1), .int .i64 (-1), .int .i64 1, .string ⟨#[]⟩, .int .i64 1, .string ⟨#[]⟩, .int .i64 (-1), .int .i64 (-1), .int .i64 1, .string ⟨#[]⟩, .int .i64 0, .string ⟨#[]⟩, .int .i64 (-1), .int .i64 (-1), .int .i64 9, .string ⟨#[]⟩, .int .i64 0, .string ⟨#[]⟩, .int .i64 1, .int .i64 2, .int .i64 1, .string ⟨#[]⟩, .int .i64 3, .string ⟨#[]⟩, .int .i64 (-1), .int .i64 (-1), .int .i64 11, .string ⟨#[]⟩, .int .i64 0, .string ⟨#[]⟩, .int .i64 3, .int .i64 4, .int .i64 13, .string ⟨#[]⟩, .int .i64 0, .string ⟨#[]⟩, .int .i64 0, .int .i64 5] 38)).heap.size := by simp
         have hg : (wh.alloc (.cells #[.int .i64 0, .int .i64 0, .string sh, .slice ah nh ch] 33)).heap[wn.heap.size]? = some (.cells #[.int .i64 2, .string ⟨#[]⟩, .int .i64 1, .string ⟨#[]⟩, .int .i64 (-1), .int .i64 (-1), .int .i64 1, .string ⟨#[]⟩, .int .i64 1, .string ⟨#[]⟩, .int .i64 (-1), .int .i64 (-1), .int .i64 1, .string ⟨#[]⟩, .int .i64 0, .string ⟨#[]⟩, .int .i64 (-1), .int .i64 (-1), .int .i64 9, .string ⟨#[]⟩, .int .i64 0, .string ⟨#[]⟩, .int .i64 1, .int .i64 2, .int .i64 1, .string ⟨#[]⟩, .int .i64 3, .string ⟨#[]⟩, .int .i64 (-1), .int .i64 (-1), .int .i64 11, .string ⟨#[]⟩, .int .i64 0, .string ⟨#[]⟩, .int .i64 3, .int .i64 4, .int .i64 13, .string ⟨#[]⟩, .int .i64 0, .string ⟨#[]⟩, .int .i64 0, .int .i64 5] 38 (0, 0)) := ((next_alloc wh (.cells #[.int .i64 0, .int .i64 0, .string sh, .slice ah nh ch] 33)).block _ (Nat.lt_of_lt_of_le hlt hbw.size)).trans ((hbw.block _ hlt).trans HHB.out)
         have g0 : (wh.alloc (.cells #[.int .i64 0, .int .i64 0, .string sh, .slice ah nh ch] 33)).cell? ⟨wn.heap.size, 36, none⟩ = some (.int .i64 13) := by rw [cell_of_row _ _ _ _ _ _ hg]; rfl
         have g1 : (wh.alloc (.cells #[.int .i64 0, .int .i64 0, .string sh, .slice ah nh ch] 33)).frozen? ⟨wn.heap.size, 36, none⟩ = false := by unfold World.frozen?; rw [hg]; rfl
         have HT5 := Lib.hid (Trms.of_heap (n := 7) (bdT 1 14) (set_heap (o := 36) hg (.int .i64 14)) rfl rfl (by omega) (short_trms rfl))
         have hn1 := HX1.out.lt
         have hn2 := HX2.out.lt
         have hn3 := HX3.out.lt
         have HY1 := Lib.hid (show BoxV ((wh.alloc (.cells #[.int .i64 0, .int .i64 0, .string sh, .slice ah nh ch] 33)).setCell ⟨wn.heap.size, 36, none⟩ (.int .i64 14)) _ _ _ _ _ from (Below.heap_setCell _ ⟨wn.heap.size, 36, none⟩ _ _ (by show _ ≠ wn.heap.size; omega)).trans (HX1.out.on hbx))
         have HY2 := Lib.hid (show BoxV ((wh.alloc (.cells #[.int .i64 0, .int .i64 0, .string sh, .slice ah nh ch] 33)).setCell ⟨wn.heap.size, 36, none⟩ (.int .i64 14)) _ _ _ _ _ from (Below.heap_setCell _ ⟨wn.heap.size, 36, none⟩ _ _ (by show _ ≠ wn.heap.size; omega)).trans (HX2.out.on hbx))
         have HY3 := Lib.hid (show BoxV ((wh.alloc (.cells #[.int .i64 0, .int .i64 0, .string sh, .slice ah nh ch] 33)).setCell ⟨wn.heap.size, 36, none⟩ (.int .i64 14)) _ _ _ _ _ from (Below.heap_setCell _ ⟨wn.heap.size, 36, none⟩ _ _ (by show _ ≠ wn.heap.size; omega)).trans (HX3.out.on hbx))
         have HBS := Lib.hid ((below_on HB.out hbx).setCell (p := ⟨wn.heap.size, 36, none⟩) HB.out.size (.int .i64 14))
         clear hv hf hbv hbw hbx hlt hg hn1 hn2 hn3)
      | (go_at_call 17; (with_reducible refine (CE5.out _ _ ?_).mono ?_)
         · exact HT5.out
         rintro e wi ⟨⟨si, ai, ni, ci, rfl, hv, hf⟩, hbv⟩
         have HBS := Lib.hid (below_on (below_on HBS.out hbv) (next_alloc wi (.cells #[.int .i64 0, .int .i64 0, .string si, .slice ai ni ci] 33)))
         obtain ⟨⟨x0, x1, x2, x3⟩, _⟩ := ((HY1.out.on hbv).on (next_alloc wi (.cells #[.int .i64 0, .int .i64 0, .string si, .slice ai ni ci] 33))).cells
         obtain ⟨⟨y0, y1, y2, y3⟩, _⟩ := ((HY2.out.on hbv).on (next_alloc wi (.cells #[.int .i64 0, .int .i64 0, .string si, .slice ai ni ci] 33))).cells
         obtain ⟨⟨z0, z1, z2, z3⟩, _⟩ := ((HY3.out.on hbv).on (next_alloc wi (.cells #[.int .i64 0, .int .i64 0, .string si, .slice ai ni ci] 33))).cells
         clear hv hf hbv)
      | fail)
    go_ret
    exact ⟨rfl, HBS.out⟩

theorem termBools_walk (a b : Bool) (w : World) : Calls Try.prog 11 #[.bool a, .bool b] w fun e w' => e = .returned (.bool true) ∧ Below w.heap.size w w' := by
  cases a <;> cases b
  · exact termBools_false_false w
  · exact termBools_false_true w
  · exact termBools_true_false w
  · exact termBools_true_true w
end Go.Proofs.Ythchilnibblbgaa
