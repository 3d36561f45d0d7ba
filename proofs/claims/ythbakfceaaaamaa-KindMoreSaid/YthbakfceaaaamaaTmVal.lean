/- What calls that hand back values leave; contracts of number, truth, text, list of the program and of the reference. -/
import Derived.Test.YthbakfceaaaamaaTmEval
import Derived.Test.YthbakfceaaaamaaTmMem
import Derived.Laws.NewBlocks
namespace Go.Proofs.Ythbakfceaaaamaa
open Go.RowKit

/-- A value in memory: what may be read of it. -/
def HasV (W : World) (bound : Nat) (v : Val) (s : ByteArray) (a : Option Addr) (n : Nat) : Prop := s.toList = v.text ∧ Nums W bound a n v.list
/-- The call hands back this value; its numbers lie in memory that it made. -/
def ValRet (w : World) (v : Val) (e : Ending) (w' : World) : Prop :=
  (∃ s a n c, e = .returned (.agg #[.int .i64 v.kind, .int .i64 v.num, .string s, .slice a n c]) ∧ HasV w' w'.heap.size v s a n ∧ From w.heap.size a n) ∧ Below w.heap.size w w'
/-- The call hands back this value and this error. -/
def PairRet (w : World) (r : Val × Int) (e : Ending) (w' : World) : Prop :=
  (∃ s a n c, e = .returned (.tuple #[.agg #[.int .i64 r.1.kind, .int .i64 r.1.num, .string s, .slice a n c], .int .i64 r.2]) ∧ HasV w' w'.heap.size r.1 s a n ∧ From w.heap.size a n) ∧ Below w.heap.size w w'

/-- Block R is the call's result, still empty. -/
def Slot (W : World) (R : Nat) : Prop := W.heap[R]? = some (.cells #[.int .i64 0, .int .i64 0, .string ⟨#[]⟩, .slice none 0 0] 33 (0, 0))
theorem Slot.lt {W : World} {R : Nat} (h : Slot W R) : R < W.heap.size := by
  rcases Nat.lt_or_ge R W.heap.size with h1 | h1
  · exact h1
  · unfold Slot at h; rw [Array.getElem?_eq_none h1] at h; cases h
theorem Slot.new (w : World) : Slot (w.alloc (.cells #[.int .i64 0, .int .i64 0, .string ⟨#[]⟩, .slice none 0 0] 33)) w.heap.size := heap_alloc_new w _
theorem Slot.on {W W' : World} {R : Nat} (h : Slot W R) (hb : Below W.heap.size W W') : Slot W' R := (hb.block R h.lt).trans h
theorem Slot.alloc {W : World} {R : Nat} (h : Slot W R) (o : Obj) : Slot (W.alloc o) R := h.on ((Below.refl _ W).alloc (Nat.le_refl _) o)
theorem Slot.cells {W : World} {R : Nat} (h : Slot W R) : (W.cell? ⟨R, 0, none⟩ = some (.int .i64 0) ∧ W.cell? ⟨R, 1, none⟩ = some (.int .i64 0) ∧ W.cell? ⟨R, 2, none⟩ = some (.string ⟨#[]⟩) ∧ W.cell? ⟨R, 3, none⟩ = some (.slice none 0 0)) ∧
    W.frozen? ⟨R, 0, none⟩ = false ∧ W.frozen? ⟨R, 1, none⟩ = false ∧ W.frozen? ⟨R, 2, none⟩ = false ∧ W.frozen? ⟨R, 3, none⟩ = false := by
  unfold Slot at h
  refine ⟨⟨?_, ?_, ?_, ?_⟩, ?_, ?_, ?_, ?_⟩
  iterate 4 (rw [cell_of_row _ _ _ _ _ _ h]; rfl)
  all_goals (unfold World.frozen?; rw [h]; rfl)
theorem neo {A i j : Nat} (h : i ≠ j) : (⟨A, i, none⟩ : Addr) ≠ ⟨A, j, none⟩ := fun e => by injection e with _ e _; exact h e
theorem Slot.set {w1 : World} {A : Nat} (h : Slot w1 A) (v0 v1 v2 v3 : Value) :
    ((((w1.setCell ⟨A, 0, none⟩ v0).setCell ⟨A, 1, none⟩ v1).setCell ⟨A, 2, none⟩ v2).setCell ⟨A, 3, none⟩ v3).cell? ⟨A, 0, none⟩ = some v0 ∧
    ((((w1.setCell ⟨A, 0, none⟩ v0).setCell ⟨A, 1, none⟩ v1).setCell ⟨A, 2, none⟩ v2).setCell ⟨A, 3, none⟩ v3).cell? ⟨A, 1, none⟩ = some v1 ∧
    ((((w1.setCell ⟨A, 0, none⟩ v0).setCell ⟨A, 1, none⟩ v1).setCell ⟨A, 2, none⟩ v2).setCell ⟨A, 3, none⟩ v3).cell? ⟨A, 2, none⟩ = some v2 ∧
    ((((w1.setCell ⟨A, 0, none⟩ v0).setCell ⟨A, 1, none⟩ v1).setCell ⟨A, 2, none⟩ v2).setCell ⟨A, 3, none⟩ v3).cell? ⟨A, 3, none⟩ = some v3 := by
  obtain ⟨⟨a0, a1, a2, a3⟩, _⟩ := h.cells
  have n01 := neo (A := A) (show 0 ≠ 1 by decide)
  have n02 := neo (A := A) (show 0 ≠ 2 by decide)
  have n03 := neo (A := A) (show 0 ≠ 3 by decide)
  have n12 := neo (A := A) (show 1 ≠ 2 by decide)
  have n13 := neo (A := A) (show 1 ≠ 3 by decide)
  have n23 := neo (A := A) (show 2 ≠ 3 by decide)
  refine ⟨?_, ?_, ?_, ?_⟩
  · rw [World.cell?_setCell_other _ _ _ _ n03.symm, World.cell?_setCell_other _ _ _ _ n02.symm, World.cell?_setCell_other _ _ _ _ n01.symm]
    exact World.cell?_setCell_same' _ _ _ (by rw [a0]; rfl)
  · rw [World.cell?_setCell_other _ _ _ _ n13.symm, World.cell?_setCell_other _ _ _ _ n12.symm]
    exact World.cell?_setCell_same' _ _ _ (by rw [World.cell?_setCell_other _ _ _ _ n01, a1]; rfl)
  · rw [World.cell?_setCell_other _ _ _ _ n23.symm]
    exact World.cell?_setCell_same' _ _ _ (by rw [World.cell?_setCell_other _ _ _ _ n12, World.cell?_setCell_other _ _ _ _ n02, a2]; rfl)
  · exact World.cell?_setCell_same' _ _ _ (by rw [World.cell?_setCell_other _ _ _ _ n23, World.cell?_setCell_other _ _ _ _ n13, World.cell?_setCell_other _ _ _ _ n03, a3]; rfl)
theorem below_set {w w1 : World} {B A : Nat} (h : Below B w w1) (hB : B ≤ A) (v0 v1 v2 v3 : Value) : Below B w ((((w1.setCell ⟨A, 0, none⟩ v0).setCell ⟨A, 1, none⟩ v1).setCell ⟨A, 2, none⟩ v2).setCell ⟨A, 3, none⟩ v3) :=
  (((h.setCell (p := ⟨A, 0, none⟩) hB v0).setCell (p := ⟨A, 1, none⟩) hB v1).setCell (p := ⟨A, 2, none⟩) hB v2).setCell (p := ⟨A, 3, none⟩) hB v3
theorem Nums.set {w1 : World} {A bound base : Nat} {a : Option Addr} {n : Nat} {l : List Int} (h : Nums w1 bound a n l) (hf : From base a n) (hA : A < base) (v0 v1 v2 v3 : Value) :
    Nums ((((w1.setCell ⟨A, 0, none⟩ v0).setCell ⟨A, 1, none⟩ v1).setCell ⟨A, 2, none⟩ v2).setCell ⟨A, 3, none⟩ v3) bound a n l :=
  (((h.setOther hf _ _ hA).setOther hf _ _ hA).setOther hf _ _ hA).setOther hf _ _ hA
theorem From.low {b b' : Nat} {a : Option Addr} {n : Nat} (h : From b a n) (hb : b' ≤ b) : From b' a n := fun h0 => (h h0).imp fun _ h => h.imp fun _ h => ⟨h.1, Nat.le_trans hb h.2⟩

theorem results_val {fn : Func} {tmps : Array Value} {W : World} {s R : Nat} {v0 v1 v2 v3 : Value} (hfn : fn.results = #[.cell s 33]) (hs : tmps.getD s undef = .pointer (some ⟨R, 0, none⟩))
    (p0 : W.cell? ⟨R, 0, none⟩ = some v0) (p1 : W.cell? ⟨R, 1, none⟩ = some v1) (p2 : W.cell? ⟨R, 2, none⟩ = some v2) (p3 : W.cell? ⟨R, 3, none⟩ = some v3) :
    (results fn tmps).run Try.prog W = .ok (.agg #[v0, v1, v2, v3]) W := by
  rw [Array.getD_eq_getD_getElem?] at hs
  simp [results, go_sem, hfn, hs, p0, p1, p2, p3]
theorem results_pair {fn : Func} {tmps : Array Value} {W : World} {s s2 R : Nat} {v0 v1 v2 v3 : Value} (hfn : fn.results = #[.cell s 33, .tmp s2]) (hs : tmps.getD s undef = .pointer (some ⟨R, 0, none⟩))
    (p0 : W.cell? ⟨R, 0, none⟩ = some v0) (p1 : W.cell? ⟨R, 1, none⟩ = some v1) (p2 : W.cell? ⟨R, 2, none⟩ = some v2) (p3 : W.cell? ⟨R, 3, none⟩ = some v3) :
    (results fn tmps).run Try.prog W = .ok (.tuple #[.agg #[v0, v1, v2, v3], tmps.getD s2 undef]) W := by
  rw [Array.getD_eq_getD_getElem?] at hs
  simp [results, go_sem, hfn, hs, p0, p1, p2, p3]
/-- A call that hands back a value and an error ends: the value was stored last. -/
theorem end_pair {fn : Func} {a : Act} {w1 : World} {s s2 R : Nat} {v0 v1 v2 v3 : Value} {Q : Ending → World → Prop} (hfn : fn.results = #[.cell s 33, .tmp s2]) (hs : a.tmps.getD s undef = .pointer (some ⟨R, 0, none⟩)) (hd : a.defers = []) (hS : Slot w1 R)
    (hQ : Q (.returned (.tuple #[.agg #[v0, v1, v2, v3], a.tmps.getD s2 undef])) ((((w1.setCell ⟨R, 0, none⟩ v0).setCell ⟨R, 1, none⟩ v1).setCell ⟨R, 2, none⟩ v2).setCell ⟨R, 3, none⟩ v3)) :
    bodyPost Try.prog fn Q .ret a ((((w1.setCell ⟨R, 0, none⟩ v0).setCell ⟨R, 1, none⟩ v1).setCell ⟨R, 2, none⟩ v2).setCell ⟨R, 3, none⟩ v3) := by
  obtain ⟨p0, p1, p2, p3⟩ := hS.set v0 v1 v2 v3
  exact bodyPost_ret (results_pair hfn hs p0 p1 p2 p3) hd hQ
theorem end_val {fn : Func} {a : Act} {w1 : World} {s R : Nat} {v0 v1 v2 v3 : Value} {Q : Ending → World → Prop} (hfn : fn.results = #[.cell s 33]) (hs : a.tmps.getD s undef = .pointer (some ⟨R, 0, none⟩)) (hd : a.defers = []) (hS : Slot w1 R)
    (hQ : Q (.returned (.agg #[v0, v1, v2, v3])) ((((w1.setCell ⟨R, 0, none⟩ v0).setCell ⟨R, 1, none⟩ v1).setCell ⟨R, 2, none⟩ v2).setCell ⟨R, 3, none⟩ v3)) :
    bodyPost Try.prog fn Q .ret a ((((w1.setCell ⟨R, 0, none⟩ v0).setCell ⟨R, 1, none⟩ v1).setCell ⟨R, 2, none⟩ v2).setCell ⟨R, 3, none⟩ v3) := by
  obtain ⟨p0, p1, p2, p3⟩ := hS.set v0 v1 v2 v3
  exact bodyPost_ret (results_val hfn hs p0 p1 p2 p3) hd hQ
/-- What is stored last is what a callee handed back. -/
theorem PairRet.of_set {w w1 w2 : World} {R : Nat} {r : Val × Int} {s : ByteArray} {a : Option Addr} {n c : Nat} (hb : Below w.heap.size w w2) (hR : w.heap.size ≤ R) (hR1 : R < w1.heap.size) (hv : HasV w2 w2.heap.size r.1 s a n) (hf : From w1.heap.size a n) :
    PairRet w r (.returned (.tuple #[.agg #[.int .i64 r.1.kind, .int .i64 r.1.num, .string s, .slice a n c], .int .i64 r.2])) ((((w2.setCell ⟨R, 0, none⟩ (.int .i64 r.1.kind)).setCell ⟨R, 1, none⟩ (.int .i64 r.1.num)).setCell ⟨R, 2, none⟩ (.string s)).setCell ⟨R, 3, none⟩ (.slice a n c)) :=
  ⟨⟨s, a, n, c, rfl, ⟨hv.1, (hv.2.set hf hR1 _ _ _ _).more (by simp)⟩, hf.low (by omega)⟩, below_set hb hR _ _ _ _⟩

theorem tNumber_any (n : Int) (w : World) : Calls Try.prog 38 #[.int .i64 n] w fun e w' => e = .returned (.agg #[.int .i64 1, .int .i64 n, .string ⟨#[]⟩, .slice none 0 0]) ∧ Below w.heap.size w w' := by
  go_enter Try.func38, Try.ntmps38
  go_wp2
  refine bodyPost_ret (v := .agg #[.int .i64 1, .int .i64 n, .string ⟨#[]⟩, .slice none 0 0]) (by simp [results, go_sem]) rfl ?_
  exact ⟨rfl, (Below.refl _ w).alloc (Nat.le_refl _) _⟩
theorem text_any (s : ByteArray) (w : World) : Calls Try.prog 40 #[.string s] w fun e w' => e = .returned (.agg #[.int .i64 3, .int .i64 0, .string s, .slice none 0 0]) ∧ Below w.heap.size w w' := by
  go_enter Try.func40, Try.ntmps40
  go_wp2
  refine bodyPost_ret (v := .agg #[.int .i64 3, .int .i64 0, .string s, .slice none 0 0]) (by simp [results, go_sem]) rfl ?_
  exact ⟨rfl, (Below.refl _ w).alloc (Nat.le_refl _) _⟩
theorem list_any (a : Option Addr) (n c : Nat) (w : World) : Calls Try.prog 41 #[.slice a n c] w fun e w' => e = .returned (.agg #[.int .i64 4, .int .i64 0, .string ⟨#[]⟩, .slice a n c]) ∧ Below w.heap.size w w' := by
  go_enter Try.func41, Try.ntmps41
  go_wp2
  refine bodyPost_ret (v := .agg #[.int .i64 4, .int .i64 0, .string ⟨#[]⟩, .slice a n c]) (by simp [results, go_sem]) rfl ?_
  exact ⟨rfl, (Below.refl _ w).alloc (Nat.le_refl _) _⟩
theorem truth_any (b : Bool) (w : World) : Calls Try.prog 39 #[.bool b] w fun e w' => e = .returned (.agg #[.int .i64 2, .int .i64 (if b then 1 else 0), .string ⟨#[]⟩, .slice none 0 0]) ∧ Below w.heap.size w w' := by
  cases b
  · go_enter Try.func39, Try.ntmps39
    go_wp2
    refine bodyPost_ret (v := .agg #[.int .i64 2, .int .i64 0, .string ⟨#[]⟩, .slice none 0 0]) (by simp [results, go_sem]) rfl ?_
    exact ⟨rfl, (Below.refl _ w).alloc (Nat.le_refl _) _⟩
  · go_enter Try.func39, Try.ntmps39
    go_wp2
    refine bodyPost_ret (v := .agg #[.int .i64 2, .int .i64 1, .string ⟨#[]⟩, .slice none 0 0]) (by simp [results, go_sem]) rfl ?_
    exact ⟨rfl, (Below.refl _ w).alloc (Nat.le_refl _) _⟩
end Go.Proofs.Ythbakfceaaaamaa
