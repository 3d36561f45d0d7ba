/- Contract of the program's infer: what it tells of a tree. -/
import Derived.Test.YthbakfceaaaamaaKdKinds
import Derived.Test.YthbakfceaaaamaaTmSteps
import Derived.Test.YthbakfceaaaamaaTmVarP
import Derived.Test.YthbakfceaaaamaaTmFirst
namespace Go.Proofs.Ythbakfceaaaamaa
open Go.RowKit

/-- Block g holds the kinds of the operands so far. -/
def GBox (W : World) (g : Nat) (x y : Int) : Prop := W.heap[g]? = some (.cells #[.int .i64 x, .int .i64 y] 66 (0, 0))
theorem GBox.lt {W : World} {g : Nat} {x y : Int} (h : GBox W g x y) : g < W.heap.size := by
  rcases Nat.lt_or_ge g W.heap.size with h1 | h1
  · exact h1
  · unfold GBox at h; rw [Array.getElem?_eq_none h1] at h; cases h
theorem GBox.new (w : World) (x y : Int) : GBox (w.alloc (.cells #[.int .i64 x, .int .i64 y] 66)) w.heap.size x y := heap_alloc_new w _
theorem GBox.on {W W' : World} {g : Nat} {x y : Int} (h : GBox W g x y) (hb : Below W.heap.size W W') : GBox W' g x y := (hb.block g h.lt).trans h
theorem GBox.cells {W : World} {g : Nat} {x y : Int} (h : GBox W g x y) : (W.cell? ⟨g, 0, none⟩ = some (.int .i64 x) ∧ W.cell? ⟨g, 1, none⟩ = some (.int .i64 y)) ∧ W.frozen? ⟨g, 0, none⟩ = false ∧ W.frozen? ⟨g, 1, none⟩ = false := by
  unfold GBox at h
  refine ⟨⟨?_, ?_⟩, ?_, ?_⟩
  iterate 2 (rw [cell_of_row _ _ _ _ _ _ h]; rfl)
  all_goals (unfold World.frozen?; rw [h]; rfl)
theorem GBox.set0 {W : World} {g : Nat} {x y : Int} (h : GBox W g x y) (u : Int) : GBox (W.setCell ⟨g, 0, none⟩ (.int .i64 u)) g u y := by
  unfold GBox at h ⊢
  rw [heap_setCell_same W g 0 _ _ _ h]
  rfl
theorem GBox.set1 {W : World} {g : Nat} {x y : Int} (h : GBox W g x y) (u : Int) : GBox (W.setCell ⟨g, 1, none⟩ (.int .i64 u)) g x u := by
  unfold GBox at h ⊢
  rw [heap_setCell_same W g 1 _ _ _ h]
  rfl
theorem BoxU.setOther {W : World} {R : Nat} {v0 v1 v2 v3 v4 v5 : Value} (h : BoxU W R v0 v1 v2 v3 v4 v5) {p : Addr} (hp : R ≠ p.block) (u : Value) : BoxU (W.setCell p u) R v0 v1 v2 v3 v4 v5 := (Below.heap_setCell W p u R hp).trans h
/-- An element of a pair by value. -/
theorem run_at_pair (x y : Int) (w : World) : (Instr.index 66 (.agg #[.int .i64 x, .int .i64 y]) (.int .i64 0)).run Try.prog w = .ok (.int .i64 x) w ∧ (Instr.index 66 (.agg #[.int .i64 x, .int .i64 y]) (.int .i64 1)).run Try.prog w = .ok (.int .i64 y) w := by
  obtain ⟨i, hi⟩ := Option.isSome_iff_exists.1 pair_info
  have hc := pair_cells
  constructor
  · simp [Instr.index, run_underlying Try.underlying66, asIntOf, go_sem, run_sizeOf w hi, hc]
  · simp [Instr.index, run_underlying Try.underlying66, asIntOf, go_sem, run_sizeOf w hi, hc]
theorem Trms.at0 {w W : World} {a : Option Addr} {n : Nat} {L : List Trm} (h : Trms w w.heap.size a n L) (hb : Below w.heap.size w W) : Trms W W.heap.size a n L := (h.below hb).more hb.size

set_option maxHeartbeats 4000000 in
set_option maxRecDepth 20000 in
theorem infer_leaf (b off i : Nat) (ln lc : Nat) (k : Int) (nm : ByteArray) (x : Int) (tx : ByteArray) (l r : Int) (ea : Option Addr) (en ec : Nat) (w : World) (hin : i < ln) (hk0 : (k == 0) = false)
    (q0 : w.cell? ⟨b, off + i * 6, none⟩ = some (.int .i64 k)) (q1 : w.cell? ⟨b, off + i * 6 + 1, none⟩ = some (.string nm)) (q2 : w.cell? ⟨b, off + i * 6 + 2, none⟩ = some (.int .i64 x)) (q3 : w.cell? ⟨b, off + i * 6 + 3, none⟩ = some (.string tx)) (q4 : w.cell? ⟨b, off + i * 6 + 4, none⟩ = some (.int .i64 l)) (q5 : w.cell? ⟨b, off + i * 6 + 5, none⟩ = some (.int .i64 r))
    (hl : l = -1) (hr : r = -1) (rl : List (Int × Int)) (rv : Int) (CT : Hid (∀ W, Calls Try.prog 30 #[.int .i64 k] W (RowRet W (rl, rv))))
    (CQ : Hid (∀ (W : World) (a : Option Addr) (n c : Nat), Prs W W.heap.size a n rl → Calls Try.prog 31 #[.slice a n c, .agg #[.int .i64 (-1), .int .i64 (-1)]] W fun e w' => e = .returned (.bool true) ∧ Below W.heap.size W w')) :
    Calls Try.prog 17 #[.slice (some ⟨b, off, none⟩) ln lc, .int .i64 i, .slice ea en ec] w (KdRet w (rv, 0)) := by
  subst hl hr
  have ix0 := fun W => (run_at_pair (-1) (-1) W).1
  have ix1 := fun W => (run_at_pair (-1) (-1) W).2
  have HB2 := Lib.hid (up2 w (.cells #[.int .i64 k, .string nm, .int .i64 x, .string tx, .int .i64 (-1), .int .i64 (-1)] 49) (.cells #[.int .i64 (-1), .int .i64 (-1)] 66))
  have HX2 := Lib.hid ((BoxU.new w (.int .i64 k) (.string nm) (.int .i64 x) (.string tx) (.int .i64 (-1)) (.int .i64 (-1))).on (up1 _ (.cells #[.int .i64 (-1), .int .i64 (-1)] 66)))
  have hg2 := GBox.new (w.alloc (.cells #[.int .i64 k, .string nm, .int .i64 x, .string tx, .int .i64 (-1), .int .i64 (-1)] 49)) (-1) (-1)
  rw [World.size_alloc] at hg2
  have HG2 := Lib.hid hg2
  clear hg2
  obtain ⟨⟨x0, x1, x2, x3, x4, x5⟩, _⟩ := HX2.out.cells
  obtain ⟨⟨g0, g1⟩, f0, f1⟩ := HG2.out.cells
  go_enter Try.func17, Try.ntmps17
  go_wp2
  refine wp_loop_rounds 3 ?_
  rw [rounds_succ]
  go_wp2
  rw [rounds_succ]
  go_wp2
  rw [rounds_succ]
  go_wp2_with (first
      | (go_at_call 30; (with_reducible refine (CT.out _).mono ?_)
         rintro e w7 ⟨⟨ar, nr, cr, rfl, hp⟩, hb7⟩
         have HP7 := Lib.hid hp
         have HB7 := Lib.hid (below_on HB2.out hb7)
         have hg7 := HG2.out.on hb7
         obtain ⟨⟨d0, d1⟩, _⟩ := hg7.cells
         clear hb7 hp hg7)
      | (go_at_call 31; (with_reducible refine (CQ.out _ _ _ _ HP7.out).mono ?_)
         rintro e w8 ⟨rfl, hb8⟩
         have HB8 := Lib.hid (below_on HB7.out hb8)
         clear hb8)
      | fail)
  go_ret2
  exact ⟨rfl, HB8.out⟩

set_option maxHeartbeats 4000000 in
set_option maxRecDepth 20000 in
theorem infer_one_err (b off i : Nat) (ln lc : Nat) (k : Int) (nm : ByteArray) (x : Int) (tx : ByteArray) (l r : Int) (ea : Option Addr) (en ec : Nat) (w : World) (hin : i < ln) (hk0 : (k == 0) = false)
    (q0 : w.cell? ⟨b, off + i * 6, none⟩ = some (.int .i64 k)) (q1 : w.cell? ⟨b, off + i * 6 + 1, none⟩ = some (.string nm)) (q2 : w.cell? ⟨b, off + i * 6 + 2, none⟩ = some (.int .i64 x)) (q3 : w.cell? ⟨b, off + i * 6 + 3, none⟩ = some (.string tx)) (q4 : w.cell? ⟨b, off + i * 6 + 4, none⟩ = some (.int .i64 l)) (q5 : w.cell? ⟨b, off + i * 6 + 5, none⟩ = some (.int .i64 r))
    (p : Nat) (la : List Trm) (env : List (Str × Int)) (HT : Hid (Trms w w.heap.size (some ⟨b, off, none⟩) ln la)) (HE : Hid (Typs w w.heap.size ea en env)) (ak ae : Int)
    (C1 : Hid (∀ W : World, Trms W W.heap.size (some ⟨b, off, none⟩) ln la → Typs W W.heap.size ea en env → Calls Try.prog 17 #[.slice (some ⟨b, off, none⟩) ln lc, .int .i64 (p : Int), .slice ea en ec] W (KdRet W (ak, ae)))) (hl : l = (p : Int)) (hr : r = -1) (hae : (ae != 0) = true) :
    Calls Try.prog 17 #[.slice (some ⟨b, off, none⟩) ln lc, .int .i64 i, .slice ea en ec] w (KdRet w (0, ae)) := by
  subst hl hr
  have hpn : ((p : Int) == -1) = false := by rw [beq_eq_false_iff_ne]; omega
  have ix0 := fun W => (run_at_pair (p : Int) (-1) W).1
  have ix1 := fun W => (run_at_pair (p : Int) (-1) W).2
  have HB2 := Lib.hid (up2 w (.cells #[.int .i64 k, .string nm, .int .i64 x, .string tx, .int .i64 (p : Int), .int .i64 (-1)] 49) (.cells #[.int .i64 (-1), .int .i64 (-1)] 66))
  have HX2 := Lib.hid ((BoxU.new w (.int .i64 k) (.string nm) (.int .i64 x) (.string tx) (.int .i64 (p : Int)) (.int .i64 (-1))).on (up1 _ (.cells #[.int .i64 (-1), .int .i64 (-1)] 66)))
  have hg2 := GBox.new (w.alloc (.cells #[.int .i64 k, .string nm, .int .i64 x, .string tx, .int .i64 (p : Int), .int .i64 (-1)] 49)) (-1) (-1)
  rw [World.size_alloc] at hg2
  have HG2 := Lib.hid hg2
  clear hg2
  obtain ⟨⟨x0, x1, x2, x3, x4, x5⟩, _⟩ := HX2.out.cells
  obtain ⟨⟨g0, g1⟩, f0, f1⟩ := HG2.out.cells
  go_enter Try.func17, Try.ntmps17
  go_wp2
  refine wp_loop_rounds 3 ?_
  rw [rounds_succ]
  go_wp2_with (first
      | (go_at_call 17; (with_reducible refine (C1.out _ (HT.out.at0 HB2.out) (HE.out.on HB2.out)).mono ?_)
         rintro e w3 ⟨rfl, hb⟩
         have HBa1 := Lib.hid (below_on HB2.out hb)
         clear hb)
      | fail)
  go_ret2
  exact ⟨rfl, HBa1.out⟩

set_option maxHeartbeats 4000000 in
set_option maxRecDepth 20000 in
theorem infer_one_yes (b off i : Nat) (ln lc : Nat) (k : Int) (nm : ByteArray) (x : Int) (tx : ByteArray) (l r : Int) (ea : Option Addr) (en ec : Nat) (w : World) (hin : i < ln) (hk0 : (k == 0) = false)
    (q0 : w.cell? ⟨b, off + i * 6, none⟩ = some (.int .i64 k)) (q1 : w.cell? ⟨b, off + i * 6 + 1, none⟩ = some (.string nm)) (q2 : w.cell? ⟨b, off + i * 6 + 2, none⟩ = some (.int .i64 x)) (q3 : w.cell? ⟨b, off + i * 6 + 3, none⟩ = some (.string tx)) (q4 : w.cell? ⟨b, off + i * 6 + 4, none⟩ = some (.int .i64 l)) (q5 : w.cell? ⟨b, off + i * 6 + 5, none⟩ = some (.int .i64 r))
    (p : Nat) (la : List Trm) (env : List (Str × Int)) (HT : Hid (Trms w w.heap.size (some ⟨b, off, none⟩) ln la)) (HE : Hid (Typs w w.heap.size ea en env)) (ak ae : Int)
    (C1 : Hid (∀ W : World, Trms W W.heap.size (some ⟨b, off, none⟩) ln la → Typs W W.heap.size ea en env → Calls Try.prog 17 #[.slice (some ⟨b, off, none⟩) ln lc, .int .i64 (p : Int), .slice ea en ec] W (KdRet W (ak, ae)))) (hl : l = (p : Int)) (hr : r = -1) (hae : ae = 0)
    (rl : List (Int × Int)) (rv : Int) (CT : Hid (∀ W, Calls Try.prog 30 #[.int .i64 k] W (RowRet W (rl, rv)))) (q : Bool)
    (CQ : Hid (∀ (W : World) (a : Option Addr) (n c : Nat), Prs W W.heap.size a n rl → Calls Try.prog 31 #[.slice a n c, .agg #[.int .i64 ak, .int .i64 (-1)]] W fun e w' => e = .returned (.bool q) ∧ Below W.heap.size W w')) (hq : q = true) :
    Calls Try.prog 17 #[.slice (some ⟨b, off, none⟩) ln lc, .int .i64 i, .slice ea en ec] w (KdRet w (rv, 0)) := by
  subst hl hr hae hq
  have hpn : ((p : Int) == -1) = false := by rw [beq_eq_false_iff_ne]; omega
  have ix0 := fun W => (run_at_pair (p : Int) (-1) W).1
  have ix1 := fun W => (run_at_pair (p : Int) (-1) W).2
  have HB2 := Lib.hid (up2 w (.cells #[.int .i64 k, .string nm, .int .i64 x, .string tx, .int .i64 (p : Int), .int .i64 (-1)] 49) (.cells #[.int .i64 (-1), .int .i64 (-1)] 66))
  have HX2 := Lib.hid ((BoxU.new w (.int .i64 k) (.string nm) (.int .i64 x) (.string tx) (.int .i64 (p : Int)) (.int .i64 (-1))).on (up1 _ (.cells #[.int .i64 (-1), .int .i64 (-1)] 66)))
  have hg2 := GBox.new (w.alloc (.cells #[.int .i64 k, .string nm, .int .i64 x, .string tx, .int .i64 (p : Int), .int .i64 (-1)] 49)) (-1) (-1)
  rw [World.size_alloc] at hg2
  have HG2 := Lib.hid hg2
  clear hg2
  obtain ⟨⟨x0, x1, x2, x3, x4, x5⟩, _⟩ := HX2.out.cells
  obtain ⟨⟨g0, g1⟩, f0, f1⟩ := HG2.out.cells
  go_enter Try.func17, Try.ntmps17
  go_wp2
  refine wp_loop_rounds 3 ?_
  rw [rounds_succ]
  go_wp2_with (first
      | (go_at_call 17; (with_reducible refine (C1.out _ (HT.out.at0 HB2.out) (HE.out.on HB2.out)).mono ?_)
         rintro e w3 ⟨rfl, hb⟩
         have HBa1 := Lib.hid (below_on HB2.out hb)
         have hg := HG2.out.on hb
         obtain ⟨⟨g0, g1⟩, f0, f1⟩ := hg.cells
         have HBs1 := Lib.hid (HBa1.out.setCell (p := ⟨w.heap.size + 1, 0, none⟩) (Nat.le_succ _) (.int .i64 ak))
         have HGs1 := Lib.hid (hg.set0 ak)
         have HXs1 := Lib.hid ((HX2.out.on hb).setOther (p := ⟨w.heap.size + 1, 0, none⟩) (Nat.ne_of_lt (Nat.lt_succ_self _)) (.int .i64 ak))
         obtain ⟨⟨x0, x1, x2, x3, x4, x5⟩, _⟩ := HXs1.out.cells
         clear hg
         clear hb)
      | fail)
  rw [rounds_succ]
  go_wp2
  rw [rounds_succ]
  go_wp2_with (first
      | (go_at_call 30; (with_reducible refine (CT.out _).mono ?_)
         rintro e w7 ⟨⟨ar, nr, cr, rfl, hp⟩, hb7⟩
         have HP7 := Lib.hid hp
         have HB7 := Lib.hid (below_on HBs1.out hb7)
         have hg7 := HGs1.out.on hb7
         obtain ⟨⟨d0, d1⟩, _⟩ := hg7.cells
         clear hb7 hp hg7)
      | (go_at_call 31; (with_reducible refine (CQ.out _ _ _ _ HP7.out).mono ?_)
         rintro e w8 ⟨rfl, hb8⟩
         have HB8 := Lib.hid (below_on HB7.out hb8)
         clear hb8)
      | fail)
  go_ret2
  exact ⟨rfl, HB8.out⟩

set_option maxHeartbeats 4000000 in
set_option maxRecDepth 20000 in
theorem infer_one_no (b off i : Nat) (ln lc : Nat) (k : Int) (nm : ByteArray) (x : Int) (tx : ByteArray) (l r : Int) (ea : Option Addr) (en ec : Nat) (w : World) (hin : i < ln) (hk0 : (k == 0) = false)
    (q0 : w.cell? ⟨b, off + i * 6, none⟩ = some (.int .i64 k)) (q1 : w.cell? ⟨b, off + i * 6 + 1, none⟩ = some (.string nm)) (q2 : w.cell? ⟨b, off + i * 6 + 2, none⟩ = some (.int .i64 x)) (q3 : w.cell? ⟨b, off + i * 6 + 3, none⟩ = some (.string tx)) (q4 : w.cell? ⟨b, off + i * 6 + 4, none⟩ = some (.int .i64 l)) (q5 : w.cell? ⟨b, off + i * 6 + 5, none⟩ = some (.int .i64 r))
    (p : Nat) (la : List Trm) (env : List (Str × Int)) (HT : Hid (Trms w w.heap.size (some ⟨b, off, none⟩) ln la)) (HE : Hid (Typs w w.heap.size ea en env)) (ak ae : Int)
    (C1 : Hid (∀ W : World, Trms W W.heap.size (some ⟨b, off, none⟩) ln la → Typs W W.heap.size ea en env → Calls Try.prog 17 #[.slice (some ⟨b, off, none⟩) ln lc, .int .i64 (p : Int), .slice ea en ec] W (KdRet W (ak, ae)))) (hl : l = (p : Int)) (hr : r = -1) (hae : ae = 0)
    (rl : List (Int × Int)) (rv : Int) (CT : Hid (∀ W, Calls Try.prog 30 #[.int .i64 k] W (RowRet W (rl, rv)))) (q : Bool)
    (CQ : Hid (∀ (W : World) (a : Option Addr) (n c : Nat), Prs W W.heap.size a n rl → Calls Try.prog 31 #[.slice a n c, .agg #[.int .i64 ak, .int .i64 (-1)]] W fun e w' => e = .returned (.bool q) ∧ Below W.heap.size W w')) (hq : q = false) :
    Calls Try.prog 17 #[.slice (some ⟨b, off, none⟩) ln lc, .int .i64 i, .slice ea en ec] w (KdRet w (0, 502)) := by
  subst hl hr hae hq
  have hpn : ((p : Int) == -1) = false := by rw [beq_eq_false_iff_ne]; omega
  have ix0 := fun W => (run_at_pair (p : Int) (-1) W).1
  have ix1 := fun W => (run_at_pair (p : Int) (-1) W).2
  have HB2 := Lib.hid (up2 w (.cells #[.int .i64 k, .string nm, .int .i64 x, .string tx, .int .i64 (p : Int), .int .i64 (-1)] 49) (.cells #[.int .i64 (-1), .int .i64 (-1)] 66))
  have HX2 := Lib.hid ((BoxU.new w (.int .i64 k) (.string nm) (.int .i64 x) (.string tx) (.int .i64 (p : Int)) (.int .i64 (-1))).on (up1 _ (.cells #[.int .i64 (-1), .int .i64 (-1)] 66)))
  have hg2 := GBox.new (w.alloc (.cells #[.int .i64 k, .string nm, .int .i64 x, .string tx, .int .i64 (p : Int), .int .i64 (-1)] 49)) (-1) (-1)
  rw [World.size_alloc] at hg2
  have HG2 := Lib.hid hg2
  clear hg2
  obtain ⟨⟨x0, x1, x2, x3, x4, x5⟩, _⟩ := HX2.out.cells
  obtain ⟨⟨g0, g1⟩, f0, f1⟩ := HG2.out.cells
  go_enter Try.func17, Try.ntmps17
  go_wp2
  refine wp_loop_rounds 3 ?_
  rw [rounds_succ]
  go_wp2_with (first
      | (go_at_call 17; (with_reducible refine (C1.out _ (HT.out.at0 HB2.out) (HE.out.on HB2.out)).mono ?_)
         rintro e w3 ⟨rfl, hb⟩
         have HBa1 := Lib.hid (below_on HB2.out hb)
         have hg := HG2.out.on hb
         obtain ⟨⟨g0, g1⟩, f0, f1⟩ := hg.cells
         have HBs1 := Lib.hid (HBa1.out.setCell (p := ⟨w.heap.size + 1, 0, none⟩) (Nat.le_succ _) (.int .i64 ak))
         have HGs1 := Lib.hid (hg.set0 ak)
         have HXs1 := Lib.hid ((HX2.out.on hb).setOther (p := ⟨w.heap.size + 1, 0, none⟩) (Nat.ne_of_lt (Nat.lt_succ_self _)) (.int .i64 ak))
         obtain ⟨⟨x0, x1, x2, x3, x4, x5⟩, _⟩ := HXs1.out.cells
         clear hg
         clear hb)
      | fail)
  rw [rounds_succ]
  go_wp2
  rw [rounds_succ]
  go_wp2_with (first
      | (go_at_call 30; (with_reducible refine (CT.out _).mono ?_)
         rintro e w7 ⟨⟨ar, nr, cr, rfl, hp⟩, hb7⟩
         have HP7 := Lib.hid hp
         have HB7 := Lib.hid (below_on HBs1.out hb7)
         have hg7 := HGs1.out.on hb7
         obtain ⟨⟨d0, d1⟩, _⟩ := hg7.cells
         clear hb7 hp hg7)
      | (go_at_call 31; (with_reducible refine (CQ.out _ _ _ _ HP7.out).mono ?_)
         rintro e w8 ⟨rfl, hb8⟩
         have HB8 := Lib.hid (below_on HB7.out hb8)
         clear hb8)
      | fail)
  go_ret2
  exact ⟨rfl, HB8.out⟩

set_option maxHeartbeats 4000000 in
set_option maxRecDepth 20000 in
theorem infer_two_err1 (b off i : Nat) (ln lc : Nat) (k : Int) (nm : ByteArray) (x : Int) (tx : ByteArray) (l r : Int) (ea : Option Addr) (en ec : Nat) (w : World) (hin : i < ln) (hk0 : (k == 0) = false)
    (q0 : w.cell? ⟨b, off + i * 6, none⟩ = some (.int .i64 k)) (q1 : w.cell? ⟨b, off + i * 6 + 1, none⟩ = some (.string nm)) (q2 : w.cell? ⟨b, off + i * 6 + 2, none⟩ = some (.int .i64 x)) (q3 : w.cell? ⟨b, off + i * 6 + 3, none⟩ = some (.string tx)) (q4 : w.cell? ⟨b, off + i * 6 + 4, none⟩ = some (.int .i64 l)) (q5 : w.cell? ⟨b, off + i * 6 + 5, none⟩ = some (.int .i64 r))
    (p : Nat) (la : List Trm) (env : List (Str × Int)) (HT : Hid (Trms w w.heap.size (some ⟨b, off, none⟩) ln la)) (HE : Hid (Typs w w.heap.size ea en env)) (ak ae : Int)
    (C1 : Hid (∀ W : World, Trms W W.heap.size (some ⟨b, off, none⟩) ln la → Typs W W.heap.size ea en env → Calls Try.prog 17 #[.slice (some ⟨b, off, none⟩) ln lc, .int .i64 (p : Int), .slice ea en ec] W (KdRet W (ak, ae)))) (p2 : Nat) (hl : l = (p : Int)) (hr : r = (p2 : Int)) (hae : (ae != 0) = true) :
    Calls Try.prog 17 #[.slice (some ⟨b, off, none⟩) ln lc, .int .i64 i, .slice ea en ec] w (KdRet w (0, ae)) := by
  subst hl hr
  have hpn : ((p : Int) == -1) = false := by rw [beq_eq_false_iff_ne]; omega
  have hpm : ((p2 : Int) == -1) = false := by rw [beq_eq_false_iff_ne]; omega
  have ix0 := fun W => (run_at_pair (p : Int) (p2 : Int) W).1
  have ix1 := fun W => (run_at_pair (p : Int) (p2 : Int) W).2
  have HB2 := Lib.hid (up2 w (.cells #[.int .i64 k, .string nm, .int .i64 x, .string tx, .int .i64 (p : Int), .int .i64 (p2 : Int)] 49) (.cells #[.int .i64 (-1), .int .i64 (-1)] 66))
  have HX2 := Lib.hid ((BoxU.new w (.int .i64 k) (.string nm) (.int .i64 x) (.string tx) (.int .i64 (p : Int)) (.int .i64 (p2 : Int))).on (up1 _ (.cells #[.int .i64 (-1), .int .i64 (-1)] 66)))
  have hg2 := GBox.new (w.alloc (.cells #[.int .i64 k, .string nm, .int .i64 x, .string tx, .int .i64 (p : Int), .int .i64 (p2 : Int)] 49)) (-1) (-1)
  rw [World.size_alloc] at hg2
  have HG2 := Lib.hid hg2
  clear hg2
  obtain ⟨⟨x0, x1, x2, x3, x4, x5⟩, _⟩ := HX2.out.cells
  obtain ⟨⟨g0, g1⟩, f0, f1⟩ := HG2.out.cells
  go_enter Try.func17, Try.ntmps17
  go_wp2
  refine wp_loop_rounds 3 ?_
  rw [rounds_succ]
  go_wp2_with (first
      | (go_at_call 17; (with_reducible refine (C1.out _ (HT.out.at0 HB2.out) (HE.out.on HB2.out)).mono ?_)
         rintro e w3 ⟨rfl, hb⟩
         have HBa1 := Lib.hid (below_on HB2.out hb)
         clear hb)
      | fail)
  go_ret2
  exact ⟨rfl, HBa1.out⟩

set_option maxHeartbeats 4000000 in
set_option maxRecDepth 20000 in
theorem infer_two_err2 (b off i : Nat) (ln lc : Nat) (k : Int) (nm : ByteArray) (x : Int) (tx : ByteArray) (l r : Int) (ea : Option Addr) (en ec : Nat) (w : World) (hin : i < ln) (hk0 : (k == 0) = false)
    (q0 : w.cell? ⟨b, off + i * 6, none⟩ = some (.int .i64 k)) (q1 : w.cell? ⟨b, off + i * 6 + 1, none⟩ = some (.string nm)) (q2 : w.cell? ⟨b, off + i * 6 + 2, none⟩ = some (.int .i64 x)) (q3 : w.cell? ⟨b, off + i * 6 + 3, none⟩ = some (.string tx)) (q4 : w.cell? ⟨b, off + i * 6 + 4, none⟩ = some (.int .i64 l)) (q5 : w.cell? ⟨b, off + i * 6 + 5, none⟩ = some (.int .i64 r))
    (p : Nat) (la : List Trm) (env : List (Str × Int)) (HT : Hid (Trms w w.heap.size (some ⟨b, off, none⟩) ln la)) (HE : Hid (Typs w w.heap.size ea en env)) (ak ae : Int)
    (C1 : Hid (∀ W : World, Trms W W.heap.size (some ⟨b, off, none⟩) ln la → Typs W W.heap.size ea en env → Calls Try.prog 17 #[.slice (some ⟨b, off, none⟩) ln lc, .int .i64 (p : Int), .slice ea en ec] W (KdRet W (ak, ae)))) (p2 : Nat) (bk be : Int)
    (C2 : Hid (∀ W : World, Trms W W.heap.size (some ⟨b, off, none⟩) ln la → Typs W W.heap.size ea en env → Calls Try.prog 17 #[.slice (some ⟨b, off, none⟩) ln lc, .int .i64 (p2 : Int), .slice ea en ec] W (KdRet W (bk, be)))) (hl : l = (p : Int)) (hr : r = (p2 : Int)) (hae : ae = 0) (hbe : (be != 0) = true) :
    Calls Try.prog 17 #[.slice (some ⟨b, off, none⟩) ln lc, .int .i64 i, .slice ea en ec] w (KdRet w (0, be)) := by
  subst hl hr hae
  have hpn : ((p : Int) == -1) = false := by rw [beq_eq_false_iff_ne]; omega
  have hpm : ((p2 : Int) == -1) = false := by rw [beq_eq_false_iff_ne]; omega
  have ix0 := fun W => (run_at_pair (p : Int) (p2 : Int) W).1
  have ix1 := fun W => (run_at_pair (p : Int) (p2 : Int) W).2
  have HB2 := Lib.hid (up2 w (.cells #[.int .i64 k, .string nm, .int .i64 x, .string tx, .int .i64 (p : Int), .int .i64 (p2 : Int)] 49) (.cells #[.int .i64 (-1), .int .i64 (-1)] 66))
  have HX2 := Lib.hid ((BoxU.new w (.int .i64 k) (.string nm) (.int .i64 x) (.string tx) (.int .i64 (p : Int)) (.int .i64 (p2 : Int))).on (up1 _ (.cells #[.int .i64 (-1), .int .i64 (-1)] 66)))
  have hg2 := GBox.new (w.alloc (.cells #[.int .i64 k, .string nm, .int .i64 x, .string tx, .int .i64 (p : Int), .int .i64 (p2 : Int)] 49)) (-1) (-1)
  rw [World.size_alloc] at hg2
  have HG2 := Lib.hid hg2
  clear hg2
  obtain ⟨⟨x0, x1, x2, x3, x4, x5⟩, _⟩ := HX2.out.cells
  obtain ⟨⟨g0, g1⟩, f0, f1⟩ := HG2.out.cells
  go_enter Try.func17, Try.ntmps17
  go_wp2
  refine wp_loop_rounds 3 ?_
  rw [rounds_succ]
  go_wp2_with (first
      | (go_at_call 17; (with_reducible refine (C1.out _ (HT.out.at0 HB2.out) (HE.out.on HB2.out)).mono ?_)
         rintro e w3 ⟨rfl, hb⟩
         have HBa1 := Lib.hid (below_on HB2.out hb)
         have hg := HG2.out.on hb
         obtain ⟨⟨g0, g1⟩, f0, f1⟩ := hg.cells
         have HBs1 := Lib.hid (HBa1.out.setCell (p := ⟨w.heap.size + 1, 0, none⟩) (Nat.le_succ _) (.int .i64 ak))
         have HGs1 := Lib.hid (hg.set0 ak)
         have HXs1 := Lib.hid ((HX2.out.on hb).setOther (p := ⟨w.heap.size + 1, 0, none⟩) (Nat.ne_of_lt (Nat.lt_succ_self _)) (.int .i64 ak))
         obtain ⟨⟨x0, x1, x2, x3, x4, x5⟩, _⟩ := HXs1.out.cells
         clear hg
         clear hb)
      | fail)
  rw [rounds_succ]
  go_wp2_with (first
      | (go_at_call 17; (with_reducible refine (C2.out _ (HT.out.at0 HBs1.out) (HE.out.on HBs1.out)).mono ?_)
         rintro e w5 ⟨rfl, hb⟩
         have HBa2 := Lib.hid (below_on HBs1.out hb)
         clear hb)
      | fail)
  go_ret2
  exact ⟨rfl, HBa2.out⟩

set_option maxHeartbeats 4000000 in
set_option maxRecDepth 20000 in
theorem infer_two_yes (b off i : Nat) (ln lc : Nat) (k : Int) (nm : ByteArray) (x : Int) (tx : ByteArray) (l r : Int) (ea : Option Addr) (en ec : Nat) (w : World) (hin : i < ln) (hk0 : (k == 0) = false)
    (q0 : w.cell? ⟨b, off + i * 6, none⟩ = some (.int .i64 k)) (q1 : w.cell? ⟨b, off + i * 6 + 1, none⟩ = some (.string nm)) (q2 : w.cell? ⟨b, off + i * 6 + 2, none⟩ = some (.int .i64 x)) (q3 : w.cell? ⟨b, off + i * 6 + 3, none⟩ = some (.string tx)) (q4 : w.cell? ⟨b, off + i * 6 + 4, none⟩ = some (.int .i64 l)) (q5 : w.cell? ⟨b, off + i * 6 + 5, none⟩ = some (.int .i64 r))
    (p : Nat) (la : List Trm) (env : List (Str × Int)) (HT : Hid (Trms w w.heap.size (some ⟨b, off, none⟩) ln la)) (HE : Hid (Typs w w.heap.size ea en env)) (ak ae : Int)
    (C1 : Hid (∀ W : World, Trms W W.heap.size (some ⟨b, off, none⟩) ln la → Typs W W.heap.size ea en env → Calls Try.prog 17 #[.slice (some ⟨b, off, none⟩) ln lc, .int .i64 (p : Int), .slice ea en ec] W (KdRet W (ak, ae)))) (p2 : Nat) (bk be : Int)
    (C2 : Hid (∀ W : World, Trms W W.heap.size (some ⟨b, off, none⟩) ln la → Typs W W.heap.size ea en env → Calls Try.prog 17 #[.slice (some ⟨b, off, none⟩) ln lc, .int .i64 (p2 : Int), .slice ea en ec] W (KdRet W (bk, be)))) (hl : l = (p : Int)) (hr : r = (p2 : Int)) (hae : ae = 0) (hbe : be = 0)
    (rl : List (Int × Int)) (rv : Int) (CT : Hid (∀ W, Calls Try.prog 30 #[.int .i64 k] W (RowRet W (rl, rv)))) (q : Bool)
    (CQ : Hid (∀ (W : World) (a : Option Addr) (n c : Nat), Prs W W.heap.size a n rl → Calls Try.prog 31 #[.slice a n c, .agg #[.int .i64 ak, .int .i64 bk]] W fun e w' => e = .returned (.bool q) ∧ Below W.heap.size W w')) (hq : q = true) :
    Calls Try.prog 17 #[.slice (some ⟨b, off, none⟩) ln lc, .int .i64 i, .slice ea en ec] w (KdRet w (rv, 0)) := by
  subst hl hr hae hbe hq
  have hpn : ((p : Int) == -1) = false := by rw [beq_eq_false_iff_ne]; omega
  have hpm : ((p2 : Int) == -1) = false := by rw [beq_eq_false_iff_ne]; omega
  have ix0 := fun W => (run_at_pair (p : Int) (p2 : Int) W).1
  have ix1 := fun W => (run_at_pair (p : Int) (p2 : Int) W).2
  have HB2 := Lib.hid (up2 w (.cells #[.int .i64 k, .string nm, .int .i64 x, .string tx, .int .i64 (p : Int), .int .i64 (p2 : Int)] 49) (.cells #[.int .i64 (-1), .int .i64 (-1)] 66))
  have HX2 := Lib.hid ((BoxU.new w (.int .i64 k) (.string nm) (.int .i64 x) (.string tx) (.int .i64 (p : Int)) (.int .i64 (p2 : Int))).on (up1 _ (.cells #[.int .i64 (-1), .int .i64 (-1)] 66)))
  have hg2 := GBox.new (w.alloc (.cells #[.int .i64 k, .string nm, .int .i64 x, .string tx, .int .i64 (p : Int), .int .i64 (p2 : Int)] 49)) (-1) (-1)
  rw [World.size_alloc] at hg2
  have HG2 := Lib.hid hg2
  clear hg2
  obtain ⟨⟨x0, x1, x2, x3, x4, x5⟩, _⟩ := HX2.out.cells
  obtain ⟨⟨g0, g1⟩, f0, f1⟩ := HG2.out.cells
  go_enter Try.func17, Try.ntmps17
  go_wp2
  refine wp_loop_rounds 3 ?_
  rw [rounds_succ]
  go_wp2_with (first
      | (go_at_call 17; (with_reducible refine (C1.out _ (HT.out.at0 HB2.out) (HE.out.on HB2.out)).mono ?_)
         rintro e w3 ⟨rfl, hb⟩
         have HBa1 := Lib.hid (below_on HB2.out hb)
         have hg := HG2.out.on hb
         obtain ⟨⟨g0, g1⟩, f0, f1⟩ := hg.cells
         have HBs1 := Lib.hid (HBa1.out.setCell (p := ⟨w.heap.size + 1, 0, none⟩) (Nat.le_succ _) (.int .i64 ak))
         have HGs1 := Lib.hid (hg.set0 ak)
         have HXs1 := Lib.hid ((HX2.out.on hb).setOther (p := ⟨w.heap.size + 1, 0, none⟩) (Nat.ne_of_lt (Nat.lt_succ_self _)) (.int .i64 ak))
         obtain ⟨⟨x0, x1, x2, x3, x4, x5⟩, _⟩ := HXs1.out.cells
         clear hg
         clear hb)
      | fail)
  rw [rounds_succ]
  go_wp2_with (first
      | (go_at_call 17; (with_reducible refine (C2.out _ (HT.out.at0 HBs1.out) (HE.out.on HBs1.out)).mono ?_)
         rintro e w5 ⟨rfl, hb⟩
         have HBa2 := Lib.hid (below_on HBs1.out hb)
         have hg := HGs1.out.on hb
         obtain ⟨⟨g0, g1⟩, f0, f1⟩ := hg.cells
         have HBs2 := Lib.hid (HBa2.out.setCell (p := ⟨w.heap.size + 1, 1, none⟩) (Nat.le_succ _) (.int .i64 bk))
         have HGs2 := Lib.hid (hg.set1 bk)
         have HXs2 := Lib.hid ((HXs1.out.on hb).setOther (p := ⟨w.heap.size + 1, 1, none⟩) (Nat.ne_of_lt (Nat.lt_succ_self _)) (.int .i64 bk))
         obtain ⟨⟨x0, x1, x2, x3, x4, x5⟩, _⟩ := HXs2.out.cells
         clear hg
         clear hb)
      | fail)
  rw [rounds_succ]
  go_wp2_with (first
      | (go_at_call 30; (with_reducible refine (CT.out _).mono ?_)
         rintro e w7 ⟨⟨ar, nr, cr, rfl, hp⟩, hb7⟩
         have HP7 := Lib.hid hp
         have HB7 := Lib.hid (below_on HBs2.out hb7)
         have hg7 := HGs2.out.on hb7
         obtain ⟨⟨d0, d1⟩, _⟩ := hg7.cells
         clear hb7 hp hg7)
      | (go_at_call 31; (with_reducible refine (CQ.out _ _ _ _ HP7.out).mono ?_)
         rintro e w8 ⟨rfl, hb8⟩
         have HB8 := Lib.hid (below_on HB7.out hb8)
         clear hb8)
      | fail)
  go_ret2
  exact ⟨rfl, HB8.out⟩

set_option maxHeartbeats 4000000 in
set_option maxRecDepth 20000 in
theorem infer_two_no (b off i : Nat) (ln lc : Nat) (k : Int) (nm : ByteArray) (x : Int) (tx : ByteArray) (l r : Int) (ea : Option Addr) (en ec : Nat) (w : World) (hin : i < ln) (hk0 : (k == 0) = false)
    (q0 : w.cell? ⟨b, off + i * 6, none⟩ = some (.int .i64 k)) (q1 : w.cell? ⟨b, off + i * 6 + 1, none⟩ = some (.string nm)) (q2 : w.cell? ⟨b, off + i * 6 + 2, none⟩ = some (.int .i64 x)) (q3 : w.cell? ⟨b, off + i * 6 + 3, none⟩ = some (.string tx)) (q4 : w.cell? ⟨b, off + i * 6 + 4, none⟩ = some (.int .i64 l)) (q5 : w.cell? ⟨b, off + i * 6 + 5, none⟩ = some (.int .i64 r))
    (p : Nat) (la : List Trm) (env : List (Str × Int)) (HT : Hid (Trms w w.heap.size (some ⟨b, off, none⟩) ln la)) (HE : Hid (Typs w w.heap.size ea en env)) (ak ae : Int)
    (C1 : Hid (∀ W : World, Trms W W.heap.size (some ⟨b, off, none⟩) ln la → Typs W W.heap.size ea en env → Calls Try.prog 17 #[.slice (some ⟨b, off, none⟩) ln lc, .int .i64 (p : Int), .slice ea en ec] W (KdRet W (ak, ae)))) (p2 : Nat) (bk be : Int)
    (C2 : Hid (∀ W : World, Trms W W.heap.size (some ⟨b, off, none⟩) ln la → Typs W W.heap.size ea en env → Calls Try.prog 17 #[.slice (some ⟨b, off, none⟩) ln lc, .int .i64 (p2 : Int), .slice ea en ec] W (KdRet W (bk, be)))) (hl : l = (p : Int)) (hr : r = (p2 : Int)) (hae : ae = 0) (hbe : be = 0)
    (rl : List (Int × Int)) (rv : Int) (CT : Hid (∀ W, Calls Try.prog 30 #[.int .i64 k] W (RowRet W (rl, rv)))) (q : Bool)
    (CQ : Hid (∀ (W : World) (a : Option Addr) (n c : Nat), Prs W W.heap.size a n rl → Calls Try.prog 31 #[.slice a n c, .agg #[.int .i64 ak, .int .i64 bk]] W fun e w' => e = .returned (.bool q) ∧ Below W.heap.size W w')) (hq : q = false) :
    Calls Try.prog 17 #[.slice (some ⟨b, off, none⟩) ln lc, .int .i64 i, .slice ea en ec] w (KdRet w (0, 502)) := by
  subst hl hr hae hbe hq
  have hpn : ((p : Int) == -1) = false := by rw [beq_eq_false_iff_ne]; omega
  have hpm : ((p2 : Int) == -1) = false := by rw [beq_eq_false_iff_ne]; omega
  have ix0 := fun W => (run_at_pair (p : Int) (p2 : Int) W).1
  have ix1 := fun W => (run_at_pair (p : Int) (p2 : Int) W).2
  have HB2 := Lib.hid (up2 w (.cells #[.int .i64 k, .string nm, .int .i64 x, .string tx, .int .i64 (p : Int), .int .i64 (p2 : Int)] 49) (.cells #[.int .i64 (-1), .int .i64 (-1)] 66))
  have HX2 := Lib.hid ((BoxU.new w (.int .i64 k) (.string nm) (.int .i64 x) (.string tx) (.int .i64 (p : Int)) (.int .i64 (p2 : Int))).on (up1 _ (.cells #[.int .i64 (-1), .int .i64 (-1)] 66)))
  have hg2 := GBox.new (w.alloc (.cells #[.int .i64 k, .string nm, .int .i64 x, .string tx, .int .i64 (p : Int), .int .i64 (p2 : Int)] 49)) (-1) (-1)
  rw [World.size_alloc] at hg2
  have HG2 := Lib.hid hg2
  clear hg2
  obtain ⟨⟨x0, x1, x2, x3, x4, x5⟩, _⟩ := HX2.out.cells
  obtain ⟨⟨g0, g1⟩, f0, f1⟩ := HG2.out.cells
  go_enter Try.func17, Try.ntmps17
  go_wp2
  refine wp_loop_rounds 3 ?_
  rw [rounds_succ]
  go_wp2_with (first
      | (go_at_call 17; (with_reducible refine (C1.out _ (HT.out.at0 HB2.out) (HE.out.on HB2.out)).mono ?_)
         rintro e w3 ⟨rfl, hb⟩
         have HBa1 := Lib.hid (below_on HB2.out hb)
         have hg := HG2.out.on hb
         obtain ⟨⟨g0, g1⟩, f0, f1⟩ := hg.cells
         have HBs1 := Lib.hid (HBa1.out.setCell (p := ⟨w.heap.size + 1, 0, none⟩) (Nat.le_succ _) (.int .i64 ak))
         have HGs1 := Lib.hid (hg.set0 ak)
         have HXs1 := Lib.hid ((HX2.out.on hb).setOther (p := ⟨w.heap.size + 1, 0, none⟩) (Nat.ne_of_lt (Nat.lt_succ_self _)) (.int .i64 ak))
         obtain ⟨⟨x0, x1, x2, x3, x4, x5⟩, _⟩ := HXs1.out.cells
         clear hg
         clear hb)
      | fail)
  rw [rounds_succ]
  go_wp2_with (first
      | (go_at_call 17; (with_reducible refine (C2.out _ (HT.out.at0 HBs1.out) (HE.out.on HBs1.out)).mono ?_)
         rintro e w5 ⟨rfl, hb⟩
         have HBa2 := Lib.hid (below_on HBs1.out hb)
         have hg := HGs1.out.on hb
         obtain ⟨⟨g0, g1⟩, f0, f1⟩ := hg.cells
         have HBs2 := Lib.hid (HBa2.out.setCell (p := ⟨w.heap.size + 1, 1, none⟩) (Nat.le_succ _) (.int .i64 bk))
         have HGs2 := Lib.hid (hg.set1 bk)
         have HXs2 := Lib.hid ((HXs1.out.on hb).setOther (p := ⟨w.heap.size + 1, 1, none⟩) (Nat.ne_of_lt (Nat.lt_succ_self _)) (.int .i64 bk))
         obtain ⟨⟨x0, x1, x2, x3, x4, x5⟩, _⟩ := HXs2.out.cells
         clear hg
         clear hb)
      | fail)
  rw [rounds_succ]
  go_wp2_with (first
      | (go_at_call 30; (with_reducible refine (CT.out _).mono ?_)
         rintro e w7 ⟨⟨ar, nr, cr, rfl, hp⟩, hb7⟩
         have HP7 := Lib.hid hp
         have HB7 := Lib.hid (below_on HBs2.out hb7)
         have hg7 := HGs2.out.on hb7
         obtain ⟨⟨d0, d1⟩, _⟩ := hg7.cells
         clear hb7 hp hg7)
      | (go_at_call 31; (with_reducible refine (CQ.out _ _ _ _ HP7.out).mono ?_)
         rintro e w8 ⟨rfl, hb8⟩
         have HB8 := Lib.hid (below_on HB7.out hb8)
         clear hb8)
      | fail)
  go_ret2
  exact ⟨rfl, HB8.out⟩

set_option maxHeartbeats 4000000 in
set_option maxRecDepth 20000 in
theorem infer_var (b off i : Nat) (ln lc : Nat) (nm : ByteArray) (x : Int) (tx : ByteArray) (l r : Int) (ea : Option Addr) (en ec : Nat) (w : World) (hin : i < ln)
    (q0 : w.cell? ⟨b, off + i * 6, none⟩ = some (.int .i64 0)) (q1 : w.cell? ⟨b, off + i * 6 + 1, none⟩ = some (.string nm)) (q2 : w.cell? ⟨b, off + i * 6 + 2, none⟩ = some (.int .i64 x)) (q3 : w.cell? ⟨b, off + i * 6 + 3, none⟩ = some (.string tx)) (q4 : w.cell? ⟨b, off + i * 6 + 4, none⟩ = some (.int .i64 l)) (q5 : w.cell? ⟨b, off + i * 6 + 5, none⟩ = some (.int .i64 r))
    (env : List (Str × Int)) (HE : Hid (Typs w w.heap.size ea en env)) : Calls Try.prog 17 #[.slice (some ⟨b, off, none⟩) ln lc, .int .i64 i, .slice ea en ec] w (KdRet w (typedK env nm.toList)) := by
  have HB1 := Lib.hid (up1 w (.cells #[.int .i64 0, .string nm, .int .i64 x, .string tx, .int .i64 l, .int .i64 r] 49))
  have HX1 := Lib.hid (BoxU.new w (.int .i64 0) (.string nm) (.int .i64 x) (.string tx) (.int .i64 l) (.int .i64 r))
  obtain ⟨⟨x0, x1, x2, x3, x4, x5⟩, _⟩ := HX1.out.cells
  have CV := Lib.hid (fun (W : World) (h : Typs W W.heap.size ea en env) => kVariable_any ea en ec env nm W _ (Nat.le_refl _) h)
  generalize typedK env nm.toList = R at CV ⊢
  go_enter Try.func17, Try.ntmps17
  go_wp2_with (first
    | (go_at_call 29; (with_reducible refine (CV.out _ (HE.out.on HB1.out)).mono ?_)
       rintro e w3 ⟨rfl, hb⟩
       have HB3 := Lib.hid (below_on HB1.out hb)
       clear hb)
    | fail)
  go_ret2
  exact ⟨rfl, HB3.out⟩
end Go.Proofs.Ythbakfceaaaamaa

/- Contract of the program's Of: the kind of a root's tree. -/
namespace Go.Proofs.Ythbakfceaaaamaa
open Go.RowKit

theorem row_call (k : Int) (h0 : 1 ≤ k) (h1 : k ≤ 19) : ∀ W, Calls Try.prog 30 #[.int .i64 k] W (RowRet W ((rowK k).1, (rowK k).2)) := fun W => row_any k h0 h1 W
theorem con_call {l : List (Int × Int)} {a b : Int} {q : Bool} (hq : l.contains (a, b) = q) (W : World) (ad : Option Addr) (n c : Nat) (h : Prs W W.heap.size ad n l) :
    Calls Try.prog 31 #[.slice ad n c, .agg #[.int .i64 a, .int .i64 b]] W fun e w' => e = .returned (.bool q) ∧ Below W.heap.size W w' :=
  (kContains_any ad n c l a b W _ (Nat.le_refl _) h).mono fun e w' h => ⟨by rw [h.1, hq], h.2⟩
theorem infer_any (L : List Trm) (env : List (Str × Int)) (la : Option Addr) (ln lc : Nat) (ea : Option Addr) (en ec : Nat) : ∀ e : Exp, Fits L e → ∀ w : World, Trms w w.heap.size la ln L → Typs w w.heap.size ea en env →
    Calls Try.prog 17 #[.slice la ln lc, .int .i64 e.at_, .slice ea en ec] w (KdRet w (kindE env e)) := by
  intro e
  induction e with
  | leaf i t =>
    intro hfit w hT hE
    have hin : i < ln := by have := hfit.lt; have := hT.1; simp only [Exp.at_] at *; omega
    obtain ⟨b, off, k, nm, x, tx, l, r, rfl, _, hget, _, _, p0, p1, p2, p3, p4, p5⟩ := hT.part hin
    obtain rfl : t = ⟨k, nm.toList, x, tx.toList, l, r⟩ := by
      have := hfit.1
      rw [hget] at this
      exact (Option.some.inj this).symm
    have har := hfit.2.2
    have hen := kd_ends hfit.2.1
    dsimp only at har hen
    rw [har] at hen
    rcases kd_leaf har with rfl | hk
    · exact (infer_var b off i ln lc nm x tx l r ea en ec w hin p0 p1 p2 p3 p4 p5 env (Lib.hid hE)).mono fun e w' h => h.is (by simp [kindE, leafK])
    · obtain ⟨hc, hl⟩ := leaf_row hk env nm.toList x tx.toList l r
      exact (infer_leaf b off i ln lc k nm x tx l r ea en ec w hin (by rw [beq_eq_false_iff_ne]; omega) p0 p1 p2 p3 p4 p5 (by omega) (by omega) _ _ (Lib.hid (row_call k (by omega) (by omega))) (Lib.hid (con_call hc))).mono fun e w' h => h.is (by rw [kindE, hl])
  | one i t a ih =>
    intro hfit w hT hE
    have hin : i < ln := by have := hfit.lt; have := hT.1; simp only [Exp.at_] at *; omega
    obtain ⟨b, off, k, nm, x, tx, l, r, rfl, _, hget, _, _, p0, p1, p2, p3, p4, p5⟩ := hT.part hin
    obtain rfl : t = ⟨k, nm.toList, x, tx.toList, l, r⟩ := by
      have := hfit.1
      rw [hget] at this
      exact (Option.some.inj this).symm
    obtain ⟨_, hsd, har, hl, _, hfa⟩ := hfit
    have hen := kd_ends hsd
    dsimp only at har hen hl
    rw [har] at hen
    have hk := kd_one har
    have C1 := fun W h1 h2 => ih hfa W h1 h2
    have hK : kindE env (.one i ⟨k, nm.toList, x, tx.toList, l, r⟩ a) = if (kindE env a).2 = 0 then oneK k (kindE env a).1 else (0, (kindE env a).2) := rfl
    obtain ⟨⟨ak, ae⟩, hV⟩ : ∃ V, V = kindE env a := ⟨_, rfl⟩
    rw [← hV] at C1 hK
    dsimp only at hK
    by_cases hae : ae = 0
    · rw [if_pos hae, one_row hk] at hK
      cases hq : (rowK k).1.contains (ak, -1)
      · rw [hq] at hK
        exact (infer_one_no b off i ln lc k nm x tx l r ea en ec w hin (by rw [beq_eq_false_iff_ne]; omega) p0 p1 p2 p3 p4 p5 a.at_ L env (Lib.hid hT) (Lib.hid hE) ak ae (Lib.hid C1) hl (by omega) hae _ _ (Lib.hid (row_call k (by omega) (by omega))) _ (Lib.hid (con_call hq)) rfl).mono fun e w' h => h.is (by rw [hK]; rfl)
      · rw [hq] at hK
        exact (infer_one_yes b off i ln lc k nm x tx l r ea en ec w hin (by rw [beq_eq_false_iff_ne]; omega) p0 p1 p2 p3 p4 p5 a.at_ L env (Lib.hid hT) (Lib.hid hE) ak ae (Lib.hid C1) hl (by omega) hae _ _ (Lib.hid (row_call k (by omega) (by omega))) _ (Lib.hid (con_call hq)) rfl).mono fun e w' h => h.is (by rw [hK]; rfl)
    · rw [if_neg hae] at hK
      exact (infer_one_err b off i ln lc k nm x tx l r ea en ec w hin (by rw [beq_eq_false_iff_ne]; omega) p0 p1 p2 p3 p4 p5 a.at_ L env (Lib.hid hT) (Lib.hid hE) ak ae (Lib.hid C1) hl (by omega) (by rw [bne_iff_ne]; exact hae)).mono fun e w' h => h.is hK
  | two i t a a2 ih ih2 =>
    intro hfit w hT hE
    have hin : i < ln := by have := hfit.lt; have := hT.1; simp only [Exp.at_] at *; omega
    obtain ⟨b, off, k, nm, x, tx, l, r, rfl, _, hget, _, _, p0, p1, p2, p3, p4, p5⟩ := hT.part hin
    obtain rfl : t = ⟨k, nm.toList, x, tx.toList, l, r⟩ := by
      have := hfit.1
      rw [hget] at this
      exact (Option.some.inj this).symm
    obtain ⟨_, hsd, har, hl, hr, _, _, hfa, hfb⟩ := hfit
    have hks := kd_bounds hsd
    dsimp only at har hl hr hks
    have hk6 : 6 ≤ k := by have := kd_two hks.1 hks.2 har; omega
    have C1 := fun W h1 h2 => ih hfa W h1 h2
    have C2 := fun W h1 h2 => ih2 hfb W h1 h2
    have hK : kindE env (.two i ⟨k, nm.toList, x, tx.toList, l, r⟩ a a2) = if (kindE env a).2 = 0 then (if (kindE env a2).2 = 0 then twoK k (kindE env a).1 (kindE env a2).1 else (0, (kindE env a2).2)) else (0, (kindE env a).2) := rfl
    have hra := kindE_range env a
    obtain ⟨⟨ak, ae⟩, hV⟩ : ∃ V, V = kindE env a := ⟨_, rfl⟩
    obtain ⟨⟨bk, be⟩, hU⟩ : ∃ V, V = kindE env a2 := ⟨_, rfl⟩
    rw [← hV] at C1 hK hra
    rw [← hU] at C2 hK
    dsimp only at hK hra
    by_cases hae : ae = 0
    · rw [if_pos hae] at hK
      by_cases hbe : be = 0
      · rw [if_pos hbe, two_row hks.1 hks.2 har (hra hae).1 (hra hae).2] at hK
        cases hq : (rowK k).1.contains (ak, bk)
        · rw [hq] at hK
          exact (infer_two_no b off i ln lc k nm x tx l r ea en ec w hin (by rw [beq_eq_false_iff_ne]; omega) p0 p1 p2 p3 p4 p5 a.at_ L env (Lib.hid hT) (Lib.hid hE) ak ae (Lib.hid C1) a2.at_ bk be (Lib.hid C2) hl hr hae hbe _ _ (Lib.hid (row_call k (by omega) (by omega))) _ (Lib.hid (con_call hq)) rfl).mono fun e w' h => h.is (by rw [hK]; rfl)
        · rw [hq] at hK
          exact (infer_two_yes b off i ln lc k nm x tx l r ea en ec w hin (by rw [beq_eq_false_iff_ne]; omega) p0 p1 p2 p3 p4 p5 a.at_ L env (Lib.hid hT) (Lib.hid hE) ak ae (Lib.hid C1) a2.at_ bk be (Lib.hid C2) hl hr hae hbe _ _ (Lib.hid (row_call k (by omega) (by omega))) _ (Lib.hid (con_call hq)) rfl).mono fun e w' h => h.is (by rw [hK]; rfl)
      · rw [if_neg hbe] at hK
        exact (infer_two_err2 b off i ln lc k nm x tx l r ea en ec w hin (by rw [beq_eq_false_iff_ne]; omega) p0 p1 p2 p3 p4 p5 a.at_ L env (Lib.hid hT) (Lib.hid hE) ak ae (Lib.hid C1) a2.at_ bk be (Lib.hid C2) hl hr hae (by rw [bne_iff_ne]; exact hbe)).mono fun e w' h => h.is hK
    · rw [if_neg hae] at hK
      exact (infer_two_err1 b off i ln lc k nm x tx l r ea en ec w hin (by rw [beq_eq_false_iff_ne]; omega) p0 p1 p2 p3 p4 p5 a.at_ L env (Lib.hid hT) (Lib.hid hE) ak ae (Lib.hid C1) a2.at_ hl hr (by rw [bne_iff_ne]; exact hae)).mono fun e w' h => h.is hK

/-- The kind of a root's tree, or why there is none. -/
noncomputable def kindF (L : List Trm) (root : Int) (env : List (Str × Int)) : Int × Int :=
  open Classical in if h : ∃ e, Good L root e then kindE env h.choose else (0, 500)
theorem kindF_good {L : List Trm} {root : Int} {env : List (Str × Int)} {e : Exp} (h : Good L root e) : kindF L root env = kindE env e := by
  unfold kindF
  rw [dif_pos ⟨e, h⟩]
  exact congrArg (kindE env) ((Classical.choose_spec (⟨e, h⟩ : ∃ e, Good L root e)).same h)
theorem kindF_none {L : List Trm} {root : Int} {env : List (Str × Int)} (h : mayF L root = false) : kindF L root env = (0, 500) := by
  unfold kindF
  rw [dif_neg (mayF_no h)]

set_option maxHeartbeats 4000000 in
theorem kOf_any (la : Option Addr) (ln lc : Nat) (L : List Trm) (root : Int) (ea : Option Addr) (en ec : Nat) (env : List (Str × Int)) (w : World) (hT : Trms w w.heap.size la ln L) (hE : Typs w w.heap.size ea en env) :
    Calls Try.prog 9 #[.slice la ln lc, .int .i64 root, .slice ea en ec] w (KdRet w (kindF L root env)) := by
  have HT := Lib.hid hT
  have HE := Lib.hid hE
  have CM := Lib.hid (fun W (h : Trms W W.heap.size la ln L) => termMay_any la ln lc L root W _ (Nat.le_refl _) h)
  clear hT hE
  cases hm : mayF L root
  · have HZ := Lib.hid (kindF_none (env := env) hm)
    rw [hm] at CM
    generalize kindF L root env = R at HZ ⊢
    clear hm
    go_enter Try.func9, Try.ntmps9
    go_wp2_with (first
      | (go_at_call 16; (with_reducible refine (CM.out _ HT.out).mono ?_)
         rintro e w1 ⟨rfl, hb⟩
         have HB1 := Lib.hid hb
         clear hb)
      | fail)
    go_ret2
    exact KdRet.is ⟨rfl, HB1.out⟩ HZ.out
  · obtain ⟨e0, hg⟩ := (mayF_iff L root).1 hm
    obtain ⟨r, hr⟩ : ∃ r : Nat, root = (r : Int) := ⟨e0.at_, hg.2.1.symm⟩
    subst hr
    have her : e0.at_ = r := by have := hg.2.1; omega
    have HZ := Lib.hid (kindF_good (env := env) hg)
    have ce := fun (W : World) (h1 : Trms W W.heap.size la ln L) (h2 : Typs W W.heap.size ea en env) => infer_any L env la ln lc ea en ec e0 hg.2.2.1 W h1 h2
    rw [her] at ce
    rw [hm] at CM
    generalize kindF L (r : Int) env = R at HZ ⊢
    generalize kindE env e0 = q at HZ ce
    have CE := Lib.hid ce
    clear hm hg her ce
    go_enter Try.func9, Try.ntmps9
    go_wp2_with (first
      | (go_at_call 16; (with_reducible refine (CM.out _ HT.out).mono ?_)
         rintro e w1 ⟨rfl, hb⟩
         have HB1 := Lib.hid hb
         clear hb)
      | (go_at_call 17; (with_reducible refine (CE.out _ (HT.out.at0 HB1.out) (HE.out.on HB1.out)).mono ?_)
         rintro e w3 ⟨rfl, hb3⟩
         have HB3 := Lib.hid (below_on HB1.out hb3)
         clear hb3)
      | fail)
    go_ret2
    exact KdRet.is ⟨rfl, HB3.out⟩ HZ.out
end Go.Proofs.Ythbakfceaaaamaa

/- Typings that were just laid; the examples that the statements begin with. -/
namespace Go.Proofs.Ythbakfceaaaamaa
open Go.RowKit

/-- A typing as it is laid: its name, its kind, the node of an end. -/
structure TT where
  nm : ByteArray
  k : Int
  z : Int
def encTT (t : TT) : List Value := [.string t.nm, .int .i64 t.k, .int .i64 t.z]
def envT (ts : List TT) : List (Str × Int) := ts.map fun t => (t.nm.toList, t.k)
theorem Typs.made (W : World) (cs : Array Value) (ts : List TT) (n g : Nat) (hg : g = W.heap.size) (hc : cs = (ts.flatMap encTT).toArray) (hn : ts.length = n) (hl : n ≤ 100000) :
    Typs (W.alloc (.cells cs 46)) (W.alloc (.cells cs 46)).heap.size (some ⟨g, 0, none⟩) n (envT ts) := by
  subst hg hc
  refine ⟨by simp [envT, hn], by omega, fun _ => ⟨W.heap.size, 0, rfl, by simp, fun j x hj => ?_⟩⟩
  unfold envT at hj
  rw [List.getElem?_map] at hj
  obtain ⟨t, ht, rfl⟩ := Option.map_eq_some_iff.1 hj
  have hc : ∀ i, i < 3 → (W.alloc (.cells (ts.flatMap encTT).toArray 46)).cell? ⟨W.heap.size, 0 + j * 3 + i, none⟩ = (encTT t)[i]? := fun i hi => by
    rw [cell_of_row _ _ _ _ _ _ (heap_alloc_new W _), List.getElem?_toArray, Nat.zero_add]
    exact flat_at (f := encTT) (m := 3) (fun _ => rfl) ts j t ht i hi
  exact ⟨t.nm, t.z, ⟨by have := hc 0 (by omega); rw [Nat.add_zero] at this; rw [this]; rfl, by rw [hc 1 (by omega)]; rfl, by rw [hc 2 (by omega)]; rfl⟩, rfl⟩
/-- Of at typings that were just laid. -/
theorem kOfEnv_any (la : Option Addr) (ln lc : Nat) (L : List Trm) (root : Int) (cs : Array Value) (ts : List TT) (n g : Nat) (W : World) (hT : Trms W W.heap.size la ln L) (hg : g = W.heap.size) (hc : cs = (ts.flatMap encTT).toArray) (hn : ts.length = n) (hl : n ≤ 100000) {r : Int × Int} (hr : kindF L root (envT ts) = r) :
    Calls Try.prog 9 #[.slice la ln lc, .int .i64 root, .slice (some ⟨g, 0, none⟩) n n] (W.alloc (.cells cs 46)) (KdRet W r) :=
  (kOf_any la ln lc L root (some ⟨g, 0, none⟩) n n (envT ts) _ (hT.at0 (up1 W _)) (Typs.made W cs ts n g hg hc hn hl)).mono fun _ _ h => ⟨by rw [h.1, hr], below_on (up1 W _) h.2⟩
/-- Of at terms that were just laid. -/
theorem kOfMade_any (cs : Array Value) (L : List Trm) (n : Nat) (root : Int) (ea : Option Addr) (en ec : Nat) (env : List (Str × Int)) (W : World) (g : Nat) (hg : g = W.heap.size) (hc : cs = (encTrms L).toArray) (hn : L.length = n) (hl : n ≤ 100000) (hm : ∀ t ∈ L, t.name.length ≤ maxLen ∧ t.text.length ≤ maxLen)
    (hE : Typs W W.heap.size ea en env) {r : Int × Int} (hr : kindF L root env = r) :
    Calls Try.prog 9 #[.slice (some ⟨g, 0, none⟩) n n, .int .i64 root, .slice ea en ec] (W.alloc (.cells cs 49)) (KdRet W r) :=
  (kOf_any (some ⟨g, 0, none⟩) n n L root ea en ec env _ (Trms.made W cs L n g hg hc hn hl hm) (hE.on (up1 W _))).mono fun _ _ h => ⟨by rw [h.1, hr], below_on (up1 W _) h.2⟩
theorem BoxU.newAt (W : World) (v0 v1 v2 v3 v4 v5 : Value) {g : Nat} (hg : g = W.heap.size) : BoxU (W.alloc (.cells #[v0, v1, v2, v3, v4, v5] 49)) g v0 v1 v2 v3 v4 v5 := by subst hg; exact BoxU.new W _ _ _ _ _ _

def oneT (k l : Int) : Trm := ⟨k, [], 0, [], l, -1⟩
theorem sound_one {k : Int} (l : Int) (hk : k = 15 ∨ k = 16) : soundT (oneT k l) = true := by
  rcases hk with rfl | rfl <;> simp [soundT, oneT, arT]
theorem kindF_leaf {t : Trm} (env : List (Str × Int)) (h0 : soundT t = true) (a0 : arT t.kind = 0) : kindF [t] 0 env = leafK env t :=
  kindF_good (e := .leaf 0 t) ⟨by simp, rfl, ⟨rfl, h0, a0⟩, by simp [Exp.places], by simp [Exp.deep]⟩
theorem kindF_one {t0 : Trm} {k : Int} (env : List (Str × Int)) (h0 : soundT t0 = true) (a0 : arT t0.kind = 0) (hk : k = 15 ∨ k = 16) :
    kindF [t0, oneT k 0] 1 env = kindE env (.one 1 (oneT k 0) (.leaf 0 t0)) :=
  kindF_good ⟨by simp, rfl, ⟨rfl, sound_one 0 hk, by rcases hk with rfl | rfl <;> rfl, rfl, by simp [Exp.at_], ⟨rfl, h0, a0⟩⟩, by simp [Exp.places], by simp [Exp.deep]⟩
theorem kindF_two {t0 t1 : Trm} {k : Int} (env : List (Str × Int)) (h0 : soundT t0 = true) (a0 : arT t0.kind = 0) (h1 : soundT t1 = true) (a1 : arT t1.kind = 0) (h : arT k = 2) (hk0 : 0 ≤ k) (hk1 : k ≤ 19) :
    kindF [t0, t1, twoT k 0 1] 2 env = kindE env (.two 2 (twoT k 0 1) (.leaf 0 t0) (.leaf 1 t1)) :=
  kindF_good ⟨by simp, rfl, ⟨rfl, sound_two 0 1 h hk0 hk1, h, rfl, rfl, by simp [Exp.at_], by simp [Exp.at_], ⟨rfl, h0, a0⟩, ⟨rfl, h1, a1⟩⟩, by simp [Exp.places], by simp [Exp.deep]⟩
theorem one_byte (c : UInt8) : (⟨#[c]⟩ : ByteArray).toList = [c] := by simp [ByteArray.toList_eq]
def exT : List Trm := [varT [120], numT 1, twoT 6 0 1]
theorem ex_kind (env : List (Str × Int)) : kindF exT 2 env = kindE env (.two 2 (twoT 6 0 1) (.leaf 0 (varT [120])) (.leaf 1 (numT 1))) :=
  kindF_two env (sound_var may_x) rfl (sound_num 1) rfl rfl (by omega) (by omega)
theorem ex_bool : kindF exT 2 (envT [⟨⟨#[120]⟩, 2, 0⟩]) = (0, 502) := by
  rw [ex_kind]
  unfold envT
  rw [List.map_cons, one_byte]
  rfl
theorem ex_int : kindF exT 2 (envT [⟨⟨#[120]⟩, 1, 0⟩]) = (1, 0) := by
  rw [ex_kind]
  unfold envT
  rw [List.map_cons, one_byte]
  rfl
theorem ex_none : kindF exT 2 [] = (0, 501) := by
  rw [ex_kind]
  rfl
set_option maxHeartbeats 4000000 in
theorem kdFirst_any (w : World) : Calls Try.prog 8 #[] w fun e w' => e = .returned (.bool true) ∧ Below w.heap.size w w' := by
  have HT := Lib.hid (Trms.made w #[.int .i64 0, .string ⟨#[120]⟩, .int .i64 0, .string ⟨#[]⟩, .int .i64 (-1), .int .i64 (-1), .int .i64 1, .string ⟨#[]⟩, .int .i64 1, .string ⟨#[]⟩, .int .i64 (-1), .int .i64 (-1), .int .i64 6, .string ⟨#[]⟩, .int .i64 0, .string ⟨#[]⟩, .int .i64 0, .int .i64 1] exT 3 w.heap.size rfl rfl rfl (by omega) (short_trms rfl))
  have HB := Lib.hid (up1 w (.cells #[.int .i64 0, .string ⟨#[120]⟩, .int .i64 0, .string ⟨#[]⟩, .int .i64 (-1), .int .i64 (-1), .int .i64 1, .string ⟨#[]⟩, .int .i64 1, .string ⟨#[]⟩, .int .i64 (-1), .int .i64 (-1), .int .i64 6, .string ⟨#[]⟩, .int .i64 0, .string ⟨#[]⟩, .int .i64 0, .int .i64 1] 49))
  have C1 := Lib.hid (fun (g : Nat) (W : World) (hg : g = W.heap.size) (h : Trms W W.heap.size (some ⟨w.heap.size, 0, none⟩) 3 exT) => kOfEnv_any (some ⟨w.heap.size, 0, none⟩) 3 3 exT 2 #[.string ⟨#[120]⟩, .int .i64 2, .int .i64 0] [⟨⟨#[120]⟩, 2, 0⟩] 1 g W h hg rfl rfl (by omega) ex_bool)
  have C2 := Lib.hid (fun (g : Nat) (W : World) (hg : g = W.heap.size) (h : Trms W W.heap.size (some ⟨w.heap.size, 0, none⟩) 3 exT) => kOfEnv_any (some ⟨w.heap.size, 0, none⟩) 3 3 exT 2 #[.string ⟨#[120]⟩, .int .i64 1, .int .i64 0] [⟨⟨#[120]⟩, 1, 0⟩] 1 g W h hg rfl rfl (by omega) ex_int)
  have C3 := Lib.hid (fun (W : World) (h : Trms W W.heap.size (some ⟨w.heap.size, 0, none⟩) 3 exT) => show Calls Try.prog 9 #[.slice (some ⟨w.heap.size, 0, none⟩) 3 3, .int .i64 2, .slice none 0 0] W (KdRet W (0, 501)) from (kOf_any (some ⟨w.heap.size, 0, none⟩) 3 3 exT 2 none 0 0 [] W h (Typs.zero _ _ _)).mono fun _ _ q => q.is ex_none.symm)
  go_enter Try.func8, Try.ntmps8
  go_wp2_with (first
    | (go_at_call 9; (with_reducible refine (C3.out _ HT.out).mono ?_)
       rintro e wn ⟨rfl, hb1⟩
       have HB := Lib.hid (below_on HB.out hb1)
       clear hb1)
    | (go_at_call 9; (with_reducible refine (C1.out _ _ ?_ ?_).mono ?_)
       · simp
       · exact HT.out
       rintro e wn ⟨rfl, hb1⟩
       have HT := Lib.hid (HT.out.at0 hb1)
       have HB := Lib.hid (below_on HB.out hb1)
       clear hb1)
    | (go_at_call 9; (with_reducible refine (C2.out _ _ ?_ ?_).mono ?_)
       · simp
       · exact HT.out
       rintro e wm ⟨rfl, hb1⟩
       have HT := Lib.hid (HT.out.at0 hb1)
       have HB := Lib.hid (below_on HB.out hb1)
       clear hb1)
    | fail)
  go_ret
  exact ⟨rfl, HB.out⟩
end Go.Proofs.Ythbakfceaaaamaa
