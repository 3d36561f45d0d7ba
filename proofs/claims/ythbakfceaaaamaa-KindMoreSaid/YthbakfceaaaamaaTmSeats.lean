/- What every row of this seat needs: a value that came in, opened. -/
import Derived.Test.YthbakfceaaaamaaRows
import Derived.Test.YthbakfceaaaamaaTmRow
import Derived.WalkKit
import Derived.ProofKit
import Derived.OpenShut
import Derived.ChangeOld
import Derived.ChangeSame
import Derived.SizedLaws
import Derived.SliceStrings
import Derived.Lib.SmallJoins
import Derived.Deep.Slices
import Derived.Deep.Strs
import Derived.Test.YthbakfceaaaamaaTmSome
namespace Go.Proofs.Ythbakfceaaaamaa
open Go.ChangeShapes Go.WideShapes Go.ChangeAt Go.RowKit Go.Deep

theorem seatOwn : ownKnob Try.prog.godebug = none := by kernel_rfl
theorem seatLaidOut : laidOutB Try.prog = true := by kernel_rfl
theorem cell_lt2 {w : World} {a : Addr} {v : Value} (h : w.cell? a = some v) : a.block < w.heap.size := by
  rcases Nat.lt_or_ge a.block w.heap.size with hlt | hge
  · exact hlt
  · unfold World.cell? at h
    rw [Array.getElem?_eq_none hge] at h
    cases h
theorem i64_wf {n : Int} (h : (Lit.int .i64 n).wf = true) : inI64 n := by
  simp only [Lit.wf, Bool.and_eq_true, decide_eq_true_eq] at h
  have h1 : IntKind.i64.min = -9223372036854775808 := by decide
  have h2 : IntKind.i64.max = 9223372036854775807 := by decide
  rw [h1, h2] at h
  unfold inI64
  omega
theorem i64_cells : Try.prog.cellsOf 2 = 1 := by kernel_rfl
theorem list1 {α : Type _} : ∀ {l : List α}, l.length = 1 → ∃ a, l = [a]
  | [a], _ => ⟨a, rfl⟩
  | [], h => by simp at h
  | _ :: _ :: _, h => by simp at h
theorem open_nums {H : Type} {enc : TypeId × Value → H} {W : World} {fuel : Nat} {v : Value} {x : DataW H × List MemPlace}
    (hf : DataW.trod enc Try.prog W 0 (fun _ => true) true fuel 31 [v] = some x) :
    ∃ (a : Option Addr) (n c : Nat) (l : List Int), v = .slice a n c ∧ Nums W W.heap.size a n l ∧ (∀ y ∈ l, inI64 y) ∧ n ≤ c ∧ c ≤ maxLen := by
  rcases open_slice Try.underlying31 hf with ⟨hcs, hx⟩ | ⟨a, len, cap, m, n, D, Pl, hcs, _, hl, hm, hmm, hx, hel⟩
  · injection hcs with hcs _
    subst hcs
    exact ⟨none, 0, 0, [], rfl, Nums.zero _ _ _, (fun y hy => by cases hy), Nat.le_refl _, Nat.zero_le _⟩
  · injection hcs with hcs _
    subst hcs
    simp only [if_true] at hmm
    have each : ∀ i, i < len → ∃ y : Int, W.cell? (a.add i) = some (.int .i64 y) ∧ inI64 y := by
      intro i hi
      obtain ⟨cs', h1, h2⟩ := hel i (by omega)
      rw [i64_cells] at h1
      obtain ⟨_, hlen, hcell⟩ := World.cells?_some h1
      obtain ⟨u, rfl⟩ := list1 hlen
      obtain ⟨y, e0, _, hw⟩ := DataW.trod_int Try.underlying2 h2
      injection e0 with e0 _
      subst e0
      have e1 := hcell 0 (by omega)
      rw [Nat.mul_one, add_add, Nat.add_zero] at e1
      exact ⟨y, by simpa using e1, i64_wf hw⟩
    obtain ⟨f, hfn⟩ := choose_lt each
    refine ⟨some a, len, cap, (List.range len).map f, rfl, ⟨by simp, by unfold maxLen at hm; omega, fun hpos => ?_⟩, fun y hy => ?_, hl, hm⟩
    · obtain ⟨b, off, spot⟩ := a
      have hspot : spot = none := by
        have := (hfn 0 hpos).1
        simpa [Addr.add] using World.cell?_spot this
      subst hspot
      refine ⟨b, off, rfl, ?_, fun j t hj => ?_⟩
      · have := (hfn 0 hpos).1
        rw [add_plain] at this
        exact cell_lt2 this
      · rw [List.getElem?_map] at hj
        obtain ⟨i, hi, rfl⟩ := Option.map_eq_some_iff.1 hj
        have hj' : j < len := by
          rcases Nat.lt_or_ge j len with h | h
          · exact h
          · rw [List.getElem?_eq_none (by simpa using h)] at hi; cases hi
        rw [List.getElem?_range hj'] at hi
        injection hi with hi
        subst hi
        have := (hfn j hj').1
        rwa [add_plain] at this
    · obtain ⟨i, hi, rfl⟩ := List.mem_map.1 hy
      exact (hfn i (List.mem_range.1 hi)).2
set_option maxRecDepth 100000 in
theorem open_val {H : Type} {enc : TypeId × Value → H} {W : World} {b0 : Nat} {v : Value} {d : DataW H} {p : List MemPlace} (hv : Value.okWide Try.prog W .any b0 33 v)
    (h : DataW.Trod enc Try.prog W 0 (fun _ => true) true 33 v d p) :
    ∃ (k x : Int) (s : ByteArray) (a : Option Addr) (n c : Nat) (l : List Int), v = .agg #[.int .i64 k, .int .i64 x, .string s, .slice a n c] ∧ Nums W W.heap.size a n l ∧ inI64 k ∧ inI64 x ∧ (∀ y ∈ l, inI64 y) ∧ n ≤ c ∧ c ≤ maxLen ∧ s.size ≤ maxLen := by
  obtain ⟨v0, v1, v2, v3, y0, y1, y2, y3, n, rfl, rfl, rfl, g0, g1, g2, g3⟩ := Go.Joins.open_agg4 Try.underlying33 (by kernel_rfl) (by kernel_rfl) hv h
  obtain ⟨k, e0, _, w0⟩ := DataW.trod_int Try.underlying3 g0
  obtain ⟨x, e1, _, w1⟩ := DataW.trod_int Try.underlying2 g1
  obtain ⟨s, e2, _, w2⟩ := DataW.trod_string Try.underlying9 g2
  obtain ⟨a, m, c, l, e3, hn, hi, hc, hm⟩ := open_nums g3
  injection e0 with e0 _
  injection e1 with e1 _
  injection e2 with e2 _
  subst e0 e1 e2 e3
  exact ⟨k, x, s, a, m, c, l, rfl, hn, i64_wf w0, i64_wf w1, hi, hc, hm, w2⟩
theorem args_below {H : Type} {enc : TypeId × Value → H} {W : World} {v : Value} {d : DataW H} {p : List MemPlace} {t : TypeId} (h : DataW.Trod enc Try.prog W 0 (fun _ => true) true t v d p) : ∀ x ∈ p, x.block < W.heap.size := by
  obtain ⟨m, hm⟩ := h
  exact DataW.trod_lt m _ _ _ hm
end Go.Proofs.Ythbakfceaaaamaa

/- Terms and binds that came in, opened. -/
namespace Go.Proofs.Ythbakfceaaaamaa
open Go.ChangeShapes Go.WideShapes Go.ChangeAt Go.RowKit Go.Deep

theorem trm_cells : Try.prog.cellsOf 49 = 6 := by kernel_rfl
theorem bind_cells : Try.prog.cellsOf 35 = 5 := by kernel_rfl
theorem val_cells : Try.prog.cellsOf 33 = 4 := by kernel_rfl
theorem int_cells : Try.prog.cellsOf 3 = 1 := by kernel_rfl
theorem str_cells : Try.prog.cellsOf 9 = 1 := by kernel_rfl
theorem nums_cells : Try.prog.cellsOf 31 = 1 := by kernel_rfl
theorem list5 {α : Type _} : ∀ {l : List α}, l.length = 5 → ∃ a b c d e, l = [a, b, c, d, e]
  | [a, b, c, d, e], _ => ⟨a, b, c, d, e, rfl⟩
  | [], h => by simp at h
  | [_], h => by simp at h
  | [_, _], h => by simp at h
  | [_, _, _], h => by simp at h
  | [_, _, _, _], h => by simp at h
  | _ :: _ :: _ :: _ :: _ :: _ :: _, h => by simp at h
theorem list6 {α : Type _} : ∀ {l : List α}, l.length = 6 → ∃ a b c d e f, l = [a, b, c, d, e, f]
  | [a, b, c, d, e, f], _ => ⟨a, b, c, d, e, f, rfl⟩
  | [], h => by simp at h
  | [_], h => by simp at h
  | [_, _], h => by simp at h
  | [_, _, _], h => by simp at h
  | [_, _, _, _], h => by simp at h
  | [_, _, _, _, _], h => by simp at h
  | _ :: _ :: _ :: _ :: _ :: _ :: _ :: _, h => by simp at h
/-- The six cells of a term. -/
theorem cells_trm {H : Type} {enc : TypeId × Value → H} {W : World} {fuel : Nat} {cs : List Value} {x : DataW H × List MemPlace}
    (h : DataW.trod enc Try.prog W 0 (fun _ => true) true fuel 49 cs = some x) :
    ∃ t : Trm, cs = [.int .i64 t.kind, .string (lxS t.name), .int .i64 t.num, .string (lxS t.text), .int .i64 t.l, .int .i64 t.r] ∧ t.name.length ≤ maxLen ∧ t.text.length ≤ maxLen := by
  obtain ⟨ys, n, _, _, hl, hyl, hf⟩ := DataW.trod_struct Try.underlying49 h
  rw [trm_cells] at hl
  obtain ⟨v0, v1, v2, v3, v4, v5, rfl⟩ := list6 hl
  have g0 : DataW.trod enc Try.prog W 0 (fun _ => true) true n 3 (([v0, v1, v2, v3, v4, v5].drop 0).take (Try.prog.cellsOf 3)) = ys[0]? := hf 0 _ rfl
  have g1 : DataW.trod enc Try.prog W 0 (fun _ => true) true n 9 (([v0, v1, v2, v3, v4, v5].drop 1).take (Try.prog.cellsOf 9)) = ys[1]? := hf 1 _ rfl
  have g2 : DataW.trod enc Try.prog W 0 (fun _ => true) true n 2 (([v0, v1, v2, v3, v4, v5].drop 2).take (Try.prog.cellsOf 2)) = ys[2]? := hf 2 _ rfl
  have g3 : DataW.trod enc Try.prog W 0 (fun _ => true) true n 9 (([v0, v1, v2, v3, v4, v5].drop 3).take (Try.prog.cellsOf 9)) = ys[3]? := hf 3 _ rfl
  have g4 : DataW.trod enc Try.prog W 0 (fun _ => true) true n 3 (([v0, v1, v2, v3, v4, v5].drop 4).take (Try.prog.cellsOf 3)) = ys[4]? := hf 4 _ rfl
  have g5 : DataW.trod enc Try.prog W 0 (fun _ => true) true n 3 (([v0, v1, v2, v3, v4, v5].drop 5).take (Try.prog.cellsOf 3)) = ys[5]? := hf 5 _ rfl
  have hys : ys.length = 6 := hyl
  rw [List.getElem?_eq_getElem (by omega)] at g0 g1 g2 g3 g4 g5
  rw [int_cells] at g0 g4 g5
  rw [str_cells] at g1 g3
  rw [i64_cells] at g2
  simp only [List.drop_zero, List.drop_succ_cons, List.take_succ_cons, List.take_zero] at g0 g1 g2 g3 g4 g5
  obtain ⟨k, e0, _, _⟩ := DataW.trod_int Try.underlying3 g0
  obtain ⟨s, e1, _, w1⟩ := DataW.trod_string Try.underlying9 g1
  obtain ⟨m, e2, _, _⟩ := DataW.trod_int Try.underlying2 g2
  obtain ⟨u, e3, _, w3⟩ := DataW.trod_string Try.underlying9 g3
  obtain ⟨p, e4, _, _⟩ := DataW.trod_int Try.underlying3 g4
  obtain ⟨q, e5, _, _⟩ := DataW.trod_int Try.underlying3 g5
  injection e0 with e0 _
  injection e1 with e1 _
  injection e2 with e2 _
  injection e3 with e3 _
  injection e4 with e4 _
  injection e5 with e5 _
  subst e0 e1 e2 e3 e4 e5
  have es : lxS s.toList = s := toList_inj (by rw [lxS_toList])
  have eu : lxS u.toList = u := toList_inj (by rw [lxS_toList])
  exact ⟨⟨k, s.toList, m, u.toList, p, q⟩, by simp only [es, eu], by rw [lxLen]; exact w1, by rw [lxLen]; exact w3⟩
theorem open_trms {H : Type} {enc : TypeId × Value → H} {W : World} {fuel : Nat} {v : Value} {x : DataW H × List MemPlace}
    (hf : DataW.trod enc Try.prog W 0 (fun _ => true) true fuel 22 [v] = some x) :
    ∃ (a : Option Addr) (n c : Nat) (L : List Trm), v = .slice a n c ∧ (n ≤ 1000 → Trms W W.heap.size a n L) ∧ n ≤ maxLen := by
  rcases open_slice Try.underlying22 hf with ⟨hcs, hx⟩ | ⟨a, len, cap, m, n, D, Pl, hcs, _, hl, hm, hmm, hx, hel⟩
  · injection hcs with hcs _
    subst hcs
    exact ⟨none, 0, 0, [], rfl, fun _ => Trms.zero _ _ _, Nat.zero_le _⟩
  · injection hcs with hcs _
    subst hcs
    simp only [if_true] at hmm
    have each : ∀ i, i < len → ∃ t : Trm, (t.name.length ≤ maxLen ∧ t.text.length ≤ maxLen) ∧ W.cell? (a.add (i * 6)) = some (.int .i64 t.kind) ∧ W.cell? (a.add (i * 6 + 1)) = some (.string (lxS t.name)) ∧ W.cell? (a.add (i * 6 + 2)) = some (.int .i64 t.num) ∧
        W.cell? (a.add (i * 6 + 3)) = some (.string (lxS t.text)) ∧ W.cell? (a.add (i * 6 + 4)) = some (.int .i64 t.l) ∧ W.cell? (a.add (i * 6 + 5)) = some (.int .i64 t.r) := by
      intro i hi
      obtain ⟨cs', h1, h2⟩ := hel i (by omega)
      rw [trm_cells] at h1
      obtain ⟨_, hlen, hcell⟩ := World.cells?_some h1
      obtain ⟨t, rfl, ht⟩ := cells_trm h2
      refine ⟨t, ht, ?_, ?_, ?_, ?_, ?_, ?_⟩
      · have e := hcell 0 (by omega); rw [add_add] at e; simpa using e
      · have e := hcell 1 (by omega); rw [add_add] at e; simpa using e
      · have e := hcell 2 (by omega); rw [add_add] at e; simpa using e
      · have e := hcell 3 (by omega); rw [add_add] at e; simpa using e
      · have e := hcell 4 (by omega); rw [add_add] at e; simpa using e
      · have e := hcell 5 (by omega); rw [add_add] at e; simpa using e
    haveI : Inhabited Trm := ⟨trm0⟩
    obtain ⟨f, hfn⟩ := choose_lt each
    refine ⟨some a, len, cap, (List.range len).map f, rfl, fun h1000 => ⟨by simp, by omega, fun t ht => ?_, fun hpos => ?_⟩, by omega⟩
    · obtain ⟨i, hi, rfl⟩ := List.mem_map.1 ht
      exact (hfn i (List.mem_range.1 hi)).1
    · obtain ⟨b, off, spot⟩ := a
      have hspot : spot = none := by
        have := (hfn 0 hpos).2.1
        simpa [Addr.add] using World.cell?_spot this
      subst hspot
      refine ⟨b, off, rfl, ?_, fun j t hj => ?_⟩
      · have := (hfn 0 hpos).2.1
        rw [add_plain] at this
        exact cell_lt2 this
      · rw [List.getElem?_map] at hj
        obtain ⟨i, hi, rfl⟩ := Option.map_eq_some_iff.1 hj
        have hj' : j < len := by
          rcases Nat.lt_or_ge j len with h | h
          · exact h
          · rw [List.getElem?_eq_none (by simpa using h)] at hi; cases hi
        rw [List.getElem?_range hj'] at hi
        injection hi with hi
        subst hi
        obtain ⟨_, q0, q1, q2, q3, q4, q5⟩ := hfn j hj'
        simp only [add_plain] at q0 q1 q2 q3 q4 q5
        exact ⟨q0, q1, q2, q3, q4, q5⟩
/-- The five cells of a bind. -/
theorem cells_bind {H : Type} {enc : TypeId × Value → H} {W : World} {fuel : Nat} {cs : List Value} {x : DataW H × List MemPlace}
    (h : DataW.trod enc Try.prog W 0 (fun _ => true) true fuel 35 cs = some x) :
    ∃ (z : Str × Val) (s t : ByteArray) (la : Option Addr) (ln lc : Nat), cs = [.string s, .int .i64 z.2.kind, .int .i64 z.2.num, .string t, .slice la ln lc] ∧ s.toList = z.1 ∧ t.toList = z.2.text ∧ Nums W W.heap.size la ln z.2.list := by
  obtain ⟨y0, y1, n, _, hl, h0, h1⟩ := trod_struct2 Try.underlying35 h
  rw [bind_cells] at hl
  obtain ⟨v0, v1, v2, v3, v4, rfl⟩ := list5 hl
  have g0 : DataW.trod enc Try.prog W 0 (fun _ => true) true n 9 (([v0, v1, v2, v3, v4].drop 0).take (Try.prog.cellsOf 9)) = some y0 := h0
  have g1 : DataW.trod enc Try.prog W 0 (fun _ => true) true n 33 (([v0, v1, v2, v3, v4].drop 1).take (Try.prog.cellsOf 33)) = some y1 := h1
  rw [str_cells] at g0
  rw [val_cells] at g1
  simp only [List.drop_zero, List.drop_succ_cons, List.take_succ_cons, List.take_zero] at g0 g1
  obtain ⟨s, e0, _, _⟩ := DataW.trod_string Try.underlying9 g0
  obtain ⟨z0, z1, z2, z3, n2, _, _, k0, k1, k2, k3⟩ := Go.Joins.trod_struct4 Try.underlying33 g1
  have m0 : DataW.trod enc Try.prog W 0 (fun _ => true) true n2 3 (([v1, v2, v3, v4].drop 0).take (Try.prog.cellsOf 3)) = some z0 := k0
  have m1 : DataW.trod enc Try.prog W 0 (fun _ => true) true n2 2 (([v1, v2, v3, v4].drop 1).take (Try.prog.cellsOf 2)) = some z1 := k1
  have m2 : DataW.trod enc Try.prog W 0 (fun _ => true) true n2 9 (([v1, v2, v3, v4].drop 2).take (Try.prog.cellsOf 9)) = some z2 := k2
  have m3 : DataW.trod enc Try.prog W 0 (fun _ => true) true n2 31 (([v1, v2, v3, v4].drop 3).take (Try.prog.cellsOf 31)) = some z3 := k3
  rw [int_cells] at m0
  rw [i64_cells] at m1
  rw [str_cells] at m2
  rw [nums_cells] at m3
  simp only [List.drop_zero, List.drop_succ_cons, List.take_succ_cons, List.take_zero] at m0 m1 m2 m3
  obtain ⟨k, e1, _, _⟩ := DataW.trod_int Try.underlying3 m0
  obtain ⟨m, e2, _, _⟩ := DataW.trod_int Try.underlying2 m1
  obtain ⟨t, e3, _, _⟩ := DataW.trod_string Try.underlying9 m2
  obtain ⟨a, ln, lc, l, e4, hn, _⟩ := open_nums m3
  injection e0 with e0 _
  injection e1 with e1 _
  injection e2 with e2 _
  injection e3 with e3 _
  subst e0 e1 e2 e3 e4
  exact ⟨(s.toList, ⟨k, m, t.toList, l⟩), s, t, a, ln, lc, rfl, rfl, rfl, hn⟩
theorem open_binds {H : Type} {enc : TypeId × Value → H} {W : World} {fuel : Nat} {v : Value} {x : DataW H × List MemPlace}
    (hf : DataW.trod enc Try.prog W 0 (fun _ => true) true fuel 29 [v] = some x) :
    ∃ (a : Option Addr) (n c : Nat) (env : List (Str × Val)), v = .slice a n c ∧ BindsL W W.heap.size a n env ∧ n ≤ maxLen := by
  rcases open_slice Try.underlying29 hf with ⟨hcs, hx⟩ | ⟨a, len, cap, m, n, D, Pl, hcs, _, hl, hm, hmm, hx, hel⟩
  · injection hcs with hcs _
    subst hcs
    exact ⟨none, 0, 0, [], rfl, ⟨rfl, by omega, fun h => absurd h (Nat.lt_irrefl 0)⟩, Nat.zero_le _⟩
  · injection hcs with hcs _
    subst hcs
    simp only [if_true] at hmm
    have each : ∀ i, i < len → ∃ z : Str × Val, ∃ (s t : ByteArray) (la : Option Addr) (ln lc : Nat), (W.cell? (a.add (i * 5)) = some (.string s) ∧ W.cell? (a.add (i * 5 + 1)) = some (.int .i64 z.2.kind) ∧ W.cell? (a.add (i * 5 + 2)) = some (.int .i64 z.2.num) ∧
        W.cell? (a.add (i * 5 + 3)) = some (.string t) ∧ W.cell? (a.add (i * 5 + 4)) = some (.slice la ln lc)) ∧ s.toList = z.1 ∧ t.toList = z.2.text ∧ Nums W W.heap.size la ln z.2.list := by
      intro i hi
      obtain ⟨cs', h1, h2⟩ := hel i (by omega)
      rw [bind_cells] at h1
      obtain ⟨_, hlen, hcell⟩ := World.cells?_some h1
      obtain ⟨z, s, t, la, ln, lc, rfl, hz⟩ := cells_bind h2
      refine ⟨z, s, t, la, ln, lc, ⟨?_, ?_, ?_, ?_, ?_⟩, hz⟩
      · have e := hcell 0 (by omega); rw [add_add] at e; simpa using e
      · have e := hcell 1 (by omega); rw [add_add] at e; simpa using e
      · have e := hcell 2 (by omega); rw [add_add] at e; simpa using e
      · have e := hcell 3 (by omega); rw [add_add] at e; simpa using e
      · have e := hcell 4 (by omega); rw [add_add] at e; simpa using e
    haveI : Inhabited (Str × Val) := ⟨([], zeroV)⟩
    obtain ⟨f, hfn⟩ := choose_lt each
    refine ⟨some a, len, cap, (List.range len).map f, rfl, ⟨by simp, by unfold maxLen at hm; omega, fun hpos => ?_⟩, by omega⟩
    obtain ⟨b, off, spot⟩ := a
    have hspot : spot = none := by
      obtain ⟨s, t, la, ln, lc, ⟨q0, _⟩, _⟩ := hfn 0 hpos
      simpa [Addr.add] using World.cell?_spot q0
    subst hspot
    refine ⟨b, off, rfl, ?_, fun j z hj => ?_⟩
    · obtain ⟨s, t, la, ln, lc, ⟨q0, _⟩, _⟩ := hfn 0 hpos
      rw [add_plain] at q0
      exact cell_lt2 q0
    · rw [List.getElem?_map] at hj
      obtain ⟨i, hi, rfl⟩ := Option.map_eq_some_iff.1 hj
      have hj' : j < len := by
        rcases Nat.lt_or_ge j len with h | h
        · exact h
        · rw [List.getElem?_eq_none (by simpa using h)] at hi; cases hi
      rw [List.getElem?_range hj'] at hi
      injection hi with hi
      subst hi
      obtain ⟨s, t, la, ln, lc, ⟨q0, q1, q2, q3, q4⟩, hz⟩ := hfn j hj'
      simp only [add_plain] at q0 q1 q2 q3 q4
      exact ⟨s, t, la, ln, lc, ⟨q0, q1, q2, q3, q4⟩, hz⟩
set_option maxRecDepth 100000 in
/-- A term in an argument. -/
theorem open_trm {H : Type} {enc : TypeId × Value → H} {W : World} {b0 : Nat} {v : Value} {d : DataW H} {p : List MemPlace} (hv : Value.okWide Try.prog W .any b0 49 v)
    (h : DataW.Trod enc Try.prog W 0 (fun _ => true) true 49 v d p) : ∃ t : Trm, v = encT t ∧ t.name.length ≤ maxLen ∧ t.text.length ≤ maxLen := by
  obtain ⟨cs, rfl, hsz⟩ := okWide_struct Try.underlying49 hv
  obtain ⟨fuel, hf⟩ := h
  obtain ⟨t, e, ht⟩ := cells_trm hf
  refine ⟨t, ?_, ht⟩
  obtain ⟨l⟩ := cs
  have : l = [.int .i64 t.kind, .string (lxS t.name), .int .i64 t.num, .string (lxS t.text), .int .i64 t.l, .int .i64 t.r] := e
  rw [this]
  rfl
end Go.Proofs.Ythbakfceaaaamaa
