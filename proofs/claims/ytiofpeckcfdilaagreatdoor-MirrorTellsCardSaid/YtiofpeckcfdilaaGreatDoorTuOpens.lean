/- Local types that came in, opened. -/
import Derived.Test.YtiofpeckcfdilaaGreatDoorTuSeat
import Derived.Test.YtiofpeckcfdilaaGreatDoorTuOwns
namespace Go.Proofs.YtiofpeckcfdilaaGreatDoor
open Go.ChangeShapes Go.WideShapes Go.ChangeAt Go.RowKit Go.Deep

theorem arm_cells : Tryz.prog.cellsOf 67 = 4 := by kernel_rfl
theorem carries_cells : Tryz.prog.cellsOf 65 = 2 := by kernel_rfl
theorem turn_cells : Tryz.prog.cellsOf 51 = 3 := by kernel_rfl
theorem armS_cells : Tryz.prog.cellsOf 49 = 1 := by kernel_rfl
theorem turnS_cells : Tryz.prog.cellsOf 22 = 1 := by kernel_rfl
theorem local_cells : Tryz.prog.cellsOf 24 = 2 := by kernel_rfl
theorem tuList2 {α : Type _} : ∀ {l : List α}, l.length = 2 → ∃ a b, l = [a, b]
  | [a, b], _ => ⟨a, b, rfl⟩
  | [], h => by simp at h
  | [_], h => by simp at h
  | _ :: _ :: _ :: _, h => by simp at h
theorem tuList3 {α : Type _} : ∀ {l : List α}, l.length = 3 → ∃ a b c, l = [a, b, c]
  | [a, b, c], _ => ⟨a, b, c, rfl⟩
  | [], h => by simp at h
  | [_], h => by simp at h
  | [_, _], h => by simp at h
  | _ :: _ :: _ :: _ :: _, h => by simp at h
theorem tuList4 {α : Type _} : ∀ {l : List α}, l.length = 4 → ∃ a b c d, l = [a, b, c, d]
  | [a, b, c, d], _ => ⟨a, b, c, d, rfl⟩
  | [], h => by simp at h
  | [_], h => by simp at h
  | [_, _], h => by simp at h
  | [_, _, _], h => by simp at h
  | _ :: _ :: _ :: _ :: _ :: _, h => by simp at h
/-- The four cells of an arm. -/
theorem cells_arm {H : Type} {enc : TypeId × Value → H} {W : World} {fuel : Nat} {cs : List Value} {x : DataW H × List MemPlace}
    (h : DataW.trod enc Tryz.prog W 0 (fun _ => true) true fuel 67 cs = some x) :
    ∃ t : AR, cs = encAR t ∧ okR t := by
  obtain ⟨ys, n, _, _, hl, hyl, hf⟩ := DataW.trod_struct Tryz.underlying67 h
  rw [arm_cells] at hl
  obtain ⟨v0, v1, v2, v3, rfl⟩ := tuList4 hl
  have g0 : DataW.trod enc Tryz.prog W 0 (fun _ => true) true n 9 (([v0, v1, v2, v3].drop 0).take (Tryz.prog.cellsOf 9)) = ys[0]? := hf 0 _ rfl
  have g1 : DataW.trod enc Tryz.prog W 0 (fun _ => true) true n 65 (([v0, v1, v2, v3].drop 1).take (Tryz.prog.cellsOf 65)) = ys[1]? := hf 1 _ rfl
  have g2 : DataW.trod enc Tryz.prog W 0 (fun _ => true) true n 3 (([v0, v1, v2, v3].drop 3).take (Tryz.prog.cellsOf 3)) = ys[2]? := hf 2 _ rfl
  have hys : ys.length = 3 := hyl
  rw [List.getElem?_eq_getElem (by omega)] at g0 g1 g2
  rw [seatCells9] at g0
  rw [carries_cells] at g1
  rw [seatCells2] at g2
  simp only [List.drop_zero, List.drop_succ_cons, List.take_succ_cons, List.take_zero] at g0 g1 g2
  obtain ⟨s, e0, _, w0⟩ := DataW.trod_string Tryz.underlying9 g0
  obtain ⟨z0, z1, n2, _, hl2, k0, k1⟩ := trod_struct2 Tryz.underlying65 g1
  have m0 : DataW.trod enc Tryz.prog W 0 (fun _ => true) true n2 3 (([v1, v2].drop 0).take (Tryz.prog.cellsOf 3)) = some z0 := k0
  have m1 : DataW.trod enc Tryz.prog W 0 (fun _ => true) true n2 9 (([v1, v2].drop 1).take (Tryz.prog.cellsOf 9)) = some z1 := k1
  rw [seatCells2] at m0
  rw [seatCells9] at m1
  simp only [List.drop_zero, List.drop_succ_cons, List.take_succ_cons, List.take_zero] at m0 m1
  obtain ⟨k, e1, _, _⟩ := DataW.trod_int Tryz.underlying3 m0
  obtain ⟨u, e2, _, w2⟩ := DataW.trod_string Tryz.underlying9 m1
  obtain ⟨y, e3, _, _⟩ := DataW.trod_int Tryz.underlying3 g2
  injection e0 with e0 _
  injection e1 with e1 _
  injection e2 with e2 _
  injection e3 with e3 _
  subst e0 e1 e2 e3
  exact ⟨⟨s, k, u, y⟩, rfl, w0, w2⟩
theorem open_arms {H : Type} {enc : TypeId × Value → H} {W : World} {fuel : Nat} {v : Value} {x : DataW H × List MemPlace}
    (hf : DataW.trod enc Tryz.prog W 0 (fun _ => true) true fuel 49 [v] = some x) :
    ∃ (a : Option Addr) (n c : Nat) (l : List ArmL), v = .slice a n c ∧ Arms W W.heap.size a n l := by
  rcases open_slice Tryz.underlying49 hf with ⟨hcs, hx⟩ | ⟨a, len, cap, m, n, D, Pl, hcs, _, hl, hm, hmm, hx, hel⟩
  · injection hcs with hcs _
    subst hcs
    exact ⟨none, 0, 0, [], rfl, Arms.zero _ _ _⟩
  · injection hcs with hcs _
    subst hcs
    simp only [if_true] at hmm
    have each : ∀ i, i < len → ∃ t : AR, okR t ∧ W.cell? (a.add (i * 4)) = some (.string t.s) ∧ W.cell? (a.add (i * 4 + 1)) = some (.int .i64 t.k) ∧ W.cell? (a.add (i * 4 + 2)) = some (.string t.u) ∧ W.cell? (a.add (i * 4 + 3)) = some (.int .i64 t.x) := by
      intro i hi
      obtain ⟨cs', h1, h2⟩ := hel i (by omega)
      rw [arm_cells] at h1
      obtain ⟨_, hlen, hcell⟩ := World.cells?_some h1
      obtain ⟨t, rfl, ht⟩ := cells_arm h2
      refine ⟨t, ht, ?_, ?_, ?_, ?_⟩
      · have e := hcell 0 (by omega); rw [add_add] at e; simpa [encAR] using e
      · have e := hcell 1 (by omega); rw [add_add] at e; simpa [encAR] using e
      · have e := hcell 2 (by omega); rw [add_add] at e; simpa [encAR] using e
      · have e := hcell 3 (by omega); rw [add_add] at e; simpa [encAR] using e
    haveI : Inhabited AR := ⟨⟨⟨#[]⟩, 0, ⟨#[]⟩, 0⟩⟩
    obtain ⟨f, hfn⟩ := choose_lt each
    refine ⟨some a, len, cap, (List.range len).map (fun i => armR (f i)), rfl, ⟨by simp, by unfold maxLen at hm; omega, fun hpos => ?_⟩⟩
    obtain ⟨b, off, spot⟩ := a
    have hspot : spot = none := by
      have := (hfn 0 hpos).2.1
      simpa [Addr.add] using World.cell?_spot this
    subst hspot
    refine ⟨b, off, rfl, ?_, fun j z hj => ?_⟩
    · have := (hfn 0 hpos).2.1
      rw [add_plain] at this
      exact cell_lt2 this
    · rw [List.getElem?_map] at hj
      obtain ⟨i, hi, rfl⟩ := Option.map_eq_some_iff.1 hj
      have hj' : j < len := by
        rcases Nat.lt_or_ge j len with h | h
        · exact h
        · rw [List.getElem?_eq_none (by simpa using h)] at hi; cases hi
      rw [List.getElem?_range hj'] at hi
      injection hi with hi
      subst hi
      obtain ⟨hok, q0, q1, q2, q3⟩ := hfn j hj'
      simp only [add_plain] at q0 q1 q2 q3
      exact ⟨(f j).s, (f j).u, ⟨q0, q1, q2, q3⟩, rfl, rfl, hok.1, hok.2⟩
/-- A turn as it lies. -/
structure TLay where
  k : Int
  s : ByteArray
  a : Option Addr
  n : Nat
  c : Nat
  l : List ArmL
theorem cells_turn {H : Type} {enc : TypeId × Value → H} {W : World} {fuel : Nat} {cs : List Value} {x : DataW H × List MemPlace}
    (h : DataW.trod enc Tryz.prog W 0 (fun _ => true) true fuel 51 cs = some x) :
    ∃ t : TLay, cs = [.int .i64 t.k, .string t.s, .slice t.a t.n t.c] ∧ t.s.size ≤ maxLen ∧ Arms W W.heap.size t.a t.n t.l := by
  obtain ⟨ys, n, _, _, hl, hyl, hf⟩ := DataW.trod_struct Tryz.underlying51 h
  rw [turn_cells] at hl
  obtain ⟨v0, v1, v2, rfl⟩ := tuList3 hl
  have g0 : DataW.trod enc Tryz.prog W 0 (fun _ => true) true n 3 (([v0, v1, v2].drop 0).take (Tryz.prog.cellsOf 3)) = ys[0]? := hf 0 _ rfl
  have g1 : DataW.trod enc Tryz.prog W 0 (fun _ => true) true n 9 (([v0, v1, v2].drop 1).take (Tryz.prog.cellsOf 9)) = ys[1]? := hf 1 _ rfl
  have g2 : DataW.trod enc Tryz.prog W 0 (fun _ => true) true n 49 (([v0, v1, v2].drop 2).take (Tryz.prog.cellsOf 49)) = ys[2]? := hf 2 _ rfl
  have hys : ys.length = 3 := hyl
  rw [List.getElem?_eq_getElem (by omega)] at g0 g1 g2
  rw [seatCells2] at g0
  rw [seatCells9] at g1
  rw [armS_cells] at g2
  simp only [List.drop_zero, List.drop_succ_cons, List.take_succ_cons, List.take_zero] at g0 g1 g2
  obtain ⟨k, e0, _, _⟩ := DataW.trod_int Tryz.underlying3 g0
  obtain ⟨s, e1, _, w1⟩ := DataW.trod_string Tryz.underlying9 g1
  obtain ⟨a, m, c, l, e2, ha⟩ := open_arms g2
  injection e0 with e0 _
  injection e1 with e1 _
  subst e0 e1 e2
  exact ⟨⟨k, s, a, m, c, l⟩, rfl, w1, ha⟩
theorem open_turns {H : Type} {enc : TypeId × Value → H} {W : World} {fuel : Nat} {v : Value} {x : DataW H × List MemPlace}
    (hf : DataW.trod enc Tryz.prog W 0 (fun _ => true) true fuel 22 [v] = some x) :
    ∃ (a : Option Addr) (n c : Nat) (ts : List TurnL), v = .slice a n c ∧ Turns W W.heap.size a n ts := by
  rcases open_slice Tryz.underlying22 hf with ⟨hcs, hx⟩ | ⟨a, len, cap, m, n, D, Pl, hcs, _, hl, hm, hmm, hx, hel⟩
  · injection hcs with hcs _
    subst hcs
    exact ⟨none, 0, 0, [], rfl, Turns.zero _ _ _⟩
  · injection hcs with hcs _
    subst hcs
    simp only [if_true] at hmm
    have each : ∀ i, i < len → ∃ t : TLay, (t.s.size ≤ maxLen ∧ Arms W W.heap.size t.a t.n t.l) ∧ W.cell? (a.add (i * 3)) = some (.int .i64 t.k) ∧ W.cell? (a.add (i * 3 + 1)) = some (.string t.s) ∧ W.cell? (a.add (i * 3 + 2)) = some (.slice t.a t.n t.c) := by
      intro i hi
      obtain ⟨cs', h1, h2⟩ := hel i (by omega)
      rw [turn_cells] at h1
      obtain ⟨_, hlen, hcell⟩ := World.cells?_some h1
      obtain ⟨t, rfl, ht⟩ := cells_turn h2
      refine ⟨t, ht, ?_, ?_, ?_⟩
      · have e := hcell 0 (by omega); rw [add_add] at e; simpa using e
      · have e := hcell 1 (by omega); rw [add_add] at e; simpa using e
      · have e := hcell 2 (by omega); rw [add_add] at e; simpa using e
    haveI : Inhabited TLay := ⟨⟨0, ⟨#[]⟩, none, 0, 0, []⟩⟩
    obtain ⟨f, hfn⟩ := choose_lt each
    refine ⟨some a, len, cap, (List.range len).map (fun i => ⟨(f i).k, (f i).s.toList, (f i).l⟩), rfl, ⟨by simp, by unfold maxLen at hm; omega, fun hpos => ?_⟩⟩
    obtain ⟨b, off, spot⟩ := a
    have hspot : spot = none := by
      have := (hfn 0 hpos).2.1
      simpa [Addr.add] using World.cell?_spot this
    subst hspot
    refine ⟨b, off, rfl, ?_, fun j z hj => ?_⟩
    · have := (hfn 0 hpos).2.1
      rw [add_plain] at this
      exact cell_lt2 this
    · rw [List.getElem?_map] at hj
      obtain ⟨i, hi, rfl⟩ := Option.map_eq_some_iff.1 hj
      have hj' : j < len := by
        rcases Nat.lt_or_ge j len with h | h
        · exact h
        · rw [List.getElem?_eq_none (by simpa using h)] at hi; cases hi
      rw [List.getElem?_range hj'] at hi
      injection hi with hi
      subst hi
      obtain ⟨⟨hs, ha⟩, q0, q1, q2⟩ := hfn j hj'
      simp only [add_plain] at q0 q1 q2
      exact ⟨(f j).s, (f j).a, (f j).n, (f j).c, ⟨q0, q1, q2⟩, rfl, hs, ha⟩
set_option maxRecDepth 100000 in
/-- A local type in an argument. -/
theorem open_local {H : Type} {enc : TypeId × Value → H} {W : World} {b0 : Nat} {v : Value} {d : DataW H} {p : List MemPlace} (hv : Value.okWide Tryz.prog W .any b0 24 v)
    (h : DataW.Trod enc Tryz.prog W 0 (fun _ => true) true 24 v d p) : ∃ (nm : ByteArray) (a : Option Addr) (n c : Nat) (ts : List TurnL), v = .agg #[.string nm, .slice a n c] ∧ Turns W W.heap.size a n ts := by
  obtain ⟨cs, rfl, hsz⟩ := okWide_struct Tryz.underlying24 hv
  obtain ⟨fuel, hf⟩ := h
  have hf2 : DataW.trod enc Tryz.prog W 0 (fun _ => true) true fuel 24 cs.toList = some (d, p) := hf
  obtain ⟨l⟩ := cs
  obtain ⟨z0, z1, n2, _, hl2, k0, k1⟩ := trod_struct2 Tryz.underlying24 hf2
  rw [local_cells] at hl2
  obtain ⟨v0, v1, rfl⟩ := tuList2 hl2
  have m0 : DataW.trod enc Tryz.prog W 0 (fun _ => true) true n2 9 (([v0, v1].drop 0).take (Tryz.prog.cellsOf 9)) = some z0 := k0
  have m1 : DataW.trod enc Tryz.prog W 0 (fun _ => true) true n2 22 (([v0, v1].drop 1).take (Tryz.prog.cellsOf 22)) = some z1 := k1
  rw [seatCells9] at m0
  rw [turnS_cells] at m1
  simp only [List.drop_zero, List.drop_succ_cons, List.take_succ_cons, List.take_zero] at m0 m1
  obtain ⟨s, e0, _, _⟩ := DataW.trod_string Tryz.underlying9 m0
  obtain ⟨a, n, c, ts, e1, ht⟩ := open_turns m1
  injection e0 with e0 _
  subst e0 e1
  exact ⟨s, a, n, c, ts, rfl, ht⟩
end Go.Proofs.YtiofpeckcfdilaaGreatDoor
