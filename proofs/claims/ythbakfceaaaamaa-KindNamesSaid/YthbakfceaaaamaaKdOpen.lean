/- Typings that came in, opened. -/
import Derived.Test.YthbakfceaaaamaaTmSeats
import Derived.Test.YthbakfceaaaamaaKdKinds
namespace Go.Proofs.Ythbakfceaaaamaa
open Go.ChangeShapes Go.WideShapes Go.ChangeAt Go.RowKit Go.Deep

theorem typ_cells : Try.prog.cellsOf 46 = 3 := by kernel_rfl
theorem sort_cells : Try.prog.cellsOf 44 = 2 := by kernel_rfl
theorem list3 {α : Type _} : ∀ {l : List α}, l.length = 3 → ∃ a b c, l = [a, b, c]
  | [a, b, c], _ => ⟨a, b, c, rfl⟩
  | [], h => by simp at h
  | [_], h => by simp at h
  | [_, _], h => by simp at h
  | _ :: _ :: _ :: _ :: _, h => by simp at h
/-- The three cells of a typing. -/
theorem cells_typ {H : Type} {enc : TypeId × Value → H} {W : World} {fuel : Nat} {cs : List Value} {x : DataW H × List MemPlace}
    (h : DataW.trod enc Try.prog W 0 (fun _ => true) true fuel 46 cs = some x) :
    ∃ (z : Str × Int) (s : ByteArray) (q : Int), cs = [.string s, .int .i64 z.2, .int .i64 q] ∧ s.toList = z.1 := by
  obtain ⟨y0, y1, n, _, hl, h0, h1⟩ := trod_struct2 Try.underlying46 h
  rw [typ_cells] at hl
  obtain ⟨v0, v1, v2, rfl⟩ := list3 hl
  have g0 : DataW.trod enc Try.prog W 0 (fun _ => true) true n 9 (([v0, v1, v2].drop 0).take (Try.prog.cellsOf 9)) = some y0 := h0
  have g1 : DataW.trod enc Try.prog W 0 (fun _ => true) true n 44 (([v0, v1, v2].drop 1).take (Try.prog.cellsOf 44)) = some y1 := h1
  rw [str_cells] at g0
  rw [sort_cells] at g1
  simp only [List.drop_zero, List.drop_succ_cons, List.take_succ_cons, List.take_zero] at g0 g1
  obtain ⟨s, e0, _, _⟩ := DataW.trod_string Try.underlying9 g0
  obtain ⟨z0, z1, n2, _, _, k0, k1⟩ := trod_struct2 Try.underlying44 g1
  have m0 : DataW.trod enc Try.prog W 0 (fun _ => true) true n2 3 (([v1, v2].drop 0).take (Try.prog.cellsOf 3)) = some z0 := k0
  have m1 : DataW.trod enc Try.prog W 0 (fun _ => true) true n2 3 (([v1, v2].drop 1).take (Try.prog.cellsOf 3)) = some z1 := k1
  rw [int_cells] at m0 m1
  simp only [List.drop_zero, List.drop_succ_cons, List.take_succ_cons, List.take_zero] at m0 m1
  obtain ⟨k, e1, _, _⟩ := DataW.trod_int Try.underlying3 m0
  obtain ⟨m, e2, _, _⟩ := DataW.trod_int Try.underlying3 m1
  injection e0 with e0 _
  injection e1 with e1 _
  injection e2 with e2 _
  subst e0 e1 e2
  exact ⟨(s.toList, k), s, m, rfl, rfl⟩
theorem open_typs {H : Type} {enc : TypeId × Value → H} {W : World} {fuel : Nat} {v : Value} {x : DataW H × List MemPlace}
    (hf : DataW.trod enc Try.prog W 0 (fun _ => true) true fuel 23 [v] = some x) :
    ∃ (a : Option Addr) (n c : Nat) (env : List (Str × Int)), v = .slice a n c ∧ (n ≤ 1000 → Typs W W.heap.size a n env) ∧ n ≤ maxLen := by
  rcases open_slice Try.underlying23 hf with ⟨hcs, hx⟩ | ⟨a, len, cap, m, n, D, Pl, hcs, _, hl, hm, hmm, hx, hel⟩
  · injection hcs with hcs _
    subst hcs
    exact ⟨none, 0, 0, [], rfl, fun _ => Typs.zero _ _ _, Nat.zero_le _⟩
  · injection hcs with hcs _
    subst hcs
    simp only [if_true] at hmm
    have each : ∀ i, i < len → ∃ z : Str × Int, ∃ (s : ByteArray) (q : Int), (W.cell? (a.add (i * 3)) = some (.string s) ∧ W.cell? (a.add (i * 3 + 1)) = some (.int .i64 z.2) ∧ W.cell? (a.add (i * 3 + 2)) = some (.int .i64 q)) ∧ s.toList = z.1 := by
      intro i hi
      obtain ⟨cs', h1, h2⟩ := hel i (by omega)
      rw [typ_cells] at h1
      obtain ⟨_, hlen, hcell⟩ := World.cells?_some h1
      obtain ⟨z, s, q, rfl, hz⟩ := cells_typ h2
      refine ⟨z, s, q, ⟨?_, ?_, ?_⟩, hz⟩
      · have e := hcell 0 (by omega); rw [add_add] at e; simpa using e
      · have e := hcell 1 (by omega); rw [add_add] at e; simpa using e
      · have e := hcell 2 (by omega); rw [add_add] at e; simpa using e
    haveI : Inhabited (Str × Int) := ⟨([], 0)⟩
    obtain ⟨f, hfn⟩ := choose_lt each
    refine ⟨some a, len, cap, (List.range len).map f, rfl, fun h1000 => ⟨by simp, by omega, fun hpos => ?_⟩, by omega⟩
    obtain ⟨b, off, spot⟩ := a
    have hspot : spot = none := by
      obtain ⟨s, q, ⟨q0, _⟩, _⟩ := hfn 0 hpos
      simpa [Addr.add] using World.cell?_spot q0
    subst hspot
    refine ⟨b, off, rfl, ?_, fun j z hj => ?_⟩
    · obtain ⟨s, q, ⟨q0, _⟩, _⟩ := hfn 0 hpos
      rw [add_plain] at q0
      exact cell_lt2 q0
    · rw [List.getElem?_map] at hj
      obtain ⟨i, hi, rfl⟩ := Option.map_eq_some_iff.1 hj
      have hj' : j < len := by
        rcases Nat.lt_or_ge j len with h | h
        · exact h
        · rw [List.getElem?_eq_none (by simpa using h)] at hi; cases hi
      rw [List.getElem?_range hj'] at hi
      injection hi with hi
      subst hi
      obtain ⟨s, q, ⟨q0, q1, q2⟩, hz⟩ := hfn j hj'
      simp only [add_plain] at q0 q1 q2
      exact ⟨s, q, ⟨q0, q1, q2⟩, hz⟩
end Go.Proofs.Ythbakfceaaaamaa
