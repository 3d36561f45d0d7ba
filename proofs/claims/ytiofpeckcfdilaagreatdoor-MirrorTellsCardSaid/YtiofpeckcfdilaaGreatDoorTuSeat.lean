/- What every row of this seat needs: numbers and strings that came in, opened. -/
import Derived.Test.YtiofpeckcfdilaaGreatDoorRows
import Derived.Test.YtiofpeckcfdilaaGreatDoorNmStrs
import Derived.Test.YtiofpeckcfdilaaGreatDoorTmMems
import Derived.WalkKit
import Derived.ProofKit
import Derived.OpenShut
import Derived.ChangeOld
import Derived.ChangeSame
import Derived.SizedLaws
import Derived.SliceStrings
import Derived.Lib.SmallJoins
import Derived.Deep.Slices
import Derived.Deep.Strs
import Derived.Stop.Joined
namespace Go.Proofs.YtiofpeckcfdilaaGreatDoor
open Go.ChangeShapes Go.WideShapes Go.ChangeAt Go.RowKit Go.Deep Go.Sort

theorem seatOwn : ownKnob Tryz.prog.godebug = none := by kernel_rfl
theorem seatLaidOut : laidOutB Tryz.prog = true := by kernel_rfl
theorem seatCells9 : Tryz.prog.cellsOf 9 = 1 := by kernel_rfl
theorem seatBytes9 : Tryz.prog.bytesOf 9 = 16 := by kernel_rfl
theorem seatCells2 : Tryz.prog.cellsOf 3 = 1 := by kernel_rfl
theorem seatBytes2 : Tryz.prog.bytesOf 3 = 8 := by kernel_rfl
theorem cell_lt2 {w : World} {a : Addr} {v : Value} (h : w.cell? a = some v) : a.block < w.heap.size := by
  rcases Nat.lt_or_ge a.block w.heap.size with hlt | hge
  · exact hlt
  · unfold World.cell? at h
    rw [Array.getElem?_eq_none hge] at h
    cases h
theorem i64_wf {n : Int} (h : (Lit.int .i64 n).wf = true) : inI64 n := by
  simp only [Lit.wf, Bool.and_eq_true, decide_eq_true_eq] at h
  have h1 : IntKind.i64.min = -9223372036854775808 := by decide
  have h2 : IntKind.i64.max = 9223372036854775807 := by decide
  rw [h1, h2] at h
  unfold inI64
  omega
theorem list1 {α : Type _} : ∀ {l : List α}, l.length = 1 → ∃ a, l = [a]
  | [a], _ => ⟨a, rfl⟩
  | [], h => by simp at h
  | _ :: _ :: _, h => by simp at h
theorem open_ints {H : Type} {enc : TypeId × Value → H} {W : World} {fuel : Nat} {v : Value} {x : DataW H × List MemPlace}
    (hf : DataW.trod enc Tryz.prog W 0 (fun _ => true) true fuel 25 [v] = some x)
    (hsz : ∀ elems spare, x.1 = .slice elems spare → (elems.length + spare.length) * 8 ≤ reachBytes) :
    ∃ (a : Option Addr) (n c : Nat) (l : List Int), v = .slice a n c ∧ Nums W W.heap.size a n l ∧ (∀ y ∈ l, inI64 y) ∧ n ≤ c ∧ c ≤ maxLen ∧ n * 8 ≤ 140737488351232 := by
  rcases open_slice Tryz.underlying25 hf with ⟨hcs, hx⟩ | ⟨a, len, cap, m, n, D, Pl, hcs, _, hl, hm, hmm, hx, hel⟩
  · injection hcs with hcs _
    subst hcs
    exact ⟨none, 0, 0, [], rfl, Nums.zero _ _ _, (fun y hy => by cases hy), Nat.le_refl _, Nat.zero_le _, by omega⟩
  · injection hcs with hcs _
    subst hcs
    simp only [if_true] at hmm
    have each : ∀ i, i < len → ∃ y : Int, W.cell? (a.add i) = some (.int .i64 y) ∧ inI64 y := by
      intro i hi
      obtain ⟨cs', h1, h2⟩ := hel i (by omega)
      rw [seatCells2] at h1
      obtain ⟨_, hlen, hcell⟩ := World.cells?_some h1
      obtain ⟨u, rfl⟩ := list1 hlen
      obtain ⟨y, e0, _, hw⟩ := DataW.trod_int Tryz.underlying3 h2
      injection e0 with e0 _
      subst e0
      have e1 := hcell 0 (by omega)
      rw [Nat.mul_one, add_add, Nat.add_zero] at e1
      exact ⟨y, by simpa using e1, i64_wf hw⟩
    obtain ⟨f, hfn⟩ := choose_lt each
    refine ⟨some a, len, cap, (List.range len).map f, rfl, ⟨by simp, by unfold maxLen at hm; omega, fun hpos => ?_⟩, fun y hy => ?_, hl, hm, ?_⟩
    · obtain ⟨b, off, spot⟩ := a
      have hspot : spot = none := by
        have := (hfn 0 hpos).1
        simpa [Addr.add] using World.cell?_spot this
      subst hspot
      refine ⟨b, off, rfl, ?_, fun j t hj => ?_⟩
      · have := (hfn 0 hpos).1
        rw [add_plain] at this
        exact cell_lt2 this
      · rw [List.getElem?_map] at hj
        obtain ⟨i, hi, rfl⟩ := Option.map_eq_some_iff.1 hj
        have hj' : j < len := by
          rcases Nat.lt_or_ge j len with h | h
          · exact h
          · rw [List.getElem?_eq_none (by simpa using h)] at hi; cases hi
        rw [List.getElem?_range hj'] at hi
        injection hi with hi
        subst hi
        have := (hfn j hj').1
        rwa [add_plain] at this
    · obtain ⟨i, hi, rfl⟩ := List.mem_map.1 hy
      exact (hfn i (List.mem_range.1 hi)).2
    · have := hsz _ _ (by rw [hx])
      simp only [List.length_map, List.length_range, reachBytes] at this
      omega
/-- A slice of strings that came in reads as some strings. -/
theorem open_strs {H : Type} {enc : TypeId × Value → H} {W : World} {a0 : Option Addr} {len cap : Nat} {d0 : DataW H} {p : List MemPlace}
    (h0 : DataW.Trod enc Tryz.prog W 0 (fun _ => true) true 34 (.slice a0 len cap) d0 p)
    (hsz : ∀ elems spare, d0 = .slice elems spare → (elems.length + spare.length) * 16 ≤ reachBytes) : ∃ ss, Strs W W.heap.size a0 len ss ∧ len ≤ cap := by
  obtain ⟨fuel, hf⟩ := h0
  rcases open_strings Tryz.underlying34 Tryz.underlying9 seatCells9 hf with ⟨hcs, hx⟩ | ⟨a, len', cap', zs, hcs, _, hl, hm, hz, hx, hcell, hwz⟩
  · simp [Value.cells] at hcs
    obtain ⟨rfl, rfl, rfl⟩ := hcs
    exact ⟨[], Strs.zero _ _ _, Nat.le_refl 0⟩
  · simp [Value.cells] at hcs
    obtain ⟨rfl, rfl, rfl⟩ := hcs
    simp only [Prod.mk.injEq] at hx
    obtain ⟨hd, _⟩ := hx
    simp only [if_true] at hz
    have hreach : len * 16 ≤ 140737488351232 := by
      have := hsz _ _ hd
      simp only [strs, List.length_map, List.length_take, List.length_drop, reachBytes] at this
      omega
    refine ⟨(zs.take len).map (·.toList), ⟨by simp; omega, hreach, ?_, fun hpos => ?_⟩, hl⟩
    · intro s hs
      obtain ⟨x, hx, rfl⟩ := List.mem_map.1 hs
      have : x.toList.length = x.size := by rw [ByteArray.toList_eq]; simp
      rw [this]
      exact hwz x (List.mem_of_mem_take hx)
    · obtain ⟨b, off, spot⟩ := a
      have hspot : spot = none := by simpa [Addr.add] using World.cell?_spot (hcell 0 (by omega))
      subst hspot
      refine ⟨b, off, rfl, ?_, fun j s hj => ?_⟩
      · have := hcell 0 (by omega)
        rw [add_plain] at this
        exact cell_lt2 this
      · rw [List.getElem?_map] at hj
        obtain ⟨x, hx, rfl⟩ := Option.map_eq_some_iff.1 hj
        have hjz : zs[j]? = some x := by
          rw [List.getElem?_take] at hx
          split at hx
          · exact hx
          · cases hx
        have hjl : j < zs.length := by
          rcases Nat.lt_or_ge j zs.length with h | h
          · exact h
          · rw [List.getElem?_eq_none h] at hjz; cases hjz
        have := hcell j hjl
        rw [add_plain] at this
        rw [this]
        have hxe : zs.getD j ByteArray.empty = x := by rw [List.getD_eq_getElem?_getD, hjz]; rfl
        rw [hxe]
        show some (Value.string x) = some (Value.string ⟨x.toList.toArray⟩)
        rw [ByteArray.toList_eq]
theorem args_below {H : Type} {enc : TypeId × Value → H} {W : World} {v : Value} {d : DataW H} {p : List MemPlace} {t : TypeId} (h : DataW.Trod enc Tryz.prog W 0 (fun _ => true) true t v d p) : ∀ x ∈ p, x.block < W.heap.size := by
  obtain ⟨m, hm⟩ := h
  exact DataW.trod_lt m _ _ _ hm
end Go.Proofs.YtiofpeckcfdilaaGreatDoor
