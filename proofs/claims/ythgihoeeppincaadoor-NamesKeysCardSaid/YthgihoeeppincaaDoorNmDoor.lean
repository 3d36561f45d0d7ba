/- What every row of this seat needs: the listed tables hold at the start, a world in which they do, and a slice of strings that came in. -/
import Derived.Test.YthgihoeeppincaaDoorRows
import Derived.Test.YthgihoeeppincaaDoorNmStrs
import Derived.WalkKit
import Derived.ProofKit
import Derived.LaidMore
import Derived.OpenShut
import Derived.ChangeOld
import Derived.SizedLaws
import Derived.SliceStrings
import Derived.Stop.Joined
namespace Go.Proofs.YthgihoeeppincaaDoor
open Go.ChangeShapes Go.WideShapes Go.ChangeAt Go.RowKit Go.Sort

theorem seatOwn : ownKnob Tryd.prog.godebug = none := by kernel_rfl
theorem seatLaidOut : laidOutB Tryd.prog = true := by kernel_rfl
theorem seatCells9 : Tryd.prog.cellsOf 9 = 1 := by kernel_rfl
theorem seatBytes9 : Tryd.prog.bytesOf 9 = 16 := by kernel_rfl
theorem door_met (os : Os) (args : Array Value) : laidMetH Tryd.prog Rows.namesKeysRow.laid ((World.doorLaid Tryd.prog 4000 os).forCall (fun _ _ => 0) ⟨#[], args, []⟩).memory :=
  laidMetH_of_parts3 (fuel := 8) (laidMet_of_run' 8 (by kernel_rfl) (by kernel_rfl)) (by kernel_rfl) (by kernel_rfl)
theorem cell_lt {w : World} {a : Addr} {v : Value} (h : w.cell? a = some v) : a.block < w.heap.size := by
  rcases Nat.lt_or_ge a.block w.heap.size with hlt | hge
  · exact hlt
  · unfold World.cell? at h
    rw [Array.getElem?_eq_none hge] at h
    cases h
/-- A slice of strings that came in reads as some strings. -/
theorem open_strs {H : Type} {enc : TypeId × Value → H} {W : World} {a0 : Option Addr} {len cap : Nat} {d0 : DataW H} {p : List MemPlace}
    (h0 : DataW.Trod enc Tryd.prog W 0 (fun _ => true) true 22 (.slice a0 len cap) d0 p)
    (hsz : ∀ elems spare, d0 = .slice elems spare → (elems.length + spare.length) * 16 ≤ reachBytes) : ∃ ss, Strs W W.heap.size a0 len ss ∧ len ≤ cap := by
  obtain ⟨fuel, hf⟩ := h0
  rcases open_strings Tryd.underlying22 Tryd.underlying9 seatCells9 hf with ⟨hcs, hx⟩ | ⟨a, len', cap', zs, hcs, _, hl, hm, hz, hx, hcell, hwz⟩
  · simp [Value.cells] at hcs
    obtain ⟨rfl, rfl, rfl⟩ := hcs
    exact ⟨[], Strs.zero _ _ _, Nat.le_refl 0⟩
  · simp [Value.cells] at hcs
    obtain ⟨rfl, rfl, rfl⟩ := hcs
    simp only [Prod.mk.injEq] at hx
    obtain ⟨hd, _⟩ := hx
    simp only [if_true] at hz
    have hreach : len * 16 ≤ 140737488351232 := by
      have := hsz _ _ hd
      simp only [strs, List.length_map, List.length_take, List.length_drop, reachBytes] at this
      omega
    refine ⟨(zs.take len).map (·.toList), ⟨by simp; omega, hreach, ?_, fun hpos => ?_⟩, hl⟩
    · intro s hs
      obtain ⟨x, hx, rfl⟩ := List.mem_map.1 hs
      have : x.toList.length = x.size := by rw [ByteArray.toList_eq]; simp
      rw [this]
      exact hwz x (List.mem_of_mem_take hx)
    · obtain ⟨b, off, spot⟩ := a
      have hspot : spot = none := by simpa [Addr.add] using World.cell?_spot (hcell 0 (by omega))
      subst hspot
      refine ⟨b, off, rfl, ?_, fun j s hj => ?_⟩
      · have := hcell 0 (by omega)
        rw [add_plain] at this
        exact cell_lt this
      · rw [List.getElem?_map] at hj
        obtain ⟨x, hx, rfl⟩ := Option.map_eq_some_iff.1 hj
        have hjz : zs[j]? = some x := by
          rw [List.getElem?_take] at hx
          split at hx
          · exact hx
          · cases hx
        have hjl : j < zs.length := by
          rcases Nat.lt_or_ge j zs.length with h | h
          · exact h
          · rw [List.getElem?_eq_none h] at hjz; cases hjz
        have := hcell j hjl
        rw [add_plain] at this
        rw [this]
        have hxe : zs.getD j ByteArray.empty = x := by rw [List.getD_eq_getElem?_getD, hjz]; rfl
        rw [hxe]
        show some (Value.string x) = some (Value.string ⟨x.toList.toArray⟩)
        rw [ByteArray.toList_eq]
end Go.Proofs.YthgihoeeppincaaDoor
