/- What every row of this seat needs: the listed variables hold at the start, a world in which they do. -/
import Derived.Test.YtifinfmdjbglhaaDoorRows
import Derived.Test.YtifinfmdjbglhaaDoorLxOwnC
import Derived.WalkKit
import Derived.ProofKit
import Derived.LaidMore
import Derived.OpenShut
import Derived.ChangeOld
import Derived.SizedLaws
import Derived.SliceStrings
import Derived.Stop.Joined
import Derived.Stop.LaidErr
namespace Go.Proofs.YtifinfmdjbglhaaDoor
open Go.ChangeShapes Go.WideShapes Go.ChangeAt Go.RowKit Go.Sort

theorem seatOwn : ownKnob Tryd.prog.godebug = none := by kernel_rfl
theorem seatLaidOut : laidOutB Tryd.prog = true := by kernel_rfl
theorem door_met (os : Os) (args : Array Value) : laidMetH Tryd.prog Rows.lexQuotesRow.laid ((World.doorLaid Tryd.prog 4000 os).forCall (fun _ _ => 0) ⟨#[], args, []⟩).memory :=
  laidMetH_of_parts3 (fuel := 8) (laidMet_of_run' 8 (by kernel_rfl) (by kernel_rfl)) (by kernel_rfl) (by kernel_rfl)
theorem errStar : "*" ++ "errors.errorString" = "*errors.errorString" := by decide
theorem errRow (u : TypeId) (h : Tryd.prog.typeName? 3 u = some "*errors.errorString") : u = 91 :=
  typeName_ptr_named (nm := "errors.errorString") (by rw [errStar]; kernel_rfl) (by kernel_rfl) (by decide) u (by rw [errStar]; exact h)
theorem cell_lt2 {w : World} {a : Addr} {v : Value} (h : w.cell? a = some v) : a.block < w.heap.size := by
  rcases Nat.lt_or_ge a.block w.heap.size with hlt | hge
  · exact hlt
  · unfold World.cell? at h
    rw [Array.getElem?_eq_none hge] at h
    cases h
theorem errCell_of {W : World} (h : laidMetH Tryd.prog Rows.lexQuotesRow.laid W) : ErrCell W := by
  have h1 : laidMet Tryd.prog Rows.lexQuotesRow.laid W := h
  have h2 := h1.tail.tail.tail
  have hg : Tryd.prog.globalNamed "strconv.ErrRange" = some 2 := by kernel_rfl
  have ht : (Tryd.prog.globals[2]?).map (·.type) = some 61 := by kernel_rfl
  obtain ⟨a, s, hv, _⟩ := laid_sentinel h2 hg ht Tryd.underlying61 errRow Tryd.underlying91 Tryd.underlying93 rfl rfl Tryd.underlying9 (by kernel_rfl) (by kernel_rfl)
  have hc := World.var?_cell hg hv 0
  have hc' : W.cell? ⟨2, 0, none⟩ = some (.iface 91 (.pointer (some a))) := by simpa using hc
  exact ⟨cell_lt2 hc', _, _, hc'⟩
end Go.Proofs.YtifinfmdjbglhaaDoor
