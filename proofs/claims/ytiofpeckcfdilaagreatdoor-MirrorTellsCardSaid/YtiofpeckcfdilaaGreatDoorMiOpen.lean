/- What a session type of the arguments is, its name's length too. -/
import Derived.Test.YtiofpeckcfdilaaGreatDoorTuOpens
namespace Go.Proofs.YtiofpeckcfdilaaGreatDoor
open Go Go.ChangeShapes Go.WideShapes Go.ChangeAt Go.RowKit

set_option maxRecDepth 100000 in
theorem open_localN {H : Type} {enc : TypeId × Value → H} {W : World} {b0 : Nat} {v : Value} {d : DataW H} {p : List MemPlace} (hv : Value.okWide Tryz.prog W .any b0 24 v)
    (h : DataW.Trod enc Tryz.prog W 0 (fun _ => true) true 24 v d p) : ∃ (nm : ByteArray) (a : Option Addr) (n c : Nat) (ts : List TurnL), v = .agg #[.string nm, .slice a n c] ∧ Turns W W.heap.size a n ts ∧ nm.size ≤ maxLen := by
  obtain ⟨cs, rfl, hsz⟩ := okWide_struct Tryz.underlying24 hv
  obtain ⟨fuel, hf⟩ := h
  have hf2 : DataW.trod enc Tryz.prog W 0 (fun _ => true) true fuel 24 cs.toList = some (d, p) := hf
  obtain ⟨l⟩ := cs
  obtain ⟨z0, z1, n2, _, hl2, k0, k1⟩ := trod_struct2 Tryz.underlying24 hf2
  rw [local_cells] at hl2
  obtain ⟨v0, v1, rfl⟩ := tuList2 hl2
  have m0 : DataW.trod enc Tryz.prog W 0 (fun _ => true) true n2 9 (([v0, v1].drop 0).take (Tryz.prog.cellsOf 9)) = some z0 := k0
  have m1 : DataW.trod enc Tryz.prog W 0 (fun _ => true) true n2 22 (([v0, v1].drop 1).take (Tryz.prog.cellsOf 22)) = some z1 := k1
  rw [seatCells9] at m0
  rw [turnS_cells] at m1
  simp only [List.drop_zero, List.drop_succ_cons, List.take_succ_cons, List.take_zero] at m0 m1
  obtain ⟨s, e0, _, hs⟩ := DataW.trod_string Tryz.underlying9 m0
  obtain ⟨a, n, c, ts, e1, ht⟩ := open_turns m1
  injection e0 with e0 _
  subst e0 e1
  exact ⟨s, a, n, c, ts, rfl, ht, hs⟩
end Go.Proofs.YtiofpeckcfdilaaGreatDoor
