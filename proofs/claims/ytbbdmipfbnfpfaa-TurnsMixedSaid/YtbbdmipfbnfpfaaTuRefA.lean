/- Contracts of the reference's typeName, CarriesMay and ArmsMay. -/
import Derived.Test.YtbbdmipfbnfpfaaTuMem
import Derived.RegionTactic
import Derived.BigQuiet
namespace Go.Proofs.Ytbbdmipfbnfpfaa
open Go.RowKit

theorem tu1 (w : World) (o : Obj) : Below w.heap.size w (w.alloc o) := (Below.refl _ w).alloc (Nat.le_refl _) o
/-- A string up to a place; from a place on. -/
theorem run_head {P : Program} (t : TypeId) (ht : P.underlying t = some .string) (s : ByteArray) (H : Nat) (h2 : H ≤ s.size) (W : World) :
    (Instr.slice t (.string s) none (some (.int .i64 (H : Int))) none).run P W = .ok (.string (s.extract 0 H)) W := by
  simp [Instr.slice, run_underlying ht, Instr.sliceBounds, run_sliceBound, *, (by omega : (H : Int) ≤ (s.size : Int))]
theorem run_tail {P : Program} (t : TypeId) (ht : P.underlying t = some .string) (s : ByteArray) (l : Int) (L : Nat) (hl : l = (L : Int)) (h2 : L ≤ s.size) (W : World) :
    (Instr.slice t (.string s) (some (.int .i64 l)) none none).run P W = .ok (.string (s.extract L s.size)) W := by
  subst hl
  simp [Instr.slice, run_underlying ht, Instr.sliceBounds, run_sliceBound, *, (by omega : (L : Int) ≤ (s.size : Int))]
theorem head_list (s : ByteArray) (k : Nat) : (s.extract 0 k).toList = s.toList.take k := by
  rw [ByteArray.toList_eq, ByteArray.toList_eq, ByteArray.data_extract]
  simp [List.extract_eq_take_drop]
theorem tail_list (s : ByteArray) (k : Nat) : (s.extract k s.size).toList = s.toList.drop k := by
  rw [ByteArray.toList_eq, ByteArray.toList_eq, ByteArray.data_extract]
  simp [List.extract_eq_take_drop]
  rw [List.take_of_length_le]
  simp
theorem dot_none {l : Str} (h : dotS l = none) : typeB l = may l := by unfold typeB; rw [h]
theorem dot_some {l a b : Str} (h : dotS l = some (a, b)) : typeB l = (may a && may b) := by unfold typeB; rw [h]
/-- Looking for the first dot, a place on. -/
def DotAt (l : Str) (k : Nat) : Prop := dotS l = (dotS (l.drop k)).map fun p => (l.take k ++ p.1, p.2)
theorem DotAt.start (l : Str) : DotAt l 0 := by
  unfold DotAt
  rw [List.drop_zero, List.take_zero]
  cases dotS l <;> rfl
theorem DotAt.found {s : ByteArray} {k : Nat} (hk : k < s.size) (h : DotAt s.toList k) (hc : s[k] = 46) : dotS s.toList = some (s.toList.take k, s.toList.drop (k + 1)) := by
  unfold DotAt at h
  rw [h, lxDrop s k hk, dotS, if_pos hc]
  simp
theorem DotAt.step {s : ByteArray} {k : Nat} (hk : k < s.size) (h : DotAt s.toList k) (hc : s[k] ≠ 46) : DotAt s.toList (k + 1) := by
  unfold DotAt at h ⊢
  rw [lxDrop s k hk, dotS, if_neg hc] at h
  rw [h, Option.map_map]
  have e : s.toList.take (k + 1) = s.toList.take k ++ [s[k]] := by
    have hd := lxDrop s k hk
    have hl : k < s.toList.length := by rw [len_toList]; exact hk
    rw [List.take_succ_eq_append_getElem hl]
    rw [List.drop_eq_getElem_cons hl] at hd
    injection hd with hd _
    rw [hd]
  rw [e]
  congr 1
  funext p
  simp
theorem DotAt.out {l : Str} {k : Nat} (hk : l.length ≤ k) (h : DotAt l k) : dotS l = none := by
  unfold DotAt at h
  rw [h, List.drop_of_length_le hk]
  rfl

theorem empty_is (u : ByteArray) : (u.toList == []) = u.toList.isEmpty := by cases u.toList <;> rfl
end Go.Proofs.Ytbbdmipfbnfpfaa
