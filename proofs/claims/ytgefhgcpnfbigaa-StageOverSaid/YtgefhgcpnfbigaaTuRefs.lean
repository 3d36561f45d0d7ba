/- Contracts of the reference's typeName, CarriesMay and ArmsMay. -/
import Derived.Test.YtgefhgcpnfbigaaTuPlains
import Derived.RegionTactic
import Derived.BigQuiet
namespace Go.Proofs.Ytgefhgcpnfbigaa
open Go.RowKit

theorem tu1 (w : World) (o : Obj) : Below w.heap.size w (w.alloc o) := (Below.refl _ w).alloc (Nat.le_refl _) o
/-- A string up to a place; from a place on. -/
theorem run_head {P : Program} (t : TypeId) (ht : P.underlying t = some .string) (s : ByteArray) (H : Nat) (h2 : H ≤ s.size) (W : World) :
    (Instr.slice t (.string s) none (some (.int .i64 (H : Int))) none).run P W = .ok (.string (s.extract 0 H)) W := by
  simp [Instr.slice, run_underlying ht, Instr.sliceBounds, run_sliceBound, *, (by omega : (H : Int) ≤ (s.size : Int))]
theorem run_tail {P : Program} (t : TypeId) (ht : P.underlying t = some .string) (s : ByteArray) (l : Int) (L : Nat) (hl : l = (L : Int)) (h2 : L ≤ s.size) (W : World) :
    (Instr.slice t (.string s) (some (.int .i64 l)) none none).run P W = .ok (.string (s.extract L s.size)) W := by
  subst hl
  simp [Instr.slice, run_underlying ht, Instr.sliceBounds, run_sliceBound, *, (by omega : (L : Int) ≤ (s.size : Int))]
theorem head_list (s : ByteArray) (k : Nat) : (s.extract 0 k).toList = s.toList.take k := by
  rw [ByteArray.toList_eq, ByteArray.toList_eq, ByteArray.data_extract]
  simp [List.extract_eq_take_drop]
theorem tail_list (s : ByteArray) (k : Nat) : (s.extract k s.size).toList = s.toList.drop k := by
  rw [ByteArray.toList_eq, ByteArray.toList_eq, ByteArray.data_extract]
  simp [List.extract_eq_take_drop]
  rw [List.take_of_length_le]
  simp
theorem dot_none {l : Str} (h : dotS l = none) : typeB l = may l := by unfold typeB; rw [h]
theorem dot_some {l a b : Str} (h : dotS l = some (a, b)) : typeB l = (may a && may b) := by unfold typeB; rw [h]
/-- Looking for the first dot, a place on. -/
def DotAt (l : Str) (k : Nat) : Prop := dotS l = (dotS (l.drop k)).map fun p => (l.take k ++ p.1, p.2)
theorem DotAt.start (l : Str) : DotAt l 0 := by
  unfold DotAt
  rw [List.drop_zero, List.take_zero]
  cases dotS l <;> rfl
theorem DotAt.found {s : ByteArray} {k : Nat} (hk : k < s.size) (h : DotAt s.toList k) (hc : s[k] = 46) : dotS s.toList = some (s.toList.take k, s.toList.drop (k + 1)) := by
  unfold DotAt at h
  rw [h, lxDrop s k hk, dotS, if_pos hc]
  simp
theorem DotAt.step {s : ByteArray} {k : Nat} (hk : k < s.size) (h : DotAt s.toList k) (hc : s[k] ≠ 46) : DotAt s.toList (k + 1) := by
  unfold DotAt at h ⊢
  rw [lxDrop s k hk, dotS, if_neg hc] at h
  rw [h, Option.map_map]
  have e : s.toList.take (k + 1) = s.toList.take k ++ [s[k]] := by
    have hd := lxDrop s k hk
    have hl : k < s.toList.length := by rw [len_toList]; exact hk
    rw [List.take_succ_eq_append_getElem hl]
    rw [List.drop_eq_getElem_cons hl] at hd
    injection hd with hd _
    rw [hd]
  rw [e]
  congr 1
  funext p
  simp
theorem DotAt.out {l : Str} {k : Nat} (hk : l.length ≤ k) (h : DotAt l k) : dotS l = none := by
  unfold DotAt at h
  rw [h, List.drop_of_length_le hk]
  rfl

theorem empty_is (u : ByteArray) : (u.toList == []) = u.toList.isEmpty := by cases u.toList <;> rfl
end Go.Proofs.Ytgefhgcpnfbigaa

/- Contract of the reference's ArmsMay. -/
namespace Go.Proofs.Ytgefhgcpnfbigaa
open Go.RowKit

theorem armsB_bad {n : Nat} {l : List ArmL} {i : Nat} {x : ArmL} (h : l[i]? = some x) (hx : armB n x = false) : armsB n l = false := by
  unfold armsB
  have : l.all (armB n) = false := by
    rw [List.all_eq_false]
    exact ⟨x, List.mem_of_getElem? h, by rw [hx]; decide⟩
  rw [this]
  rfl
theorem armsB_twice {n : Nat} {l : List ArmL} {i k : Nat} {x y : ArmL} (hk : k < i) (h : l[i]? = some x) (h' : l[k]? = some y) (e : y.label = x.label) : armsB n l = false := by
  unfold armsB
  have : decide ((l.map ArmL.label).Nodup) = false := by
    rw [decide_eq_false_iff_not]
    intro hn
    obtain ⟨h1, e1⟩ := List.getElem?_eq_some_iff.1 h
    obtain ⟨h2, e2⟩ := List.getElem?_eq_some_iff.1 h'
    have := (List.pairwise_iff_getElem.1 hn) k i (by rw [List.length_map]; omega) (by rw [List.length_map]; exact h1) hk
    rw [List.getElem_map, List.getElem_map, e1, e2] at this
    exact this e
  rw [this, Bool.and_false]
  rfl
theorem armsB_end {n : Nat} {l : List ArmL} (h1 : ∀ a ∈ l, armB n a = true) (h2 : (l.map ArmL.label).Nodup) : armsB n l = (decide (1 ≤ (l.length : Int)) && decide ((l.length : Int) ≤ 6)) := by
  unfold armsB
  rw [List.all_eq_true.2 h1, decide_eq_true h2, Bool.true_and, Bool.true_and, Bool.eq_iff_iff]
  simp only [Bool.and_eq_true, decide_eq_true_eq]
  omega
/-- The arms so far are valid, and their labels differ. -/
def ArmsGood (n : Nat) (l : List ArmL) (i : Nat) : Prop := (∀ a ∈ l.take i, armB n a = true) ∧ ((l.take i).map ArmL.label).Nodup
theorem tuTake_at {α : Type} {l : List α} {k : Nat} {x : α} (h : l[k]? = some x) : l.take (k + 1) = l.take k ++ [x] := by
  obtain ⟨h1, e⟩ := List.getElem?_eq_some_iff.1 h
  rw [List.take_succ_eq_append_getElem h1, e]
theorem ArmsGood.step {n : Nat} {l : List ArmL} {i : Nat} {x : ArmL} (h : ArmsGood n l i) (hx : l[i]? = some x) (hg : armB n x = true) (hd : ∀ y ∈ l.take i, y.label ≠ x.label) : ArmsGood n l (i + 1) := by
  unfold ArmsGood
  rw [tuTake_at hx]
  refine ⟨fun a ha => ?_, ?_⟩
  · rcases List.mem_append.1 ha with ha | ha
    · exact h.1 a ha
    · rw [List.mem_singleton.1 ha]; exact hg
  · rw [List.map_append, List.nodup_append]
    refine ⟨h.2, by simp, fun a ha b hb e => ?_⟩
    obtain ⟨y, hy, rfl⟩ := List.mem_map.1 ha
    rw [List.map_cons, List.map_nil, List.mem_singleton] at hb
    exact hd y hy (e.trans hb)
theorem armB_ways {n : Nat} (s u : Str) (k x : Int) : armB n ⟨s, k, u, x⟩ = (may s && carriesB k u && decide (0 ≤ x) && decide (x < (n : Int))) := rfl

end Go.Proofs.Ytgefhgcpnfbigaa

/- Contract of the reference's LocalMay. -/
namespace Go.Proofs.Ytgefhgcpnfbigaa
open Go.RowKit

theorem locB_short {ts : List TurnL} (h : ts.length < 1 ∨ 40 < ts.length) : locB ts = false := by
  unfold locB
  rcases h with h | h
  · rw [decide_eq_false (show ¬ 1 ≤ ts.length by omega)]; rfl
  · rw [decide_eq_false (show ¬ ts.length ≤ 40 by omega), Bool.and_false]; rfl
theorem locB_bad {ts : List TurnL} {i : Nat} {t : TurnL} (h : ts[i]? = some t) (ht : turnB ts.length t = false) : locB ts = false := by
  unfold locB
  have : ts.all (turnB ts.length) = false := by
    rw [List.all_eq_false]
    exact ⟨t, List.mem_of_getElem? h, by rw [ht]; decide⟩
  rw [this, Bool.and_false]
theorem locB_end {ts : List TurnL} (h1 : 1 ≤ ts.length) (h2 : ts.length ≤ 40) (h : ∀ t ∈ ts, turnB ts.length t = true) : locB ts = true := by
  unfold locB
  rw [decide_eq_true h1, decide_eq_true h2, List.all_eq_true.2 h]
  rfl
theorem turns_step {n : Nat} {ts : List TurnL} {i : Nat} {t : TurnL} (h : ∀ t ∈ ts.take i, turnB n t = true) (ht : ts[i]? = some t) (hg : turnB n t = true) : ∀ t ∈ ts.take (i + 1), turnB n t = true := by
  intro x hx
  rw [tuTake_at ht, List.mem_append, List.mem_singleton] at hx
  rcases hx with hx | rfl
  · exact h x hx
  · exact hg
end Go.Proofs.Ytgefhgcpnfbigaa
