/- A slice of arms that the call makes by append; parts of a slice of arms. -/
import Derived.Test.YtgefhgcpnfbigaaTuRefs
import Derived.Test.YtgefhgcpnfbigaaNmStrs
import Derived.Laws.Cover1
import Derived.Sort.Walk0
namespace Go.Proofs.Ytgefhgcpnfbigaa
open Go.RowKit

/-- An arm as it is laid. -/
structure AR where
  s : ByteArray
  k : Int
  u : ByteArray
  x : Int
def encAR (t : AR) : List Value := [.string t.s, .int .i64 t.k, .string t.u, .int .i64 t.x]
def armR (t : AR) : ArmL := ⟨t.s.toList, t.k, t.u.toList, t.x⟩
def okR (t : AR) : Prop := t.s.size ≤ maxLen ∧ t.u.size ≤ maxLen
/-- The slice at this address holds these arms. -/
def ARow (w : World) (ad : Option Addr) (m : Nat) (l : List ArmL) : Prop :=
  ∃ ts : List AR, ts.length = m ∧ ts.map armR = l ∧ (∀ t ∈ ts, okR t) ∧ (0 < m → ∃ a', ad = some a' ∧ ∀ (j : Nat) (u : Value), (ts.flatMap encAR)[j]? = some u → w.cell? (a'.add j) = some u)
theorem flatA_at : ∀ (l : List AR) (j : Nat) (t : AR), l[j]? = some t → ∀ i, i < 4 → (l.flatMap encAR)[j * 4 + i]? = (encAR t)[i]? := by
  intro l
  induction l with
  | nil => intro j t h; cases h
  | cons x l ih =>
    intro j t h i hi
    rw [List.flatMap_cons]
    cases j with
    | zero =>
      injection h with h
      subst h
      rw [Nat.zero_mul, Nat.zero_add, List.getElem?_append_left hi]
    | succ j =>
      have e : (j + 1) * 4 + i = 4 + (j * 4 + i) := by omega
      rw [e, List.getElem?_append_right (by show 4 ≤ _; omega)]
      show (l.flatMap encAR)[4 + (j * 4 + i) - 4]? = _
      rw [Nat.add_sub_cancel_left]
      exact ih j t h i hi
theorem encARs_len (l : List AR) : (l.flatMap encAR).length = l.length * 4 := by
  induction l with
  | nil => rfl
  | cons t l ih => rw [List.flatMap_cons, List.length_append, ih, List.length_cons]; show 4 + _ = _; omega
theorem encAR_cell {u : Value} {l : List AR} (h : u ∈ l.flatMap encAR) : u.oneCell' = true := by
  obtain ⟨t, _, ht⟩ := List.mem_flatMap.1 h
  unfold encAR at ht
  simp only [List.mem_cons, List.not_mem_nil, or_false] at ht
  rcases ht with rfl | rfl | rfl | rfl <;> rfl
theorem ARow.of_arms {w : World} {bound : Nat} {ad : Option Addr} {m : Nat} {l : List ArmL} (h : Arms w bound ad m l) : ARow w ad m l := by
  have h1 := h.1
  rcases Nat.eq_zero_or_pos m with h0 | h0
  · subst h0
    have hn : l = [] := List.eq_nil_of_length_eq_zero h1
    subst hn
    exact ⟨[], rfl, rfl, by simp, fun h => absurd h (Nat.lt_irrefl 0)⟩
  obtain ⟨b, off, rfl, _, _⟩ := h.2.2 h0
  have each : ∀ i, i < m → ∃ y : AR, l[i]? = some (armR y) ∧ okR y ∧ w.cell? ⟨b, off + i * 4, none⟩ = some (.string y.s) ∧ w.cell? ⟨b, off + i * 4 + 1, none⟩ = some (.int .i64 y.k) ∧ w.cell? ⟨b, off + i * 4 + 2, none⟩ = some (.string y.u) ∧ w.cell? ⟨b, off + i * 4 + 3, none⟩ = some (.int .i64 y.x) := fun i hi => by
    obtain ⟨b', off', s, u, ck, nx, e, _, hx, ⟨q0, q1, q2, q3⟩, hs, hu⟩ := h.at_ hi
    injection e with e
    injection e with e1 e2 _
    subst e1 e2
    exact ⟨⟨s, ck, u, nx⟩, hx, ⟨hs, hu⟩, q0, q1, q2, q3⟩
  haveI : Inhabited AR := ⟨⟨⟨#[]⟩, 0, ⟨#[]⟩, 0⟩⟩
  obtain ⟨f, hf⟩ := Go.Deep.choose_lt each
  refine ⟨(List.range m).map f, by simp, ?_, fun t ht => ?_, fun _ => ⟨_, rfl, fun j u hu => ?_⟩⟩
  · refine List.ext_getElem? fun i => ?_
    rw [List.map_map, List.getElem?_map]
    rcases Nat.lt_or_ge i m with hi | hi
    · rw [List.getElem?_range hi, (hf i hi).1]; rfl
    · rw [List.getElem?_eq_none (by simpa using hi), List.getElem?_eq_none (by omega)]; rfl
  · obtain ⟨i, hi, rfl⟩ := List.mem_map.1 ht
    exact (hf i (List.mem_range.1 hi)).2.1
  · have hj : j < m * 4 := by
      obtain ⟨h2, _⟩ := List.getElem?_eq_some_iff.1 hu
      rw [encARs_len] at h2
      simpa using h2
    have hjm : j / 4 < m := by omega
    have ht : ((List.range m).map f)[j / 4]? = some (f (j / 4)) := by rw [List.getElem?_map, List.getElem?_range hjm]; rfl
    have hu2 := flatA_at _ (j / 4) _ ht (j % 4) (by omega)
    rw [show j / 4 * 4 + j % 4 = j by omega] at hu2
    have hu3 : (encAR (f (j / 4)))[j % 4]? = some u := hu2.symm.trans hu
    obtain ⟨_, _, c0, c1, c2, c3⟩ := hf (j / 4) hjm
    rw [Go.WideShapes.add_plain]
    have hj4 : j % 4 = 0 ∨ j % 4 = 1 ∨ j % 4 = 2 ∨ j % 4 = 3 := by omega
    rcases hj4 with e | e | e | e
    · rw [e] at hu3; rw [show off + j = off + j / 4 * 4 by omega, c0]; exact hu3
    · rw [e] at hu3; rw [show off + j = off + j / 4 * 4 + 1 by omega, c1]; exact hu3
    · rw [e] at hu3; rw [show off + j = off + j / 4 * 4 + 2 by omega, c2]; exact hu3
    · rw [e] at hu3; rw [show off + j = off + j / 4 * 4 + 3 by omega, c3]; exact hu3
section
variable {w : World} {bound : Nat} {a : Option Addr} {n : Nat} {l : List ArmL}
theorem Arms.cut (h : Arms w bound a n l) {k : Nat} (hk : k ≤ n) : Arms w bound a k (l.take k) := by
  refine ⟨by rw [List.length_take, h.1]; omega, by have := h.2.1; omega, fun h0 => ?_⟩
  obtain ⟨b, off, e, hb, hc⟩ := h.2.2 (by omega)
  exact ⟨b, off, e, hb, fun j s hs => hc j s (by
    rw [List.getElem?_take] at hs
    split at hs
    · exact hs
    · cases hs)⟩
/-- .. and from place k on, of a slice that is not nil. -/
theorem Arms.drop {b off : Nat} (h : Arms w bound (some ⟨b, off, none⟩) n l) {k : Nat} (hk : k ≤ n) : Arms w bound (some ⟨b, off + k * 4, none⟩) (n - k) (l.drop k) := by
  refine ⟨by rw [List.length_drop, h.1], by have := h.2.1; omega, fun h0 => ?_⟩
  obtain ⟨b', off', e, hb, hcell⟩ := h.2.2 (by omega)
  injection e with e
  injection e with e1 e2 _
  subst e1 e2
  refine ⟨b, off + k * 4, rfl, hb, fun j s hs => ?_⟩
  rw [List.getElem?_drop] at hs
  have := hcell _ s hs
  rwa [Nat.add_mul, ← Nat.add_assoc] at this
end
end Go.Proofs.Ytgefhgcpnfbigaa

/- Contract of the reference's Sorted. -/
namespace Go.Proofs.Ytgefhgcpnfbigaa
open Go.RowKit Go.Sort

theorem sortA_step {l : List ArmL} {j : Nat} {x : ArmL} (h : l[j]? = some x) : sortA (l.take (j + 1)) = insA x (sortA (l.take j)) := by
  rw [tuTake_at h]
  unfold sortA
  rw [List.foldl_append]
  rfl
theorem insA_at {x : ArmL} : ∀ {o : List ArmL} {k : Nat}, k ≤ o.length → (∀ y ∈ o.take k, ¬ x.label < y.label) → (∀ y ∈ o.drop k, x.label < y.label) → insA x o = o.take k ++ [x] ++ o.drop k
  | [], k, _, _, _ => by simp [insA]
  | b :: r, 0, _, _, hhi => by
    rw [insA, if_pos (hhi b (by simp))]
    rfl
  | b :: r, k + 1, hk, hlo, hhi => by
    rw [insA, if_neg (hlo b (by simp))]
    rw [insA_at (o := r) (k := k) (by simpa using hk) (fun y hy => hlo y (by simp [hy])) (fun y hy => hhi y (by simpa using hy))]
    simp
theorem low_of {x y : ArmL} {o : List ArmL} {k : Nat} (hu : UpA o) (hy : o[k]? = some y) (hn : ¬ x.label < y.label) : ∀ z ∈ o.take (k + 1), ¬ x.label < z.label := by
  intro z hz hlt
  rw [tuTake_at hy, List.mem_append, List.mem_singleton] at hz
  rcases hz with hz | rfl
  · obtain ⟨i, hi, rfl⟩ := List.mem_iff_getElem.1 hz
    rw [List.length_take] at hi
    obtain ⟨hk, e⟩ := List.getElem?_eq_some_iff.1 hy
    have := List.pairwise_iff_getElem.1 hu i k (by omega) hk (by omega)
    rw [e] at this
    rw [List.getElem_take] at hlt
    exact hn (List.not_le.1 fun hc => absurd hlt (List.not_lt.2 (List.le_trans this hc)))
  · exact hn hlt
theorem high_step {x y : ArmL} {o : List ArmL} {k : Nat} (hy : o[k]? = some y) (hlt : x.label < y.label) (h : ∀ z ∈ o.drop (k + 1), x.label < z.label) : ∀ z ∈ o.drop k, x.label < z.label := by
  intro z hz
  obtain ⟨hk, e⟩ := List.getElem?_eq_some_iff.1 hy
  rw [List.drop_eq_getElem_cons hk, e, List.mem_cons] at hz
  rcases hz with rfl | hz
  · exact hlt
  · exact h z hz
theorem greater_yes {y s : Str} (h : (!Op.bytesLess y s && !y == s) = true) : s < y := by
  rw [Bool.and_eq_true, bytesLess_eq] at h
  simp only [Bool.not_eq_true', decide_eq_false_iff_not, beq_eq_false_iff_ne] at h
  exact List.not_le.1 fun hc => h.2 (List.le_antisymm hc (List.not_lt.1 h.1))
theorem greater_no {y s : Str} (h : (!Op.bytesLess y s && !y == s) = false) : ¬ s < y := by
  intro hlt
  rw [Bool.and_eq_false_iff, bytesLess_eq] at h
  simp only [Bool.not_eq_false', decide_eq_true_eq, beq_iff_eq] at h
  rcases h with h | h
  · exact List.lt_irrefl _ (List.lt_trans hlt h)
  · subst h; exact List.lt_irrefl _ hlt
theorem sortA_len (l : List ArmL) : (sortA l).length = l.length := (sortA_perm l).length_eq

end Go.Proofs.Ytgefhgcpnfbigaa
