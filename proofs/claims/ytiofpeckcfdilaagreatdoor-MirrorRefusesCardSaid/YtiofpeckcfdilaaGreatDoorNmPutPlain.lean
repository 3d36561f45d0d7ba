/- Plain facts on Put: its strings rise strictly, and are those of the list and the new one; that makes it the only such list. -/
import Derived.Test.YtiofpeckcfdilaaGreatDoorNmPut
import Derived.Test.YtiofpeckcfdilaaGreatDoorNmFreshPlain
namespace Go.Proofs.YtiofpeckcfdilaaGreatDoor
open Go.RowKit Go.Sort

abbrev Rises (l : List Str) : Prop := l.Pairwise (· < ·)
theorem lt_of {x y : Str} (h : x ≤ y) (hn : x ≠ y) : x < y := by
  rcases List.le_total y x with k | k
  · exact absurd (List.le_antisymm h k) hn
  · exact List.not_le.1 (fun k' => hn (List.le_antisymm h k'))
theorem sorted_ext : ∀ (l m : List Str), Rises l → Rises m → (∀ x, x ∈ l ↔ x ∈ m) → l = m
  | [], [], _, _, _ => rfl
  | [], y :: m, _, _, h => absurd ((h y).2 (by simp)) (by simp)
  | x :: l, [], _, _, h => absurd ((h x).1 (by simp)) (by simp)
  | x :: l, y :: m, hl, hm, h => by
    have hl' := List.pairwise_cons.1 hl
    have hm' := List.pairwise_cons.1 hm
    have hxy : x = y := by
      rcases List.mem_cons.1 ((h x).1 (by simp)) with e | hx
      · exact e
      · rcases List.mem_cons.1 ((h y).2 (by simp)) with e | hy
        · exact e.symm
        · exact absurd (List.lt_trans (hl'.1 y hy) (hm'.1 x hx)) (List.lt_irrefl x)
    subst hxy
    rw [sorted_ext l m hl'.2 hm'.2 (fun z => ⟨fun hz => by
      rcases List.mem_cons.1 ((h z).1 (by simp [hz])) with e | k
      · subst e; exact absurd (hl'.1 z hz) (List.lt_irrefl z)
      · exact k, fun hz => by
      rcases List.mem_cons.1 ((h z).2 (by simp [hz])) with e | k
      · subst e; exact absurd (hm'.1 z hz) (List.lt_irrefl z)
      · exact k⟩)]

def Up (d : Array Str) : Prop := ∀ i j, i < j → j < d.size → d[i]! ≤ d[j]!
theorem mem_upTo (d : Array Str) (x : Str) : ∀ m, x ∈ Lib.compactUpTo d m ↔ ∃ j, j < m ∧ d[j]! = x
  | 0 => by simp [Lib.compactUpTo]
  | m + 1 => by
    rw [Lib.compactUpTo_succ, List.mem_append, mem_upTo d x m]
    constructor
    · rintro (⟨j, hj, e⟩ | h)
      · exact ⟨j, by omega, e⟩
      · split at h
        · exact ⟨m, by omega, (List.mem_singleton.1 h).symm⟩
        · cases h
    · rintro ⟨j, hj, e⟩
      rcases Nat.lt_or_ge j m with h | h
      · exact .inl ⟨j, h, e⟩
      · obtain rfl : j = m := by omega
        cases hk : Lib.keeps d j
        · have : ¬ (j = 0 ∨ d[j]! ≠ d[j - 1]!) := by simpa [Lib.keeps] using hk
          simp only [not_or, Decidable.not_not] at this
          exact .inl ⟨j - 1, by omega, by rw [← this.2]; exact e⟩
        · exact .inr (by simp [e])
theorem upTo_rises (d : Array Str) (hu : Up d) : ∀ m, m ≤ d.size → Rises (Lib.compactUpTo d m)
  | 0, _ => List.Pairwise.nil
  | m + 1, hm => by
    rw [Lib.compactUpTo_succ]
    refine List.pairwise_append.2 ⟨upTo_rises d hu m (by omega), by split <;> simp, fun y hy z hz => ?_⟩
    cases hk : Lib.keeps d m
    · rw [hk] at hz; cases hz
    · rw [hk] at hz
      obtain rfl := List.mem_singleton.1 hz
      obtain ⟨j, hj, rfl⟩ := (mem_upTo d y m).1 hy
      have hne : d[m]! ≠ d[m - 1]! := by
        have : m = 0 ∨ d[m]! ≠ d[m - 1]! := by simpa [Lib.keeps] using hk
        rcases this with h | h
        · omega
        · exact h
      have h1 : d[j]! ≤ d[m - 1]! := by
        rcases Nat.lt_or_ge j (m - 1) with h | h
        · exact hu j (m - 1) h (by omega)
        · obtain rfl : j = m - 1 := by omega
          exact List.le_refl _
      exact List.lt_of_le_of_lt h1 (lt_of (hu (m - 1) m (by omega) (by omega)) hne.symm)
theorem up_of_pairwise {l : List Str} (h : l.Pairwise (· ≤ ·)) : Up l.toArray := by
  intro i j hij hj
  have hj' : j < l.length := by simpa using hj
  have := List.pairwise_iff_getElem.1 h i j (by omega) hj' hij
  simpa [getElem!_pos, hj', show i < l.length from by omega] using this
theorem sortS_up (ss : List Str) : (sortS ss).Pairwise (· ≤ ·) := by
  have := List.pairwise_mergeSort (le := fun (x y : Str) => decide (x ≤ y)) (fun a b c h k => by
    simp only [decide_eq_true_eq] at *; exact List.le_trans h k) (fun a b => by
    simp only [Bool.or_eq_true, decide_eq_true_eq]; exact List.le_total a b) ss
  exact this.imp (fun h => by simpa using h)
theorem putS_rises (ss : List Str) (s : Str) : Rises (putS ss s) :=
  upTo_rises _ (up_of_pairwise (sortS_up _)) _ (by simp)
theorem mem_putS (ss : List Str) (s x : Str) : x ∈ putS ss s ↔ x ∈ ss ∨ x = s := by
  unfold putS Lib.compact
  rw [mem_upTo]
  have hm : x ∈ sortS (ss ++ [s]) ↔ x ∈ ss ∨ x = s := by
    rw [show x ∈ sortS (ss ++ [s]) ↔ x ∈ ss ++ [s] from (List.mergeSort_perm _ _).mem_iff]; simp
  rw [← hm]
  constructor
  · rintro ⟨j, hj, e⟩
    subst e
    simp [hj]
  · intro h
    obtain ⟨j, hj, e⟩ := List.getElem_of_mem h
    exact ⟨j, hj, by simpa [getElem!_pos, hj] using e⟩
/-- The only list that rises strictly and has just these strings. -/
theorem putS_only {ss l : List Str} {s : Str} (h : Rises l) (hm : ∀ x, x ∈ l ↔ x ∈ ss ∨ x = s) : putS ss s = l :=
  sorted_ext _ _ (putS_rises ss s) h (fun x => by rw [mem_putS, hm])
theorem rises_nodup {l : List Str} (h : Rises l) : l.Nodup := h.imp (fun {a b} hab e => by subst e; exact List.lt_irrefl a hab)
theorem putS_len (ss : List Str) (s : Str) : (putS ss s).length ≤ ss.length + 1 := by
  have := len_of_sub (putS ss s) (ss ++ [s]) (rises_nodup (putS_rises ss s)) (fun x hx => by simpa using (mem_putS ss s x).1 hx)
  simpa using this
theorem twice_of : ∀ (m : List Str), ¬ m.Nodup → ∃ x ∈ m, ∀ y ∈ m, y ∈ m.erase x
  | [], h => absurd List.nodup_nil h
  | a :: t, h => by
    by_cases ha : a ∈ t
    · refine ⟨a, by simp, fun y hy => ?_⟩
      rw [List.erase_cons_head]
      rcases List.mem_cons.1 hy with rfl | hy
      · exact ha
      · exact hy
    · obtain ⟨x, hx, hall⟩ := twice_of t (fun hn => h (List.nodup_cons.2 ⟨ha, hn⟩))
      have hne : a ≠ x := fun e => ha (by rw [e]; exact hx)
      refine ⟨x, by simp [hx], fun y hy => ?_⟩
      rw [List.erase_cons_tail (by simpa using hne)]
      rcases List.mem_cons.1 hy with rfl | hy
      · simp
      · simp [hall y hy]
theorem putS_full (ss : List Str) (s : Str) : (putS ss s).length = ss.length + 1 ↔ ss.Nodup ∧ s ∉ ss := by
  constructor
  · intro h
    have hn : (ss ++ [s]).Nodup := by
      by_cases hn : (ss ++ [s]).Nodup
      · exact hn
      · obtain ⟨x, hx, hall⟩ := twice_of _ hn
        have := len_of_sub (putS ss s) ((ss ++ [s]).erase x) (rises_nodup (putS_rises ss s)) (fun y hy => hall y (by simpa using (mem_putS ss s y).1 hy))
        rw [List.length_erase_of_mem hx, h] at this
        simp at this
        omega
    rw [List.nodup_append] at hn
    exact ⟨hn.1, fun hs => hn.2.2 s hs s (by simp) rfl⟩
  · rintro ⟨h1, h2⟩
    have hn : (ss ++ [s]).Nodup := by
      rw [List.nodup_append]
      exact ⟨h1, by simp, fun a ha b hb e => h2 (by rw [List.mem_singleton] at hb; rw [← hb, ← e]; exact ha)⟩
    have := len_of_sub (ss ++ [s]) (putS ss s) hn (fun x hx => (mem_putS ss s x).2 (by simpa using hx))
    have h3 := putS_len ss s
    simp at this
    omega
end Go.Proofs.YtiofpeckcfdilaaGreatDoor
