/- TermNumbers in plain words: what each round evaluates to; quotient and remainder. -/
import Derived.Test.YthchilnibblbgaaTmLawX
namespace Go.Proofs.Ythchilnibblbgaa
open Go.RowKit

def kindN (i : Nat) : Int := ([6, 7, 8, 9, 10, 12] : List Int).getD i 0
def rowN (a b : Int) (i : Nat) : List Trm := [numT a, numT b, twoT (kindN i) 0 1]
theorem num_val (a : Int) (env : List (Str × Val)) : leafV env (numT a) = (intV a, 0) := rfl
/-- What the round i of the law evaluates to. -/
theorem numRow_val (a b : Int) {i : Nat} (hi : i < 6) : evalF (rowN a b i) 2 [] = calcV (kindN i) a b := by
  have hk : kindN i = 6 ∨ kindN i = 7 ∨ kindN i = 8 ∨ kindN i = 9 ∨ kindN i = 10 ∨ kindN i = 12 := by
    rcases i with _ | _ | _ | _ | _ | _ | i <;> first | (exfalso; omega) | simp [kindN]
  have ha : arT (kindN i) = 2 := by rcases hk with h | h | h | h | h | h <;> rw [h] <;> rfl
  unfold rowN
  rw [evalF_two _ (sound_num a) rfl (sound_num b) rfl ha (by omega) (by omega)]
  simp only [evalE, num_val, if_true, twoT]
  rcases hk with h | h | h | h | h | h <;> rw [h] <;> rfl
theorem wrap_mul (x y : Int) : wrap64 (wrap64 x * y) = wrap64 (x * y) := by
  obtain ⟨t, ht⟩ : ∃ t, wrap64 x = x + 18446744073709551616 * t := ⟨-((x + 9223372036854775808) / 18446744073709551616), by unfold wrap64; omega⟩
  rw [ht, Int.add_mul, Int.mul_assoc]
  generalize t * y = u
  generalize x * y = v
  unfold wrap64
  omega
theorem wrap_plus (x y : Int) : wrap64 (wrap64 x + y) = wrap64 (x + y) := by unfold wrap64; omega
/-- Quotient and remainder, the quotient and the sum wrapped around, give the dividend back. -/
theorem div_back {a b : Int} (ha : -9223372036854775808 ≤ a ∧ a ≤ 9223372036854775807) : wrap64 (wrap64 (wrap64 (a.tdiv b) * b) + a.tmod b) = a := by
  rw [wrap_mul, wrap_plus, Int.mul_comm, Int.mul_tdiv_add_tmod]
  unfold wrap64
  omega
/-- The remainder has the dividend's sign, and is smaller than the divisor. -/
theorem mod_sign {a b : Int} : a.tmod b = 0 ∨ decide (a.tmod b < 0) = decide (a < 0) := by
  rcases Int.lt_or_le a 0 with h | h
  · have h0 := Int.tmod_nonneg b (a := -a) (by omega)
    rw [Int.neg_tmod] at h0
    rcases Int.lt_or_le (a.tmod b) 0 with h1 | h1
    · exact .inr (by rw [decide_eq_true h1, decide_eq_true h])
    · exact .inl (by omega)
  · have h1 := Int.tmod_nonneg b h
    exact .inr (by rw [decide_eq_false (by omega), decide_eq_false (by omega)])
theorem mod_small {a b : Int} (hb : b ≠ 0) : (a.tmod b > 0 ∧ (b > 0 ∧ a.tmod b < b ∨ b < 0 ∧ a.tmod b ≤ -(b + 1))) ∨ (a.tmod b ≤ 0 ∧ (b > 0 ∧ a.tmod b > -b ∨ b < 0 ∧ a.tmod b > b)) := by
  rcases Int.lt_or_le 0 b with h | h
  · have h1 := Int.tmod_lt_of_pos a h
    have h2 := Int.lt_tmod_of_pos a h
    omega
  · have h1 := Int.tmod_lt_of_pos a (b := -b) (by omega)
    have h2 := Int.lt_tmod_of_pos a (b := -b) (by omega)
    rw [Int.tmod_neg] at h1 h2
    omega

/-- What the law holds after i rounds: values, errors and kinds, in three blocks. -/
def GotN (W : World) (a b : Int) (g h k i : Nat) : Prop :=
  (∃ cs, W.heap[g]? = some (.cells cs 58 (0, 0)) ∧ cs.size = 24 ∧ ∀ j, j < i → cs[j * 4]? = some (.int .i64 (calcV (kindN j) a b).1.kind) ∧ cs[j * 4 + 1]? = some (.int .i64 (calcV (kindN j) a b).1.num)) ∧
  (∃ es, W.heap[h]? = some (.cells es 59 (0, 0)) ∧ es.size = 6 ∧ ∀ j, j < i → es[j]? = some (.int .i64 (calcV (kindN j) a b).2)) ∧
  W.heap[k]? = some (.cells #[.int .i64 6, .int .i64 7, .int .i64 8, .int .i64 9, .int .i64 10, .int .i64 12] 3 (0, 0))
theorem GotN.on {W W' : World} {a b : Int} {g h k i : Nat} (H : GotN W a b g h k i) (hb : Below W.heap.size W W') : GotN W' a b g h k i := by
  obtain ⟨⟨cs, hc, c1, c2⟩, ⟨es, he, e1, e2⟩, hk⟩ := H
  have lt : ∀ {x : Nat} {o : Obj}, W.heap[x]? = some o → x < W.heap.size := fun {x o} h => by
    rcases Nat.lt_or_ge x W.heap.size with h1 | h1
    · exact h1
    · rw [Array.getElem?_eq_none h1] at h; cases h
  exact ⟨⟨cs, (hb.block _ (lt hc)).trans hc, c1, c2⟩, ⟨es, (hb.block _ (lt he)).trans he, e1, e2⟩, (hb.block _ (lt hk)).trans hk⟩
theorem GotN.start (w1 : World) (a b : Int) (cs es ks : Array Value) (h1 : cs.size = 24) (h2 : es.size = 6) (h3 : ks = #[.int .i64 6, .int .i64 7, .int .i64 8, .int .i64 9, .int .i64 10, .int .i64 12]) :
    GotN (((w1.alloc (.cells cs 58)).alloc (.cells es 59)).alloc (.cells ks 3)) a b w1.heap.size (w1.heap.size + 1) (w1.heap.size + 2) 0 := by
  subst h3
  have s1 : (w1.alloc (.cells cs 58)).heap.size = w1.heap.size + 1 := by simp
  have s2 : ((w1.alloc (.cells cs 58)).alloc (.cells es 59)).heap.size = w1.heap.size + 2 := by simp
  refine ⟨⟨cs, ?_, h1, fun j hj => absurd hj (Nat.not_lt_zero _)⟩, ⟨es, ?_, h2, fun j hj => absurd hj (Nat.not_lt_zero _)⟩, ?_⟩
  · exact ((next_alloc _ _).block _ (by rw [s2]; omega)).trans (((next_alloc _ _).block _ (by rw [s1]; omega)).trans (heap_alloc_new w1 _))
  · exact ((next_alloc _ _).block _ (by rw [s2]; omega)).trans (by have := heap_alloc_new (w1.alloc (.cells cs 58)) (.cells es 59); rw [s1] at this; exact this)
  · have := heap_alloc_new ((w1.alloc (.cells cs 58)).alloc (.cells es 59)) (.cells #[.int .i64 6, .int .i64 7, .int .i64 8, .int .i64 9, .int .i64 10, .int .i64 12] 3)
    rw [s2] at this
    exact this
theorem GotN.kind {W : World} {a b : Int} {g h k i : Nat} (H : GotN W a b g h k i) {j : Nat} (hj : j < 6) : W.cell? ⟨k, j, none⟩ = some (.int .i64 (kindN j)) := by
  rw [cell_of_row _ _ _ _ _ _ H.2.2]
  rcases j with _ | _ | _ | _ | _ | _ | j <;> first | (exfalso; omega) | rfl
/-- Each place of the two arrays may be read and is not frozen. -/
theorem GotN.slot {W : World} {a b : Int} {g h k i : Nat} (H : GotN W a b g h k i) {j : Nat} (hj : j < 24) : (∃ v, W.cell? ⟨g, j, none⟩ = some v) ∧ W.frozen? ⟨g, j, none⟩ = false := by
  obtain ⟨⟨cs, hc, c1, _⟩, _, _⟩ := H
  refine ⟨⟨_, by rw [cell_of_row _ _ _ _ _ _ hc, Array.getElem?_eq_getElem (by omega)]⟩, by unfold World.frozen?; rw [hc]; rfl⟩
theorem GotN.eslot {W : World} {a b : Int} {g h k i : Nat} (H : GotN W a b g h k i) {j : Nat} (hj : j < 6) : (∃ v, W.cell? ⟨h, j, none⟩ = some v) ∧ W.frozen? ⟨h, j, none⟩ = false := by
  obtain ⟨_, ⟨es, he, e1, _⟩, _⟩ := H
  refine ⟨⟨_, by rw [cell_of_row _ _ _ _ _ _ he, Array.getElem?_eq_getElem (by omega)]⟩, by unfold World.frozen?; rw [he]; rfl⟩
theorem setN_heap {W : World} {cs : Array Value} {g o : Nat} {ty : TypeId} (h : W.heap[g]? = some (.cells cs ty (0, 0))) (u : Value) : (W.setCell ⟨g, o, none⟩ u).heap[g]? = some (.cells (cs.setIfInBounds o u) ty (0, 0)) := by
  have hlt := lt_of_block h
  have h' : W.heap[g] = .cells cs ty (0, 0) := by simpa [Array.getElem?_eq_getElem hlt] using h
  show (W.heap.modify g _)[g]? = _
  rw [Array.getElem?_eq_getElem (by simpa using hlt), Array.getElem_modify_self, h']
  rfl
/-- A round more: the value is laid at the round's place, and its error at the other array's. -/
theorem GotN.step {W : World} {a b : Int} {g h k i : Nat} (H : GotN W a b g h k i) (hi : i < 6) (n1 : g ≠ h) (n2 : g ≠ k) (n3 : h ≠ k) (u2 u3 : Value) :
    GotN (((((W.setCell ⟨g, i * 4, none⟩ (.int .i64 (calcV (kindN i) a b).1.kind)).setCell ⟨g, i * 4 + 1, none⟩ (.int .i64 (calcV (kindN i) a b).1.num)).setCell ⟨g, i * 4 + 2, none⟩ u2).setCell ⟨g, i * 4 + 3, none⟩ u3).setCell ⟨h, i, none⟩ (.int .i64 (calcV (kindN i) a b).2)) a b g h k (i + 1) := by
  obtain ⟨⟨cs, hc, c1, c2⟩, ⟨es, he, e1, e2⟩, hk⟩ := H
  have hg := (Below.heap_setCell (((((W.setCell ⟨g, i * 4, none⟩ (.int .i64 (calcV (kindN i) a b).1.kind)).setCell ⟨g, i * 4 + 1, none⟩ (.int .i64 (calcV (kindN i) a b).1.num)).setCell ⟨g, i * 4 + 2, none⟩ u2).setCell ⟨g, i * 4 + 3, none⟩ u3)) ⟨h, i, none⟩ (.int .i64 (calcV (kindN i) a b).2) g n1).trans
    (setN_heap (setN_heap (setN_heap (setN_heap hc (.int .i64 (calcV (kindN i) a b).1.kind)) (.int .i64 (calcV (kindN i) a b).1.num)) u2) u3)
  have he4 := ((Below.heap_setCell ((((W.setCell ⟨g, i * 4, none⟩ (.int .i64 (calcV (kindN i) a b).1.kind)).setCell ⟨g, i * 4 + 1, none⟩ (.int .i64 (calcV (kindN i) a b).1.num)).setCell ⟨g, i * 4 + 2, none⟩ u2)) ⟨g, i * 4 + 3, none⟩ u3 h (Ne.symm n1)).trans ((Below.heap_setCell (((W.setCell ⟨g, i * 4, none⟩ (.int .i64 (calcV (kindN i) a b).1.kind)).setCell ⟨g, i * 4 + 1, none⟩ (.int .i64 (calcV (kindN i) a b).1.num))) ⟨g, i * 4 + 2, none⟩ u2 h (Ne.symm n1)).trans ((Below.heap_setCell ((W.setCell ⟨g, i * 4, none⟩ (.int .i64 (calcV (kindN i) a b).1.kind))) ⟨g, i * 4 + 1, none⟩ (.int .i64 (calcV (kindN i) a b).1.num) h (Ne.symm n1)).trans ((Below.heap_setCell W ⟨g, i * 4, none⟩ (.int .i64 (calcV (kindN i) a b).1.kind) h (Ne.symm n1)).trans he))))
  have hk4 := ((Below.heap_setCell (((((W.setCell ⟨g, i * 4, none⟩ (.int .i64 (calcV (kindN i) a b).1.kind)).setCell ⟨g, i * 4 + 1, none⟩ (.int .i64 (calcV (kindN i) a b).1.num)).setCell ⟨g, i * 4 + 2, none⟩ u2)).setCell ⟨g, i * 4 + 3, none⟩ u3) ⟨h, i, none⟩ (.int .i64 (calcV (kindN i) a b).2) k (Ne.symm n3)).trans ((Below.heap_setCell ((((W.setCell ⟨g, i * 4, none⟩ (.int .i64 (calcV (kindN i) a b).1.kind)).setCell ⟨g, i * 4 + 1, none⟩ (.int .i64 (calcV (kindN i) a b).1.num)).setCell ⟨g, i * 4 + 2, none⟩ u2)) ⟨g, i * 4 + 3, none⟩ u3 k (Ne.symm n2)).trans ((Below.heap_setCell (((W.setCell ⟨g, i * 4, none⟩ (.int .i64 (calcV (kindN i) a b).1.kind)).setCell ⟨g, i * 4 + 1, none⟩ (.int .i64 (calcV (kindN i) a b).1.num))) ⟨g, i * 4 + 2, none⟩ u2 k (Ne.symm n2)).trans ((Below.heap_setCell ((W.setCell ⟨g, i * 4, none⟩ (.int .i64 (calcV (kindN i) a b).1.kind))) ⟨g, i * 4 + 1, none⟩ (.int .i64 (calcV (kindN i) a b).1.num) k (Ne.symm n2)).trans ((Below.heap_setCell W ⟨g, i * 4, none⟩ (.int .i64 (calcV (kindN i) a b).1.kind) k (Ne.symm n2)).trans hk)))))
  refine ⟨⟨_, hg, by simp [c1], fun j hj => ?_⟩, ⟨_, setN_heap he4 _, by simp [e1], fun j hj => ?_⟩, hk4⟩
  · rcases Nat.lt_or_ge j i with h1 | h1
    · have q := c2 j h1
      refine ⟨?_, ?_⟩
      · rw [Array.getElem?_setIfInBounds_ne (by omega), Array.getElem?_setIfInBounds_ne (by omega), Array.getElem?_setIfInBounds_ne (by omega), Array.getElem?_setIfInBounds_ne (by omega)]
        exact q.1
      · rw [Array.getElem?_setIfInBounds_ne (by omega), Array.getElem?_setIfInBounds_ne (by omega), Array.getElem?_setIfInBounds_ne (by omega), Array.getElem?_setIfInBounds_ne (by omega)]
        exact q.2
    · obtain rfl : j = i := by omega
      refine ⟨?_, ?_⟩
      · rw [Array.getElem?_setIfInBounds_ne (by omega), Array.getElem?_setIfInBounds_ne (by omega), Array.getElem?_setIfInBounds_ne (by omega), Array.getElem?_setIfInBounds_self_of_lt (by omega)]
      · rw [Array.getElem?_setIfInBounds_ne (by omega), Array.getElem?_setIfInBounds_ne (by omega), Array.getElem?_setIfInBounds_self_of_lt (by simp; omega)]
  · rcases Nat.lt_or_ge j i with h1 | h1
    · rw [Array.getElem?_setIfInBounds_ne (by omega)]
      exact e2 j h1
    · obtain rfl : j = i := by omega
      rw [Array.getElem?_setIfInBounds_self_of_lt (by omega)]
theorem GotN.at_ {W : World} {a b : Int} {g h k : Nat} (H : GotN W a b g h k 6) (j : Nat) (hj : j < 6) : W.cell? ⟨g, j * 4, none⟩ = some (.int .i64 (calcV (kindN j) a b).1.kind) ∧ W.cell? ⟨g, j * 4 + 1, none⟩ = some (.int .i64 (calcV (kindN j) a b).1.num) ∧ W.cell? ⟨h, j, none⟩ = some (.int .i64 (calcV (kindN j) a b).2) := by
  obtain ⟨⟨cs, hc, _, c2⟩, ⟨es, he, _, e2⟩, _⟩ := H
  exact ⟨by rw [cell_of_row _ _ _ _ _ _ hc]; exact (c2 j hj).1, by rw [cell_of_row _ _ _ _ _ _ hc]; exact (c2 j hj).2, by rw [cell_of_row _ _ _ _ _ _ he]; exact e2 j hj⟩
end Go.Proofs.Ythchilnibblbgaa
