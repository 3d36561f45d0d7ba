/- Contracts of slices.Grow of a nil slice, slices.Concat of two slices, and of the program's push. -/
import Derived.Test.YthbakfceaaaamaaTmCalc
import Derived.Lib.AppendZerosOnto
namespace Go.Proofs.Ythbakfceaaaamaa
open Go.RowKit

/-- The numbers of a slice, whichever, behind those that the call made. -/
theorem Ints.add {w : World} {base : Nat} {v : Value} {l : List Int} (h : Ints w base v l) (hb : base ≤ w.heap.size) {bound : Nat} {a : Option Addr} {m : Nat} (c : Nat) {l2 : List Int} (hr : Nums w bound a m l2) (hlen : l.length + m ≤ 7000000000000) (ty : Nat) :
    ∃ v' w', (Builtin.append_ #[31, 31] ty #[v, .slice a m c]).run Try.prog w = .ok v' w' ∧ Ints w' base v' (l ++ l2) ∧ ∀ B, B ≤ base → ∀ w0, Below B w0 w → Below B w0 w' := by
  obtain ⟨i0, hi0, hzz⟩ := Option.map_eq_some_iff.1 info_i64
  simp only [Prod.mk.injEq] at hzz
  obtain ⟨hz, hs1, hb1⟩ := hzz
  obtain ⟨hl2, _, hc⟩ := hr
  rcases a with _ | ad
  · have hm : m = 0 := by
      rcases Nat.eq_zero_or_pos m with h0 | h0
      · exact h0
      · obtain ⟨b, off, h, _⟩ := hc h0; cases h
    subst hm
    have hn : l2 = [] := List.eq_nil_of_length_eq_zero hl2
    subst hn
    refine ⟨v, w, ?_, by rw [List.append_nil]; exact h, fun B _ w0 hw => hw⟩
    rcases h.2 with ⟨h0, _⟩ | ⟨g, cap, cur, rfl, _, hh, h1, h2, h3, h4⟩
    · rw [h0]; simp [Builtin.append_, run_underlying Try.underlying31, sizeOf, typeInfo, hi0, Builtin.lenOf, Builtin.firstCells]
    · simp [Builtin.append_, run_underlying Try.underlying31, sizeOf, typeInfo, hi0, Builtin.lenOf, Builtin.firstCells, storeCells]
      intro hx
      omega
  · have hcells : ∀ j u, (l2.map encI64)[j]? = some u → w.cell? (ad.add j) = some u := by
      intro j u hu
      rw [List.getElem?_map] at hu
      obtain ⟨x, hx, rfl⟩ := Option.map_eq_some_iff.1 hu
      have hj : j < l2.length := by
        rcases Nat.lt_or_ge j l2.length with h | h
        · exact h
        · rw [List.getElem?_eq_none h] at hx; cases hx
      have ⟨b, off, e, _, hcc⟩ := hc (show 0 < m by omega)
      obtain rfl := Option.some.inj e
      rw [Go.WideShapes.add_plain]
      exact hcc j x hx
    obtain ⟨v', w', hrun, hown, hgr, _, hat⟩ := run_append_own_at (P := Try.prog) w base 31 ty 2 i0 _ 1 8 Try.underlying31 hi0 hz hs1 hb1 rfl (by omega) v l.length (l.map encI64) h ad m c (l2.map encI64) (by simp [hl2]) hcells
      (fun u hu => by obtain ⟨c, _, rfl⟩ := List.mem_map.1 hu; rfl) (by unfold maxLen; omega) (by omega) hb
    refine ⟨v', w', hrun, ?_, fun B hB w0 hw0 => hw0.grown hgr (by omega) (fun k hk => ?_)⟩
    · unfold Ints
      rw [List.length_append, List.map_append, hl2]
      exact hown
    · have := h.lt k hk
      omega
theorem wpList_append_nums {ops : Array Oper} {rest : List Oper} {o : Oper} {a : Act} {Q : Exit → Act → World → Prop} {W : World} (hgd : o.guard = none) (s x : Operand)
    (ho : o.op = .call { callee := .builtin .append, args := #[s, x], argTypes := #[31, 31] }) (base : Nat) (v : Value) (l : List Int) (ad : Option Addr) (m c : Nat) (l2 : List Int) (bound : Nat)
    (hs : a.eval s = v) (hx : a.eval x = .slice ad m c) (hB : Ints W base v l) (hr : Nums W bound ad m l2) (hb : base ≤ W.heap.size) (hlen : l.length + m ≤ 7000000000000)
    (w0 : World) (hw : Below base w0 W)
    (h : ∀ v' w', Ints w' base v' (l ++ l2) → Below base w0 w' → wpList Try.prog ops Q rest (a.put o.dst v') w') : wpList Try.prog ops Q (o :: rest) a W := by
  obtain ⟨v', w', hrun, hown, hbel⟩ := hB.add hb c hr hlen o.type
  exact wpList_append_lx hgd s x _ ho _ _ _ hs hx hrun (h v' w' hown (hbel base (Nat.le_refl _) w0 hw))

/-- slices.Grow of a nil slice: a new array, nothing in it. -/
theorem growNil_any (n : Nat) (w : World) (h0 : 0 < n) (hn : n ≤ 1000) : Calls Try.prog 91 #[.slice none 0 0, .int .i64 n] w fun e w' =>
    (∃ v, e = .returned v ∧ Ints w' w.heap.size v []) ∧ Below w.heap.size w w' := by
  obtain ⟨i0, hi0, hzz⟩ := Option.map_eq_some_iff.1 info_i64
  simp only [Prod.mk.injEq] at hzz
  obtain ⟨hz, hs1, hb1⟩ := hzz
  have hrz : ∀ ty, (Builtin.append_ #[31, 3] ty #[.slice none 0 0, .int .i64 (n : Int)]).run Try.prog w =
      .ok (.slice (some ⟨w.heap.size, 0, none⟩) (0 + n) (grownCap w (0 + n) 0 2)) (w.drew.alloc (.cells (([] : List Value).toArray ++ Builtin.zeroCells (Value.int .i64 0).cells n ++ Builtin.zeroCells (Value.int .i64 0).cells (grownCap w (0 + n) 0 2 - (0 + n))) 2)) := fun ty =>
    Lib.run_append_grow_zeros w 31 3 ty 2 i0 _ .i64 .i64 Try.underlying31 Try.underlying3 hi0 hz none 0 0 [] (by simp [Builtin.firstCells]) n h0 (by omega) (by omega) (by omega) (by rw [hb1]; omega)
      (by rw [hb1]; unfold Builtin.nextslicecap; rw [if_pos (by omega)]; omega)
  have hGn : 0 + n ≤ grownCap w (0 + n) 0 2 := grownCap_ge w _ _ _
  have hG63 : grownCap w (0 + n) 0 2 ≤ maxLen := grownCap_le_maxLen w (0 + n) 0 2 (by unfold maxLen; omega)
  obtain ⟨G, hG⟩ : ∃ G, G = grownCap w (0 + n) 0 2 := ⟨_, rfl⟩
  rw [← hG] at hrz hGn hG63
  obtain ⟨cs, hcs⟩ : ∃ cs, cs = (([] : List Value).toArray ++ Builtin.zeroCells (Value.int .i64 0).cells n ++ Builtin.zeroCells (Value.int .i64 0).cells (G - (0 + n))) := ⟨_, rfl⟩
  have hsz : cs.size = G := by
    rw [hcs]
    simp [Builtin.zeroCells, Value.cells]
    omega
  rw [← hcs] at hrz
  have HS := Lib.hid hsz
  have HG := Lib.hid hG63
  rw [Nat.zero_add] at hrz hGn
  have hg9 : G ≤ 9223372036854775807 := by unfold maxLen at hG63; exact hG63
  clear hG hcs hsz hz hs1 hb1 hi0 hG63
  go_enter Try.func91, Try.ntmps91
  go_wp2_with (at_builtin; refine Lib.wpList_append_run _ rfl _ _ _ _ rfl _ _ rfl rfl _ _ (hrz _) ?_)
  go_ret
  have hbl : Below w.heap.size w (w.alloc (.cells cs 2)).drew := ((Below.refl _ w).alloc (Nat.le_refl _) _).drew
  have hin : Ints (w.alloc (.cells cs 2)).drew w.heap.size (.slice (some ⟨w.heap.size, 0, none⟩) 0 G) [] :=
    ⟨rfl, .inr ⟨w.heap.size, G, cs, rfl, Nat.le_refl _, heap_alloc_new w _, Nat.zero_le _, HG.out, by rw [HS.out, Nat.mul_one], rfl⟩⟩
  exact ⟨⟨_, rfl, hin⟩, hbl⟩
end Go.Proofs.Ythbakfceaaaamaa
