/- Contract of the program's operands. -/
import Derived.Test.YthbakfceaaaamaaTmMem
namespace Go.Proofs.Ythbakfceaaaamaa
open Go.RowKit

theorem kinds_ways (k : Int) : k = 0 ∨ k = 1 ∨ k = 2 ∨ k = 3 ∨ k = 4 ∨ k = 5 ∨ k = 15 ∨ k = 16 ∨ (arT k = 2 ∧ (k == 0) = false ∧ (k == 1) = false ∧ (k == 2) = false ∧ (k == 3) = false ∧ (k == 4) = false ∧ (k == 5) = false ∧ (k == 15) = false ∧ (k == 16) = false) := by
  by_cases h0 : k = 0
  · exact .inl h0
  by_cases h1 : k = 1
  · exact .inr (.inl h1)
  by_cases h2 : k = 2
  · exact .inr (.inr (.inl h2))
  by_cases h3 : k = 3
  · exact .inr (.inr (.inr (.inl h3)))
  by_cases h4 : k = 4
  · exact .inr (.inr (.inr (.inr (.inl h4))))
  by_cases h5 : k = 5
  · exact .inr (.inr (.inr (.inr (.inr (.inl h5)))))
  by_cases h6 : k = 15
  · exact .inr (.inr (.inr (.inr (.inr (.inr (.inl h6))))))
  by_cases h7 : k = 16
  · exact .inr (.inr (.inr (.inr (.inr (.inr (.inr (.inl h7)))))))
  refine .inr (.inr (.inr (.inr (.inr (.inr (.inr (.inr ⟨?_, ?_⟩)))))))
  · unfold arT
    rw [if_neg (by omega), if_neg (by omega)]
  · simp only [beq_eq_false_iff_ne]
    exact ⟨h0, h1, h2, h3, h4, h5, h6, h7⟩

theorem Nums.made_int (w : World) (cs : Array Value) (l : List Int) (n g : Nat) (hg : g = w.heap.size) (hc : cs = (l.map encI64).toArray) (hn : l.length = n) (hl : n ≤ 100000) :
    Nums (w.alloc (.cells cs 3)) (w.alloc (.cells cs 3)).heap.size (some ⟨g, 0, none⟩) n l := by
  subst hg
  refine ⟨hn, by omega, fun _ => ⟨w.heap.size, 0, rfl, by simp, fun j x hj => ?_⟩⟩
  rw [cell_of_row _ _ _ _ _ _ (heap_alloc_new w _), hc, Nat.zero_add, List.getElem?_toArray, List.getElem?_map, hj]
  rfl

/-- The call hands back a slice that reads as these numbers. -/
def NumsRet (w : World) (l : List Int) (e : Ending) (w' : World) : Prop := (∃ a n c, e = .returned (.slice a n c) ∧ Nums w' w'.heap.size a n l ∧ From w.heap.size a n) ∧ Below w.heap.size w w'
theorem operands_any (k : Int) (nm : ByteArray) (x : Int) (tx : ByteArray) (l r : Int) (w : World) :
    Calls Try.prog 22 #[.agg #[.int .i64 k, .string nm, .int .i64 x, .string tx, .int .i64 l, .int .i64 r]] w (NumsRet w (opsT ⟨k, nm.toList, x, tx.toList, l, r⟩)) := by
  have HB := Lib.hid ((Below.refl w.heap.size w).alloc (Nat.le_refl _) (.cells #[.int .i64 k, .string nm, .int .i64 x, .string tx, .int .i64 l, .int .i64 r] 49))
  rcases kinds_ways k with rfl | rfl | rfl | rfl | rfl | rfl | rfl | rfl | ⟨ha, h0, h1, h2, h3, h4, h5, h6, h7⟩
  iterate 6
    · go_enter Try.func22, Try.ntmps22
      go_wp2
      go_ret
      exact ⟨⟨none, 0, 0, rfl, Nums.zero _ _ _, From.zero _ _⟩, HB.out⟩
  iterate 2
    · go_enter Try.func22, Try.ntmps22
      go_wp2
      go_ret
      exact ⟨⟨_, _, _, rfl, Nums.made_int _ _ [l] 1 _ (by simp) rfl rfl (by omega), fun _ => ⟨_, _, rfl, by omega⟩⟩, HB.out.alloc (by simp) _⟩
  · have HA := Lib.hid (opsT2 (t := ⟨k, nm.toList, x, tx.toList, l, r⟩) ha)
    clear ha
    go_enter Try.func22, Try.ntmps22
    go_wp2
    go_ret
    refine ⟨⟨_, _, _, rfl, ?_, fun _ => ⟨_, _, rfl, by omega⟩⟩, HB.out.alloc (by simp) _⟩
    rw [HA.out]
    exact Nums.made_int _ _ [l, r] 2 _ (by simp) rfl rfl (by omega)
end Go.Proofs.Ythbakfceaaaamaa
