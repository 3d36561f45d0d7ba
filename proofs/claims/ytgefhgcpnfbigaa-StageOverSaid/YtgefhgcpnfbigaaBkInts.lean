/- Slices of ints that the call makes by make. -/
import Derived.Test.YtgefhgcpnfbigaaTuRows
import Derived.Laws.MakeOwn
namespace Go.Proofs.Ytgefhgcpnfbigaa
open Go.RowKit

theorem made_ints10 (n : Nat) (hn : n ≤ 1000) (W : World) : (Instr.makeSlice 24 (.int .i64 (n : Int)) (.int .i64 (n : Int))).run Try.prog W =
    .ok (.slice (some ⟨W.heap.size, 0, none⟩) n n) (W.alloc (.cells (madeCells #[.int .i64 0] n) 3)) := by
  obtain ⟨i, hi, hzz⟩ := Option.map_eq_some_iff.1 info_int1
  simp only [Prod.mk.injEq] at hzz
  obtain ⟨hz, hs, hb⟩ := hzz
  have hr := run_make (P := Try.prog) W 24 3 i _ Try.underlying24 hi hz .i64 .i64 (n : Int) (n : Int) (by omega) (by omega) (by rw [hb]; omega) (by omega)
  rw [hs, Int.toNat_natCast, Nat.mul_one] at hr
  exact hr
theorem madeI_flat10 (n : Nat) : (madeCells #[.int .i64 0] n).toList = (List.replicate n (0 : Int)).map encI64 := by
  refine List.ext_getElem? fun i => ?_
  unfold madeCells
  rw [Array.toList_map, List.getElem?_map, Array.toList_range, List.getElem?_map, List.getElem?_replicate]
  rcases Nat.lt_or_ge i n with hi | hi
  · rw [List.getElem?_range hi, if_pos hi, Option.map_some, Option.map_some]
    show some ((#[Value.int .i64 0] : Array Value)[i % 1]!) = _
    rw [Nat.mod_one]
    rfl
  · rw [List.getElem?_eq_none (by simpa using hi), if_neg (by omega)]
    rfl
theorem IInts.made10 (W : World) (n : Nat) (hn : n ≤ 1000) {g : Nat} (hg : g = W.heap.size) : IInts (W.alloc (.cells (madeCells #[.int .i64 0] n) 3)) g (.slice (some ⟨g, 0, none⟩) n n) (List.replicate n 0) := by
  subst hg
  unfold IInts
  rw [List.length_replicate]
  refine ⟨by simp, .inr ⟨W.heap.size, n, _, rfl, Nat.le_refl _, heap_alloc_new W _, Nat.le_refl _, by unfold maxLen; omega, by simp [madeCells], ?_⟩⟩
  rw [← madeI_flat10, List.take_of_length_le (by simp [madeCells])]
section
variable {w : World} {base g n c : Nat} {l : List Int}
theorem IInts.len10 (h : IInts w base (.slice (some ⟨g, 0, none⟩) n c) l) : l.length = n := by
  obtain ⟨a, cap, hv, _⟩ := h.sees
  exact (Value.slice.inj hv).2.1.symm
theorem IInts.cell10 (h : IInts w base (.slice (some ⟨g, 0, none⟩) n c) l) {j : Nat} {x : Int} (hj : l[j]? = some x) : w.cell? ⟨g, j, none⟩ = some (.int .i64 x) := by
  obtain ⟨a, cap, hv, _, _, _, hn⟩ := h.sees
  obtain ⟨e1, e2, e3⟩ := Value.slice.inj hv
  obtain ⟨b, off, y, hb, _, hy, hc⟩ := hn.at_ (List.getElem?_eq_some_iff.1 hj).1
  rw [← e1] at hb
  obtain ⟨q1, q2, _⟩ := Addr.mk.inj (Option.some.inj hb)
  subst q1 q2
  rw [hj] at hy
  obtain rfl := Option.some.inj hy
  rw [Nat.zero_add] at hc
  exact hc
theorem IInts.thaw10 (h : IInts w base (.slice (some ⟨g, 0, none⟩) n c) l) (j : Nat) : w.frozen? ⟨g, j, none⟩ = false := by
  have hl := h.len10
  subst hl
  exact World.ownsRow.frozenAt h j
theorem IInts.put10 (h : IInts w base (.slice (some ⟨g, 0, none⟩) n c) l) (j : Nat) (x : Int) : IInts (w.setCell ⟨g, j, none⟩ (.int .i64 x)) base (.slice (some ⟨g, 0, none⟩) n c) (l.set j x) := by
  have hl := h.len10
  subst hl
  have hst := (World.ownsRow.stored h j (.int .i64 x)).1
  unfold IInts
  rw [List.length_set, List.map_set]
  exact hst
theorem IInts.spot10 (h : IInts w base (.slice (some ⟨g, 0, none⟩) n c) l) : base ≤ g ∧ g < w.heap.size := World.ownsRow.lt h g rfl
end
theorem rowI_get10 {pl : List Nat} {j p : Nat} (h : pl[j]? = some p) : (rowI pl)[j]? = some (p : Int) := by unfold rowI; rw [List.getElem?_map, h]; rfl
theorem rowI_set10 (pl : List Nat) (j p : Nat) : (rowI pl).set j (p : Int) = rowI (pl.set j p) := by unfold rowI; rw [List.map_set]
end Go.Proofs.Ytgefhgcpnfbigaa
