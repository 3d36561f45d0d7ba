/- A slice of terms that the call makes by append. -/
import Derived.Test.YthbakfceaaaamaaTmFirst
namespace Go.Proofs.Ythbakfceaaaamaa
open Go.RowKit

/-- The slice v, which the call made (its array lies at base or above), holds just these terms. -/
def TOwn (w : World) (base : Nat) (v : Value) (L : List Trm) : Prop := w.ownsRow base 49 6 v L.length (encTrms L)
theorem encTrms_len (l : List Trm) : (encTrms l).length = l.length * 6 := by
  unfold encTrms
  induction l with
  | nil => rfl
  | cons t l ih => rw [List.flatMap_cons, List.length_append, ih, List.length_cons]; show 6 + _ = _; omega
theorem TOwn.zero (w : World) (base : Nat) : TOwn w base (.slice none 0 0) [] := World.ownsRow_nil w base 49 6
theorem TOwn.alloc {w : World} {base : Nat} {v : Value} {l : List Trm} (h : TOwn w base v l) (o : Obj) : TOwn (w.alloc o) base v l := World.ownsRow.alloc h o
theorem TOwn.kept {w w' : World} {base : Nat} {v : Value} {bs : List Trm} (h : TOwn w base v bs) (hb : Below w.heap.size w w') : TOwn w' base v bs := by
  have hlt := h.lt
  rcases h.2 with h0 | ⟨g, cap, cur, rfl, hbase, hh, h1, h2, h3, h4⟩
  · exact ⟨h.1, .inl h0⟩
  · refine ⟨h.1, .inr ⟨g, cap, cur, rfl, hbase, ?_, h1, h2, h3, h4⟩⟩
    rw [hb.block g (hlt g rfl).2]
    exact hh
theorem info_trm : (Try.prog.info? 49).map (fun i => (i.zero, i.size, i.bytes)) = some (some (.agg #[.int .i64 0, .string ⟨#[]⟩, .int .i64 0, .string ⟨#[]⟩, .int .i64 0, .int .i64 0]), 6, 64) := by kernel_rfl
theorem encTrms_cell {u : Value} {l : List Trm} (h : u ∈ encTrms l) : u.oneCell' = true := by
  obtain ⟨t, _, ht⟩ := List.mem_flatMap.1 h
  unfold encTrm at ht
  simp only [List.mem_cons, List.not_mem_nil, or_false] at ht
  rcases ht with rfl | rfl | rfl | rfl | rfl | rfl <;> rfl
/-- The terms of a slice, whichever, behind those that the call made. -/
theorem TOwn.add {w : World} {base : Nat} {v : Value} {l : List Trm} (h : TOwn w base v l) (hb : base ≤ w.heap.size) {bound : Nat} {a : Option Addr} {m : Nat} (c : Nat) {l2 : List Trm} (hr : Trms w bound a m l2) (hlen : l.length + m ≤ 1000000) (ty : Nat) :
    ∃ v' w', (Builtin.append_ #[22, 22] ty #[v, .slice a m c]).run Try.prog w = .ok v' w' ∧ TOwn w' base v' (l ++ l2) ∧ ∀ B, B ≤ base → ∀ w0, Below B w0 w → Below B w0 w' := by
  obtain ⟨i0, hi0, hzz⟩ := Option.map_eq_some_iff.1 info_trm
  simp only [Prod.mk.injEq] at hzz
  obtain ⟨hz, hs1, hb1⟩ := hzz
  obtain ⟨hl2, _, _, hc⟩ := hr
  rcases a with _ | ad
  · have hm : m = 0 := by
      rcases Nat.eq_zero_or_pos m with h0 | h0
      · exact h0
      · obtain ⟨b, off, h, _⟩ := hc h0; cases h
    subst hm
    have hn : l2 = [] := List.eq_nil_of_length_eq_zero hl2
    subst hn
    refine ⟨v, w, ?_, by rw [List.append_nil]; exact h, fun B _ w0 hw => hw⟩
    rcases h.2 with ⟨h0, _⟩ | ⟨g, cap, cur, rfl, _, hh, h1, h2, h3, h4⟩
    · rw [h0]; simp [Builtin.append_, run_underlying Try.underlying22, sizeOf, typeInfo, hi0, Builtin.lenOf, Builtin.firstCells]
    · simp [Builtin.append_, run_underlying Try.underlying22, sizeOf, typeInfo, hi0, Builtin.lenOf, Builtin.firstCells, storeCells]
      intro hx
      omega
  · have hcells : ∀ j u, (encTrms l2)[j]? = some u → w.cell? (ad.add j) = some u := by
      intro j u hu
      have hj : j < l2.length * 6 := by
        rw [← encTrms_len]
        exact (List.getElem?_eq_some_iff.1 hu).1
      have hjm : j / 6 < l2.length := by omega
      have ht := List.getElem?_eq_getElem hjm
      have hu2 := flat_at (f := encTrm) (m := 6) (fun _ => rfl) l2 (j / 6) _ ht (j % 6) (by omega)
      rw [show j / 6 * 6 + j % 6 = j by omega] at hu2
      have hu3 : (encTrm l2[j / 6])[j % 6]? = some u := hu2.symm.trans hu
      have ⟨b, off, e, _, hcc⟩ := hc (show 0 < m by omega)
      obtain rfl := Option.some.inj e
      rw [Go.WideShapes.add_plain]
      obtain ⟨c0, c1, c2, c3, c4, c5⟩ := hcc (j / 6) _ ht
      have hj6 : j % 6 = 0 ∨ j % 6 = 1 ∨ j % 6 = 2 ∨ j % 6 = 3 ∨ j % 6 = 4 ∨ j % 6 = 5 := by omega
      rcases hj6 with e | e | e | e | e | e
      · rw [e] at hu3; rw [show off + j = off + j / 6 * 6 by omega, c0]; exact hu3
      · rw [e] at hu3; rw [show off + j = off + j / 6 * 6 + 1 by omega, c1]; exact hu3
      · rw [e] at hu3; rw [show off + j = off + j / 6 * 6 + 2 by omega, c2]; exact hu3
      · rw [e] at hu3; rw [show off + j = off + j / 6 * 6 + 3 by omega, c3]; exact hu3
      · rw [e] at hu3; rw [show off + j = off + j / 6 * 6 + 4 by omega, c4]; exact hu3
      · rw [e] at hu3; rw [show off + j = off + j / 6 * 6 + 5 by omega, c5]; exact hu3
    obtain ⟨v', w', hrun, hown, hgr, _, hat⟩ := run_append_own_at (P := Try.prog) w base 22 ty 49 i0 _ 6 64 Try.underlying22 hi0 hz hs1 hb1 rfl (by omega) v l.length (encTrms l) h ad m c (encTrms l2) (by rw [encTrms_len, hl2]) hcells
      (fun u hu => encTrms_cell hu) (by unfold maxLen; omega) (by omega) hb
    refine ⟨v', w', hrun, ?_, fun B hB w0 hw0 => hw0.grown hgr (by omega) (fun k hk => ?_)⟩
    · unfold TOwn encTrms
      rw [List.length_append, List.flatMap_append, hl2]
      exact hown
    · have := h.lt k hk
      omega
theorem wpList_append_trms {ops : Array Oper} {rest : List Oper} {o : Oper} {a : Act} {Q : Exit → Act → World → Prop} {W : World} (hgd : o.guard = none) (s x : Operand)
    (ho : o.op = .call { callee := .builtin .append, args := #[s, x], argTypes := #[22, 22] }) (base : Nat) (v : Value) (l : List Trm) (ad : Option Addr) (m c : Nat) (l2 : List Trm) (bound : Nat)
    (hs : a.eval s = v) (hx : a.eval x = .slice ad m c) (hB : TOwn W base v l) (hr : Trms W bound ad m l2) (hb : base ≤ W.heap.size) (hlen : l.length + m ≤ 1000000)
    (w0 : World) (hw : Below base w0 W)
    (h : ∀ v' w', TOwn w' base v' (l ++ l2) → Below base w0 w' → wpList Try.prog ops Q rest (a.put o.dst v') w') : wpList Try.prog ops Q (o :: rest) a W := by
  obtain ⟨v', w', hrun, hown, hbel⟩ := hB.add hb c hr hlen o.type
  exact wpList_append_lx hgd s x _ ho _ _ _ hs hx hrun (h v' w' hown (hbel base (Nat.le_refl _) w0 hw))
/-- Such a slice reads as its terms. -/
theorem TOwn.sees {w : World} {base : Nat} {v : Value} {l : List Trm} (h : TOwn w base v l) (hl : l.length ≤ 1000000) (hm : ∀ t ∈ l, t.name.length ≤ maxLen ∧ t.text.length ≤ maxLen) :
    ∃ a c, v = .slice a l.length c ∧ Trms w w.heap.size a l.length l := by
  have hlt := h.lt
  rcases h.2 with ⟨h0, h1⟩ | ⟨g, cap, cur, rfl, hbase, hh, h1, h2, h3, h4⟩
  · have hz : l = [] := by
      cases l with
      | nil => rfl
      | cons x l => simp at h1
    subst hz
    exact ⟨none, 0, h0, Trms.zero _ _ _⟩
  · refine ⟨_, cap, rfl, rfl, by omega, hm, fun _ => ⟨g, 0, rfl, (hlt g rfl).2, fun j t hj => ?_⟩⟩
    have hj' : j < l.length := (List.getElem?_eq_some_iff.1 hj).1
    have hc : ∀ i, i < 6 → w.cell? ⟨g, 0 + j * 6 + i, none⟩ = (encTrm t)[i]? := fun i hi => by
      rw [cell_of_row w g _ cur 49 (0, 0) hh]
      have : (cur.toList.take (l.length * 6))[j * 6 + i]? = (encTrms l)[j * 6 + i]? := by rw [h4]
      rw [List.getElem?_take, if_pos (by omega)] at this
      rw [Nat.zero_add, ← Array.getElem?_toList, this]
      exact flat_at (f := encTrm) (m := 6) (fun _ => rfl) l j t hj i hi
    exact ⟨by have := hc 0 (by omega); rw [Nat.add_zero] at this; rw [this]; rfl, by rw [hc 1 (by omega)]; rfl, by rw [hc 2 (by omega)]; rfl, by rw [hc 3 (by omega)]; rfl, by rw [hc 4 (by omega)]; rfl, by rw [hc 5 (by omega)]; rfl⟩
end Go.Proofs.Ythbakfceaaaamaa
