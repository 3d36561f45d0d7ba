/- Appends of terms at a step of a walk and of a region that draws its order; what is made may be read. -/
import Derived.Test.YthbakfceaaaamaaTmLawX
import Derived.Test.YthbakfceaaaamaaTmGather
import Derived.Deep.DeepCutAuto
import Derived.Deep.RegionHeld3
import Derived.Deep.RegionLaw
namespace Go.Proofs.Ythbakfceaaaamaa
open Go.RowKit

theorem step_append_trms {ops : Array Oper} {o : Oper} {a : Act} {K : Act → World → Prop} {Q : Exit → Act → World → Prop} {E : Prop} {W : World} (hgd : o.guard = none) (s x : Operand)
    (ho : o.op = .call { callee := .builtin .append, args := #[s, x], argTypes := #[22, 22] }) (base : Nat) (v : Value) (l : List Trm) (ad : Option Addr) (m c : Nat) (l2 : List Trm) (bound : Nat)
    (hs : a.eval s = v) (hx : a.eval x = .slice ad m c) (hB : TOwn W base v l) (hr : Trms W bound ad m l2) (hb : base ≤ W.heap.size) (hlen : l.length + m ≤ 1000000)
    (h : ∀ v' w', TOwn w' base v' (l ++ l2) → Below base W w' → K (a.put o.dst v') w') : if Region.wanted o (yielded ops a.tmps) = true then Oper.wp Try.prog o a W K Q else E := by
  have hwant : Region.wanted o (yielded ops a.tmps) = true := by simp [Region.wanted, hgd]
  rw [if_pos hwant]
  obtain ⟨v', w', hrun, hown, hbel⟩ := hB.add hb c hr hlen o.type
  unfold Oper.wp execOp
  simp only [ho, resolve, invoke, builtin, Sem.run_bind, Sem.run_pure, Result.andThen_ok, List.map_toArray, List.map_cons, List.map_nil, hs, hx, hrun]
  exact h v' w' hown (hbel base (Nat.le_refl _) W (Below.refl _ _))
/-- One term, made for an append. -/
theorem Trms.one {W : World} {cs : Array Value} (t : Trm) {g : Nat} (hg : g = W.heap.size) (hc : cs = (encTrm t).toArray) (ht : t.name.length ≤ maxLen ∧ t.text.length ≤ maxLen) :
    Trms (W.alloc (.cells cs 49)) (W.alloc (.cells cs 49)).heap.size (some ⟨g, 0, none⟩) 1 [t] :=
  Trms.made W cs [t] 1 g hg (by rw [hc]; simp [encTrms]) rfl (by omega) (fun x hx => by rw [List.mem_singleton.1 hx]; exact ht)
/-- The terms that came in and one more, as they lie in the array that the call made. -/
theorem TOwn.ends {W : World} {base n : Nat} {v : Value} {L : List Trm} {t : Trm} (h : TOwn W base v ([] ++ L ++ [t])) (hl : L.length = n) (hn : n ≤ 1000) (hm : ∀ t ∈ L, t.name.length ≤ maxLen ∧ t.text.length ≤ maxLen) (ht : t.name.length ≤ maxLen ∧ t.text.length ≤ maxLen) :
    ∃ a c, v = .slice a (n + 1) c ∧ Trms W W.heap.size a (n + 1) (L ++ [t]) := by
  rw [List.nil_append] at h
  obtain ⟨a, c, hv, ht⟩ := h.sees (by simp; omega) (fun x hx => by
    rcases List.mem_append.1 hx with hx | hx
    · exact hm x hx
    · rw [List.mem_singleton.1 hx]; exact ht)
  rw [List.length_append, hl] at hv ht
  exact ⟨a, c, hv, ht⟩
theorem Strs.on {W W' : World} {a : Option Addr} {n : Nat} {l : List Str} (h : Strs W W.heap.size a n l) (hb : Below W.heap.size W W') : Strs W' W'.heap.size a n l := (h.below hb).more hb.size
/-- What a call saw is still there. -/
theorem Trms.still {w W : World} {a : Option Addr} {n : Nat} {L : List Trm} (h : Trms w w.heap.size a n L) (hb : Below w.heap.size w W) : Trms W W.heap.size a n L := h.on hb
end Go.Proofs.Ythbakfceaaaamaa

/- A term in a block of its own. -/
namespace Go.Proofs.Ythbakfceaaaamaa
open Go.RowKit

def BoxU (W : World) (A : Nat) (v0 v1 v2 v3 v4 v5 : Value) : Prop := W.heap[A]? = some (.cells #[v0, v1, v2, v3, v4, v5] 49 (0, 0))
theorem BoxU.lt {W : World} {R : Nat} {v0 v1 v2 v3 v4 v5 : Value} (h : BoxU W R v0 v1 v2 v3 v4 v5) : R < W.heap.size := by
  rcases Nat.lt_or_ge R W.heap.size with h1 | h1
  · exact h1
  · unfold BoxU at h; rw [Array.getElem?_eq_none h1] at h; cases h
theorem BoxU.new (w : World) (v0 v1 v2 v3 v4 v5 : Value) : BoxU (w.alloc (.cells #[v0, v1, v2, v3, v4, v5] 49)) w.heap.size v0 v1 v2 v3 v4 v5 := heap_alloc_new w _
theorem BoxU.on {W W' : World} {R : Nat} {v0 v1 v2 v3 v4 v5 : Value} (h : BoxU W R v0 v1 v2 v3 v4 v5) (hb : Below W.heap.size W W') : BoxU W' R v0 v1 v2 v3 v4 v5 := (hb.block R h.lt).trans h
theorem BoxU.cells {W : World} {R : Nat} {v0 v1 v2 v3 v4 v5 : Value} (h : BoxU W R v0 v1 v2 v3 v4 v5) :
    (W.cell? ⟨R, 0, none⟩ = some v0 ∧ W.cell? ⟨R, 1, none⟩ = some v1 ∧ W.cell? ⟨R, 2, none⟩ = some v2 ∧ W.cell? ⟨R, 3, none⟩ = some v3 ∧ W.cell? ⟨R, 4, none⟩ = some v4 ∧ W.cell? ⟨R, 5, none⟩ = some v5) ∧
    W.frozen? ⟨R, 0, none⟩ = false ∧ W.frozen? ⟨R, 1, none⟩ = false ∧ W.frozen? ⟨R, 2, none⟩ = false ∧ W.frozen? ⟨R, 3, none⟩ = false ∧ W.frozen? ⟨R, 4, none⟩ = false ∧ W.frozen? ⟨R, 5, none⟩ = false := by
  unfold BoxU at h
  refine ⟨⟨?_, ?_, ?_, ?_, ?_, ?_⟩, ?_, ?_, ?_, ?_, ?_, ?_⟩
  iterate 6 (rw [cell_of_row _ _ _ _ _ _ h]; rfl)
  all_goals (unfold World.frozen?; rw [h]; rfl)
/-- The same, of whatever bytes the texts are. -/
theorem trm_hid (t : Trm) : ∃ k nm x tx l r, t = ⟨k, (nm : ByteArray).toList, x, (tx : ByteArray).toList, l, r⟩ ∧ encT t = .agg #[.int .i64 k, .string nm, .int .i64 x, .string tx, .int .i64 l, .int .i64 r] :=
  ⟨t.kind, lxS t.name, t.num, lxS t.text, t.l, t.r, by rw [lxS_toList, lxS_toList], rfl⟩
theorem trm_cells2 (k : Int) (nm : ByteArray) (x : Int) (tx : ByteArray) (l r : Int) : (#[.int .i64 k, .string nm, .int .i64 x, .string tx, .int .i64 l, .int .i64 r] : Array Value) = (encTrm ⟨k, nm.toList, x, tx.toList, l, r⟩).toArray := by
  have e1 : lxS nm.toList = nm := toList_inj (by rw [lxS_toList])
  have e2 : lxS tx.toList = tx := toList_inj (by rw [lxS_toList])
  simp only [encTrm, e1, e2]
/-- The parts of a term in a list, its texts as bytes. -/
theorem Trms.part {w : World} {bound : Nat} {a : Option Addr} {n : Nat} {L : List Trm} (h : Trms w bound a n L) {j : Nat} (hj : j < n) :
    ∃ b off k nm x tx l r, a = some ⟨b, off, none⟩ ∧ b < bound ∧ L[j]? = some ⟨k, (nm : ByteArray).toList, x, (tx : ByteArray).toList, l, r⟩ ∧ nm.size ≤ maxLen ∧ tx.size ≤ maxLen ∧
    w.cell? ⟨b, off + j * 6, none⟩ = some (.int .i64 k) ∧ w.cell? ⟨b, off + j * 6 + 1, none⟩ = some (.string nm) ∧ w.cell? ⟨b, off + j * 6 + 2, none⟩ = some (.int .i64 x) ∧
    w.cell? ⟨b, off + j * 6 + 3, none⟩ = some (.string tx) ∧ w.cell? ⟨b, off + j * 6 + 4, none⟩ = some (.int .i64 l) ∧ w.cell? ⟨b, off + j * 6 + 5, none⟩ = some (.int .i64 r) := by
  obtain ⟨b, off, t, ha, hbb, hget, _, hnl, htl, p0, p1, p2, p3, p4, p5⟩ := h.at_ hj
  exact ⟨b, off, t.kind, lxS t.name, t.num, lxS t.text, t.l, t.r, ha, hbb, by rw [lxS_toList, lxS_toList]; exact hget, by rw [lxS_size]; exact hnl, by rw [lxS_size]; exact htl, p0, p1, p2, p3, p4, p5⟩
end Go.Proofs.Ythbakfceaaaamaa
