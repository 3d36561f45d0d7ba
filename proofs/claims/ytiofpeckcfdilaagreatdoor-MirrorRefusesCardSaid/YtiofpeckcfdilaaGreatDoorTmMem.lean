/- Slices of terms and of binds in memory that may be read; a world in which one block alone has turned. -/
import Derived.Test.YtiofpeckcfdilaaGreatDoorChecked
import Derived.Test.YtiofpeckcfdilaaGreatDoorTmPlain
import Derived.Test.YtiofpeckcfdilaaGreatDoorDtInts
namespace Go.Proofs.YtiofpeckcfdilaaGreatDoor
open Go.RowKit

/-- The slice with this address and length reads as these terms; its cells lie in a block below bound. -/
def Trms (w : World) (bound : Nat) (a : Option Addr) (n : Nat) (l : List Trm) : Prop :=
  l.length = n ∧ n * 64 ≤ 140737488351232 ∧ (∀ t ∈ l, t.name.length ≤ maxLen ∧ t.text.length ≤ maxLen) ∧
  (0 < n → ∃ b off, a = some ⟨b, off, none⟩ ∧ b < bound ∧ ∀ (j : Nat) (t : Trm), l[j]? = some t →
    w.cell? ⟨b, off + j * 6, none⟩ = some (.int .i64 t.kind) ∧ w.cell? ⟨b, off + j * 6 + 1, none⟩ = some (.string (lxS t.name)) ∧ w.cell? ⟨b, off + j * 6 + 2, none⟩ = some (.int .i64 t.num) ∧
    w.cell? ⟨b, off + j * 6 + 3, none⟩ = some (.string (lxS t.text)) ∧ w.cell? ⟨b, off + j * 6 + 4, none⟩ = some (.int .i64 t.l) ∧ w.cell? ⟨b, off + j * 6 + 5, none⟩ = some (.int .i64 t.r))
section
variable {w w' : World} {bound bound' : Nat} {a : Option Addr} {n : Nat} {l : List Trm}
theorem Trms.keep (h : Trms w bound a n l) (hk : ∀ p : Addr, p.block < bound → w'.cell? p = w.cell? p) : Trms w' bound a n l :=
  ⟨h.1, h.2.1, h.2.2.1, fun hn => by
    obtain ⟨b, off, e, hb, hc⟩ := h.2.2.2 hn
    refine ⟨b, off, e, hb, fun j t hj => ?_⟩
    obtain ⟨c0, c1, c2, c3, c4, c5⟩ := hc j t hj
    exact ⟨(hk _ hb).trans c0, (hk _ hb).trans c1, (hk _ hb).trans c2, (hk _ hb).trans c3, (hk _ hb).trans c4, (hk _ hb).trans c5⟩⟩
theorem Trms.below (h : Trms w bound a n l) (hb : Below bound w w') : Trms w' bound a n l := h.keep fun _ hp => hb.cell hp
theorem Trms.more (h : Trms w bound a n l) (hb : bound ≤ bound') : Trms w bound' a n l :=
  ⟨h.1, h.2.1, h.2.2.1, fun hn => by
    obtain ⟨b, off, e, hlt, hc⟩ := h.2.2.2 hn
    exact ⟨b, off, e, by omega, hc⟩⟩
theorem Trms.drewN (h : Trms w bound a n l) (k : Nat) : Trms (w.drewN k) bound a n l := h
theorem Trms.zero (w : World) (bound : Nat) (a : Option Addr) : Trms w bound a 0 [] := ⟨rfl, by omega, by simp, fun h => absurd h (Nat.lt_irrefl 0)⟩
theorem Trms.at_ (h : Trms w bound a n l) {k : Nat} (hk : k < n) : ∃ b off t, a = some ⟨b, off, none⟩ ∧ b < bound ∧ l[k]? = some t ∧ l.getD k trm0 = t ∧ t.name.length ≤ maxLen ∧ t.text.length ≤ maxLen ∧
    w.cell? ⟨b, off + k * 6, none⟩ = some (.int .i64 t.kind) ∧ w.cell? ⟨b, off + k * 6 + 1, none⟩ = some (.string (lxS t.name)) ∧ w.cell? ⟨b, off + k * 6 + 2, none⟩ = some (.int .i64 t.num) ∧
    w.cell? ⟨b, off + k * 6 + 3, none⟩ = some (.string (lxS t.text)) ∧ w.cell? ⟨b, off + k * 6 + 4, none⟩ = some (.int .i64 t.l) ∧ w.cell? ⟨b, off + k * 6 + 5, none⟩ = some (.int .i64 t.r) := by
  obtain ⟨b, off, e, hb, hc⟩ := h.2.2.2 (by omega)
  have hk' : k < l.length := by rw [h.1]; exact hk
  have hm := h.2.2.1 l[k] (List.getElem_mem hk')
  exact ⟨b, off, l[k], e, hb, List.getElem?_eq_getElem hk', by rw [List.getD_eq_getElem?_getD, List.getElem?_eq_getElem hk']; rfl, hm.1, hm.2, hc k _ (List.getElem?_eq_getElem hk')⟩
end

/-- The term as the program hands it on. -/
def encT (t : Trm) : Value := .agg #[.int .i64 t.kind, .string (lxS t.name), .int .i64 t.num, .string (lxS t.text), .int .i64 t.l, .int .i64 t.r]

theorem below_on {w W wn : World} (h : Below w.heap.size w W) (hb : Below W.heap.size W wn) : Below w.heap.size w wn := h.trans (hb.mono h.size)
/-- But for block g, what was there is as it was; the streams are as they were. -/
structure Beside (g : Nat) (w w' : World) : Prop where
  os : w'.os = w.os
  tape : w'.tape = w.tape
  output : w'.output = w.output
  size : w.heap.size ≤ w'.heap.size
  block : ∀ k, k < w.heap.size → k ≠ g → w'.heap[k]? = w.heap[k]?
theorem Beside.refl (g : Nat) (w : World) : Beside g w w := ⟨rfl, rfl, rfl, Nat.le_refl _, fun _ _ _ => rfl⟩
theorem Beside.trans {g : Nat} {a b c : World} (h : Beside g a b) (k : Beside g b c) : Beside g a c :=
  ⟨k.os.trans h.os, k.tape.trans h.tape, k.output.trans h.output, Nat.le_trans h.size k.size, fun i hi hg => (k.block i (Nat.lt_of_lt_of_le hi h.size) hg).trans (h.block i hi hg)⟩
theorem Beside.of_below {g : Nat} {w w' : World} (h : Below w.heap.size w w') : Beside g w w' := ⟨h.os, h.tape, h.output, h.size, fun k hk _ => h.block k hk⟩
theorem Beside.below {g B : Nat} {w w' : World} (h : Beside g w w') (hB : B ≤ g) (hB' : B ≤ w.heap.size) : Below B w w' := ⟨h.os, h.tape, h.output, h.size, fun k hk => h.block k (by omega) (by omega)⟩
theorem Beside.drewN {g : Nat} {w w' : World} (h : Beside g w w') (n : Nat) : Beside g w (w'.drewN n) := ⟨h.os, h.tape, h.output, h.size, h.block⟩
theorem Beside.setCell {g : Nat} {w w' : World} (h : Beside g w w') (o : Nat) (u : Value) : Beside g w (w'.setCell ⟨g, o, none⟩ u) :=
  h.trans ⟨rfl, rfl, rfl, by simp [World.setCell], fun k _ hg => Below.heap_setCell _ _ _ _ hg⟩
theorem Beside.cell {g : Nat} {w w' : World} (h : Beside g w w') {p : Addr} (hp : p.block < w.heap.size) (hg : p.block ≠ g) : w'.cell? p = w.cell? p := World.cell?_of_block (w := w) (h.block p.block hp hg)
theorem Beside.frozen {g : Nat} {w w' : World} (h : Beside g w w') {p : Addr} (hp : p.block < w.heap.size) (hg : p.block ≠ g) : w'.frozen? p = w.frozen? p := World.frozen?_of_block (w := w) (h.block p.block hp hg)
theorem Trms.beside {g bound : Nat} {w w' : World} {a : Option Addr} {n : Nat} {l : List Trm} (h : Trms w bound a n l) (hb : Beside g w w') (hg : bound ≤ g) (hs : bound ≤ w.heap.size) : Trms w' bound a n l :=
  h.keep fun p hp => hb.cell (by omega) (by omega)
end Go.Proofs.YtiofpeckcfdilaaGreatDoor
