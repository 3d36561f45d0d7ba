/- Slices of numbers in memory that may be read; contracts of the program's comparisons. -/
import Derived.Test.YtgefhgcpnfbigaaPlain
import Derived.Test.YtgefhgcpnfbigaaRef0
import Derived.Sort.Walk0
import Derived.Laws.Cover1
import Derived.Test.YtgefhgcpnfbigaaChecked
import Derived.Test.YtgefhgcpnfbigaaTmPlain
namespace Go.Proofs.Ytgefhgcpnfbigaa
open Go.RowKit

/-- The slice with this address and length reads as these numbers; its cells lie in a block below bound. -/
def Nums (w : World) (bound : Nat) (a : Option Addr) (n : Nat) (l : List Int) : Prop :=
  l.length = n ∧ n ≤ 9223372036854775807 ∧ (0 < n → ∃ b off, a = some ⟨b, off, none⟩ ∧ b < bound ∧ ∀ (j : Nat) (x : Int), l[j]? = some x → w.cell? ⟨b, off + j, none⟩ = some (.int .i64 x))
section
variable {w w' : World} {bound bound' : Nat} {a : Option Addr} {n : Nat} {l : List Int}
theorem Nums.keep (h : Nums w bound a n l) (hk : ∀ p : Addr, p.block < bound → w'.cell? p = w.cell? p) : Nums w' bound a n l :=
  ⟨h.1, h.2.1, fun hn => by
    obtain ⟨b, off, e, hb, hc⟩ := h.2.2 hn
    exact ⟨b, off, e, hb, fun j t hj => (hk _ hb).trans (hc j t hj)⟩⟩
theorem Nums.below (h : Nums w bound a n l) (hb : Below bound w w') : Nums w' bound a n l := h.keep fun _ hp => hb.cell hp
theorem Nums.more (h : Nums w bound a n l) (hb : bound ≤ bound') : Nums w bound' a n l :=
  ⟨h.1, h.2.1, fun hn => by
    obtain ⟨b, off, e, hlt, hc⟩ := h.2.2 hn
    exact ⟨b, off, e, by omega, hc⟩⟩
theorem Nums.drewN (h : Nums w bound a n l) (k : Nat) : Nums (w.drewN k) bound a n l := h
theorem Nums.alloc (h : Nums w bound a n l) (hB : bound ≤ w.heap.size) (o : Obj) : Nums (w.alloc o) bound a n l := h.keep fun p hp => World.cell?_alloc_lt w o p (by omega)
theorem Nums.zero (w : World) (bound : Nat) (a : Option Addr) : Nums w bound a 0 [] := ⟨rfl, by omega, fun h => absurd h (Nat.lt_irrefl 0)⟩
theorem Nums.at_ (h : Nums w bound a n l) {k : Nat} (hk : k < n) : ∃ b off x, a = some ⟨b, off, none⟩ ∧ b < bound ∧ l[k]? = some x ∧ w.cell? ⟨b, off + k, none⟩ = some (.int .i64 x) := by
  obtain ⟨b, off, e, hb, hc⟩ := h.2.2 (by omega)
  have hk' : k < l.length := by rw [h.1]; exact hk
  exact ⟨b, off, l[k], e, hb, List.getElem?_eq_getElem hk', hc k _ (List.getElem?_eq_getElem hk')⟩
end

end Go.Proofs.Ytgefhgcpnfbigaa

/- A slice of numbers that the call made: some more, and it may be read. -/
namespace Go.Proofs.Ytgefhgcpnfbigaa
open Go.RowKit

def encI64 (x : Int) : Value := .int .i64 x
/-- The slice v, which the call made (its array lies at base or above), holds just these numbers. -/
def Ints (w : World) (base : Nat) (v : Value) (l : List Int) : Prop := w.ownsRow base 2 1 v l.length (l.map encI64)
theorem Ints.zero (w : World) (base : Nat) : Ints w base (.slice none 0 0) [] := World.ownsRow_nil w base 2 1
theorem Ints.alloc {w : World} {base : Nat} {v : Value} {l : List Int} (h : Ints w base v l) (o : Obj) : Ints (w.alloc o) base v l := World.ownsRow.alloc h o
theorem Ints.drewN {w : World} {base : Nat} {v : Value} {l : List Int} (h : Ints w base v l) (k : Nat) : Ints (w.drewN k) base v l := h
theorem Ints.below {w w' : World} {base B : Nat} {v : Value} {l : List Int} (h : Ints w base v l) (hb : Below B w w') (hB : w.heap.size ≤ B) : Ints w' base v l := by
  have hlt := h.lt
  rcases h.2 with h0 | ⟨g, cap, cur, rfl, hbase, hh, h1, h2, h3, h4⟩
  · exact ⟨h.1, .inl h0⟩
  · refine ⟨h.1, .inr ⟨g, cap, cur, rfl, hbase, ?_, h1, h2, h3, h4⟩⟩
    have := (hlt g rfl).2
    rw [hb.block g (by omega)]
    exact hh
theorem Ints.low {w : World} {base base' : Nat} {v : Value} {l : List Int} (h : Ints w base v l) (hb : base' ≤ base) : Ints w base' v l := by
  rcases h.2 with h0 | ⟨g, cap, cur, rfl, hbase, hh, h1, h2, h3, h4⟩
  · exact ⟨h.1, .inl h0⟩
  · exact ⟨h.1, .inr ⟨g, cap, cur, rfl, Nat.le_trans hb hbase, hh, h1, h2, h3, h4⟩⟩
theorem info_i64 : (Try.prog.info? 2).map (fun i => (i.zero, i.size, i.bytes)) = some (some (.int .i64 0), 1, 8) := by kernel_rfl
/-- The slice's array lies at this block or above. -/
def From (base : Nat) (a : Option Addr) (n : Nat) : Prop := 0 < n → ∃ b off, a = some ⟨b, off, none⟩ ∧ base ≤ b
theorem From.zero (base : Nat) (a : Option Addr) : From base a 0 := fun h => absurd h (Nat.lt_irrefl 0)
theorem Nums.setOther {w : World} {bound base : Nat} {a : Option Addr} {n : Nat} {l : List Int} (h : Nums w bound a n l) (hf : From base a n) (p : Addr) (x : Value) (hp : p.block < base) : Nums (w.setCell p x) bound a n l :=
  ⟨h.1, h.2.1, fun hn => by
    obtain ⟨b, off, e, hb, hc⟩ := h.2.2 hn
    obtain ⟨b', off', e', hbb⟩ := hf hn
    rw [e] at e'
    injection e' with e'
    injection e' with e1 e2 _
    refine ⟨b, off, e, hb, fun j y hj => ?_⟩
    rw [World.cell?_setCell_other _ _ _ _ (fun e3 => by rw [e3] at hp; dsimp only at hp; omega)]
    exact hc j y hj⟩
/-- A slice of numbers that the call made may be read. -/
theorem Ints.sees {w : World} {base : Nat} {v : Value} {l : List Int} (h : Ints w base v l) :
    ∃ a cap, v = .slice a l.length cap ∧ l.length ≤ cap ∧ cap ≤ maxLen ∧ From base a l.length ∧ Nums w w.heap.size a l.length l := by
  have hlt := h.lt
  rcases h.2 with ⟨h0, h1⟩ | ⟨g, cap, cur, rfl, hbase, hh, h1, h2, h3, h4⟩
  · have hz : l = [] := by
      cases l with
      | nil => rfl
      | cons x l => simp at h1
    subst hz
    exact ⟨none, 0, h0, Nat.le_refl _, Nat.zero_le _, From.zero _ _, Nums.zero _ _ _⟩
  · refine ⟨_, cap, rfl, h1, h2, fun _ => ⟨g, 0, rfl, hbase⟩, rfl, by unfold maxLen at h2; omega, fun _ => ⟨g, 0, rfl, (hlt g rfl).2, fun j x hj => ?_⟩⟩
    have hj' : j < l.length := by
      rcases Nat.lt_or_ge j l.length with h | h
      · exact h
      · rw [List.getElem?_eq_none h] at hj; cases hj
    rw [cell_of_row w g _ cur 2 (0, 0) hh]
    have : (cur.toList.take (l.length * 1))[j]? = (l.map encI64)[j]? := by rw [h4]
    rw [List.getElem?_take, if_pos (by omega), List.getElem?_map, hj] at this
    rw [Nat.zero_add, ← Array.getElem?_toList, this]
    rfl
/-- A row of numbers that the statement just laid. -/
theorem Nums.made (w : World) (cs : Array Value) (l : List Int) (n : Nat) (hc : cs = (l.map encI64).toArray) (hn : l.length = n) (hl : n ≤ 100000) :
    Nums (w.alloc (.cells cs 2)) (w.heap.size + 1) (some ⟨w.heap.size, 0, none⟩) n l := by
  refine ⟨hn, by omega, fun _ => ⟨w.heap.size, 0, rfl, by omega, fun j x hj => ?_⟩⟩
  rw [cell_of_row _ _ _ _ _ _ (heap_alloc_new w _), hc, Nat.zero_add, List.getElem?_toArray, List.getElem?_map, hj]
  rfl
end Go.Proofs.Ytgefhgcpnfbigaa

/- Slices of terms and of binds in memory that may be read; a world in which one block alone has turned. -/
namespace Go.Proofs.Ytgefhgcpnfbigaa
open Go.RowKit

/-- The slice with this address and length reads as these terms; its cells lie in a block below bound. -/
def Trms (w : World) (bound : Nat) (a : Option Addr) (n : Nat) (l : List Trm) : Prop :=
  l.length = n ∧ n * 64 ≤ 140737488351232 ∧ (∀ t ∈ l, t.name.length ≤ maxLen ∧ t.text.length ≤ maxLen) ∧
  (0 < n → ∃ b off, a = some ⟨b, off, none⟩ ∧ b < bound ∧ ∀ (j : Nat) (t : Trm), l[j]? = some t →
    w.cell? ⟨b, off + j * 6, none⟩ = some (.int .i64 t.kind) ∧ w.cell? ⟨b, off + j * 6 + 1, none⟩ = some (.string (lxS t.name)) ∧ w.cell? ⟨b, off + j * 6 + 2, none⟩ = some (.int .i64 t.num) ∧
    w.cell? ⟨b, off + j * 6 + 3, none⟩ = some (.string (lxS t.text)) ∧ w.cell? ⟨b, off + j * 6 + 4, none⟩ = some (.int .i64 t.l) ∧ w.cell? ⟨b, off + j * 6 + 5, none⟩ = some (.int .i64 t.r))
section
variable {w w' : World} {bound bound' : Nat} {a : Option Addr} {n : Nat} {l : List Trm}
theorem Trms.keep (h : Trms w bound a n l) (hk : ∀ p : Addr, p.block < bound → w'.cell? p = w.cell? p) : Trms w' bound a n l :=
  ⟨h.1, h.2.1, h.2.2.1, fun hn => by
    obtain ⟨b, off, e, hb, hc⟩ := h.2.2.2 hn
    refine ⟨b, off, e, hb, fun j t hj => ?_⟩
    obtain ⟨c0, c1, c2, c3, c4, c5⟩ := hc j t hj
    exact ⟨(hk _ hb).trans c0, (hk _ hb).trans c1, (hk _ hb).trans c2, (hk _ hb).trans c3, (hk _ hb).trans c4, (hk _ hb).trans c5⟩⟩
theorem Trms.below (h : Trms w bound a n l) (hb : Below bound w w') : Trms w' bound a n l := h.keep fun _ hp => hb.cell hp
theorem Trms.more (h : Trms w bound a n l) (hb : bound ≤ bound') : Trms w bound' a n l :=
  ⟨h.1, h.2.1, h.2.2.1, fun hn => by
    obtain ⟨b, off, e, hlt, hc⟩ := h.2.2.2 hn
    exact ⟨b, off, e, by omega, hc⟩⟩
theorem Trms.drewN (h : Trms w bound a n l) (k : Nat) : Trms (w.drewN k) bound a n l := h
theorem Trms.zero (w : World) (bound : Nat) (a : Option Addr) : Trms w bound a 0 [] := ⟨rfl, by omega, by simp, fun h => absurd h (Nat.lt_irrefl 0)⟩
theorem Trms.at_ (h : Trms w bound a n l) {k : Nat} (hk : k < n) : ∃ b off t, a = some ⟨b, off, none⟩ ∧ b < bound ∧ l[k]? = some t ∧ l.getD k trm0 = t ∧ t.name.length ≤ maxLen ∧ t.text.length ≤ maxLen ∧
    w.cell? ⟨b, off + k * 6, none⟩ = some (.int .i64 t.kind) ∧ w.cell? ⟨b, off + k * 6 + 1, none⟩ = some (.string (lxS t.name)) ∧ w.cell? ⟨b, off + k * 6 + 2, none⟩ = some (.int .i64 t.num) ∧
    w.cell? ⟨b, off + k * 6 + 3, none⟩ = some (.string (lxS t.text)) ∧ w.cell? ⟨b, off + k * 6 + 4, none⟩ = some (.int .i64 t.l) ∧ w.cell? ⟨b, off + k * 6 + 5, none⟩ = some (.int .i64 t.r) := by
  obtain ⟨b, off, e, hb, hc⟩ := h.2.2.2 (by omega)
  have hk' : k < l.length := by rw [h.1]; exact hk
  have hm := h.2.2.1 l[k] (List.getElem_mem hk')
  exact ⟨b, off, l[k], e, hb, List.getElem?_eq_getElem hk', by rw [List.getD_eq_getElem?_getD, List.getElem?_eq_getElem hk']; rfl, hm.1, hm.2, hc k _ (List.getElem?_eq_getElem hk')⟩
end

/-- The term as the program hands it on. -/
def encT (t : Trm) : Value := .agg #[.int .i64 t.kind, .string (lxS t.name), .int .i64 t.num, .string (lxS t.text), .int .i64 t.l, .int .i64 t.r]

theorem below_on {w W wn : World} (h : Below w.heap.size w W) (hb : Below W.heap.size W wn) : Below w.heap.size w wn := h.trans (hb.mono h.size)
/-- But for block g, what was there is as it was; the streams are as they were. -/
structure Beside (g : Nat) (w w' : World) : Prop where
  os : w'.os = w.os
  tape : w'.tape = w.tape
  output : w'.output = w.output
  size : w.heap.size ≤ w'.heap.size
  block : ∀ k, k < w.heap.size → k ≠ g → w'.heap[k]? = w.heap[k]?
theorem Beside.refl (g : Nat) (w : World) : Beside g w w := ⟨rfl, rfl, rfl, Nat.le_refl _, fun _ _ _ => rfl⟩
theorem Beside.trans {g : Nat} {a b c : World} (h : Beside g a b) (k : Beside g b c) : Beside g a c :=
  ⟨k.os.trans h.os, k.tape.trans h.tape, k.output.trans h.output, Nat.le_trans h.size k.size, fun i hi hg => (k.block i (Nat.lt_of_lt_of_le hi h.size) hg).trans (h.block i hi hg)⟩
theorem Beside.of_below {g : Nat} {w w' : World} (h : Below w.heap.size w w') : Beside g w w' := ⟨h.os, h.tape, h.output, h.size, fun k hk _ => h.block k hk⟩
theorem Beside.below {g B : Nat} {w w' : World} (h : Beside g w w') (hB : B ≤ g) (hB' : B ≤ w.heap.size) : Below B w w' := ⟨h.os, h.tape, h.output, h.size, fun k hk => h.block k (by omega) (by omega)⟩
theorem Beside.drewN {g : Nat} {w w' : World} (h : Beside g w w') (n : Nat) : Beside g w (w'.drewN n) := ⟨h.os, h.tape, h.output, h.size, h.block⟩
theorem Beside.setCell {g : Nat} {w w' : World} (h : Beside g w w') (o : Nat) (u : Value) : Beside g w (w'.setCell ⟨g, o, none⟩ u) :=
  h.trans ⟨rfl, rfl, rfl, by simp [World.setCell], fun k _ hg => Below.heap_setCell _ _ _ _ hg⟩
theorem Beside.cell {g : Nat} {w w' : World} (h : Beside g w w') {p : Addr} (hp : p.block < w.heap.size) (hg : p.block ≠ g) : w'.cell? p = w.cell? p := World.cell?_of_block (w := w) (h.block p.block hp hg)
theorem Beside.frozen {g : Nat} {w w' : World} (h : Beside g w w') {p : Addr} (hp : p.block < w.heap.size) (hg : p.block ≠ g) : w'.frozen? p = w.frozen? p := World.frozen?_of_block (w := w) (h.block p.block hp hg)
theorem Trms.beside {g bound : Nat} {w w' : World} {a : Option Addr} {n : Nat} {l : List Trm} (h : Trms w bound a n l) (hb : Beside g w w') (hg : bound ≤ g) (hs : bound ≤ w.heap.size) : Trms w' bound a n l :=
  h.keep fun p hp => hb.cell (by omega) (by omega)
end Go.Proofs.Ytgefhgcpnfbigaa
