/- Contract of the program's search: the places that are reached, in a slice, and each one's index, in a map. -/
import Derived.Test.YtgefhgcpnfbigaaTuOwnS
import Derived.Test.YtgefhgcpnfbigaaTuPeers
import Derived.Maps.OwnOps
import Derived.Maps.OwnSet
import Derived.Maps.Views
import Derived.Deep.RegionWith
namespace Go.Proofs.Ytgefhgcpnfbigaa
open Go.RowKit Go.Maps Go.WideMaps

def keyI (x : Nat) : Lit := .int .i64 (x : Int)
theorem keyI_wf {x : Nat} (h : x ≤ 1000000) : (Lit.int .i64 (x : Int)).wf = true := WalkArith.wf_i64 (by omega)
theorem keyedI : Keyed Try.prog 3 := int_keyed Try.underlying3
theorem keyI_ne {x y : Nat} (h : x ≠ y) : keyI x ≠ keyI y := by
  unfold keyI
  intro e
  injection e with _ e
  omega
/-- The block holds a map from each place of the row to its index there; all places are small. -/
def PMap (w : World) (b : Nat) (row : List Nat) : Prop :=
  ∃ (n : Nat) (D : DataW Unit), w.ownsMap Try.prog 3 (plainElem Try.prog 3) b n D ∧ n ≤ row.length ∧ row.length ≤ 1000 ∧
    ∀ x : Nat, x ≤ 1000000 → D.atKey (keyI x) (.lit (.int .i64 0)) = .lit (.int .i64 ((if x ∈ row then row.idxOf x else 0 : Nat) : Int)) ∧ Maps.has D (keyI x) = decide (x ∈ row)
theorem PMap.made (w : World) : PMap (w.alloc (.map #[] 0)) w.heap.size [] :=
  ⟨0, .map [], World.ownsMap_made _ _ _ _, Nat.le_refl _, by simp, fun x _ => ⟨rfl, rfl⟩⟩
theorem PMap.kept {w w' : World} {b : Nat} {row : List Nat} {r : Option Nat} (h : PMap w b row) (hg : w.grownBy w' r) (hne : some b ≠ r) : PMap w' b row := by
  obtain ⟨n, D, h1, h2⟩ := h
  exact ⟨n, D, h1.kept hg hne, h2⟩
theorem PMap.lt {w : World} {b : Nat} {row : List Nat} (h : PMap w b row) : b < w.heap.size := by
  obtain ⟨n, D, h1, _⟩ := h
  exact h1.lt
theorem PMap.block {w w' : World} {b : Nat} {row : List Nat} (h : PMap w b row) (hb : w'.heap[b]? = w.heap[b]?) : PMap w' b row := by
  obtain ⟨n, D, ⟨es, clock, h1, h2⟩, h3⟩ := h
  exact ⟨n, D, ⟨es, clock, hb.trans h1, h2⟩, h3⟩
theorem PMap.below {w w' : World} {b B : Nat} {row : List Nat} (h : PMap w b row) (hb : Below B w w') (hB : b < B) : PMap w' b row := h.block (hb.block b hB)
theorem PMap.on {w w' : World} {b : Nat} {row : List Nat} (h : PMap w b row) (hb : Below w.heap.size w w') : PMap w' b row := h.below hb h.lt
theorem zeroInt (w : World) : (zeroValue 3).run Try.prog w = .ok (.int .i64 0) w := by kernel_rfl
/-- All blocks but two stay. -/
structure Two (g m : Nat) (w w' : World) : Prop where
  size : w.heap.size ≤ w'.heap.size
  block : ∀ k, k < w.heap.size → k ≠ g → k ≠ m → w'.heap[k]? = w.heap[k]?
theorem Two.refl (g m : Nat) (w : World) : Two g m w w := ⟨Nat.le_refl _, fun _ _ _ _ => rfl⟩
theorem Two.grown {g m : Nat} {w w' w2 : World} {r : Option Nat} (h : Two g m w w') (hg : w'.grownBy w2 r) (hr : ∀ k, r = some k → k = g ∨ k = m ∨ w.heap.size ≤ k) : Two g m w w2 :=
  ⟨Nat.le_trans h.size hg.size, fun k hk h1 h2 => (hg.block k (Nat.lt_of_lt_of_le hk h.size) (fun e => by
    rcases hr k e.symm with e | e | e
    · exact h1 e
    · exact h2 e
    · omega)).trans (h.block k hk h1 h2)⟩
theorem Two.alloc {g m : Nat} {w w' : World} (h : Two g m w w') (o : Obj) : Two g m w (w'.alloc o) :=
  h.grown (World.grownBy_alloc w' o none) (fun _ e => by cases e)
theorem Two.cell {g m : Nat} {w w' : World} (h : Two g m w w') {p : Addr} (hp : p.block < w.heap.size) (hg : p.block ≠ g) (hm : p.block ≠ m) : w'.cell? p = w.cell? p := World.cell?_of_block (h.block p.block hp hg hm)
/-- One number more to a slice of the call's own, and what has turned. -/
theorem IInts.add {w : World} {base : Nat} {v : Value} {l : List Int} (h : IInts w base v l) (hb : base ≤ w.heap.size) (n : Int) (hlen : l.length ≤ 1000000) (ty : Nat) :
    ∃ v' w', (Builtin.append_ #[24, 24] ty #[v, .slice (some ⟨w.heap.size, 0, none⟩) 1 1]).run Try.prog (w.alloc (.cells #[.int .i64 n] 3)) = .ok v' w' ∧ IInts w' base v' (l ++ [n]) ∧
      (w.alloc (.cells #[.int .i64 n] 3)).grownBy w' v.ownBlock ∧ (v'.ownBlock = v.ownBlock ∨ v'.ownBlock = some (w.heap.size + 1)) := by
  obtain ⟨i0, hi0, hzz⟩ := Option.map_eq_some_iff.1 info_int1
  simp only [Prod.mk.injEq] at hzz
  obtain ⟨hz, hs1, hb1⟩ := hzz
  obtain ⟨v', w', hrun, hown, hgr, _, hat⟩ := run_append_own_at (P := Try.prog) (w.alloc (.cells #[.int .i64 n] 3)) base 24 ty 3 i0 _ 1 8 Try.underlying24 hi0 hz hs1 hb1 rfl (by omega) v l.length (l.map encI64) (h.alloc _)
    ⟨w.heap.size, 0, none⟩ 1 1 [.int .i64 n] rfl
    (fun j u hu => by
      have hj : j = 0 := by
        rcases Nat.eq_zero_or_pos j with h | h
        · exact h
        · rw [List.getElem?_eq_none (by simp; omega)] at hu; cases hu
      subst hj
      obtain rfl : (Value.int .i64 n) = u := by simpa using hu
      rw [Go.WideShapes.add_plain, cell_of_row _ _ _ _ _ _ (heap_alloc_new w _)]
      rfl)
    (fun u hu => by rw [List.mem_singleton.1 hu]; rfl) (by unfold maxLen; omega) (by omega) (by simp; omega)
  refine ⟨v', w', hrun, ?_, hgr, ?_⟩
  · unfold IInts
    rw [List.length_append, List.map_append]
    exact hown
  · rw [World.size_alloc] at hat
    exact hat
theorem wpList_append_iints2 {ops : Array Oper} {rest : List Oper} {o : Oper} {a : Act} {Q : Exit → Act → World → Prop} {W : World} {cells : Array Value} (hgd : o.guard = none) (s x : Operand)
    (ho : o.op = .call { callee := .builtin .append, args := #[s, x], argTypes := #[24, 24] }) (base : Nat) (v : Value) (l : List Int) (n : Int) (hc : cells = #[.int .i64 n])
    (hs : a.eval s = v) {g : Nat} (hx : a.eval x = .slice (some ⟨g, 0, none⟩) 1 1) (hg : g = W.heap.size) (hB : IInts W base v l) (hb : base ≤ W.heap.size) (hlen : l.length ≤ 1000000)
    (h : ∀ v' w', IInts w' base v' (l ++ [n]) → (W.alloc (.cells #[.int .i64 n] 3)).grownBy w' v.ownBlock → (v'.ownBlock = v.ownBlock ∨ v'.ownBlock = some (W.heap.size + 1)) → wpList Try.prog ops Q rest (a.put o.dst v') w') : wpList Try.prog ops Q (o :: rest) a (W.alloc (.cells cells 3)) := by
  subst hc hg
  obtain ⟨v', w', hrun, hown, hgr, hat⟩ := hB.add hb n hlen o.type
  exact wpList_append_lx hgd s x _ ho _ _ _ hs hx hrun (h v' w' hown hgr hat)
end Go.Proofs.Ytgefhgcpnfbigaa

/- Contract of the program's search. -/
namespace Go.Proofs.Ytgefhgcpnfbigaa
open Go.RowKit

end Go.Proofs.Ytgefhgcpnfbigaa
