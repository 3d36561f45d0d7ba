/- Points in memory. -/
import Derived.Test.YtiofpeckcfdilaaGreatDoorTuPlains
import Derived.Test.YtiofpeckcfdilaaGreatDoorGlPlains
namespace Go.Proofs.YtiofpeckcfdilaaGreatDoor
open Go.RowKit

/-- The slice with this address and length, however long, reads as these points. -/
def Pts (w : World) (bound : Nat) (a : Option Addr) (n : Nat) (ps : List PointL) : Prop :=
  ps.length = n ∧ n ≤ 9223372036854775807 ∧ (0 < n → ∃ b off, a = some ⟨b, off, none⟩ ∧ b < bound ∧ ∀ (j : Nat) (x : PointL), ps[j]? = some x → ∃ (q s : ByteArray) (aa : Option Addr) (an ac : Nat),
    (w.cell? ⟨b, off + j * 3, none⟩ = some (.string q) ∧ w.cell? ⟨b, off + j * 3 + 1, none⟩ = some (.string s) ∧ w.cell? ⟨b, off + j * 3 + 2, none⟩ = some (.slice aa an ac)) ∧
    (q.toList = x.src ∧ s.toList = x.dst ∧ q.size ≤ maxLen ∧ s.size ≤ maxLen ∧ Arms w bound aa an x.arms))
section
variable {w w' : World} {bound bound' : Nat} {a : Option Addr} {n : Nat} {ps : List PointL}
theorem Pts.keep (h : Pts w bound a n ps) (hk : ∀ p : Addr, p.block < bound → w'.cell? p = w.cell? p) : Pts w' bound a n ps :=
  ⟨h.1, h.2.1, fun hn => by
    obtain ⟨b, off, e, hb, hc⟩ := h.2.2 hn
    refine ⟨b, off, e, hb, fun j x hj => ?_⟩
    obtain ⟨q, s, aa, an, ac, ⟨c0, c1, c2⟩, h1, h2, h3, h4, h5⟩ := hc j x hj
    exact ⟨q, s, aa, an, ac, ⟨(hk _ hb).trans c0, (hk _ hb).trans c1, (hk _ hb).trans c2⟩, h1, h2, h3, h4, h5.keep hk⟩⟩
theorem Pts.below (h : Pts w bound a n ps) (hb : Below bound w w') : Pts w' bound a n ps := h.keep fun _ hp => hb.cell hp
theorem Pts.more (h : Pts w bound a n ps) (hb : bound ≤ bound') : Pts w bound' a n ps :=
  ⟨h.1, h.2.1, fun hn => by
    obtain ⟨b, off, e, hlt, hc⟩ := h.2.2 hn
    refine ⟨b, off, e, by omega, fun j x hj => ?_⟩
    obtain ⟨q, s, aa, an, ac, c, h1, h2, h3, h4, h5⟩ := hc j x hj
    exact ⟨q, s, aa, an, ac, c, h1, h2, h3, h4, h5.more hb⟩⟩
theorem Pts.zero (w : World) (bound : Nat) (a : Option Addr) : Pts w bound a 0 [] := ⟨rfl, by omega, fun h => absurd h (Nat.lt_irrefl 0)⟩
theorem Pts.on {W W' : World} {a : Option Addr} {n : Nat} {ps : List PointL} (h : Pts W W.heap.size a n ps) (hb : Below W.heap.size W W') : Pts W' W'.heap.size a n ps := (h.below hb).more hb.size
theorem Pts.at_ (h : Pts w bound a n ps) {k : Nat} (hk : k < n) : ∃ (b off : Nat) (q s : ByteArray) (aa : Option Addr) (an ac : Nat) (l : List ArmL), a = some ⟨b, off, none⟩ ∧ b < bound ∧ ps[k]? = some ⟨q.toList, s.toList, l⟩ ∧
    (w.cell? ⟨b, off + k * 3, none⟩ = some (.string q) ∧ w.cell? ⟨b, off + k * 3 + 1, none⟩ = some (.string s) ∧ w.cell? ⟨b, off + k * 3 + 2, none⟩ = some (.slice aa an ac)) ∧ q.size ≤ maxLen ∧ s.size ≤ maxLen ∧ Arms w bound aa an l := by
  obtain ⟨b, off, e, hb, hc⟩ := h.2.2 (by omega)
  have hk' : k < ps.length := by rw [h.1]; exact hk
  obtain ⟨q, s, aa, an, ac, c, h1, h2, h3, h4, h5⟩ := hc k _ (List.getElem?_eq_getElem hk')
  exact ⟨b, off, q, s, aa, an, ac, ps[k].arms, e, hb, by rw [List.getElem?_eq_getElem hk', h1, h2], c, h3, h4, h5⟩
end
/-- The block holds this protocol's three cells. -/
def PBox (W : World) (g : Nat) (nm : ByteArray) (ra : Option Addr) (rn rc : Nat) (a : Option Addr) (n c : Nat) : Prop := W.heap[g]? = some (.cells #[.string nm, .slice ra rn rc, .slice a n c] 37 (0, 0))
section
variable {W W' : World} {g : Nat} {nm : ByteArray} {ra : Option Addr} {rn rc : Nat} {a : Option Addr} {n c : Nat}
theorem PBox.lt (h : PBox W g nm ra rn rc a n c) : g < W.heap.size := (Array.getElem?_eq_some_iff.1 h).1
theorem PBox.on (h : PBox W g nm ra rn rc a n c) (hb : Below W.heap.size W W') : PBox W' g nm ra rn rc a n c := (hb.block g h.lt).trans h
theorem PBox.beside {d : Nat} (h : PBox W g nm ra rn rc a n c) (hb : Beside d W W') (hne : g ≠ d) : PBox W' g nm ra rn rc a n c := (hb.block g h.lt hne).trans h
theorem PBox.cells (h : PBox W g nm ra rn rc a n c) : W.cell? ⟨g, 0, none⟩ = some (.string nm) ∧ W.cell? ⟨g, 1, none⟩ = some (.slice ra rn rc) ∧ W.cell? ⟨g, 2, none⟩ = some (.slice a n c) := by
  unfold PBox at h
  refine ⟨?_, ?_, ?_⟩
  all_goals (rw [cell_of_row _ _ _ _ _ _ h]; rfl)
theorem PBox.thaw (h : PBox W g nm ra rn rc a n c) (o : Nat) : W.frozen? ⟨g, o, none⟩ = false := by
  unfold PBox at h
  unfold World.frozen?
  rw [h]
  simp
theorem PBox.new (w : World) (nm : ByteArray) (ra : Option Addr) (rn rc : Nat) (a : Option Addr) (n c : Nat) : PBox (w.alloc (.cells #[.string nm, .slice ra rn rc, .slice a n c] 37)) w.heap.size nm ra rn rc a n c := heap_alloc_new w _
theorem PBox.set {a' : Option Addr} {n' c' : Nat} (h : PBox W g nm ra rn rc a n c) : PBox (W.setCell ⟨g, 2, none⟩ (.slice a' n' c')) g nm ra rn rc a' n' c' := by
  unfold PBox at h ⊢
  obtain ⟨hlt, hk⟩ := Array.getElem?_eq_some_iff.1 h
  show (W.heap.modify g _)[g]? = _
  rw [Array.getElem?_eq_getElem (by rw [Array.size_modify]; exact hlt), Array.getElem_modify_self, hk]
  rfl
end
end Go.Proofs.YtiofpeckcfdilaaGreatDoor
