/- Contracts of the program's validArms, validTurn and May. -/
import Derived.Test.YtgefhgcpnfbigaaTuCut
import Derived.Test.YtgefhgcpnfbigaaRef2
namespace Go.Proofs.Ytgefhgcpnfbigaa
open Go.RowKit Go.Sort

theorem ownsRow_on {w w' : World} {base B : Nat} {e : TypeId} {size : Nat} {v : Value} {n : Nat} {xs : List Value} (h : w.ownsRow base e size v n xs) (hb : Below B w w') (hB : w.heap.size ≤ B) : w'.ownsRow base e size v n xs := by
  have hlt := h.lt
  rcases h.2 with h0 | ⟨g, cap, cur, rfl, hbase, hh, h1, h2, h3, h4⟩
  · exact ⟨h.1, .inl h0⟩
  · refine ⟨h.1, .inr ⟨g, cap, cur, rfl, hbase, ?_, h1, h2, h3, h4⟩⟩
    have := (hlt g rfl).2
    rw [hb.block g (by omega)]
    exact hh
theorem Arms.max {w : World} {bound : Nat} {a : Option Addr} {n : Nat} {l : List ArmL} (h : Arms w bound a n l) : ∀ s ∈ l.map ArmL.label, s.length ≤ maxLen := by
  intro s hs
  obtain ⟨x, hx, rfl⟩ := List.mem_map.1 hs
  obtain ⟨j, hj, e⟩ := List.mem_iff_getElem.1 hx
  obtain ⟨b, off, s, u, ck, nx, _, _, h1, _, h2, _⟩ := h.at_ (k := j) (by rw [← h.1]; exact hj)
  rw [List.getElem?_eq_getElem hj, e] at h1
  obtain rfl := Option.some.inj h1
  rw [len_toList]
  exact h2
theorem armsB_few {n : Nat} {l : List ArmL} (h : l.length < 1 ∨ 6 < l.length) : armsB n l = false := by
  unfold armsB
  rcases h with h | h
  · rw [decide_eq_false (show ¬ 1 ≤ l.length by omega)]; simp
  · rw [decide_eq_false (show ¬ l.length ≤ 6 by omega)]; simp
theorem armsB_once {n : Nat} {l : List ArmL} (h1 : 1 ≤ l.length) (h6 : l.length ≤ 6) (hg : ∀ a ∈ l, armB n a = true) : armsB n l = once (l.map ArmL.label) := by
  have e : once (l.map ArmL.label) = decide ((l.map ArmL.label).Nodup) := by rw [Bool.eq_iff_iff, once_iff, decide_eq_true_eq]
  have ha : l.all (armB n) = true := List.all_eq_true.2 hg
  unfold armsB
  rw [e, ha, decide_eq_true h1, decide_eq_true h6]
  simp
theorem good_step {n : Nat} {l : List ArmL} {k : Nat} {x : ArmL} (h : ∀ a ∈ l.take k, armB n a = true) (hx : l[k]? = some x) (hg : armB n x = true) : ∀ a ∈ l.take (k + 1), armB n a = true := by
  intro a ha
  rw [tuTake_at hx, List.mem_append, List.mem_singleton] at ha
  rcases ha with ha | rfl
  · exact h a ha
  · exact hg

end Go.Proofs.Ytgefhgcpnfbigaa
