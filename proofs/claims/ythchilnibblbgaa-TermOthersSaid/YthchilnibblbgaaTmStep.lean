/- Appends of terms at a step of a walk and of a region that draws its order; what is made may be read. -/
import Derived.Test.YthchilnibblbgaaTmLawX
import Derived.Test.YthchilnibblbgaaTmVarsO
import Derived.Deep.DeepCutAuto
import Derived.Deep.RegionHeld3
import Derived.Deep.RegionLaw
namespace Go.Proofs.Ythchilnibblbgaa
open Go.RowKit

theorem step_append_trms {ops : Array Oper} {o : Oper} {a : Act} {K : Act → World → Prop} {Q : Exit → Act → World → Prop} {E : Prop} {W : World} (hgd : o.guard = none) (s x : Operand)
    (ho : o.op = .call { callee := .builtin .append, args := #[s, x], argTypes := #[22, 22] }) (base : Nat) (v : Value) (l : List Trm) (ad : Option Addr) (m c : Nat) (l2 : List Trm) (bound : Nat)
    (hs : a.eval s = v) (hx : a.eval x = .slice ad m c) (hB : TOwn W base v l) (hr : Trms W bound ad m l2) (hb : base ≤ W.heap.size) (hlen : l.length + m ≤ 1000000)
    (h : ∀ v' w', TOwn w' base v' (l ++ l2) → Below base W w' → K (a.put o.dst v') w') : if Region.wanted o (yielded ops a.tmps) = true then Oper.wp Try.prog o a W K Q else E := by
  have hwant : Region.wanted o (yielded ops a.tmps) = true := by simp [Region.wanted, hgd]
  rw [if_pos hwant]
  obtain ⟨v', w', hrun, hown, hbel⟩ := hB.add hb c hr hlen o.type
  unfold Oper.wp execOp
  simp only [ho, resolve, invoke, builtin, Sem.run_bind, Sem.run_pure, Result.andThen_ok, List.map_toArray, List.map_cons, List.map_nil, hs, hx, hrun]
  exact h v' w' hown (hbel base (Nat.le_refl _) W (Below.refl _ _))
/-- One term, made for an append. -/
theorem Trms.one {W : World} {cs : Array Value} (t : Trm) {g : Nat} (hg : g = W.heap.size) (hc : cs = (encTrm t).toArray) (ht : t.name.length ≤ maxLen ∧ t.text.length ≤ maxLen) :
    Trms (W.alloc (.cells cs 38)) (W.alloc (.cells cs 38)).heap.size (some ⟨g, 0, none⟩) 1 [t] :=
  Trms.made W cs [t] 1 g hg (by rw [hc]; simp [encTrms]) rfl (by omega) (fun x hx => by rw [List.mem_singleton.1 hx]; exact ht)
/-- The terms that came in and one more, as they lie in the array that the call made. -/
theorem TOwn.ends {W : World} {base n : Nat} {v : Value} {L : List Trm} {t : Trm} (h : TOwn W base v ([] ++ L ++ [t])) (hl : L.length = n) (hn : n ≤ 1000) (hm : ∀ t ∈ L, t.name.length ≤ maxLen ∧ t.text.length ≤ maxLen) (ht : t.name.length ≤ maxLen ∧ t.text.length ≤ maxLen) :
    ∃ a c, v = .slice a (n + 1) c ∧ Trms W W.heap.size a (n + 1) (L ++ [t]) := by
  rw [List.nil_append] at h
  obtain ⟨a, c, hv, ht⟩ := h.sees (by simp; omega) (fun x hx => by
    rcases List.mem_append.1 hx with hx | hx
    · exact hm x hx
    · rw [List.mem_singleton.1 hx]; exact ht)
  rw [List.length_append, hl] at hv ht
  exact ⟨a, c, hv, ht⟩
theorem Strs.on {W W' : World} {a : Option Addr} {n : Nat} {l : List Str} (h : Strs W W.heap.size a n l) (hb : Below W.heap.size W W') : Strs W' W'.heap.size a n l := (h.below hb).more hb.size
/-- What a call saw is still there. -/
theorem Trms.still {w W : World} {a : Option Addr} {n : Nat} {L : List Trm} (h : Trms w w.heap.size a n L) (hb : Below w.heap.size w W) : Trms W W.heap.size a n L := h.on hb
end Go.Proofs.Ythchilnibblbgaa
