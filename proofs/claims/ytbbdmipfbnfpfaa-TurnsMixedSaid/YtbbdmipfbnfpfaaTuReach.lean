/- Contract of the reference's reach: the places in the order in which they are first met. -/
import Derived.Test.YtbbdmipfbnfpfaaTuArr
namespace Go.Proofs.Ytbbdmipfbnfpfaa
open Go.RowKit

def nextsF (f : List (List ArmL)) (p : Nat) : List Nat := (sortA ((f[p]?).getD [])).map fun a => a.next.toNat
theorem nextsOf_arms (ts : List TurnL) : nextsOf ts = nextsF (ts.map TurnL.arms) := by
  funext p
  unfold nextsOf nextsF armsOf
  rw [List.getElem?_map]
theorem addN_snoc (x : Nat) : ∀ (l o : List Nat), addN o (l ++ [x]) = if x ∈ addN o l then addN o l else addN o l ++ [x]
  | [], o => by by_cases h : x ∈ o <;> simp [addN, h]
  | y :: l, o => by
    rw [List.cons_append, addN, addN]
    split
    · exact addN_snoc x l o
    · exact addN_snoc x l _
def rowI (row : List Nat) : List Int := row.map fun n : Nat => (n : Int)
theorem rowI_len (row : List Nat) : (rowI row).length = row.length := List.length_map _
theorem IInts.one {W : World} {cs : Array Value} {base : Nat} {g : Nat} (x : Int) (hg : g = W.heap.size) (hc : cs = #[.int .i64 x]) (hb : base ≤ W.heap.size) : IInts (W.alloc (.cells cs 3)) base (.slice (some ⟨g, 0, none⟩) 1 1) [x] := by
  subst hg hc
  exact ⟨by simp [encI64], .inr ⟨W.heap.size, 1, _, rfl, hb, heap_alloc_new W _, Nat.le_refl _, by unfold maxLen; omega, by simp, by simp [encI64]⟩⟩
/-- One number more; what lies in other blocks stays, even where the slice's own block is written. -/
theorem IInts.moreB {w : World} {base : Nat} {v : Value} {l : List Int} (h : IInts w base v l) (hb : base ≤ w.heap.size) (n : Int) (hlen : l.length ≤ 1000000) (ty : Nat) :
    ∃ v' w', (Builtin.append_ #[22, 22] ty #[v, .slice (some ⟨w.heap.size, 0, none⟩) 1 1]).run Try.prog (w.alloc (.cells #[.int .i64 n] 3)) = .ok v' w' ∧ IInts w' base v' (l ++ [n]) ∧ (∀ B, B ≤ base → ∀ w0, Below B w0 w → Below B w0 w') ∧
      ∀ g0 w3, Beside g0 w3 w → (∀ g, v.ownBlock = some g → g = g0 ∨ w3.heap.size ≤ g) → Beside g0 w3 w' ∧ ∀ g, v'.ownBlock = some g → g = g0 ∨ w3.heap.size ≤ g := by
  obtain ⟨i0, hi0, hzz⟩ := Option.map_eq_some_iff.1 info_int1
  simp only [Prod.mk.injEq] at hzz
  obtain ⟨hz, hs1, hb1⟩ := hzz
  obtain ⟨v', w', hrun, hown, hgr, _, hat⟩ := run_append_own_at (P := Try.prog) (w.alloc (.cells #[.int .i64 n] 3)) base 22 ty 3 i0 _ 1 8 Try.underlying22 hi0 hz hs1 hb1 rfl (by omega) v l.length (l.map encI64) (h.alloc _)
    ⟨w.heap.size, 0, none⟩ 1 1 [.int .i64 n] rfl
    (fun j u hu => by
      have hj : j = 0 := by
        rcases Nat.eq_zero_or_pos j with h | h
        · exact h
        · rw [List.getElem?_eq_none (by simp; omega)] at hu; cases hu
      subst hj
      obtain rfl : (Value.int .i64 n) = u := by simpa using hu
      rw [Go.WideShapes.add_plain, cell_of_row _ _ _ _ _ _ (heap_alloc_new w _)]
      rfl)
    (fun u hu => by rw [List.mem_singleton.1 hu]; rfl) (by unfold maxLen; omega) (by omega) (by simp; omega)
  refine ⟨v', w', hrun, ?_, fun B hB w0 hw0 => ?_, fun g0 w3 hbs hv => ⟨?_, fun g hg => ?_⟩⟩
  · unfold IInts
    rw [List.length_append, List.map_append]
    exact hown
  · exact (hw0.alloc (by omega) _).grown hgr (by simp; omega) (fun k hk => by
      have := (h.alloc (.cells #[.int .i64 n] 3)).lt k hk
      omega)
  · have h1 : Beside g0 w3 (w.alloc (.cells #[.int .i64 n] 3)) := hbs.trans (Beside.of_below (tu1 w _))
    have hs := h1.size
    exact ⟨hgr.os.trans h1.os, hgr.tape.trans h1.tape, hgr.output.trans h1.output, Nat.le_trans hs hgr.size, fun k hk hne => (hgr.block k (by omega) (fun e => by
      rcases hv k e.symm with e2 | e2
      · exact hne e2
      · omega)).trans (h1.block k hk hne)⟩
  · rcases hat with e | e
    · exact hv g (e.symm.trans hg)
    · rw [e] at hg
      obtain rfl := Option.some.inj hg
      right
      have := hbs.size
      simp
      omega
theorem wpList_append_iintsB {ops : Array Oper} {rest : List Oper} {o : Oper} {a : Act} {Q : Exit → Act → World → Prop} {W : World} {cells : Array Value} (hgd : o.guard = none) (s x : Operand)
    (ho : o.op = .call { callee := .builtin .append, args := #[s, x], argTypes := #[22, 22] }) (base : Nat) (v : Value) (l : List Int) (n : Int) (hc : cells = #[.int .i64 n])
    (hs : a.eval s = v) {g : Nat} (hx : a.eval x = .slice (some ⟨g, 0, none⟩) 1 1) (hg : g = W.heap.size) (hB : IInts W base v l) (hb : base ≤ W.heap.size) (hlen : l.length ≤ 1000000)
    (w0 : World) (hw : Below base w0 W) (g0 : Nat) (w3 : World) (hbs : Beside g0 w3 W) (hv : ∀ g, v.ownBlock = some g → g = g0 ∨ w3.heap.size ≤ g)
    (h : ∀ v' w', IInts w' base v' (l ++ [n]) → Below base w0 w' → Beside g0 w3 w' → (∀ g, v'.ownBlock = some g → g = g0 ∨ w3.heap.size ≤ g) → wpList Try.prog ops Q rest (a.put o.dst v') w') : wpList Try.prog ops Q (o :: rest) a (W.alloc (.cells cells 3)) := by
  subst hc hg
  obtain ⟨v', w', hrun, hown, hbel, hbes⟩ := hB.moreB hb n hlen o.type
  obtain ⟨h1, h2⟩ := hbes g0 w3 hbs hv
  exact wpList_append_lx hgd s x _ ho _ _ _ hs hx hrun (h v' w' hown (hbel base (Nat.le_refl _) w0 hw) h1 h2)
theorem AOwn.from {w : World} {base : Nat} {v : Value} {l : List ArmL} (h : AOwn w base v l) {b off n c : Nat} (hv : v = .slice (some ⟨b, off, none⟩) n c) : base ≤ b ∧ b < w.heap.size := by
  obtain ⟨ts, h, _⟩ := h
  have hlt := h.lt b (by rw [hv]; rfl)
  exact hlt
theorem Arms.besides {w w' : World} {g0 : Nat} {b off n : Nat} {l : List ArmL} (h : Arms w w.heap.size (some ⟨b, off, none⟩) n l) (hb : Beside g0 w w') (hne : b ≠ g0) : Arms w' w'.heap.size (some ⟨b, off, none⟩) n l :=
  ⟨h.1, h.2.1, fun hn => by
    obtain ⟨b', off', e, hlt, hc⟩ := h.2.2 hn
    injection e with e
    injection e with e1 e2 _
    subst e1 e2
    refine ⟨b, off, rfl, Nat.lt_of_lt_of_le hlt hb.size, fun j x hj => ?_⟩
    obtain ⟨s, u, ⟨c0, c1, c2, c3⟩, h1⟩ := hc j x hj
    exact ⟨s, u, ⟨(hb.cell hlt hne).trans c0, (hb.cell hlt hne).trans c1, (hb.cell hlt hne).trans c2, (hb.cell hlt hne).trans c3⟩, h1⟩⟩

end Go.Proofs.Ytbbdmipfbnfpfaa
