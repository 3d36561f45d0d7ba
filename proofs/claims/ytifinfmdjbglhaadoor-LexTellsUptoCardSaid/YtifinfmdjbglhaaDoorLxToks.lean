/- A slice of tokens that the call made. -/
import Derived.Test.YtifinfmdjbglhaaDoorLxRefI
namespace Go.Proofs.YtifinfmdjbglhaaDoor
open Go.RowKit

def encTok (t : Tok) : List Value := [.int .i64 t.kind, .string (lxS t.text), .int .i64 t.place]
def encToks (l : List Tok) : List Value := l.flatMap encTok
theorem encToks_len (l : List Tok) : (encToks l).length = l.length * 3 := by
  unfold encToks
  induction l with
  | nil => rfl
  | cons t l ih => rw [List.flatMap_cons, List.length_append, ih, List.length_cons]; show 3 + _ = _; omega
/-- The slice v, which the call made (its array lies at base or above), holds just these tokens. -/
def Toks (w : World) (base : Nat) (v : Value) (l : List Tok) : Prop := w.ownsRow base 35 3 v l.length (encToks l)

theorem Toks.zero (w : World) (base : Nat) : Toks w base (.slice none 0 0) [] := World.ownsRow_nil w base 35 3
theorem Toks.alloc {w : World} {base : Nat} {v : Value} {l : List Tok} (h : Toks w base v l) (o : Obj) : Toks (w.alloc o) base v l := World.ownsRow.alloc h o
theorem Toks.drewN {w : World} {base : Nat} {v : Value} {l : List Tok} (h : Toks w base v l) (k : Nat) : Toks (w.drewN k) base v l := h
theorem Toks.below {w w' : World} {base B : Nat} {v : Value} {l : List Tok} (h : Toks w base v l) (hb : Below B w w') (hB : w.heap.size ≤ B) : Toks w' base v l := by
  have hlt := h.lt
  rcases h.2 with h0 | ⟨g, cap, cur, rfl, hbase, hh, h1, h2, h3, h4⟩
  · exact ⟨h.1, .inl h0⟩
  · refine ⟨h.1, .inr ⟨g, cap, cur, rfl, hbase, ?_, h1, h2, h3, h4⟩⟩
    have := (hlt g rfl).2
    rw [hb.block g (by omega)]
    exact hh
/-- The slice of one token or more, and the cells of the last. -/
theorem Toks.last {w : World} {base : Nat} {v : Value} {l : List Tok} {t : Tok} (h : Toks w base v (l ++ [t])) :
    ∃ g cap, v = .slice (some ⟨g, 0, none⟩) (l.length + 1) cap ∧ g < w.heap.size ∧ l.length + 1 ≤ cap ∧ cap ≤ maxLen ∧ w.cell? ⟨g, l.length * 3, none⟩ = some (.int .i64 t.kind) ∧ w.cell? ⟨g, l.length * 3 + 1, none⟩ = some (.string (lxS t.text)) ∧ w.cell? ⟨g, l.length * 3 + 2, none⟩ = some (.int .i64 t.place) := by
  have hlt := h.lt
  rcases h.2 with ⟨_, h0⟩ | ⟨g, cap, cur, rfl, hbase, hh, h1, h2, h3, h4⟩
  · simp at h0
  · have hl : (l ++ [t]).length = l.length + 1 := by simp
    rw [hl] at h1 h4
    have hc : ∀ j, j < 3 → w.cell? ⟨g, l.length * 3 + j, none⟩ = (encTok t)[j]? := fun j hj => by
      rw [cell_of_row w g _ cur 35 (0, 0) hh]
      have : (cur.toList.take ((l.length + 1) * 3))[l.length * 3 + j]? = (encToks (l ++ [t]))[l.length * 3 + j]? := by rw [h4]
      rw [List.getElem?_take, if_pos (by omega)] at this
      rw [← Array.getElem?_toList, this]
      unfold encToks
      rw [List.flatMap_append, List.getElem?_append_right (by show (encToks l).length ≤ _; rw [encToks_len]; omega)]
      show (List.flatMap encTok [t])[_ - (encToks l).length]? = _
      rw [encToks_len, Nat.add_sub_cancel_left, List.flatMap_cons, List.flatMap_nil, List.append_nil]
    refine ⟨g, cap, by rw [hl], (hlt g rfl).2, h1, h2, ?_, ?_, ?_⟩
    · have := hc 0 (by omega); rw [Nat.add_zero] at this; rw [this]; rfl
    · rw [hc 1 (by omega)]; rfl
    · rw [hc 2 (by omega)]; rfl

theorem info_tok : (Tryd.prog.info? 35).map (fun i => (i.zero, i.size, i.bytes)) = some (some (.agg #[.int .i64 0, .string ⟨#[]⟩, .int .i64 0]), 3, 32) := by kernel_rfl

/-- One token more, which the statement just laid into a new array. -/
theorem Toks.more {w : World} {base : Nat} {v : Value} {l : List Tok} (h : Toks w base v l) (hb : base ≤ w.heap.size) (t : Tok) (hlen : l.length ≤ 1000000000000) (ty : Nat) :
    ∃ v' w', (Builtin.append_ #[22, 22] ty #[v, .slice (some ⟨w.heap.size, 0, none⟩) 1 1]).run Tryd.prog (w.alloc (.cells (encTok t).toArray 35)) = .ok v' w' ∧
      Toks w' base v' (l ++ [t]) ∧ ∀ B, B ≤ base → ∀ w0, Below B w0 w → Below B w0 w' := by
  obtain ⟨i0, hi0, hzz⟩ := Option.map_eq_some_iff.1 info_tok
  simp only [Prod.mk.injEq] at hzz
  obtain ⟨hz, hs1, hb1⟩ := hzz
  obtain ⟨v', w', hrun, hown, hgr, _, hat⟩ := run_append_own_at (P := Tryd.prog) (w.alloc (.cells (encTok t).toArray 35)) base 22 ty 35 i0 _ 3 32 Tryd.underlying22 hi0 hz hs1 hb1 rfl (by omega) v l.length (encToks l) (h.alloc _)
    ⟨w.heap.size, 0, none⟩ 1 1 (encTok t) rfl
    (fun j u hu => by
      have hj : j < (encTok t).length := by
        rcases Nat.lt_or_ge j (encTok t).length with h | h
        · exact h
        · rw [List.getElem?_eq_none h] at hu; cases hu
      rw [cell_alloc j (by simpa using hj)]
      rw [← hu, List.getElem?_eq_getElem hj]
      simp)
    (fun u hu => by
      unfold encTok at hu
      simp only [List.mem_cons, List.not_mem_nil, or_false] at hu
      rcases hu with rfl | rfl | rfl <;> rfl) (by unfold maxLen; omega) (by omega) (by simp; omega)
  refine ⟨v', w', hrun, ?_, fun B hB w0 hw0 => ?_⟩
  · unfold Toks encToks
    rw [List.length_append, List.flatMap_append, List.flatMap_cons, List.flatMap_nil, List.append_nil]
    exact hown
  · exact (hw0.alloc (by omega) _).grown hgr (by simp; omega) (fun k hk => by
      have := (h.alloc (.cells (encTok t).toArray 35)).lt k hk
      omega)
theorem wpList_append_toks {ops : Array Oper} {rest : List Oper} {o : Oper} {a : Act} {Q : Exit → Act → World → Prop} {W : World} {cells : Array Value} (hgd : o.guard = none) (s x : Operand)
    (ho : o.op = .call { callee := .builtin .append, args := #[s, x], argTypes := #[22, 22] }) (base : Nat) (v : Value) (l : List Tok) (t : Tok) (hc : cells = (encTok t).toArray)
    (hs : a.eval s = v) {g : Nat} (hx : a.eval x = .slice (some ⟨g, 0, none⟩) 1 1) (hg : g = W.heap.size) (hB : Toks W base v l) (hb : base ≤ W.heap.size) (hlen : l.length ≤ 1000000000000)
    (w0 : World) (hw : Below base w0 W)
    (h : ∀ v' w', Toks w' base v' (l ++ [t]) → Below base w0 w' → wpList Tryd.prog ops Q rest (a.put o.dst v') w') : wpList Tryd.prog ops Q (o :: rest) a (W.alloc (.cells cells 35)) := by
  subst hc hg
  obtain ⟨v', w', hrun, hown, hbel⟩ := hB.more hb t hlen o.type
  exact wpList_append_lx hgd s x _ ho _ _ _ hs hx hrun (h v' w' hown (hbel base (Nat.le_refl _) w0 hw))
end Go.Proofs.YtifinfmdjbglhaaDoor
