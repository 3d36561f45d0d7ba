/- Contract of the program's variable. -/
import Derived.Test.YthbakfceaaaamaaTmEnv
namespace Go.Proofs.Ythbakfceaaaamaa
open Go.RowKit

/-- Block A holds this value, and may be written. -/
def BoxV (W : World) (A : Nat) (v0 v1 v2 v3 : Value) : Prop := W.heap[A]? = some (.cells #[v0, v1, v2, v3] 33 (0, 0))
theorem BoxV.lt {W : World} {R : Nat} {v0 v1 v2 v3 : Value} (h : BoxV W R v0 v1 v2 v3) : R < W.heap.size := by
  rcases Nat.lt_or_ge R W.heap.size with h1 | h1
  · exact h1
  · unfold BoxV at h; rw [Array.getElem?_eq_none h1] at h; cases h
theorem BoxV.new (w : World) (v0 v1 v2 v3 : Value) : BoxV (w.alloc (.cells #[v0, v1, v2, v3] 33)) w.heap.size v0 v1 v2 v3 := heap_alloc_new w _
theorem BoxV.below {W W' : World} {R B : Nat} {v0 v1 v2 v3 : Value} (h : BoxV W R v0 v1 v2 v3) (hb : Below B W W') (hB : R < B) : BoxV W' R v0 v1 v2 v3 := (hb.block R hB).trans h
theorem BoxV.on {W W' : World} {R : Nat} {v0 v1 v2 v3 : Value} (h : BoxV W R v0 v1 v2 v3) (hb : Below W.heap.size W W') : BoxV W' R v0 v1 v2 v3 := h.below hb h.lt
theorem BoxV.cells {W : World} {R : Nat} {v0 v1 v2 v3 : Value} (h : BoxV W R v0 v1 v2 v3) : (W.cell? ⟨R, 0, none⟩ = some v0 ∧ W.cell? ⟨R, 1, none⟩ = some v1 ∧ W.cell? ⟨R, 2, none⟩ = some v2 ∧ W.cell? ⟨R, 3, none⟩ = some v3) ∧
    W.frozen? ⟨R, 0, none⟩ = false ∧ W.frozen? ⟨R, 1, none⟩ = false ∧ W.frozen? ⟨R, 2, none⟩ = false ∧ W.frozen? ⟨R, 3, none⟩ = false := by
  unfold BoxV at h
  refine ⟨⟨?_, ?_, ?_, ?_⟩, ?_, ?_, ?_, ?_⟩
  iterate 4 (rw [cell_of_row _ _ _ _ _ _ h]; rfl)
  all_goals (unfold World.frozen?; rw [h]; rfl)
theorem Slot.setOther {W : World} {R : Nat} (h : Slot W R) {p : Addr} (hp : R ≠ p.block) (u : Value) : Slot (W.setCell p u) R := (Below.heap_setCell W p u R hp).trans h
theorem set_keep {w1 : World} {A b o : Nat} (h : b ≠ A) (v0 v1 v2 v3 : Value) : ((((w1.setCell ⟨A, 0, none⟩ v0).setCell ⟨A, 1, none⟩ v1).setCell ⟨A, 2, none⟩ v2).setCell ⟨A, 3, none⟩ v3).cell? ⟨b, o, none⟩ = w1.cell? ⟨b, o, none⟩ := by
  have hn : ∀ j, (⟨A, j, none⟩ : Addr) ≠ ⟨b, o, none⟩ := fun j e => by injection e with e _ _; exact h e.symm
  rw [World.cell?_setCell_other _ _ _ _ (hn 3), World.cell?_setCell_other _ _ _ _ (hn 2), World.cell?_setCell_other _ _ _ _ (hn 1), World.cell?_setCell_other _ _ _ _ (hn 0)]
/-- What a write to the last cell of such a block leaves. -/
theorem BoxV.set3 {W : World} {R : Nat} {v0 v1 v2 v3 : Value} (h : BoxV W R v0 v1 v2 v3) (u : Value) : (W.setCell ⟨R, 3, none⟩ u).cell? ⟨R, 0, none⟩ = some v0 ∧ (W.setCell ⟨R, 3, none⟩ u).cell? ⟨R, 1, none⟩ = some v1 ∧ (W.setCell ⟨R, 3, none⟩ u).cell? ⟨R, 2, none⟩ = some v2 ∧ (W.setCell ⟨R, 3, none⟩ u).cell? ⟨R, 3, none⟩ = some u := by
  obtain ⟨⟨a0, a1, a2, a3⟩, _⟩ := h.cells
  refine ⟨?_, ?_, ?_, World.cell?_setCell_same' _ _ _ (by rw [a3]; rfl)⟩
  · rw [World.cell?_setCell_other _ _ _ _ (neo (by decide)), a0]
  · rw [World.cell?_setCell_other _ _ _ _ (neo (by decide)), a1]
  · rw [World.cell?_setCell_other _ _ _ _ (neo (by decide)), a2]

theorem mayV_len {v : Val} (h : mayV v = true) : v.list.length ≤ 16 := by
  unfold mayV at h
  split at h
  · simp at h; simp [h.2]
  split at h
  · simp at h; simp [h.2]
  split at h
  · simp at h; simp [h.2]
  split at h
  · simp at h; simp [h.2]
  split at h
  · simp at h; exact h.2
  · simp at h; simp [h.2]
set_option maxHeartbeats 4000000 in
theorem variable_any (a : Option Addr) (n c : Nat) (env : List (Str × Val)) (nm : ByteArray) (w : World) (bound : Nat) (hb : bound ≤ w.heap.size) (h : Binds w bound a n env) :
    Calls Try.prog 37 #[.string nm, .slice a n c] w (PairRet w (holdV env nm.toList)) := by
  have hmf : ∀ (fn : Fn) (first cap : Array Value) (w : World), (Instr.makeFunc fn first cap).run Try.prog w = .ok (.func fn first cap) w := fun _ _ _ _ => rfl
  have HB := Lib.hid (((Below.refl w.heap.size w).alloc (Nat.le_refl _) (.cells #[.string nm] 9)).alloc (by simp) (.cells #[.int .i64 0, .int .i64 0, .string ⟨#[]⟩, .slice none 0 0] 33))
  have hs0 := Slot.new (w.alloc (.cells #[.string nm] 9))
  rw [World.size_alloc] at hs0
  have HS := Lib.hid hs0
  have hsz := h.2.1
  have CX := Lib.hid (indexFunc_any a n c w.heap.size env nm ((w.alloc (.cells #[.string nm] 9)).alloc (.cells #[.int .i64 0, .int .i64 0, .string ⟨#[]⟩, .slice none 0 0] 33)) bound (by simp <;> omega) (h.below (HB.out.mono hb)) (by rw [World.cell?_alloc_lt _ _ _ (by simp)]; simp) (by simp <;> omega))
  have HN := Lib.hid h
  clear hs0
  rcases holdV_idx nm.toList env 0 with ⟨h1, h2⟩ | ⟨k, x, h1, hx, h2⟩
  · rw [h1] at CX
    generalize holdV env nm.toList = r at h2 ⊢
    have HG := Lib.hid h2
    clear h1 h2 h
    go_enter Try.func37, Try.ntmps37
    go_wp2_with (first
      | (go_at_call 58; (with_reducible refine CX.out.mono ?_)
         rintro e w1 ⟨rfl, hb1⟩
         have HS1 := Lib.hid (HS.out.on hb1)
         have HB1 := Lib.hid (below_on HB.out hb1)
         obtain ⟨⟨c0, c1, c2, c3⟩, f0, f1, f2, f3⟩ := HS1.out.cells
         clear hb1)
      | fail)
    (try simp only [Exit.inBlock, Exit.then])
    refine end_pair rfl rfl rfl HS1.out ?_
    exact PairRet.is (PairRet.flat0 (below_set HB1.out (by omega) _ _ _ _)) HG.out
  · rw [h1, Nat.zero_add] at CX
    generalize holdV env nm.toList = r at h2 ⊢
    have hkn : k < n := by
      have hl := h.1
      obtain ⟨h3, _⟩ := List.getElem?_eq_some_iff.1 hx
      omega
    obtain ⟨b, off, x', s, t, la, ln, lc, rfl, hbb, hx', ⟨q0, q1, q2, q3, q4⟩, hs1, ht1, hnn⟩ := h.at_ hkn
    rw [hx] at hx'
    obtain rfl := Option.some.inj hx'
    have HQ := Lib.hid (And.intro q1 (And.intro q2 (And.intro q3 q4)))
    have HT := Lib.hid ht1
    have HL := Lib.hid hnn
    have cm : ∀ W, Below w.heap.size w W → Calls Try.prog 11 #[.agg #[.int .i64 x.2.kind, .int .i64 x.2.num, .string t, .slice la ln lc]] W fun e w' => e = .returned (.bool (mayV x.2)) ∧ Below W.heap.size W w' := fun W hW => by
      have := dataMay_any x.2.kind x.2.num t la ln lc x.2.list W bound (by have := hW.size; omega) (hnn.below (hW.mono hb))
      rw [ht1] at this
      exact this
    clear h1 h q0 q1 q2 q3 q4 hs1 ht1 hnn hx hx'
    cases hm : mayV x.2
    · rw [hm] at cm h2
      have HG := Lib.hid h2
      have CM := Lib.hid cm
      clear h2 cm hm
      go_enter Try.func37, Try.ntmps37
      go_wp2_with (first
        | (go_at_call 58; (with_reducible refine CX.out.mono ?_)
           rintro e w1 ⟨rfl, hb1⟩
           have HS1 := Lib.hid (HS.out.on hb1)
           have HB1 := Lib.hid (below_on HB.out hb1)
           have hbw : b < w.heap.size := by omega
           obtain ⟨q1, q2, q3, q4⟩ := HQ.out
           have r1 := (HB1.out.cell (p := ⟨b, off + k * 5 + 1, none⟩) hbw).trans q1
           have r2 := (HB1.out.cell (p := ⟨b, off + k * 5 + 2, none⟩) hbw).trans q2
           have r3 := (HB1.out.cell (p := ⟨b, off + k * 5 + 3, none⟩) hbw).trans q3
           have r4 := (HB1.out.cell (p := ⟨b, off + k * 5 + 4, none⟩) hbw).trans q4
           clear hb1 q1 q2 q3 q4)
        | (go_at_call 11; (with_reducible refine (CM.out _ HB1.out).mono ?_)
           rintro e w2 ⟨rfl, hb2⟩
           have HS2 := Lib.hid (HS1.out.on hb2)
           have HB2 := Lib.hid (below_on HB1.out hb2)
           obtain ⟨⟨c0, c1, c2, c3⟩, f0, f1, f2, f3⟩ := HS2.out.cells
           clear hb2)
        | fail)
      (try simp only [Exit.inBlock, Exit.then])
      refine end_pair rfl rfl rfl HS2.out ?_
      exact PairRet.is (PairRet.flat0 (below_set HB2.out (by omega) _ _ _ _)) HG.out
    · rw [hm] at cm h2
      have HM := Lib.hid hm
      have HG := Lib.hid h2
      have CM := Lib.hid cm
      clear h2 cm hm
      have HLEN := Lib.hid (show ([] : List Int).length + ln ≤ 7000000000000 by have h1 := mayV_len HM.out; have h2 := HL.out.1; simp only [List.length_nil]; omega)
      obtain ⟨xk, hxk⟩ : ∃ xk, xk = x.2.kind := ⟨_, rfl⟩
      obtain ⟨xn, hxn⟩ : ∃ xn, xn = x.2.num := ⟨_, rfl⟩
      rw [← hxk, ← hxn] at CM HQ
      have HX := Lib.hid (And.intro hxk hxn)
      clear hxk hxn
      go_enter Try.func37, Try.ntmps37
      go_wp2_with (first
        | (go_at_call 58; (with_reducible refine CX.out.mono ?_)
           rintro e w1 ⟨rfl, hb1⟩
           have HS1 := Lib.hid (HS.out.on hb1)
           have HB1 := Lib.hid (below_on HB.out hb1)
           have hbw : b < w.heap.size := by omega
           obtain ⟨q1, q2, q3, q4⟩ := HQ.out
           have r1 := (HB1.out.cell (p := ⟨b, off + k * 5 + 1, none⟩) hbw).trans q1
           have r2 := (HB1.out.cell (p := ⟨b, off + k * 5 + 2, none⟩) hbw).trans q2
           have r3 := (HB1.out.cell (p := ⟨b, off + k * 5 + 3, none⟩) hbw).trans q3
           have r4 := (HB1.out.cell (p := ⟨b, off + k * 5 + 4, none⟩) hbw).trans q4
           clear hb1 q1 q2 q3 q4)
        | (go_at_call 11; (with_reducible refine (CM.out _ HB1.out).mono ?_)
           rintro e w2 ⟨rfl, hb2⟩
           have HS2 := Lib.hid (HS1.out.on hb2)
           have HB2 := Lib.hid (below_on HB1.out hb2)
           have hbw : b < w.heap.size := by omega
           obtain ⟨q1, q2, q3, q4⟩ := HQ.out
           have r1 := (HB2.out.cell (p := ⟨b, off + k * 5 + 1, none⟩) hbw).trans q1
           have r2 := (HB2.out.cell (p := ⟨b, off + k * 5 + 2, none⟩) hbw).trans q2
           have r3 := (HB2.out.cell (p := ⟨b, off + k * 5 + 3, none⟩) hbw).trans q3
           have r4 := (HB2.out.cell (p := ⟨b, off + k * 5 + 4, none⟩) hbw).trans q4
           have HS2 := Lib.hid (HS1.out.on (W' := w2) hb2)
           clear hb2 q1 q2 q3 q4)
        | (at_builtin
           refine wpList_append_nums rfl (.const (.slice none 0 0)) (.tmp 30) rfl (w2.heap.size + 1) _ [] la ln lc x.2.list bound rfl rfl (Ints.zero _ _) (HL.out.below ((HB2.out.alloc HB2.out.size _).mono hb)) (by simp) HLEN.out (w2.alloc (.cells #[.int .i64 xk, .int .i64 xn, .string t, .slice la ln lc] 33)) (Below.refl _ _) ?_
           intro v' w3 hi hb3
           rw [List.nil_append] at hi
           obtain ⟨a', c', rfl, _, _, hf, hnn⟩ := hi.sees
           obtain ⟨nl, hnl⟩ : ∃ nl, nl = x.2.list.length := ⟨_, rfl⟩
           rw [← hnl] at hf hnn ⊢
           have hb3' : Below (w2.alloc (.cells #[.int .i64 xk, .int .i64 xn, .string t, .slice la ln lc] 33)).heap.size (w2.alloc (.cells #[.int .i64 xk, .int .i64 xn, .string t, .slice la ln lc] 33)) w3 := by rw [World.size_alloc]; exact hb3
           have hbx : BoxV w3 w2.heap.size (.int .i64 xk) (.int .i64 xn) (.string t) (.slice la ln lc) := (BoxV.new w2 _ _ _ _).on hb3'
           obtain ⟨⟨x0, x1, x2, x3⟩, g0, g1, g2, g3⟩ := hbx.cells
           obtain ⟨y0, y1, y2, y3⟩ := hbx.set3 (.slice a' nl c')
           have hs3 : Slot w3 (w.heap.size + 1) := (HS2.out.alloc _).on hb3'
           have hne : w.heap.size + 1 ≠ w2.heap.size := by have := HS2.out.lt; omega
           have HS4 := Lib.hid (hs3.setOther (p := ⟨w2.heap.size, 3, none⟩) hne (.slice a' nl c'))
           obtain ⟨⟨c0, c1, c2, c3⟩, f0, f1, f2, f3⟩ := HS4.out.cells
           have HB4 := Lib.hid ((((HB2.out.alloc HB2.out.size _).trans (hb3'.mono (by simp; have := HB2.out.size; omega)))).setCell (p := ⟨w2.heap.size, 3, none⟩) HB2.out.size (.slice a' nl c'))
           have HN4 := Lib.hid (hnn.setOther hf ⟨w2.heap.size, 3, none⟩ (.slice a' nl c') (by show w2.heap.size < w2.heap.size + 1; omega))
           have HF4 := Lib.hid hf
           have HLT := Lib.hid HS2.out.lt
           have HNL := Lib.hid hnl
           clear hi hb3 hb3' hf hnn hs3 hbx hne hnl)
        | fail)
      (try simp only [Exit.inBlock, Exit.then])
      refine end_pair rfl rfl rfl HS4.out ?_
      obtain ⟨hk', hn'⟩ := HX.out
      rw [HG.out, hk', hn']
      exact ⟨⟨t, a', nl, c', rfl, ⟨HT.out, (HN4.out.set HF4.out (by have := HLT.out; omega) _ _ _ _).more (by simp)⟩, HF4.out.low (by have := HB2.out.size; omega)⟩, below_set HB4.out (by omega) _ _ _ _⟩
end Go.Proofs.Ythbakfceaaaamaa
