/- Contract of the closure in visit: a place is met, if it has not been. -/
import Derived.Test.YtiofpeckcfdilaaGreatDoorGlOwns
import Derived.Laws.EntriesVeiled
import Derived.Deep.CutRange
namespace Go.Proofs.YtiofpeckcfdilaaGreatDoor
open Go.RowKit Go.Maps Go.WideMaps

/-- The block holds a set of places: a map to truths. -/
def BMap (w : World) (b : Nat) (row : List Nat) : Prop :=
  ∃ (n : Nat) (D : DataW Unit), w.ownsMap Tryz.prog 3 (plainElem Tryz.prog 4) b n D ∧ n ≤ row.length ∧ row.length ≤ 1000 ∧
    ∀ x : Nat, x ≤ 1000000 → D.atKey (keyI x) (.lit (.bool false)) = .lit (.bool (decide (x ∈ row)))
theorem BMap.made (w : World) : BMap (w.alloc (.map #[] 0)) w.heap.size [] :=
  ⟨0, .map [], World.ownsMap_made _ _ _ _, Nat.le_refl _, by simp, fun x _ => rfl⟩
theorem BMap.kept {w w' : World} {b : Nat} {row : List Nat} {r : Option Nat} (h : BMap w b row) (hg : w.grownBy w' r) (hne : some b ≠ r) : BMap w' b row := by
  obtain ⟨n, D, h1, h2⟩ := h
  exact ⟨n, D, h1.kept hg hne, h2⟩
theorem BMap.lt {w : World} {b : Nat} {row : List Nat} (h : BMap w b row) : b < w.heap.size := by
  obtain ⟨n, D, h1, _⟩ := h
  exact h1.lt
theorem BMap.block {w w' : World} {b : Nat} {row : List Nat} (h : BMap w b row) (hb : w'.heap[b]? = w.heap[b]?) : BMap w' b row := by
  obtain ⟨n, D, ⟨es, clock, h1, h2⟩, h3⟩ := h
  exact ⟨n, D, ⟨es, clock, hb.trans h1, h2⟩, h3⟩
theorem BMap.below {w w' : World} {b B : Nat} {row : List Nat} (h : BMap w b row) (hb : Below B w w') (hB : b < B) : BMap w' b row := h.block (hb.block b hB)
theorem BMap.on {w w' : World} {b : Nat} {row : List Nat} (h : BMap w b row) (hb : Below w.heap.size w w') : BMap w' b row := h.below hb h.lt
set_option maxRecDepth 20000 in
theorem BMap.look {w : World} {b : Nat} {row : List Nat} (h : BMap w b row) {x : Nat} (hx : x ≤ 1000000) :
    (Instr.lookup 147 (.map (some b)) (.int .i64 (x : Int)) false).run Tryz.prog w = .ok (.bool (decide (x ∈ row))) w := by
  obtain ⟨n, D, h1, _, _, h4⟩ := h
  obtain ⟨v, ps, hrun, hv⟩ := h1.lookup keyedI Tryz.underlying147 (z := .bool false) (by kernel_rfl) (plainElem_bool Tryz.underlying4 false) (keyOf_int_mk Tryz.underlying3 (keyI_wf hx))
  have h5 := h4 x hx
  unfold keyI at h5
  rw [h5] at hv
  unfold plainElem at hv
  rw [Tryz.underlying4] at hv
  cases v <;> simp at hv
  obtain ⟨rfl, _⟩ := hv
  exact hrun
theorem BMap.put {w : World} {b : Nat} {row : List Nat} (h : BMap w b row) {x : Nat} (hx : x ≤ 1000000) (hl : row.length ≤ 900) :
    ∃ w', (Instr.mapUpdate 147 (.map (some b)) (.int .i64 (x : Int)) (.bool true)).run Tryz.prog w = .ok () w' ∧ BMap w' b (row ++ [x]) ∧ w.grownBy w' (some b) := by
  obtain ⟨n, D, h1, h2, h3, h4⟩ := h
  obtain ⟨w', hrun, hown, hgr⟩ := h1.update keyedI Tryz.underlying147 (by unfold maxLen; omega) (keyOf_int_mk Tryz.underlying3 (keyI_wf hx)) (plainElem_bool Tryz.underlying4 true)
  refine ⟨w', hrun, ⟨n + 1, _, hown, by simp; omega, by simp; omega, fun y hy => ?_⟩, hgr⟩
  by_cases e : y = x
  · subst e
    rw [show keyI y = Lit.int .i64 (y : Int) from rfl, atKey_put_same h1.isMap (show WideAt.IsKeyLit (Lit.int .i64 (y : Int)) from trivial)]
    simp
  · have hne := keyI_ne e
    have h5 := h4 y hy
    have hiff : y ∈ row ++ [x] ↔ y ∈ row := by simp [e]
    rw [show Lit.int .i64 (x : Int) = keyI x from rfl, atKey_put_other hne, h5, decide_eq_decide.2 hiff]
theorem wpList_mapUpdate_met {ops : Array Oper} {rest : List Oper} {o : Oper} {a : Act} {Q : Exit → Act → World → Prop} {W : World} (hg : o.guard = none) (m x v : Operand) (hop : o.op = Op.mapUpdate 147 m x v)
    (b : Nat) (row : List Nat) (hm : a.eval m = .map (some b)) (hown : BMap W b row) (y : Nat) (hy : y ≤ 1000000) (hl : row.length ≤ 900) (hx : a.eval x = .int .i64 (y : Int)) (hv : a.eval v = .bool true)
    (hK : ∀ w', BMap w' b (row ++ [y]) → W.grownBy w' (some b) → wpList Tryz.prog ops Q rest (a.put o.dst undef) w') :
    wpList Tryz.prog ops Q (o :: rest) a W := by
  refine wpList_plain hg fun K' hK' => ?_
  obtain ⟨w', hrun, r1, r2⟩ := hown.put hy hl
  unfold Oper.wp
  simp [execOp, hop, hm, hx, hv, hrun, Result.andThen]
  exact hK' _ _ (hK w' r1 r2)
/-- What visit has in hand: the set in block S + 1, its box, the list's box, and what both hold. -/
def Vis (W : World) (S : Nat) (row : List Nat) : Prop :=
  ∃ (va : Option Addr) (vn vc : Nat), W.heap[S + 2]? = some (.cells #[.map (some (S + 1))] 147 (0, 0)) ∧ W.heap[S + 3]? = some (.cells #[.slice va vn vc] 25 (0, 0)) ∧ BMap W (S + 1) row ∧ IInts W (S + 4) (.slice va vn vc) (rowI row)
theorem Vis.on {W W' : World} {S : Nat} {row : List Nat} (h : Vis W S row) (hb : Below W.heap.size W W') : Vis W' S row := by
  obtain ⟨va, vn, vc, h1, h2, h3, h4⟩ := h
  exact ⟨va, vn, vc, (hb.block _ (Array.getElem?_eq_some_iff.1 h1).1).trans h1, (hb.block _ (Array.getElem?_eq_some_iff.1 h2).1).trans h2, h3.on hb, h4.below hb (Nat.le_refl _)⟩
theorem Vis.lt {W : World} {S : Nat} {row : List Nat} (h : Vis W S row) : S + 3 < W.heap.size := by
  obtain ⟨va, vn, vc, h1, h2, h3, h4⟩ := h
  exact (Array.getElem?_eq_some_iff.1 h2).1
set_option maxHeartbeats 8000000 in
set_option maxRecDepth 20000 in
theorem meet_any (S x : Nat) (row : List Nat) (w : World) (h : Vis w S row) (hx : x ≤ 1000000) (hl : row.length ≤ 900) :
    Calls Tryz.prog 129 #[.int .i64 (x : Int), .pointer (some ⟨S + 2, 0, none⟩), .pointer (some ⟨S + 3, 0, none⟩)] w fun e w' => e = .returned (.tuple #[]) ∧ Vis w' S (addN row [x]) ∧ Below (S + 1) w w' := by
  have hlt := h.lt
  obtain ⟨va, vn, vc, h1, h2, h3, h4⟩ := h
  have c1 : w.cell? ⟨S + 2, 0, none⟩ = some (.map (some (S + 1))) := by rw [cell_of_row _ _ _ _ _ _ h1]; rfl
  have c2 : w.cell? ⟨S + 3, 0, none⟩ = some (.slice va vn vc) := by rw [cell_of_row _ _ _ _ _ _ h2]; rfl
  have hlk := h3.look hx
  by_cases hm : x ∈ row
  · rw [decide_eq_true hm] at hlk
    have HV := Lib.hid (show Vis w S (addN row [x]) from by
      have e : addN row [x] = row := by rw [addN, if_pos hm, addN]
      rw [e]
      exact ⟨va, vn, vc, h1, h2, h3, h4⟩)
    clear hm h1 h2 h3 h4
    go_enter Tryz.func129, Tryz.ntmps129
    go_wp2_with fail
    go_end0
    exact ⟨rfl, HV.out, Below.refl _ _⟩
  · rw [decide_eq_false hm] at hlk
    have e : addN row [x] = row ++ [x] := by rw [addN, if_neg hm, addN]
    rw [e]
    have H1 := Lib.hid h1
    have H2 := Lib.hid h2
    have H3 := Lib.hid h3
    have H4 := Lib.hid h4
    have hne : ∀ b, (Value.slice va vn vc).ownBlock = some b → S + 4 ≤ b := fun b hb => (h4.lt b hb).1
    have HNE := Lib.hid hne
    clear hm h1 h2 h3 h4 e hne
    go_enter Tryz.func129, Tryz.ntmps129
    go_wp2_with (first
      | (at_mapUpdate
         refine wpList_mapUpdate_met rfl (.tmp 8) (.tmp 9) (.const (.bool true)) rfl (S + 1) row rfl H3.out x hx hl rfl rfl ?_
         intro w4 hp4 hg4
         have HI4 := Lib.hid (show IInts w4 (S + 4) (.slice va vn vc) (rowI row) from World.ownsRow.kept H4.out hg4 (by
           rcases hv : (Value.slice va vn vc).ownBlock with _ | b
           · exact .inl rfl
           · exact .inr (fun e => by have := HNE.out b hv; have := Option.some.inj e; omega)))
         have HP4 := Lib.hid hp4
         have HB4 := Lib.hid (show Below (S + 1) w w4 from (Below.refl (S + 1) w).grown hg4 (by omega) (fun k e => by cases e; exact Nat.le_refl _))
         have q1 := (hg4.block (S + 2) (by omega) (fun e => by injection e with e; omega)).trans H1.out
         have q2 := (hg4.block (S + 3) (by omega) (fun e => by injection e with e; omega)).trans H2.out
         have Q1 := Lib.hid q1
         have Q2 := Lib.hid q2
         have d2 : w4.cell? ⟨S + 3, 0, none⟩ = some (.slice va vn vc) := by rw [cell_of_row _ _ _ _ _ _ q2]; rfl
         have hsz4 := hg4.size
         clear hp4 hg4 q1 q2)
      | (at_builtin
         refine wpList_append_iints2 rfl (.tmp 10) (.tmp 12) rfl (S + 4) (.slice va vn vc) (rowI row) (x : Int) rfl rfl rfl rfl HI4.out (by omega) (by rw [rowI_len]; omega) ?_
         intro v5 w5 ho5 hg5 hat5
         obtain ⟨oa5, oc5, hv5, _, _, _, _⟩ := ho5.sees
         obtain ⟨m5, hm5⟩ : ∃ m5, m5 = (rowI row ++ [(x : Int)]).length := ⟨_, rfl⟩
         rw [← hm5] at hv5
         clear hm5
         subst hv5
         have HO5 := Lib.hid ho5
         have HP5 := Lib.hid ((HP4.out.on (tu1 w4 (.cells #[.int .i64 (x : Int)] 3))).kept hg5 (fun e => by have := HNE.out _ e.symm; omega))
         have HB5 := Lib.hid ((HB4.out.alloc (by omega) (.cells #[.int .i64 (x : Int)] 3)).grown hg5 (by simp; omega) (fun k e => by have := HNE.out k e; omega))
         have hsz5 := hg5.size
         rw [World.size_alloc] at hsz5
         have q1 := (hg5.block (S + 2) (by simp; omega) (fun e => by have := HNE.out _ e.symm; omega)).trans (((tu1 w4 (.cells #[.int .i64 (x : Int)] 3)).block (S + 2) (by omega)).trans Q1.out)
         have q2 := (hg5.block (S + 3) (by simp; omega) (fun e => by have := HNE.out _ e.symm; omega)).trans (((tu1 w4 (.cells #[.int .i64 (x : Int)] 3)).block (S + 3) (by omega)).trans Q2.out)
         have R1 := Lib.hid q1
         have R2 := Lib.hid q2
         have g2 : w5.cell? ⟨S + 3, 0, none⟩ = some (.slice va vn vc) := by rw [cell_of_row _ _ _ _ _ _ q2]; rfl
         have g3 : w5.frozen? ⟨S + 3, 0, none⟩ = false := by unfold World.frozen?; rw [q2]; simp
         clear ho5 hg5 hat5 q1 q2)
      | fail)
    go_end0
    refine ⟨rfl, ⟨oa5, m5, oc5, (heap_setCell_ne (by omega)).trans R1.out, ?_, HP5.out.block (heap_setCell_ne (by omega)), ?_⟩, HB5.out.setCell (show S + 1 ≤ S + 3 by omega) _⟩
    · obtain ⟨hlt, hk2⟩ := Array.getElem?_eq_some_iff.1 R2.out
      show (w5.heap.modify (S + 3) _)[S + 3]? = _
      rw [Array.getElem?_eq_getElem (by rw [Array.size_modify]; exact hlt), Array.getElem_modify_self, hk2]
      rfl
    · have h6 := ownsRow_setCell_other HO5.out (a := ⟨S + 3, 0, none⟩) (fun e => by have h7 := (HO5.out.lt _ e).1; change S + 4 ≤ S + 3 at h7; omega) (.slice oa5 m5 oc5)
      unfold rowI at h6 ⊢
      rw [List.map_append]
      exact h6
end Go.Proofs.YtiofpeckcfdilaaGreatDoor

/- Contract of the program's visit: the places that are met. -/
namespace Go.Proofs.YtiofpeckcfdilaaGreatDoor
open Go.RowKit Go.Maps

theorem startP_more {n : Nat} {l : List Int} {k : Nat} {x : Int} (h : l[k]? = some x) : startP n (l.take (k + 1)) = startP n (l.take k) ++ (if 0 ≤ x ∧ x < (n : Int) then [x.toNat] else []) := by
  unfold startP
  rw [tuTake_at h, List.filter_append, List.map_append]
  congr 1
  by_cases hx : 0 ≤ x ∧ x < (n : Int)
  · rw [if_pos hx, List.filter_cons_of_pos (by simp [hx.1, hx.2])]
    rfl
  · rw [if_neg hx, List.filter_cons_of_neg (by simp only [Bool.and_eq_true, decide_eq_true_eq]; exact hx)]
    rfl
theorem addN_two (o : List Nat) : ∀ a b : List Nat, addN o (a ++ b) = addN (addN o a) b := by
  intro a
  induction a generalizing o with
  | nil => intro b; rfl
  | cons x a ih =>
    intro b
    rw [List.cons_append, addN, addN]
    split
    · exact ih o b
    · exact ih _ b
theorem metL_row {ps : List PointL} {nm : Str} {rs : List Str} (h : protB nm rs ps = true) (r : Str) {s : List Nat} (hs : ∀ x ∈ s, x < ps.length) : ∀ fuel i, ∀ x ∈ bfs (outsP ps r) fuel i (addN [] s), x < ps.length :=
  fun fuel i => bfs_lt (outs_lt h r) fuel i _ (fun x hx => by
    rcases (addN_mem x _ _).1 hx with h1 | h1
    · cases h1
    · exact hs x h1)
set_option maxHeartbeats 16000000 in
set_option maxRecDepth 20000 in
theorem gVisit_any (nm : ByteArray) (ra : Option Addr) (rn rc : Nat) (rs : List Str) (a : Option Addr) (n c : Nat) (ps : List PointL) (r : ByteArray) (va : Option Addr) (vn vc : Nat) (l : List Int) (w : World) (bound : Nat) (hb : bound ≤ w.heap.size) (h : Pts w bound a n ps) (hv : protB nm.toList rs ps = true) (hl : Nums w bound va vn l) :
    Calls Tryz.prog 112 #[.agg #[.string nm, .slice ra rn rc, .slice a n c], .string r, .slice va vn vc] w fun e w' => (∃ mb, e = .returned (.map (some mb)) ∧ BMap w' mb (metL (outsP ps r.toList) n (startP n l))) ∧ Below w.heap.size w w' := by
  obtain ⟨S, hS⟩ : ∃ S, S = w.heap.size := ⟨_, rfl⟩
  have h24 := (protB_all hv).2.2.2.1
  have hlen := h.1
  have hn24 : n ≤ 24 := by omega
  have hln := hl.1
  have hvn := hl.2.1
  have HLEN := Lib.hid hlen
  have HN := Lib.hid h
  have HL := Lib.hid hl
  have HV := Lib.hid hv
  have HLN := Lib.hid hln
  obtain ⟨R, hR⟩ : ∃ R, metL (outsP ps r.toList) n (startP n l) = R := ⟨_, rfl⟩
  rw [hR]
  have HRR := Lib.hid (show bfs (outsP ps r.toList) (n - 0) 0 (addN [] (startP n l)) = R by rw [Nat.sub_zero]; exact hR)
  clear hR
  obtain ⟨w1, hw1⟩ : ∃ w1, w1 = ((w.alloc (.cells #[.string nm, .slice ra rn rc, .slice a n c] 37)).alloc (.map #[] 0)).alloc (.cells #[.map (some (w.heap.size + 1))] 147) := ⟨_, rfl⟩
  obtain ⟨w2, hw2⟩ : ∃ w2, w2 = w1.alloc (.cells #[.slice none 0 0] 25) := ⟨_, rfl⟩
  have hs1 : w1.heap.size = S + 3 := by rw [hw1, hS]; simp
  have hs2 : w2.heap.size = S + 4 := by rw [hw2]; simp [hs1]
  have hB1 : Below w.heap.size w w1 := by rw [hw1]; exact below_on (below_on (tu1 w _) (tu1 _ _)) (tu1 _ _)
  have hB2 : Below w1.heap.size w1 w2 := by rw [hw2]; exact tu1 w1 _
  have hP1 : PBox w1 S nm ra rn rc a n c := by rw [hw1, hS]; exact ((PBox.new w nm ra rn rc a n c).on (tu1 _ _)).on (tu1 _ _)
  have hM1 : BMap w1 (S + 1) [] := by
    rw [hw1, hS]
    have := (BMap.made (w.alloc (.cells #[.string nm, .slice ra rn rc, .slice a n c] 37))).on (tu1 _ (.cells #[.map (some (w.heap.size + 1))] 147))
    rw [World.size_alloc] at this
    exact this
  have hX1 : w1.heap[S + 2]? = some (.cells #[.map (some (S + 1))] 147 (0, 0)) := by
    rw [hw1, hS]
    have := heap_alloc_new ((w.alloc (.cells #[.string nm, .slice ra rn rc, .slice a n c] 37)).alloc (.map #[] 0)) (.cells #[.map (some (w.heap.size + 1))] 147)
    rw [World.size_alloc, World.size_alloc] at this
    exact this
  have hX2 : w2.heap[S + 3]? = some (.cells #[.slice none 0 0] 25 (0, 0)) := by
    rw [hw2]
    have := heap_alloc_new w1 (.cells #[.slice none 0 0] 25)
    rw [hs1] at this
    exact this
  have HVI := Lib.hid (show Vis w2 S (addN [] (startP n [])) from ⟨none, 0, 0, (hB2.block _ (by omega)).trans hX1, hX2, hM1.on hB2, IInts.zero _ _⟩)
  have HP2 := Lib.hid (hP1.on hB2)
  have HB2 := Lib.hid (below_on hB1 hB2)
  have hmm := @run_makeMap Tryz.prog
  have hcf : ∀ (args : Array Value) (w : World), (callFunc 129 args).run Tryz.prog w = .ok (.enter 129 args) w := enters_of Tryz.func129 (by kernel_rfl) rfl
  have HW1 := Lib.hid hw1
  have HW2 := Lib.hid hw2
  clear h hl hv hlen hln hB1 hB2 hP1 hM1 hX1 hX2 hw1 hw2
  go_enter Tryz.func112, Tryz.ntmps112
  go_wp2_with fail
  rw [← HW1.out, ← HW2.out, ← hS]
  have HSW := Lib.hid hS
  have hsw1 : S ≤ w.heap.size := Nat.le_of_eq hS
  have hsw2 : w.heap.size ≤ S := Nat.le_of_eq hS.symm
  clear hS
  have hsz2 : S + 4 ≤ w2.heap.size := by omega
  clear hmm hs1 hs2
  go_loopw [20] (fun i wr => ∃ k : Nat, k ≤ vn ∧ i = .int .i64 k ∧ Hid (Vis wr S (addN [] (startP n (l.take k)))) ∧ Hid (Below (S + 1) w2 wr)) (fun i _ => vn - (intOf i).toNat)
  case atStart => exact ⟨0, Nat.zero_le _, rfl, HVI, Lib.hid (Below.refl _ _)⟩
  case round =>
    obtain ⟨k, hk, rfl, HVk, HBr⟩ := hrel
    have HB := Lib.hid (HB2.out.trans (HBr.out.mono (by omega)))
    have hzr := HBr.out.size
    have HPr := Lib.hid (show PBox wr S nm ra rn rc a n c from (HBr.out.block S (by omega)).trans HP2.out)
    obtain ⟨pc0, pc1, pc2⟩ := HPr.out.cells
    by_cases hlt : k < vn
    · obtain ⟨b, off, x, rfl, hbb, hx, hc⟩ := HL.out.at_ hlt
      have r0 := (HB.out.cell (p := ⟨b, off + k, none⟩) (by show b < _; omega)).trans hc
      have i1 : (k : Int) < (vn : Int) := by omega
      have i2 : (0 : Int) ≤ (k : Int) := by omega
      have hst := startP_more (n := n) hx
      have CI := Lib.hid (fun W => gIsPoint_any nm ra rn rc a n c x W)
      by_cases hin : 0 ≤ x ∧ x < (n : Int)
      · rw [if_pos hin] at hst
        rw [decide_eq_true hin.1, decide_eq_true hin.2] at CI
        obtain ⟨y, rfl⟩ : ∃ y : Nat, x = (y : Int) := ⟨x.toNat, by omega⟩
        rw [Int.toNat_natCast] at hst
        have HST := Lib.hid (show addN [] (startP n (l.take (k + 1))) = addN (addN [] (startP n (l.take k))) [y] by rw [hst, addN_two])
        have HFW := Lib.hid (show (addN [] (startP n (l.take k))).length ≤ 900 from by
          have := nodup_few (n := n) (addN_nodup (startP n (l.take k)) [] (by simp)) (fun z hz => by
            rcases (addN_mem z _ _).1 hz with h1 | h1
            · cases h1
            · exact startP_lt z h1)
          omega)
        have hy : y ≤ 1000000 := by omega
        clear hx hst hc hin
        go_wp2_with (first
          | (go_at_call 110; (with_reducible refine (CI.out _).mono ?_)
             rintro e w3 ⟨rfl, hb3⟩
             have HV3 := Lib.hid (HVk.out.on hb3)
             have HB3 := Lib.hid (HBr.out.trans (hb3.mono (by omega)))
             clear hb3)
          | (go_at_call 129; (with_reducible refine (meet_any S y _ _ HV3.out hy HFW.out).mono ?_)
             rintro e w4 ⟨rfl, hv4, hb4⟩
             have HV4 := Lib.hid hv4
             have HB4 := Lib.hid (HB3.out.trans hb4)
             clear hv4 hb4)
          | fail)
        go_roundw
        case rel => exact ⟨k + 1, by omega, by go_num, Lib.hid (by rw [HST.out]; exact HV4.out), HB4⟩
        case measure => simp [intOf]; omega
      · rw [if_neg hin, List.append_nil] at hst
        rw [show (decide (0 ≤ x) && decide (x < (n : Int))) = false by rw [← Bool.not_eq_true, Bool.and_eq_true, decide_eq_true_eq, decide_eq_true_eq]; exact hin] at CI
        have HST := Lib.hid hst
        clear hx hst hc hin
        go_wp2_with (first
          | (go_at_call 110; (with_reducible refine (CI.out _).mono ?_)
             rintro e w3 ⟨rfl, hb3⟩
             have HV3 := Lib.hid (HVk.out.on hb3)
             have HB3 := Lib.hid (HBr.out.trans (hb3.mono (by omega)))
             clear hb3)
          | fail)
        go_roundw
        case rel => exact ⟨k + 1, by omega, by go_num, Lib.hid (by rw [HST.out]; exact HV3.out), HB3⟩
        case measure => simp [intOf]; omega
    · have HS0 := Lib.hid (show Vis wr S (addN [] (startP n l)) by
        have h1 := HVk.out
        rw [List.take_of_length_le (by have := HLN.out; omega)] at h1
        exact h1)
      have d1 : decide ((k : Int) < (vn : Int)) = false := decide_eq_false (by omega)
      obtain ⟨wz, hwz⟩ : ∃ wz : World, wz = wr := ⟨_, rfl⟩
      subst hwz
      have HZN := Lib.hid (show (addN [] (startP n l)).Nodup ∧ ∀ x ∈ addN [] (startP n l), x < n from ⟨addN_nodup _ _ (by simp), fun z hz => by
        rcases (addN_mem z _ _).1 hz with h1 | h1
        · cases h1
        · exact startP_lt z h1⟩)
      clear HVk pc0 pc1 pc2
      go_wp2_with fail
      go_loopw [12] (fun i wr => ∃ (j : Nat) (row : List Nat), i = .int .i64 j ∧ j ≤ n ∧ Hid (row.Nodup ∧ ∀ x ∈ row, x < n) ∧ Hid (bfs (outsP ps r.toList) (n - j) j row = R) ∧ Hid (Vis wr S row) ∧ Hid (Below (S + 1) w2 wr)) (fun i _ => n - (intOf i).toNat)
      case atStart => exact ⟨0, _, rfl, Nat.zero_le _, HZN, HRR, HS0, HBr⟩
      case round =>
        obtain ⟨j, row, rfl, hjn, HRO, HF, HVj, HBj⟩ := hrel
        have HBJ := Lib.hid (HB2.out.trans (HBj.out.mono (by omega)))
        have hzj := HBj.out.size
        have HPj := Lib.hid (show PBox wr S nm ra rn rc a n c from (HBj.out.block S (by omega)).trans HP2.out)
        obtain ⟨pc0, pc1, pc2⟩ := HPj.out.cells
        obtain ⟨ma, mn, mc, x1, x2, x3, x4⟩ := HVj.out
        have vc1 : wr.cell? ⟨S + 2, 0, none⟩ = some (.map (some (S + 1))) := by rw [cell_of_row _ _ _ _ _ _ x1]; rfl
        have vc2 : wr.cell? ⟨S + 3, 0, none⟩ = some (.slice ma mn mc) := by rw [cell_of_row _ _ _ _ _ _ x2]; rfl
        have hfew := nodup_few HRO.out.1 HRO.out.2
        obtain ⟨oa, oc, hva, _, _, _, hon⟩ := x4.sees
        rw [rowI_len] at hva hon
        obtain ⟨e1, e2, e3⟩ := Value.slice.inj hva
        subst e1 e2 e3
        have HON := Lib.hid hon
        have HXM := Lib.hid x3
        have hvlt := HVj.out.lt
        have hvl3 : S + 1 + 1 + 1 < wr.heap.size := hvlt
        have hvl0 : S < wr.heap.size := by omega
        clear x1 x2 x3 x4 hon hva
        by_cases hlt2 : j < row.length
        · have hp := List.getElem?_eq_getElem hlt2
          obtain ⟨p, hpe⟩ : ∃ p, row[j] = p := ⟨_, rfl⟩
          rw [hpe] at hp
          have hpn := HRO.out.2 p (List.mem_of_getElem? hp)
          obtain ⟨b1, o1, y1, hma, hb1, hy1, k0⟩ := HON.out.at_ hlt2
          have hy2 : y1 = (p : Int) := by
            unfold rowI at hy1
            rw [List.getElem?_map, hp] at hy1
            exact (Option.some.inj hy1).symm
          subst hy2 hma
          obtain ⟨b, off, q, s, aa, an, ac, al, rfl, hbb, hx, ⟨q0, q1, q2⟩, hq, hs, hal⟩ := HN.out.at_ hpn
          have r0 := (HBJ.out.cell (p := ⟨b, off + p * 3, none⟩) (by show b < _; omega)).trans q0
          have r1 := (HBJ.out.cell (p := ⟨b, off + p * 3 + 1, none⟩) (by show b < _; omega)).trans q1
          have r2 := (HBJ.out.cell (p := ⟨b, off + p * 3 + 2, none⟩) (by show b < _; omega)).trans q2
          have hpo : pointOf ps p = ⟨q.toList, s.toList, al⟩ := by unfold pointOf; rw [hx]; rfl
          have hstep : bfs (outsP ps r.toList) (n - (j + 1)) (j + 1) (addN row (outsP ps r.toList p)) = R := by
            have h1 := HF.out
            rw [show n - j = (n - (j + 1)) + 1 by omega, bfs_some _ hp] at h1
            exact h1
          have hnd := addN_nodup (outsP ps r.toList p) row HRO.out.1
          have hlt3 : ∀ x ∈ addN row (outsP ps r.toList p), x < n := fun x hx2 => by
            rcases (addN_mem x _ _).1 hx2 with hx2 | hx2
            · exact HRO.out.2 x hx2
            · have := outs_lt HV.out r.toList p (by rw [HLEN.out]; exact hpn) x hx2
              rw [HLEN.out] at this
              exact this
          have HNEW := Lib.hid (And.intro (And.intro hnd hlt3) hstep)
          have hou : outsP ps r.toList p = if inP ⟨q.toList, s.toList, al⟩ r.toList then [] else al.map fun a => a.next.toNat := by unfold outsP; rw [hpo]
          have HOU := Lib.hid hou
          have HAL := Lib.hid hal
          have hanz := hal.2.1
          have HGD := Lib.hid (show ∀ x ∈ al, 0 ≤ x.next ∧ x.next < (n : Int) from fun x hxa => by
            rcases pointB_ways ((protB_all HV.out).2.2.2.2 _ (List.mem_of_getElem? hx)) with h0 | ⟨_, _, _, _, h4⟩
            · have h5 := (endB_iff.1 h0).2.2
              dsimp only at h5
              rw [h5] at hxa
              cases hxa
            · have := (armB_all ((armsB_all h4).1 x hxa)).2.2
              rw [HLEN.out] at this
              exact this)
          have hi1 : (j : Int) < (row.length : Int) := by omega
          have hbz : b < wr.heap.size := by have := HBJ.out.size; omega
          have hi2 : (0 : Int) ≤ (j : Int) := by omega
          have hi3 : (p : Int) < (n : Int) := by omega
          have hi4 : (0 : Int) ≤ (p : Int) := by omega
          have CIN := Lib.hid (fun W => gIsIn_any q s r aa an ac al W)
          obtain ⟨m, hm⟩ : ∃ m, m = row.length := ⟨_, rfl⟩
          rw [← hm] at vc2 hi1
          have HM := Lib.hid hm
          clear hp hpe hy1 q0 q1 q2 hal hstep hnd hlt3 hou hpo hx hq hs hm
          go_wp2_with fail
          go_region
          generalize hwx : (wr.alloc (.cells #[.string q, .string s, .slice aa an ac] 82)).drew = wx
          have hbx : Below wr.heap.size wr wx := by
            rw [← hwx]
            have := tu1 wr (.cells #[.string q, .string s, .slice aa an ac] 82)
            exact ⟨this.os, this.tape, this.output, this.size, this.block⟩
          have hxb : wx.heap[wr.heap.size]? = some (.cells #[.string q, .string s, .slice aa an ac] 82 (0, 0)) := by rw [← hwx]; exact heap_alloc_new wr _
          have hzx : wr.heap.size < wx.heap.size := by rw [← hwx]; simp
          have t0 : wx.cell? ⟨wr.heap.size, 0, none⟩ = some (.string q) := by rw [cell_of_row _ _ _ _ _ _ hxb]; rfl
          have t1 : wx.cell? ⟨wr.heap.size, 1, none⟩ = some (.string s) := by rw [cell_of_row _ _ _ _ _ _ hxb]; rfl
          have t2 : wx.cell? ⟨wr.heap.size, 2, none⟩ = some (.slice aa an ac) := by rw [cell_of_row _ _ _ _ _ _ hxb]; rfl
          have HVX := Lib.hid (HVj.out.on hbx)
          have HBX := Lib.hid (HBj.out.trans (hbx.mono (by omega)))
          clear hwx hbx hxb
          obtain ⟨wo, hwo⟩ : ∃ wo : World, wo = wr := ⟨_, rfl⟩
          subst hwo
          cases hin : inP ⟨q.toList, s.toList, al⟩ r.toList
          · rw [hin] at CIN
            have HO2 := Lib.hid (show outsP ps r.toList p = al.map fun a => a.next.toNat by rw [HOU.out, hin]; rfl)
            clear hin
            go_wp2_with (first
              | (go_at_call 113; (with_reducible refine (CIN.out _).mono ?_)
                 rintro e w5 ⟨rfl, hb5⟩
                 have HV5 := Lib.hid (HVX.out.on hb5)
                 have HB5 := Lib.hid (HBX.out.trans (hb5.mono (by have := HBX.out.size; omega)))
                 have u2 := (hb5.cell (p := ⟨wo.heap.size, 2, none⟩) hzx).trans t2
                 clear hb5)
              | fail)
            go_loopw [51] (fun i wr => ∃ k2 : Nat, k2 ≤ an ∧ i = .int .i64 k2 ∧ Hid (Vis wr S (addN row ((al.take k2).map fun a => a.next.toNat))) ∧ Hid (Below (S + 1) w2 wr)) (fun i _ => an - (intOf i).toNat)
            case atStart => exact ⟨0, Nat.zero_le _, rfl, Lib.hid (by rw [List.take_zero]; exact HV5.out), HB5⟩
            case round =>
              obtain ⟨k2, hk2, rfl, HVk, HBk⟩ := hrel
              by_cases hlt4 : k2 < an
              · obtain ⟨lb, lo, s6, u6, ck, nx, rfl, hlb, hx6, ⟨z0, z1, z2, z3⟩, _, _⟩ := HAL.out.at_ hlt4
                have HBK := Lib.hid (HB2.out.trans (HBk.out.mono (by omega)))
                have g0 := (HBK.out.cell (p := ⟨lb, lo + k2 * 4, none⟩) (by show lb < _; omega)).trans z0
                have g1 := (HBK.out.cell (p := ⟨lb, lo + k2 * 4 + 1, none⟩) (by show lb < _; omega)).trans z1
                have g2 := (HBK.out.cell (p := ⟨lb, lo + k2 * 4 + 2, none⟩) (by show lb < _; omega)).trans z2
                have g3 := (HBK.out.cell (p := ⟨lb, lo + k2 * 4 + 3, none⟩) (by show lb < _; omega)).trans z3
                have hgd := HGD.out _ (List.mem_of_getElem? hx6)
                dsimp only at hgd
                obtain ⟨y, rfl⟩ : ∃ y : Nat, nx = (y : Int) := ⟨nx.toNat, by omega⟩
                have hst : addN row ((al.take (k2 + 1)).map fun a => a.next.toNat) = addN (addN row ((al.take k2).map fun a => a.next.toNat)) [y] := by
                  rw [tuTake_at hx6, List.map_append, addN_two]
                  rfl
                have HST := Lib.hid hst
                have HFW := Lib.hid (show (addN row ((al.take k2).map fun a => a.next.toNat)).length ≤ 900 from by
                  have := nodup_few (n := n) (addN_nodup ((al.take k2).map fun a => a.next.toNat) row HRO.out.1) (fun z hz => by
                    rcases (addN_mem z _ _).1 hz with h1 | h1
                    · exact HRO.out.2 z h1
                    · obtain ⟨x9, hx9, rfl⟩ := List.mem_map.1 h1
                      have := HGD.out x9 (List.mem_of_mem_take hx9)
                      omega)
                  omega)
                have hy : y ≤ 1000000 := by omega
                have j1 : (k2 : Int) < (an : Int) := by omega
                have j2 : (0 : Int) ≤ (k2 : Int) := by omega
                have HVa := Lib.hid (HVk.out.on (tu1 wr (.cells #[.string s6, .int .i64 ck, .string u6, .int .i64 (y : Int)] 67)))
                have HBa := Lib.hid (HBk.out.trans ((tu1 wr (.cells #[.string s6, .int .i64 ck, .string u6, .int .i64 (y : Int)] 67)).mono (by have := HBk.out.size; omega)))
                clear z0 z1 z2 z3 hx6 hgd hst
                go_wp2_with (first
                  | (go_at_call 129; (with_reducible refine (meet_any S y _ _ HVa.out hy HFW.out).mono ?_)
                     rintro e w6 ⟨rfl, hv6, hb6⟩
                     have HV6 := Lib.hid hv6
                     have HB6 := Lib.hid (HBa.out.trans hb6)
                     clear hv6 hb6)
                  | fail)
                go_roundw
                case rel => exact ⟨k2 + 1, by omega, by go_num, Lib.hid (by rw [HST.out]; exact HV6.out), HB6⟩
                case measure => simp [intOf]; omega
              · have HVE := Lib.hid (show Vis wr S (addN row (outsP ps r.toList p)) by
                  have h1 := HVk.out
                  rw [List.take_of_length_le (by have := HAL.out.1; omega), ← HO2.out] at h1
                  exact h1)
                have d3 : decide ((k2 : Int) < (an : Int)) = false := decide_eq_false (by omega)
                go_wp2_with fail
                go_roundw
                case rel => exact ⟨j + 1, _, by go_num, by omega, Lib.hid HNEW.out.1, Lib.hid HNEW.out.2, HVE, HBk⟩
                case measure => simp [intOf]; omega
          · rw [hin] at CIN
            have HO2 := Lib.hid (show addN row (outsP ps r.toList p) = row by rw [HOU.out, hin]; rfl)
            clear hin
            go_wp2_with (first
              | (go_at_call 113; (with_reducible refine (CIN.out _).mono ?_)
                 rintro e w5 ⟨rfl, hb5⟩
                 have HV5 := Lib.hid (HVX.out.on hb5)
                 have HB5 := Lib.hid (HBX.out.trans (hb5.mono (by have := HBX.out.size; omega)))
                 clear hb5)
              | fail)
            go_roundw
            case rel => exact ⟨j + 1, row, by go_num, by omega, HRO, Lib.hid (by have := HNEW.out.2; rw [HO2.out] at this; exact this), HV5, HB5⟩
            case measure => simp [intOf]; omega
        · have HZ := Lib.hid (show row = R by have h1 := HF.out; rw [bfs_none _ (by omega)] at h1; exact h1)
          have d3 : decide ((j : Int) < (row.length : Int)) = false := decide_eq_false (by omega)
          have d4 : decide (j < row.length) = false := decide_eq_false hlt2
          go_wp2_with fail
          go_ret
          exact ⟨⟨S + 1, rfl, by rw [← HZ.out]; exact HXM.out⟩, HBJ.out⟩
end Go.Proofs.YtiofpeckcfdilaaGreatDoor

/- Contracts of the program's Near and Lost. -/
namespace Go.Proofs.YtiofpeckcfdilaaGreatDoor
open Go.RowKit Go.Maps

/-- The near points below a place. -/
def nearK (ps : List PointL) (r : Str) (R : List Nat) (k : Nat) : List Nat := ((List.range k).filter fun p => decide (p ∈ R)).filter fun p => inP (pointOf ps p) r
theorem nearK_more (ps : List PointL) (r : Str) (R : List Nat) (k : Nat) : nearK ps r R (k + 1) = nearK ps r R k ++ (if k ∈ R ∧ inP (pointOf ps k) r = true then [k] else []) := by
  unfold nearK
  rw [List.range_succ, List.filter_append, List.filter_append]
  congr 1
  by_cases h1 : k ∈ R
  · rw [List.filter_cons_of_pos (by simp [h1])]
    by_cases h2 : inP (pointOf ps k) r = true
    · rw [if_pos ⟨h1, h2⟩]
      simp [h2]
    · rw [if_neg (fun c => h2 c.2)]
      simp [h2]
  · rw [if_neg (fun c => h1 c.1), List.filter_cons_of_neg (by simp [h1])]
    rfl
theorem nearK_len (ps : List PointL) (r : Str) (R : List Nat) (k : Nat) : (nearK ps r R k).length ≤ k := by
  unfold nearK
  have h1 := List.length_filter_le (fun p => inP (pointOf ps p) r) ((List.range k).filter fun p => decide (p ∈ R))
  have h2 := List.length_filter_le (fun p => decide (p ∈ R)) (List.range k)
  rw [List.length_range] at h2
  omega
theorem nearK_all (ps : List PointL) (r : Str) (s : List Nat) : nearK ps r (metL (outsP ps r) ps.length s) ps.length = nearP ps r s := rfl
section
variable (nm : ByteArray) (hnm : nm.size ≤ maxLen) (ra : Option Addr) (rn rc : Nat) (rs : List Str) (a : Option Addr) (n c : Nat) (ps : List PointL) (r : ByteArray) (w : World) (bound : Nat) (hb : bound ≤ w.heap.size) (hr : Strs w bound ra rn rs) (h : Pts w bound a n ps)
include hnm hb hr h
set_option maxHeartbeats 16000000 in
set_option maxRecDepth 20000 in
theorem gNear_any (va : Option Addr) (vn vc : Nat) (l : List Int) (hl : Nums w bound va vn l) :
    Calls Tryz.prog 83 #[.agg #[.string nm, .slice ra rn rc, .slice a n c], .string r, .slice va vn vc] w fun e w' => (∃ v, e = .returned v ∧ IInts w' w.heap.size v (rowI (nearQ nm.toList rs ps r.toList l))) ∧ Below w.heap.size w w' := by
  have HB0 := Lib.hid (tu1 w (.cells #[.string nm, .slice ra rn rc, .slice a n c] 37))
  have HP := Lib.hid (PBox.new w nm ra rn rc a n c)
  obtain ⟨c0, c1, c2⟩ := HP.out.cells
  have CH := Lib.hid (fun (W : World) (hW : Below w.heap.size w W) => gHas_any nm hnm ra rn rc rs a n c ps W bound (by have := hW.size; omega) (hr.below (hW.mono hb)) (h.below (hW.mono hb)) r)
  cases hv : (protB nm.toList rs ps && hasS rs r.toList)
  · rw [hv] at CH
    have HZ := Lib.hid (show nearQ nm.toList rs ps r.toList l = [] by unfold nearQ; rw [hv]; rfl)
    clear h hr hv
    go_enter Tryz.func83, Tryz.ntmps83
    go_wp2_with (first
      | (go_at_call 109; (with_reducible refine (CH.out _ HB0.out).mono ?_)
         rintro e w1 ⟨rfl, hb1⟩
         have HB1 := Lib.hid (below_on HB0.out hb1)
         clear hb1)
      | fail)
    go_ret
    exact ⟨⟨_, rfl, by rw [HZ.out]; exact IInts.zero _ _⟩, HB1.out⟩
  rw [hv] at CH
  have hpv : protB nm.toList rs ps = true := (Bool.and_eq_true _ _ ▸ hv : _ ∧ _).1
  have h24 := (protB_all hpv).2.2.2.1
  have hlen := h.1
  have hn24 : n ≤ 24 := by omega
  have HN := Lib.hid h
  obtain ⟨R, hR⟩ : ∃ R, metL (outsP ps r.toList) n (startP n l) = R := ⟨_, rfl⟩
  have HZ := Lib.hid (show nearQ nm.toList rs ps r.toList l = nearK ps r.toList R n by unfold nearQ; rw [hv, ← hR, if_pos rfl, ← hlen]; rfl)
  have CV := Lib.hid (fun (W : World) (hW : Below w.heap.size w W) => gVisit_any nm ra rn rc rs a n c ps r va vn vc l W bound (by have := hW.size; omega) (h.below (hW.mono hb)) hpv (hl.below (hW.mono hb)))
  rw [hR] at CV
  clear h hr hv hpv h24 hlen hl hR
  go_enter Tryz.func83, Tryz.ntmps83
  go_wp2_with (first
    | (go_at_call 109; (with_reducible refine (CH.out _ HB0.out).mono ?_)
       rintro e w1 ⟨rfl, hb1⟩
       have HB1 := Lib.hid (below_on HB0.out hb1)
       have HP1 := Lib.hid (HP.out.on hb1)
       obtain ⟨_, _, _⟩ := HP1.out.cells
       clear hb1)
    | (go_at_call 112; (with_reducible refine (CV.out _ HB1.out).mono ?_)
       rintro e w2 ⟨⟨mb, rfl, hm⟩, hb2⟩
       have HB2 := Lib.hid (below_on HB1.out hb2)
       have HP2 := Lib.hid (HP1.out.on hb2)
       obtain ⟨_, _, _⟩ := HP2.out.cells
       have HM2 := Lib.hid hm
       clear hb2 hm)
    | fail)
  have hmb := HM2.out.lt
  go_loopw [8, 22] (fun o i wr => ∃ (k : Nat) (v : Value), k ≤ n ∧ i = .int .i64 k ∧ v = o ∧ Hid (IInts wr w2.heap.size v (rowI (nearK ps r.toList R k))) ∧ Hid (Below w2.heap.size w2 wr)) (fun _ i _ => n - (intOf i).toNat)
  case atStart => exact ⟨0, _, Nat.zero_le _, rfl, rfl, Lib.hid (IInts.zero _ _), Lib.hid (Below.refl _ _)⟩
  case round =>
    obtain ⟨k, v, hk, rfl, hvo, HO, HBr⟩ := hrel
    subst hvo
    have HB := Lib.hid (below_on HB2.out HBr.out)
    have hzr := HBr.out.size
    have hzw := HB.out.size
    by_cases hlt : k < n
    · obtain ⟨b, off, q, s, aa, an, ac, al, rfl, hbb, hx, ⟨q0, q1, q2⟩, hq, hs, hal⟩ := HN.out.at_ hlt
      have r0 := (HB.out.cell (p := ⟨b, off + k * 3, none⟩) (by show b < _; omega)).trans q0
      have r1 := (HB.out.cell (p := ⟨b, off + k * 3 + 1, none⟩) (by show b < _; omega)).trans q1
      have r2 := (HB.out.cell (p := ⟨b, off + k * 3 + 2, none⟩) (by show b < _; omega)).trans q2
      have i1 : (k : Int) < (n : Int) := by omega
      have i2 : (0 : Int) ≤ (k : Int) := by omega
      have hpo : pointOf ps k = ⟨q.toList, s.toList, al⟩ := by unfold pointOf; rw [hx]; rfl
      have hmore := nearK_more ps r.toList R k
      rw [hpo] at hmore
      have HNL := Lib.hid (nearK_len ps r.toList R k)
      obtain ⟨wx, hwx⟩ : ∃ wx, wx = wr.alloc (.cells #[.string q, .string s, .slice aa an ac] 82) := ⟨_, rfl⟩
      have hbx : Below wr.heap.size wr wx := by rw [hwx]; exact tu1 wr _
      have hxb : wx.heap[wr.heap.size]? = some (.cells #[.string q, .string s, .slice aa an ac] 82 (0, 0)) := by rw [hwx]; exact heap_alloc_new wr _
      have x0 : wx.cell? ⟨wr.heap.size, 0, none⟩ = some (.string q) := by rw [cell_of_row _ _ _ _ _ _ hxb]; rfl
      have x1 : wx.cell? ⟨wr.heap.size, 1, none⟩ = some (.string s) := by rw [cell_of_row _ _ _ _ _ _ hxb]; rfl
      have x2 : wx.cell? ⟨wr.heap.size, 2, none⟩ = some (.slice aa an ac) := by rw [cell_of_row _ _ _ _ _ _ hxb]; rfl
      have HBX := Lib.hid (below_on HBr.out hbx |>.mono (Nat.le_refl _))
      have hlk := BMap.look ((HM2.out.on HBr.out).on hbx) (x := k) (by omega)
      have CIN := Lib.hid (fun W => gIsIn_any q s r aa an ac al W)
      have HOX := Lib.hid (HO.out.below hbx (Nat.le_refl _))
      have HWX := Lib.hid hwx
      have hzx : w2.heap.size ≤ wx.heap.size := by have := hbx.size; omega
      clear q0 q1 q2 hal hx hpo hq hs hbx hxb hwx
      go_upto_region 8 with fail
      rw [← HWX.out]
      by_cases hmem : k ∈ R
      · rw [decide_eq_true hmem] at hlk
        cases hin : inP ⟨q.toList, s.toList, al⟩ r.toList
        · rw [hin] at CIN
          rw [if_neg (fun c => by rw [hin] at c; cases c.2), List.append_nil] at hmore
          have HST := Lib.hid hmore
          clear hin hmore hmem
          go_wp2_with (first
            | (go_at_call 113; (with_reducible refine (CIN.out _).mono ?_)
               rintro e w5 ⟨rfl, hb5⟩
               have HO5 := Lib.hid (HOX.out.below hb5 (Nat.le_refl _))
               have HB5 := Lib.hid (below_on HBX.out hb5)
               clear hb5)
            | fail)
          go_roundw
          case rel => exact ⟨k + 1, _, by omega, by go_num, rfl, Lib.hid (by rw [HST.out]; exact HO5.out), HB5⟩
          case measure => simp [intOf]; omega
        · rw [hin] at CIN
          rw [if_pos ⟨hmem, hin⟩] at hmore
          have HST := Lib.hid hmore
          clear hin hmore hmem
          go_wp2_with (first
            | (go_at_call 113; (with_reducible refine (CIN.out _).mono ?_)
               rintro e w5 ⟨rfl, hb5⟩
               have HO5 := Lib.hid (HOX.out.below hb5 (Nat.le_refl _))
               have HB5 := Lib.hid (below_on HBX.out hb5)
               have hz5 := hb5.size
               clear hb5)
            | (at_builtin
               refine wpList_append_iints2 rfl (.tmp 35) (.tmp 37) rfl w2.heap.size v (rowI (nearK ps r.toList R k)) (k : Int) rfl rfl rfl rfl HO5.out (by omega) (by rw [rowI_len]; have := HNL.out; omega) ?_
               intro v6 w6 ho6 hg6 hat6
               have HO6 := Lib.hid ho6
               have HB6 := Lib.hid ((HB5.out.alloc (by omega) (.cells #[.int .i64 (k : Int)] 3)).grown hg6 (by simp; omega) (fun k e => (HO5.out.lt k e).1))
               clear ho6 hg6 hat6)
            | fail)
          go_roundw
          case rel => exact ⟨k + 1, _, by omega, by go_num, rfl, Lib.hid (by rw [HST.out]; unfold rowI; rw [List.map_append]; exact HO6.out), HB6⟩
          case measure => simp [intOf]; omega
      · rw [decide_eq_false hmem] at hlk
        rw [if_neg (fun c => hmem c.1), List.append_nil] at hmore
        have HST := Lib.hid hmore
        clear hmore hmem
        go_wp2_with fail
        go_roundw
        case rel => exact ⟨k + 1, _, by omega, by go_num, rfl, Lib.hid (by rw [HST.out]; exact HOX.out), HBX⟩
        case measure => simp [intOf]; omega
    · obtain rfl : k = n := by omega
      have d1 : decide ((k : Int) < (k : Int)) = false := decide_eq_false (by omega)
      go_wp2_with fail
      go_ret
      exact ⟨⟨_, rfl, by rw [HZ.out]; exact HO.out.low (by have := HB2.out.size; omega)⟩, HB.out⟩
omit hr h hnm hb in
theorem startP_one {k : Int} (h0 : 0 ≤ k) (h1 : k < (n : Int)) : startP n [k] = [k.toNat] := by
  unfold startP
  rw [List.filter_cons_of_pos (by simp [h0, h1])]
  rfl
set_option maxHeartbeats 8000000 in
set_option maxRecDepth 20000 in
theorem gLost_any (k : Int) :
    Calls Tryz.prog 81 #[.agg #[.string nm, .slice ra rn rc, .slice a n c], .string r, .int .i64 k] w fun e w' => e = .returned (.bool (lostQ nm.toList rs ps r.toList k)) ∧ Below w.heap.size w w' := by
  have HB0 := Lib.hid (tu1 w (.cells #[.string nm, .slice ra rn rc, .slice a n c] 37))
  have HP := Lib.hid (PBox.new w nm ra rn rc a n c)
  obtain ⟨c0, c1, c2⟩ := HP.out.cells
  have hlen := h.1
  have CH := Lib.hid (fun (W : World) (hW : Below w.heap.size w W) => gHas_any nm hnm ra rn rc rs a n c ps W bound (by have := hW.size; omega) (hr.below (hW.mono hb)) (h.below (hW.mono hb)) r)
  have CI := Lib.hid (fun W => gIsPoint_any nm ra rn rc a n c k W)
  have CN := Lib.hid (fun (W : World) (hW : Below w.heap.size w W) => gNear_any nm hnm ra rn rc rs a n c ps r (W.alloc (.cells #[.int .i64 k] 3)) (W.heap.size + 1) (by simp) ((hr.below ((hW.alloc hW.size (.cells #[.int .i64 k] 3)).mono hb)).more (by have := hW.size; omega)) ((h.below ((hW.alloc hW.size (.cells #[.int .i64 k] 3)).mono hb)).more (by have := hW.size; omega)) (some ⟨W.heap.size, 0, none⟩) 1 1 [k] (INums_made W #[.int .i64 k] [k] 1 rfl rfl (by omega)))
  obtain ⟨R, hR⟩ : ∃ R, R = lostQ nm.toList rs ps r.toList k := ⟨_, rfl⟩
  rw [← hR]
  unfold lostQ at hR
  cases hv : (protB nm.toList rs ps && hasS rs r.toList)
  · rw [hv] at CH hR
    have HZ := Lib.hid (show R = false from hR)
    clear h hr hv hR
    go_enter Tryz.func81, Tryz.ntmps81
    go_wp2_with (first
      | (go_at_call 109; (with_reducible refine (CH.out _ HB0.out).mono ?_)
         rintro e w1 ⟨rfl, hb1⟩
         have HB1 := Lib.hid (below_on HB0.out hb1)
         clear hb1)
      | fail)
    go_ret
    exact ⟨ret_bool HZ.out.symm, HB1.out⟩
  rw [hv, Bool.true_and, hlen] at hR
  rw [hv] at CH
  cases hk : (decide (0 ≤ k) && decide (k < (n : Int)))
  · rw [hk] at CI hR
    have HZ := Lib.hid (show R = false from hR)
    clear h hr hv hR
    go_enter Tryz.func81, Tryz.ntmps81
    go_wp2_with (first
      | (go_at_call 109; (with_reducible refine (CH.out _ HB0.out).mono ?_)
         rintro e w1 ⟨rfl, hb1⟩
         have HB1 := Lib.hid (below_on HB0.out hb1)
         obtain ⟨_, _, _⟩ := (HP.out.on hb1).cells
         clear hb1)
      | (go_at_call 110; (with_reducible refine (CI.out _).mono ?_)
         rintro e w2 ⟨rfl, hb2⟩
         have HB2 := Lib.hid (below_on HB1.out hb2)
         clear hb2)
      | fail)
    go_ret
    exact ⟨ret_bool HZ.out.symm, HB2.out⟩
  rw [hk, Bool.true_and] at hR
  rw [hk] at CI
  rw [Bool.and_eq_true, decide_eq_true_eq, decide_eq_true_eq] at hk
  have hq : nearQ nm.toList rs ps r.toList [k] = nearP ps r.toList [k.toNat] := by
    unfold nearQ
    rw [hv, if_pos rfl, hlen, startP_one n hk.1 hk.2]
  rw [hq] at CN
  obtain ⟨L, hL⟩ : ∃ L, L = nearP ps r.toList [k.toNat] := ⟨_, rfl⟩
  rw [← hL] at CN hR
  clear h hr hv hq hk hL
  go_enter Tryz.func81, Tryz.ntmps81
  cases L with
  | nil =>
    have HZ := Lib.hid (show R = true from hR)
    clear hR
    go_wp2_with (first
      | (go_at_call 109; (with_reducible refine (CH.out _ HB0.out).mono ?_)
         rintro e w1 ⟨rfl, hb1⟩
         have HB1 := Lib.hid (below_on HB0.out hb1)
         have HP1 := Lib.hid (HP.out.on hb1)
         obtain ⟨_, _, _⟩ := HP1.out.cells
         clear hb1)
      | (go_at_call 110; (with_reducible refine (CI.out _).mono ?_)
         rintro e w2 ⟨rfl, hb2⟩
         have HB2 := Lib.hid (below_on HB1.out hb2)
         have HP2 := Lib.hid (HP1.out.on hb2)
         obtain ⟨_, _, _⟩ := HP2.out.cells
         clear hb2)
      | (go_at_call 83; (with_reducible refine (CN.out _ HB2.out).mono ?_)
         rintro e w3 ⟨⟨v, rfl, hi⟩, hb3⟩
         obtain ⟨xa, xc, hv, _⟩ := hi.sees
         have hv : v = .slice xa 0 xc := hv
         subst hv
         have HB3 := Lib.hid (below_on (HB2.out.alloc HB2.out.size _) hb3)
         clear hi hb3)
      | fail)
    go_ret
    exact ⟨ret_bool HZ.out.symm, HB3.out⟩
  | cons x L =>
    have HZ := Lib.hid (show R = false from hR)
    obtain ⟨m, hm⟩ : ∃ m, m = (rowI (x :: L)).length := ⟨_, rfl⟩
    have hm1 : 1 ≤ m := by rw [hm, rowI_len]; simp
    have h0 : ((m : Int) == 0) = false := by rw [beq_eq_false_iff_ne]; omega
    have HM := Lib.hid hm
    clear hR hm
    go_wp2_with (first
      | (go_at_call 109; (with_reducible refine (CH.out _ HB0.out).mono ?_)
         rintro e w1 ⟨rfl, hb1⟩
         have HB1 := Lib.hid (below_on HB0.out hb1)
         have HP1 := Lib.hid (HP.out.on hb1)
         obtain ⟨_, _, _⟩ := HP1.out.cells
         clear hb1)
      | (go_at_call 110; (with_reducible refine (CI.out _).mono ?_)
         rintro e w2 ⟨rfl, hb2⟩
         have HB2 := Lib.hid (below_on HB1.out hb2)
         have HP2 := Lib.hid (HP1.out.on hb2)
         obtain ⟨_, _, _⟩ := HP2.out.cells
         clear hb2)
      | (go_at_call 83; (with_reducible refine (CN.out _ HB2.out).mono ?_)
         rintro e w3 ⟨⟨v, rfl, hi⟩, hb3⟩
         obtain ⟨xa, xc, hv, _⟩ := hi.sees
         rw [← HM.out] at hv
         subst hv
         have HB3 := Lib.hid (below_on (HB2.out.alloc HB2.out.size _) hb3)
         clear hi hb3)
      | fail)
    go_ret
    exact ⟨ret_bool HZ.out.symm, HB3.out⟩
end
end Go.Proofs.YtiofpeckcfdilaaGreatDoor

/- A protocol in memory, as one thing; what the program's functions say of it. -/
namespace Go.Proofs.YtiofpeckcfdilaaGreatDoor
open Go.RowKit

/-- A protocol that can be read here. -/
structure PIn (W : World) (nm : ByteArray) (ra : Option Addr) (rn : Nat) (rs : List Str) (a : Option Addr) (n : Nat) (ps : List PointL) : Prop where
  name : nm.size ≤ maxLen
  roles : Strs W W.heap.size ra rn rs
  pts : Pts W W.heap.size a n ps
theorem Strs.on {W W' : World} {a : Option Addr} {n : Nat} {ss : List Str} (h : Strs W W.heap.size a n ss) (hb : Below W.heap.size W W') : Strs W' W'.heap.size a n ss := (h.below hb).more hb.size
theorem Nums.on {W W' : World} {a : Option Addr} {n : Nat} {l : List Int} (h : Nums W W.heap.size a n l) (hb : Below W.heap.size W W') : Nums W' W'.heap.size a n l := (h.below hb).more hb.size
section
variable {W : World} {nm : ByteArray} {ra : Option Addr} {rn rc : Nat} {rs : List Str} {a : Option Addr} {n c : Nat} {ps : List PointL}
theorem PIn.on {W' : World} (h : PIn W nm ra rn rs a n ps) (hb : Below W.heap.size W W') : PIn W' nm ra rn rs a n ps := ⟨h.name, h.roles.on hb, h.pts.on hb⟩
theorem PIn.may (h : PIn W nm ra rn rs a n ps) : Calls Tryz.prog 19 #[.agg #[.string nm, .slice ra rn rc, .slice a n c]] W fun e w' => e = .returned (.bool (protB nm.toList rs ps)) ∧ Below W.heap.size W w' :=
  gMay_any nm h.name ra rn rc rs a n c ps W _ (Nat.le_refl _) h.roles h.pts
theorem PIn.near (h : PIn W nm ra rn rs a n ps) (r : ByteArray) {va : Option Addr} {vn : Nat} (vc : Nat) {l : List Int} (hl : Nums W W.heap.size va vn l) : Calls Tryz.prog 83 #[.agg #[.string nm, .slice ra rn rc, .slice a n c], .string r, .slice va vn vc] W fun e w' => (∃ v, e = .returned v ∧ IInts w' W.heap.size v (rowI (nearQ nm.toList rs ps r.toList l))) ∧ Below W.heap.size W w' :=
  gNear_any nm h.name ra rn rc rs a n c ps r W _ (Nat.le_refl _) h.roles h.pts va vn vc l hl
theorem PIn.lost (h : PIn W nm ra rn rs a n ps) (r : ByteArray) (k : Int) : Calls Tryz.prog 81 #[.agg #[.string nm, .slice ra rn rc, .slice a n c], .string r, .int .i64 k] W fun e w' => e = .returned (.bool (lostQ nm.toList rs ps r.toList k)) ∧ Below W.heap.size W w' :=
  gLost_any nm h.name ra rn rc rs a n c ps r W _ (Nat.le_refl _) h.roles h.pts k
end
end Go.Proofs.YtiofpeckcfdilaaGreatDoor
