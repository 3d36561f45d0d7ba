/- Contract of equal's group, for any function that writes texts. -/
import Derived.Test.YtgefhgcpnfbigaaBkText
import Derived.Test.YtgefhgcpnfbigaaRef2
import Derived.Shelf.Abstract
import Derived.Deep.CutBlock
import Derived.Deep.DeepCutAuto
namespace Go.Proofs.Ytgefhgcpnfbigaa
open Go.RowKit Go.Maps Go.WideMaps

/-- The value, called on an index below n and on bytes that the call made, leaves just the text of the index. -/
def Writes (w : World) (f : Value) (key : Nat → Str) (n : Nat) : Prop :=
  ∃ (k : FuncId) (caps : Array Value), f = .func (.func k) #[] caps ∧ Enters Try.prog k ∧ ∀ (W : World), Below w.heap.size w W → ∀ (base : Nat), w.heap.size ≤ base → base ≤ W.heap.size → ∀ (v : Value) (i : Nat), i < n → Bytes W base v [] →
    Calls Try.prog k (#[v, .int .i64 (i : Int)] ++ caps) W fun e w' => (∃ v', e = .returned v' ∧ Bytes w' base v' (key i)) ∧ Below base W w'
/-- The first index below k with a text. -/
def firstK (key : Nat → Str) (k : Nat) (s : Str) : Option Nat := (List.range k).find? fun i => key i == s
theorem firstK_succ (key : Nat → Str) (k : Nat) (s : Str) : firstK key (k + 1) s = (firstK key k s).or (if key k = s then some k else none) := by
  unfold firstK
  rw [List.range_succ, List.find?_append]
  congr 1
  by_cases h : key k = s
  · rw [if_pos h, List.find?_cons_of_pos (by simp [h])]
  · rw [if_neg h, List.find?_cons_of_neg (by simp [h]), List.find?_nil]
theorem firstK_some {key : Nat → Str} {s : Str} : ∀ {k j : Nat}, firstK key k s = some j → j < k ∧ key j = s ∧ ∀ i, i < j → key i ≠ s
  | 0, j, h => by simp [firstK] at h
  | k + 1, j, h => by
    rw [firstK_succ] at h
    cases hf : firstK key k s with
    | some i =>
      rw [hf] at h
      obtain rfl : i = j := Option.some.inj h
      obtain ⟨a, b, c⟩ := firstK_some hf
      exact ⟨by omega, b, c⟩
    | none =>
      rw [hf] at h
      have h' : (if key k = s then some k else none) = some j := h
      split at h'
      · rename_i hk
        obtain rfl := Option.some.inj h'
        refine ⟨by omega, hk, fun i hi => ?_⟩
        have := List.find?_eq_none.1 hf i (List.mem_range.2 hi)
        simpa using this
      · cases h'
theorem firstK_none {key : Nat → Str} {k : Nat} {s : Str} (h : firstK key k s = none) : ∀ i, i < k → key i ≠ s := fun i hi => by
  have := List.find?_eq_none.1 h i (List.mem_range.2 hi)
  simpa using this
theorem keyL_ne10 {x y : Str} (h : x ≠ y) : keyL x ≠ keyL y := by
  unfold keyL
  intro e
  injection e with e
  exact h e
/-- The block holds a map from each text to its first index below k. -/
def SMap (w : World) (b : Nat) (key : Nat → Str) (k : Nat) : Prop :=
  ∃ (n : Nat) (D : DataW Unit), w.ownsMap Try.prog 9 (plainElem Try.prog 3) b n D ∧ n ≤ k ∧
    ∀ s : Str, D.atKey (keyL s) (.lit (.int .i64 0)) = .lit (.int .i64 (((firstK key k s).getD 0 : Nat) : Int)) ∧ Maps.has D (keyL s) = (firstK key k s).isSome
theorem SMap.made (w : World) (key : Nat → Str) : SMap (w.alloc (.map #[] 0)) w.heap.size key 0 :=
  ⟨0, .map [], World.ownsMap_made _ _ _ _, Nat.le_refl _, fun _ => ⟨rfl, rfl⟩⟩
theorem SMap.lt {w : World} {b : Nat} {key : Nat → Str} {k : Nat} (h : SMap w b key k) : b < w.heap.size := by
  obtain ⟨n, D, h1, _⟩ := h
  exact h1.lt
theorem SMap.block {w w' : World} {b : Nat} {key : Nat → Str} {k : Nat} (h : SMap w b key k) (hb : w'.heap[b]? = w.heap[b]?) : SMap w' b key k := by
  obtain ⟨n, D, ⟨es, clock, h1, h2⟩, h3⟩ := h
  exact ⟨n, D, ⟨es, clock, hb.trans h1, h2⟩, h3⟩
theorem zeroInt10 (w : World) : (zeroValue 3).run Try.prog w = .ok (.int .i64 0) w := by kernel_rfl
theorem intwf10 {x : Nat} (h : x ≤ 1000000) : (Lit.int .i64 (x : Int)).wf = true := WalkArith.wf_i64 (by omega)
theorem SMap.look {w : World} {b : Nat} {key : Nat → Str} {k : Nat} (h : SMap w b key k) {x : Str} (hx : x.length ≤ maxLen) :
    (Instr.lookup 103 (.map (some b)) (.string (lxS x)) true).run Try.prog w = .ok (.tuple #[.int .i64 (((firstK key k x).getD 0 : Nat) : Int), .bool (firstK key k x).isSome]) w := by
  obtain ⟨n, D, h1, _, h4⟩ := h
  have hw0 : (Lit.int .i64 0).wf = true := by decide
  obtain ⟨v, ps, hrun, hv⟩ := h1.look_ok keyed9 Try.underlying103 (zeroInt10 w) (plainElem_int Try.underlying3 hw0) (show keyOf Try.prog 9 (.string (lxS x)) = some (keyL x) from key_ok x hx)
  obtain ⟨c, rfl, hc, _⟩ := plainElem_int_inv Try.underlying3 hv
  obtain ⟨h5, h6⟩ := h4 x
  have h7 := (Lit.int.inj (DataW.lit.inj ((congrArg Prod.fst hc).symm.trans h5))).2
  rw [h6] at hrun
  subst h7
  exact hrun
/-- Where the text of k is met already, the map is the map up to k as well. -/
theorem SMap.again {w : World} {b : Nat} {key : Nat → Str} {k j : Nat} (h : SMap w b key k) (hj : firstK key k (key k) = some j) : SMap w b key (k + 1) := by
  obtain ⟨n, D, h1, h2, h4⟩ := h
  refine ⟨n, D, h1, by omega, fun s => ?_⟩
  have e : firstK key (k + 1) s = firstK key k s := by
    rw [firstK_succ]
    by_cases hs : key k = s
    · subst hs; rw [hj]; rfl
    · rw [if_neg hs, Option.or_none]
  rw [e]
  exact h4 s
theorem SMap.put {w : World} {b : Nat} {key : Nat → Str} {k : Nat} (h : SMap w b key k) (hx : (key k).length ≤ maxLen) (hm : firstK key k (key k) = none) (hl : k ≤ 900) :
    ∃ w', (Instr.mapUpdate 103 (.map (some b)) (.string (lxS (key k))) (.int .i64 (k : Int))).run Try.prog w = .ok () w' ∧ SMap w' b key (k + 1) ∧ w.grownBy w' (some b) := by
  obtain ⟨n, D, h1, h2, h4⟩ := h
  obtain ⟨w', hrun, hown, hgr⟩ := h1.update keyed9 Try.underlying103 (by unfold maxLen; omega) (show keyOf Try.prog 9 (.string (lxS (key k))) = some (keyL (key k)) from key_ok _ hx) (plainElem_int Try.underlying3 (intwf10 (x := k) (by omega)))
  refine ⟨w', hrun, ⟨n + 1, _, hown, by omega, fun y => ?_⟩, hgr⟩
  by_cases e : y = key k
  · subst e
    have e2 : firstK key (k + 1) (key k) = some k := by rw [firstK_succ, hm, if_pos rfl]; rfl
    constructor
    · rw [atKey_put_same h1.isMap (show WideAt.IsKeyLit (keyL (key k)) from trivial), e2]
      rfl
    · rw [has_put_same h1.isMap (show WideAt.IsKeyLit (keyL (key k)) from trivial), e2]
      rfl
  · have hne := keyL_ne10 e
    obtain ⟨h5, h6⟩ := h4 y
    have e2 : firstK key (k + 1) y = firstK key k y := by rw [firstK_succ, if_neg (fun c => e c.symm), Option.or_none]
    constructor
    · rw [atKey_put_other hne, h5, e2]
    · rw [has_put_other hne, h6, e2]
theorem wpList_mapUpdate_first {ops : Array Oper} {rest : List Oper} {o : Oper} {a : Act} {Q : Exit → Act → World → Prop} {W : World} (hg : o.guard = none) (m x v : Operand) (hop : o.op = Op.mapUpdate 103 m x v)
    (b : Nat) (key : Nat → Str) (k : Nat) (hm : a.eval m = .map (some b)) (hown : SMap W b key k) (hy : (key k).length ≤ maxLen) (hn : firstK key k (key k) = none) (hl : k ≤ 900) (hx : a.eval x = .string (lxS (key k))) (hv : a.eval v = .int .i64 (k : Int))
    (hK : ∀ w', SMap w' b key (k + 1) → W.grownBy w' (some b) → wpList Try.prog ops Q rest (a.put o.dst undef) w') :
    wpList Try.prog ops Q (o :: rest) a W := by
  refine wpList_plain hg fun K' hK' => ?_
  obtain ⟨w', hrun, r1, r2⟩ := hown.put hy hn hl
  unfold Oper.wp
  simp [execOp, hop, hm, hx, hv, hrun, Result.andThen]
  exact hK' _ _ (hK w' r1 r2)
/-- The classes of the first ones are there. -/
def GrpTo (key : Nat → Str) (n k : Nat) (cl : List Nat) : Prop := cl.length = n ∧ ∀ i, i < k → cl.getD i 0 ≤ i ∧ key (cl.getD i 0) = key i ∧ ∀ m, m < cl.getD i 0 → key m ≠ key i
theorem GrpTo.next {key : Nat → Str} {n k j : Nat} {cl : List Nat} (h : GrpTo key n k cl) (hk : k < n) (h1 : j ≤ k) (h2 : key j = key k) (h3 : ∀ m, m < j → key m ≠ key k) : GrpTo key n (k + 1) (cl.set k j) := by
  refine ⟨by rw [List.length_set, h.1], fun i hi => ?_⟩
  have hkl : k < cl.length := by rw [h.1]; exact hk
  by_cases e : i = k
  · subst e
    have : (cl.set i j).getD i 0 = j := by rw [List.getD_eq_getElem?_getD, List.getElem?_set_self hkl]; rfl
    rw [this]
    exact ⟨h1, h2, h3⟩
  · have : (cl.set k j).getD i 0 = cl.getD i 0 := by rw [List.getD_eq_getElem?_getD, List.getElem?_set_ne (fun c => e c.symm), ← List.getD_eq_getElem?_getD]
    rw [this]
    exact h.2 i (by omega)
theorem Bytes.empty {w : World} {base : Nat} {a : Option Addr} {n c : Nat} {l : Str} (h : Bytes w base (.slice a n c) l) : Bytes w base (.slice a 0 c) [] := by
  rcases h.2 with ⟨h0, _⟩ | ⟨g, cap, cur, e, hbase, hh, h1, h2, h3, h4⟩
  · injection h0 with e1 e2 e3
    subst e1 e3
    exact Bytes.zero _ _
  · injection e with e1 e2 e3
    subst e1 e3
    exact ⟨rfl, .inr ⟨g, c, cur, rfl, hbase, hh, Nat.zero_le _, h2, h3, by simp⟩⟩
theorem Bytes.form {w : World} {base : Nat} {v : Value} {l : Str} (h : Bytes w base v l) : ∃ a n c, v = .slice a n c ∧ n ≤ c ∧ c ≤ maxLen := by
  rcases h.2 with ⟨h0, _⟩ | ⟨g, cap, cur, rfl, hbase, hh, h1, h2, h3, h4⟩
  · exact ⟨none, 0, 0, h0, Nat.le_refl _, Nat.zero_le _⟩
  · exact ⟨_, _, cap, rfl, h1, h2⟩
theorem ownsRow_keep10 {w w' : World} {base : Nat} {e : TypeId} {size : Nat} {v : Value} {n : Nat} {xs : List Value} (h : w.ownsRow base e size v n xs) (hb : ∀ b, base ≤ b ∧ b < w.heap.size → w'.heap[b]? = w.heap[b]?) : w'.ownsRow base e size v n xs := by
  have hlt := h.lt
  rcases h.2 with h0 | ⟨g, cap, cur, rfl, hbase, hh, h1, h2, h3, h4⟩
  · exact ⟨h.1, .inl h0⟩
  · exact ⟨h.1, .inr ⟨g, cap, cur, rfl, hbase, (hb g (hlt g rfl)).trans hh, h1, h2, h3, h4⟩⟩
theorem IInts.keep10 {w w' : World} {base g n c : Nat} {l : List Int} (h : IInts w base (.slice (some ⟨g, 0, none⟩) n c) l) (hb : w'.heap[g]? = w.heap[g]?) : IInts w' base (.slice (some ⟨g, 0, none⟩) n c) l := by
  rcases h.2 with h0 | ⟨k, cap, cur, e, hbase, hh, h1, h2, h3, h4⟩
  · exact ⟨h.1, .inl h0⟩
  · injection e with e1 e2 e3
    injection e1 with e1
    injection e1 with e1 _ _
    subst e1
    refine ⟨h.1, .inr ⟨g, cap, cur, by rw [e2, e3], hbase, hb.trans hh, h1, h2, h3, h4⟩⟩
set_option maxHeartbeats 8000000 in
set_option maxRecDepth 20000 in
theorem group_any (f : Value) (key : Nat → Str) (n : Nat) (hn : n ≤ 400) (hkl : ∀ i, i < n → (key i).length ≤ 1000) (w : World) (hf : Writes w f key n) :
    Calls Try.prog 42 #[.int .i64 (n : Int), f] w fun e w' => (∃ a c cl, e = .returned (.slice a n c) ∧ Grp key n cl ∧ Nums w' w'.heap.size a n (rowI cl)) ∧ Below w.heap.size w w' := by
  obtain ⟨fk, caps, rfl, hen, hask⟩ := hf
  have HASK := Lib.hid hask
  have HKL := Lib.hid hkl
  have hmm := made_map Try.underlying103 .i64 (n : Int)
  have hms := made_ints10 n (by omega)
  clear hask hkl
  go_enter Try.func42, Try.ntmps42
  go_wp2_with fail
  clear hmm hms
  obtain ⟨S, hS⟩ : ∃ S, S = w.heap.size := ⟨_, rfl⟩
  have HSM0 := Lib.hid (show SMap ((w.alloc (.map #[] 0)).alloc (.cells (madeCells #[.int .i64 0] n) 3)) w.heap.size key 0 from (SMap.made w key).block ((tu1 (w.alloc (.map #[] 0)) _).block _ (by simp)))
  have HCL0 := Lib.hid (show IInts ((w.alloc (.map #[] 0)).alloc (.cells (madeCells #[.int .i64 0] n) 3)) (w.heap.size + 1) (.slice (some ⟨w.heap.size + 1, 0, none⟩) n n) (rowI (List.replicate n 0)) from by
    have := IInts.made10 (w.alloc (.map #[] 0)) n (by omega) rfl
    rw [World.size_alloc] at this
    unfold rowI
    rw [List.map_replicate]
    exact this)
  have HB0 := Lib.hid (((Below.refl w.heap.size w).alloc (Nat.le_refl _) (.map #[] 0)).alloc (by simp) (.cells (madeCells #[.int .i64 0] n) 3))
  go_loopw [7, 16] (fun o i wr => ∃ (k : Nat) (v : Value) (cl : List Nat), k ≤ n ∧ i = .int .i64 k ∧ v = o ∧ Hid (∃ l, Bytes wr (w.heap.size + 2) v l) ∧ Hid (SMap wr w.heap.size key k) ∧ Hid (IInts wr (w.heap.size + 1) (.slice (some ⟨w.heap.size + 1, 0, none⟩) n n) (rowI cl)) ∧ Hid (GrpTo key n k cl) ∧ Hid (w.heap.size + 2 ≤ wr.heap.size ∧ Below w.heap.size w wr)) (fun _ i _ => n - (intOf i).toNat)
  case atStart => exact ⟨0, _, List.replicate n 0, Nat.zero_le _, rfl, rfl, Lib.hid ⟨[], Bytes.zero _ _⟩, HSM0, HCL0, Lib.hid ⟨by simp, fun i hi => absurd hi (Nat.not_lt_zero i)⟩, Lib.hid ⟨by simp, HB0.out⟩⟩
  case round =>
    obtain ⟨k, tv, cl, hk, rfl, hvo, HT, HSM, HCL, HG, HBr⟩ := hrel
    subst hvo
    clear HSM0 HCL0 HB0
    have hzr := HBr.out.1
    by_cases hlt : k < n
    · obtain ⟨tl, htl⟩ := HT.out
      obtain ⟨ta, tn, tc, rfl, htn, htc⟩ := htl.form
      have HT0 := Lib.hid htl.empty
      have i1 : (k : Int) < (n : Int) := by omega
      have i2 : (0 : Int) ≤ (k : Int) := by omega
      have HKK := Lib.hid (HKL.out k hlt)
      obtain ⟨ck, hck⟩ : ∃ ck, cl[k]? = some ck := ⟨_, List.getElem?_eq_getElem (by rw [HG.out.1]; exact hlt)⟩
      have CF : Calls Try.prog fk (#[.slice ta 0 tc, .int .i64 (k : Int)] ++ caps) wr fun e w' => (∃ v', e = .returned v' ∧ Bytes w' (w.heap.size + 2) v' (key k)) ∧ Below (w.heap.size + 2) wr w' := HASK.out wr HBr.out.2 (w.heap.size + 2) (by omega) hzr _ k hlt HT0.out
      have HCF := Lib.hid CF
      have hcf : ∀ (args : Array Value) (w : World), (callFunc fk args).run Try.prog w = .ok (.enter fk args) w := hen
      clear CF htl HT
      cases hfk : firstK key k (key k) with
      | some j =>
        have HFK := Lib.hid hfk
        clear hfk
        go_wp2_with (first
          | ((with_reducible refine HCF.out.mono ?_)
             rintro e w3 ⟨⟨v3, rfl, h3⟩, hb3⟩
             have HO3 := Lib.hid h3
             have HSM3 := Lib.hid (HSM.out.block (hb3.block w.heap.size (by omega)))
             have HCL3 := Lib.hid (HCL.out.keep10 (hb3.block (w.heap.size + 1) (by omega)))
             have HB3 := Lib.hid (HBr.out.2.trans (hb3.mono (by omega)))
             have hz3 := hb3.size
             have hcv3 := Bytes.text h3
             have hlk := HSM3.out.look (x := key k) (by have := HKK.out; unfold maxLen; omega)
             rw [HFK.out] at hlk
             have hfz := HCL3.out.thaw10 k
             have hcc := HCL3.out.cell10 (rowI_get10 hck)
             clear h3 hb3)
          | fail)
        have HX := Lib.hid (firstK_some HFK.out)
        go_roundw
        case rel =>
          refine ⟨k + 1, v3, cl.set k j, by omega, by go_num, rfl, Lib.hid ⟨key k, ?_⟩, Lib.hid ?_, Lib.hid ?_, Lib.hid (HG.out.next hlt (by have := HX.out.1; omega) HX.out.2.1 HX.out.2.2), Lib.hid ⟨?_, ?_⟩⟩
          · exact ownsRow_setCell_below HO3.out (show w.heap.size + 1 < _ by omega) _
          · exact (HSM3.out.again HFK.out).block (Below.heap_setCell _ _ _ _ (by simp))
          · rw [← rowI_set10]; exact HCL3.out.put10 k _
          · simp; omega
          · exact HB3.out.setCell (by simp) _
        case measure => simp [intOf]; omega
      | none =>
        have HFK := Lib.hid hfk
        clear hfk
        go_wp2_with (first
          | ((with_reducible refine HCF.out.mono ?_)
             rintro e w3 ⟨⟨v3, rfl, h3⟩, hb3⟩
             have HO3 := Lib.hid h3
             have HSM3 := Lib.hid (HSM.out.block (hb3.block w.heap.size (by omega)))
             have HCL3 := Lib.hid (HCL.out.keep10 (hb3.block (w.heap.size + 1) (by omega)))
             have HB3 := Lib.hid (HBr.out.2.trans (hb3.mono (by omega)))
             have hz3 := hb3.size
             have hcv3 := Bytes.text h3
             have hlk := HSM3.out.look (x := key k) (by have := HKK.out; unfold maxLen; omega)
             rw [HFK.out] at hlk
             clear h3 hb3)
          | (refine wpList_mapUpdate_first rfl (.tmp 34) (.tmp 36) (.tmp 37) rfl w.heap.size key k rfl HSM3.out (by have := HKK.out; unfold maxLen; omega) HFK.out (by omega) rfl rfl ?_
             intro w4 hsm4 hg4
             have HSM4 := Lib.hid hsm4
             have HCL4 := Lib.hid (HCL3.out.keep10 (hg4.block (w.heap.size + 1) (by omega) (by simp)))
             have HO4 := Lib.hid (show Bytes w4 (w.heap.size + 2) v3 (key k) from ownsRow_keep10 HO3.out fun b hb => hg4.block b hb.2 (by have := hb.1; simp; omega))
             have HB4 := Lib.hid (HB3.out.grown hg4 (by omega) (fun k e => by simp at e; omega))
             have hz4 := hg4.size
             have hfz := HCL4.out.thaw10 k
             have hcc := HCL4.out.cell10 (rowI_get10 hck)
             clear hsm4 hg4)
          | fail)
        have HX := Lib.hid (firstK_none HFK.out)
        go_roundw
        case rel =>
          refine ⟨k + 1, v3, cl.set k k, by omega, by go_num, rfl, Lib.hid ⟨key k, ?_⟩, Lib.hid ?_, Lib.hid ?_, Lib.hid (HG.out.next hlt (Nat.le_refl _) rfl HX.out), Lib.hid ⟨?_, ?_⟩⟩
          · exact ownsRow_setCell_below HO4.out (show w.heap.size + 1 < _ by omega) _
          · exact HSM4.out.block (Below.heap_setCell _ _ _ _ (by simp))
          · rw [← rowI_set10]; exact HCL4.out.put10 k _
          · simp; omega
          · exact HB4.out.setCell (by simp) _
        case measure => simp [intOf]; omega
    · obtain rfl : k = n := by omega
      have d1 : decide ((k : Int) < (k : Int)) = false := decide_eq_false (by omega)
      clear HT
      go_wp2_with fail
      go_ret
      obtain ⟨a, c, e, _, _, _, hnu⟩ := HCL.out.sees
      obtain ⟨e1, e2, e3⟩ := Value.slice.inj e
      refine ⟨⟨_, _, cl, rfl, ⟨HG.out.1, HG.out.2⟩, ?_⟩, HBr.out.2⟩
      rw [e1]
      have e4 : (rowI cl).length = k := e2.symm
      rw [e4] at hnu
      exact hnu
end Go.Proofs.Ytgefhgcpnfbigaa
