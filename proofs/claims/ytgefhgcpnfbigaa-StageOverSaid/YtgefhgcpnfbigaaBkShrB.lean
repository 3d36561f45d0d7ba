/- Contract of equal.Shrink. -/
import Derived.Test.YtgefhgcpnfbigaaBkShrA
namespace Go.Proofs.Ytgefhgcpnfbigaa
open Go.RowKit Go.Sort

set_option maxHeartbeats 8000000 in
/-- slices.Clone at strings, of any slice. -/
theorem clone10_any (a : Option Addr) (n c : Nat) (ss : List Str) (w : World) (bound : Nat) (hb : bound ≤ w.heap.size) (h : Strs w bound a n ss) (hn : n ≤ 1000) :
    Calls Try.prog 55 #[.slice a n c] w fun e w' => (∃ xa xc, e = .returned (.slice xa n xc) ∧ Strs w' w'.heap.size xa n ss ∧ ∀ b off, xa = some ⟨b, off, none⟩ → w.heap.size ≤ b) ∧ Below w.heap.size w w' := by
  have HN := Lib.hid h
  cases a with
  | none =>
    have h0 : n = 0 := by
      rcases Nat.eq_zero_or_pos n with h0 | h0
      · exact h0
      · obtain ⟨b, off, e, _⟩ := h.2.2.2 h0; cases e
    subst h0
    have hss : ss = [] := List.eq_nil_of_length_eq_zero h.1
    subst hss
    have hbe : ∀ W, (binOp .eql 23 (.slice none 0 c) (.slice none 0 0)).run Try.prog W = .ok (.bool true) W := fun W => by kernel_rfl
    clear h HN
    go_enter Try.func55, Try.ntmps55
    go_wp2_with fail
    go_ret
    exact ⟨⟨none, 0, rfl, Strs.zero _ _ _, fun b off e => by cases e⟩, Below.refl _ _⟩
  | some ad =>
    have hown : (w.alloc (.cells #[] 9)).ownsRow w.heap.size 9 1 (.slice (some ⟨w.heap.size, 0, none⟩) 0 0) 0 (([] : List Str).map encStr) :=
      ⟨rfl, .inr ⟨w.heap.size, 0, #[], rfl, Nat.le_refl _, heap_alloc_new w _, Nat.le_refl _, by unfold maxLen; omega, rfl, rfl⟩⟩
    have HO := Lib.hid hown
    have hbe : ∀ W, (binOp .eql 23 (.slice (some ad) n c) (.slice none 0 0)).run Try.prog W = .ok (.bool false) W := fun W => by kernel_rfl
    clear h hown
    go_enter Try.func55, Try.ntmps55
    go_wp2_with (first
      | (at_builtin
         refine wpList_append_strs _ rfl (.tmp 5) (.tmp 6) _ rfl w.heap.size 9 Try.underlying23 info9 (.slice (some ⟨w.heap.size, 0, none⟩) 0 0) 0 [] rfl HO.out bound _ n c ss rfl (HN.out.alloc hb _) (by omega) (by simp) ?_
         intro v3 w3 own3 gr3 at3
         obtain ⟨xa, xc, hv3, hst3, _, _⟩ := Strs.of_own (n := n) (ss := ss) (by rw [Nat.zero_add] at own3; exact own3) (by omega) HN.out.max
         subst hv3
         have HS3 := Lib.hid (And.intro hst3 (show ∀ b off, xa = some ⟨b, off, none⟩ → w.heap.size ≤ b from fun b off e => by subst e; exact (own3.lt b rfl).1))
         have HB3 := Lib.hid ((tu1 w (.cells #[] 9)).grown gr3 (by simp) (fun j hj => by cases hj; exact Nat.le_refl _))
         clear own3 gr3 at3 hst3)
      | fail)
    go_ret
    exact ⟨⟨xa, xc, rfl, HS3.out.1, HS3.out.2⟩, HB3.out⟩
theorem step_append_int10 {ops : Array Oper} {o : Oper} {a : Act} {K : Act → World → Prop} {Q : Exit → Act → World → Prop} {E : Prop} {w1 : World} (W : World) (hgd : o.guard = none) (s x : Operand)
    (ho : o.op = .call { callee := .builtin .append, args := #[s, x], argTypes := #[24, 24] }) (base : Nat) (v : Value) (l : List Int) (n : Int)
    (hw1 : w1 = W.alloc (.cells #[.int .i64 n] 3)) (hs : a.eval s = v) (hx : a.eval x = .slice (some ⟨W.heap.size, 0, none⟩) 1 1)
    (hB : IInts W base v l) (hb : base ≤ W.heap.size) (hlen : l.length ≤ 1000000) (w0 : World) (hw : Below base w0 W)
    (h : ∀ v' w', IInts w' base v' (l ++ [n]) → Below base w0 w' → Keeps v W w' → K (a.put o.dst v') w') : if Region.wanted o (yielded ops a.tmps) = true then Oper.wp Try.prog o a w1 K Q else E := by
  have hwant : Region.wanted o (yielded ops a.tmps) = true := by simp [Region.wanted, hgd]
  rw [if_pos hwant]
  subst hw1
  obtain ⟨i0, hi0, hzz⟩ := Option.map_eq_some_iff.1 info_int1
  simp only [Prod.mk.injEq] at hzz
  obtain ⟨hz, hs1, hb1⟩ := hzz
  obtain ⟨v', w', hrun, hown, hgr, _, _⟩ := run_append_own_at (P := Try.prog) (W.alloc (.cells #[.int .i64 n] 3)) base 24 o.type 3 i0 _ 1 8 Try.underlying24 hi0 hz hs1 hb1 rfl (by omega) v l.length (l.map encI64) (hB.alloc _)
    ⟨W.heap.size, 0, none⟩ 1 1 [encI64 n] rfl
    (fun j u hu => by
      rw [Go.WideShapes.add_plain, cell_of_row _ _ _ _ _ _ (heap_alloc_new W _), Nat.zero_add, ← hu, ← Array.getElem?_toList]
      rfl)
    (fun u hu => by rw [List.mem_singleton.1 hu]; rfl) (by unfold maxLen; omega) (by omega) (by simp; omega)
  have hbel : Below base w0 w' := (hw.alloc hb _).grown hgr (by simp; omega) (fun k hk => (World.ownsRow.lt hB k hk).1)
  have hown2 : IInts w' base v' (l ++ [n]) := by
    unfold IInts
    rw [List.length_append, List.map_append]
    exact hown
  unfold Oper.wp execOp
  simp only [ho, resolve, invoke, builtin, Sem.run_bind, Sem.run_pure, Result.andThen_ok, List.map_toArray, List.map_cons, List.map_nil, hs, hx, hrun]
  exact h v' w' hown2 hbel ⟨by have := hgr.size; simp at this; omega, fun b hb hne => (hgr.block b (by simp; omega) (fun e => hne e.symm)).trans ((tu1 W _).block b hb)⟩
theorem Strs.stay10 {w w' : World} {bound bound' : Nat} {a : Option Addr} {n : Nat} {ss : List Str} (h : Strs w bound a n ss) (hb : bound ≤ bound') (hk : 0 < n → ∀ b off, a = some ⟨b, off, none⟩ → w'.heap[b]? = w.heap[b]?) : Strs w' bound' a n ss :=
  ⟨h.1, h.2.1, h.2.2.1, fun hn => by
    obtain ⟨b, off, e, hlt, hc⟩ := h.2.2.2 hn
    exact ⟨b, off, e, by omega, fun j s hs => (World.cell?_of_block (a := ⟨b, off + j, none⟩) (hk hn b off e)).trans (hc j s hs)⟩⟩
theorem Nums.stay10 {w w' : World} {bound bound' : Nat} {a : Option Addr} {n : Nat} {l : List Int} (h : Nums w bound a n l) (hb : bound ≤ bound') (hk : 0 < n → ∀ b off, a = some ⟨b, off, none⟩ → w'.heap[b]? = w.heap[b]?) : Nums w' bound' a n l :=
  ⟨h.1, h.2.1, fun hn => by
    obtain ⟨b, off, e, hlt, hc⟩ := h.2.2 hn
    exact ⟨b, off, e, by omega, fun j s hs => (World.cell?_of_block (a := ⟨b, off + j, none⟩) (hk hn b off e)).trans (hc j s hs)⟩⟩
/-- What Shrink answers. -/
def shrQ (b : BookL) (cl : List Nat) : BookL := if bookB b = true then shrB cl b else ⟨[], [], []⟩
def BkRet (b : BookL) (e : Ending) (w' : World) : Prop := ∃ (na : Option Addr) (nn nc : Nat) (sa : Option Addr) (sn sc : Nat) (ra : Option Addr) (rn rc : Nat), e = .returned (bkV na nn nc sa sn sc ra rn rc) ∧ BkIn w' w'.heap.size na nn sa sn ra rn b
theorem BBox.stay {W W' : World} {g : Nat} {na sa ra : Option Addr} {nn nc sn sc rn rc : Nat} (h : BBox W g na nn nc sa sn sc ra rn rc) (hb : W'.heap[g]? = W.heap[g]?) : BBox W' g na nn nc sa sn sc ra rn rc := hb.trans h
theorem BBox.thaw {W : World} {g : Nat} {na sa ra : Option Addr} {nn nc sn sc rn rc : Nat} (h : BBox W g na nn nc sa sn sc ra rn rc) (j : Nat) : W.frozen? ⟨g, j, none⟩ = false := by unfold World.frozen?; rw [show W.heap[g]? = _ from h]; simp
theorem BBox.set0 {W : World} {g : Nat} {na sa ra : Option Addr} {nn nc sn sc rn rc : Nat} (h : BBox W g na nn nc sa sn sc ra rn rc) (na' : Option Addr) (nn' nc' : Nat) : BBox (W.setCell ⟨g, 0, none⟩ (.slice na' nn' nc')) g na' nn' nc' sa sn sc ra rn rc := by
  unfold BBox
  rw [heap_setCell_same W g 0 _ _ _ h]
  rfl
theorem BBox.set2 {W : World} {g : Nat} {na sa ra : Option Addr} {nn nc sn sc rn rc : Nat} (h : BBox W g na nn nc sa sn sc ra rn rc) (ra' : Option Addr) (rn' rc' : Nat) : BBox (W.setCell ⟨g, 2, none⟩ (.slice ra' rn' rc')) g na nn nc sa sn sc ra' rn' rc' := by
  unfold BBox
  rw [heap_setCell_same W g 2 _ _ _ h]
  rfl
set_option maxHeartbeats 8000000 in
set_option maxRecDepth 20000 in
theorem shrink_any (na : Option Addr) (nn nc : Nat) (sa : Option Addr) (sn sc : Nat) (ra : Option Addr) (rn rc : Nat) (b : BookL) (cl : List Nat) (w : World) (bound : Nat) (hb : bound ≤ w.heap.size) (hsn : sn ≤ 1000) (h : BkIn w bound na nn sa sn ra rn b) (hcl : ClsP b cl) :
    Calls Try.prog 18 #[bkV na nn nc sa sn sc ra rn rc] w fun e w' => BkRet (shrQ b cl) e w' ∧ Below w.heap.size w w' := by
  have HN := Lib.hid h
  obtain ⟨W1, hW1⟩ : ∃ W1, W1 = (w.alloc (.cells #[.slice na nn nc, .slice sa sn sc, .slice ra rn rc] 26)).alloc (.cells #[.slice none 0 0, .slice none 0 0, .slice none 0 0] 26) := ⟨_, rfl⟩
  have HB1 := Lib.hid (show Below w.heap.size w W1 by rw [hW1]; exact below_on (tu1 w _) (tu1 _ _))
  have HZ1 := Lib.hid (show W1.heap.size = w.heap.size + 1 + 1 by rw [hW1]; simp)
  have HX1 := Lib.hid (show BBox W1 w.heap.size na nn nc sa sn sc ra rn rc by rw [hW1]; exact ((tu1 _ _).block w.heap.size (by simp)).trans (heap_alloc_new w _))
  have HY1 := Lib.hid (show BBox W1 (w.heap.size + 1) none 0 0 none 0 0 none 0 0 by
    have := heap_alloc_new (w.alloc (.cells #[.slice na nn nc, .slice sa sn sc, .slice ra rn rc] 26)) (.cells #[.slice none 0 0, .slice none 0 0, .slice none 0 0] 26)
    rw [World.size_alloc] at this
    rw [hW1]
    exact this)
  have CM := Lib.hid (bookMay_any na nn nc sa sn sc ra rn rc b W1 bound (by have := HZ1.out; omega) (h.below (HB1.out.mono hb)))
  have HCL := Lib.hid hcl
  have hone : ∀ cl', ClsP b cl' → cl' = cl := fun cl' h' => by
    cases hv : bookB b with
    | true => exact (h'.1 hv).only (hcl.1 hv)
    | false => rw [h'.2 hv, hcl.2 hv]
  have HONE := Lib.hid hone
  have hnl := h.nodes.1
  have hrl := h.roots.1
  clear h hcl hone
  cases hv : bookB b
  · rw [hv] at CM
    have HV := Lib.hid (show shrQ b cl = ⟨[], [], []⟩ by unfold shrQ; rw [hv]; rfl)
    rw [HV.out]
    clear hv hnl hrl
    subst hW1
    go_enter Try.func18, Try.ntmps18
    go_wp2_with (first
      | (go_at_call 39; (with_reducible refine CM.out.mono ?_)
         rintro e w2 ⟨rfl, hb2⟩
         have HB2 := Lib.hid (HB1.out.trans (hb2.mono (by have := HZ1.out; omega)))
         have HY2 := Lib.hid (HY1.out.stay (hb2.block _ (by have := HZ1.out; omega)))
         obtain ⟨y0, y1, y2⟩ := HY2.out.cells
         have f0 := HY2.out.thaw 0
         have f1 := HY2.out.thaw 1
         have f2 := HY2.out.thaw 2
         clear hb2)
      | fail)
    refine bodyPost_ret (v := bkV none 0 0 none 0 0 none 0 0) (by simp [results, go_sem, y0, y1, y2]) rfl ?_
    exact ⟨⟨none, 0, 0, none, 0, 0, none, 0, 0, rfl, Nodes.zero _ _ _, Strs.zero _ _ _, Nums.zero _ _ _⟩, ((HB2.out.setCell (by simp) _).setCell (by simp) _).setCell (by simp) _⟩
  rw [hv] at CM
  obtain ⟨hok, hnr, _, hro⟩ := bookB_ok hv
  have HOK := Lib.hid hok
  have HRO := Lib.hid hro
  have HIS := Lib.hid (HCL.out.1 hv)
  have hn4 : nn ≤ 400 := by have := hok.1; omega
  have HNL := Lib.hid hnl
  have HRL := Lib.hid hrl
  have hrn : rn ≤ 1000 := by have := HN.out.names.1; omega
  have HCO := Lib.hid (show ClsOk nn cl by have := HIS.out.ok hok.closed; rwa [hnl] at this)
  have HV := Lib.hid (show shrQ b cl = shrB cl b by unfold shrQ; rw [hv]; rfl)
  rw [HV.out]
  have hz1 := HZ1.out
  have CC := Lib.hid (fun (W : World) (hW : Below W1.heap.size W1 W) => classes_any na nn nc sa sn sc ra rn rc b W bound (by have := hW.size; omega) (HN.out.below ((HB1.out.mono hb).trans (hW.mono (by omega)))))
  have CR := Lib.hid (fun (W : World) (a : Option Addr) (c : Nat) (hN : Nums W W.heap.size a nn (rowI cl)) => renumber_any a nn c cl W W.heap.size (Nat.le_refl _) hn4 hN HCO.out)
  have CL := Lib.hid (fun (W : World) (hW : Below W1.heap.size W1 W) => clone10_any sa sn sc b.names W bound (by have := hW.size; omega) (HN.out.names.below ((HB1.out.mono hb).trans (hW.mono (by omega)))) hsn)
  have HZS := Lib.hid hz1
  clear hv hok hnr hro hnl hrl hz1
  rw [hW1] at CM
  have HW1 := Lib.hid hW1
  clear hW1
  go_enter Try.func18, Try.ntmps18
  go_wp2_with (first
    | (go_at_call 39; (with_reducible refine CM.out.mono ?_)
       rintro e w2 ⟨rfl, hb2⟩
       rw [← HW1.out] at hb2
       have HB2 := Lib.hid hb2
       obtain ⟨x20, x21, x22⟩ := (HX1.out.on HB2.out HX1.out.lt).cells
       clear hb2)
    | (go_at_call 15; (with_reducible refine (CC.out _ HB2.out).mono ?_)
       rintro e w3 ⟨⟨a3, n3, c3, cl3, rfl, hn3, hc3⟩, hb3⟩
       obtain rfl : cl = cl3 := (HONE.out _ hc3).symm
       obtain rfl : nn = n3 := by have h1 := hn3.1; rw [rowI_len] at h1; have h2 := HCO.out.1; omega
       have HN3 := Lib.hid hn3
       have HB3 := Lib.hid (below_on HB2.out hb3)
       obtain ⟨x30, x31, x32⟩ := (HX1.out.on HB3.out HX1.out.lt).cells
       clear hn3 hc3 hb3 x20 x21 x22)
    | (go_at_call 54; (with_reducible refine (CR.out _ _ _ HN3.out).mono ?_)
       rintro e w4 ⟨⟨a4, c4, rfl, hn4'⟩, hb4⟩
       have HI4 := Lib.hid hn4'
       have HN4 := Lib.hid ((HN3.out.below hb4).more hb4.size)
       have HB4 := Lib.hid (below_on HB3.out hb4)
       obtain ⟨x40, x41, x42⟩ := (HX1.out.on HB4.out HX1.out.lt).cells
       clear hn4' hb4 x30 x31 x32)
    | (go_at_call 55; (with_reducible refine (CL.out _ HB4.out).mono ?_)
       rintro e w5 ⟨⟨a5, c5, rfl, hs5, hf5⟩, hb5⟩
       have HF5 := Lib.hid (show ∀ b off, a5 = some ⟨b, off, none⟩ → w.heap.size + 1 < b from fun b off e => by have := hf5 b off e; have := HB4.out.size; have := HZS.out; omega)
       have HS5 := Lib.hid hs5
       have HI5 := Lib.hid ((HI4.out.below hb5).more hb5.size)
       have HN5 := Lib.hid ((HN4.out.below hb5).more hb5.size)
       have HB5 := Lib.hid (below_on HB4.out hb5)
       obtain ⟨x50, x51, x52⟩ := (HX1.out.on HB5.out HX1.out.lt).cells
       have hx5 : w.heap.size < w5.heap.size := (HX1.out.on HB5.out HX1.out.lt).lt
       clear hs5 hf5 hb5 x40 x41 x42)
    | fail)
  have HX6 := Lib.hid (show BBox (w5.alloc (.cells #[.slice none 0 0, .slice a5 sn c5, .slice none 0 0] 26)) w5.heap.size none 0 0 a5 sn c5 none 0 0 from heap_alloc_new w5 _)
  have hz5 := HB5.out.size
  have hz1 := HZS.out
  clear CM CC CR CL x50 x51 x52 hx5
  go_loopw [25] (fun i wr => ∃ (k : Nat) (va : Option Addr) (vm vc : Nat), k ≤ nn ∧ i = .int .i64 k ∧ Hid (NdOwn wr (w5.heap.size + 1) (.slice va vm vc) (shrN cl b.nodes k)) ∧ Hid (BBox wr w5.heap.size va vm vc a5 sn c5 none 0 0) ∧ Hid (Below w5.heap.size w5 wr) ∧ w5.heap.size + 1 ≤ wr.heap.size) (fun i _ => nn - (intOf i).toNat)
  case atStart => exact ⟨0, none, 0, 0, Nat.zero_le _, rfl, Lib.hid (NdOwn.zero _ _), HX6, Lib.hid (tu1 w5 _), by simp⟩
  case round =>
    clear HX6
    obtain ⟨k, va, vm, vc, hk, rfl, HO, HXR, HBr, hzr⟩ := hrel
    have HBN := Lib.hid (show Below W1.heap.size W1 wr from HB5.out.trans (HBr.out.mono hz5))
    by_cases hlt : k < nn
    · obtain ⟨nb, no, kd, s, aa, an, ac, l, rfl, hnb, hx, ⟨q0, q1, q2⟩, hs, hE⟩ := (HN.out.nodes.below ((HB1.out.mono hb).trans (HBN.out.mono (by omega)))).at_ hlt
      obtain ⟨cb, co, rfl, hcb, hc⟩ := cls_at (HN5.out.below HBr.out) hlt
      obtain ⟨x, hxc⟩ : ∃ x, x = cl.getD k 0 := ⟨_, rfl⟩
      rw [← hxc] at hc
      have i1 : (k : Int) < (nn : Int) := by omega
      have i2 : (0 : Int) ≤ (k : Int) := by omega
      have hnbz : nb < wr.heap.size := by omega
      have hcbz : cb < wr.heap.size := by omega
      have hgz : w5.heap.size < wr.heap.size := by omega
      have HXC := Lib.hid hxc
      clear hxc
      by_cases hxk : x = k
      · have d1 : ((x : Int) == (k : Int)) = true := by rw [beq_iff_eq, hxk]
        have d2 : (x == k) = true := by rw [beq_iff_eq, hxk]
        have HRK := Lib.hid (show keepP cl (k + 1) = keepP cl k ++ [k] by rw [keepP_succ, show isRep cl k = true from isRep_iff.2 (HXC.out.symm.trans hxk)]; rfl)
        have HSN := Lib.hid (show shrN cl b.nodes (k + 1) = shrN cl b.nodes k ++ [movedN cl ⟨kd, s.toList, l⟩] by
          unfold shrN
          rw [HRK.out, List.map_append]
          congr 1
          show [movedN cl (b.nodes.getD k noneN)] = _
          rw [getN hx])
        have HSL := Lib.hid (show (shrN cl b.nodes k).length ≤ 400 by
          unfold shrN
          rw [List.length_map]
          have := rankP_le cl k
          unfold rankP at this
          omega)
        obtain ⟨wa, hwa⟩ : ∃ wa, wa = wr.alloc (.cells #[.int .i64 kd, .string s, .slice aa an ac] 62) := ⟨_, rfl⟩
        have HBA := Lib.hid (show Below wr.heap.size wr wa by rw [hwa]; exact tu1 wr _)
        have hbx : NBox wa wr.heap.size kd s aa an ac := by rw [hwa]; exact heap_alloc_new wr _
        have hza : wa.heap.size = wr.heap.size + 1 := by rw [hwa]; simp
        obtain ⟨b0, b1, b2⟩ := hbx.cells
        have HXW := Lib.hid (HXR.out.stay (HBA.out.block _ hgz))
        obtain ⟨g0, _, _⟩ := HXW.out.cells
        have HOW := Lib.hid (show NdOwn wa (w5.heap.size + 1) (.slice va vm vc) (shrN cl b.nodes k) from HO.out.kept HBA.out (by omega))
        have HVL := Lib.hid (show ∀ g, (Value.slice va vm vc).ownBlock = some g → w5.heap.size + 1 ≤ g ∧ g < wr.heap.size from fun g e => by
          obtain ⟨rs, h1, _⟩ := HO.out
          exact h1.lt g e)
        have HSZ := Lib.hid hs
        have HML := Lib.hid (show l.map (movedI (idxL cl nn)) = (movedN cl ⟨kd, s.toList, l⟩).arms from List.map_congr_left fun e he => by
          have hE := HOK.out.edge hx he
          unfold movedI movedE
          rw [idxL_at cl (by have := HNL.out; omega), idxL_at cl (by have := HNL.out; omega)])
        have CMV := Lib.hid (moved10_any kd s aa an ac l a4 nn c4 (idxL cl nn) wa.drew wr.heap.size (show _ ≤ wa.heap.size by omega) (by
            have h6 := (node_short HOK.out hx).2.2.1
            have h7 : l.length ≤ 6 := h6
            have := hE.1
            omega) (((hE.more (bound' := wr.heap.size) (by omega)).below (bel_drewN HBA.out 1))) (((HI5.out.below HBr.out).more (by omega)).below (bel_drewN HBA.out 1)) (fun e he => by
          have hE := HOK.out.edge hx he
          have := HNL.out
          exact ⟨⟨hE.2.2.1.1, by omega⟩, hE.2.2.2.1, by omega⟩))
        have HS := Lib.hid (fun (W : World) (h : ∀ g, g < wa.heap.size → (Value.slice va vm vc).ownBlock ≠ some g → W.heap[g]? = wa.heap[g]?) => show W.cell? ⟨w5.heap.size, 0, none⟩ = some (.slice va vm vc) ∧ W.cell? ⟨wr.heap.size, 0, none⟩ = some (.int .i64 kd) ∧ W.cell? ⟨wr.heap.size, 1, none⟩ = some (.string s) ∧ W.cell? ⟨wr.heap.size, 2, none⟩ = some (.slice aa an ac) from by
          have hh : ∀ (g : Nat), g < wr.heap.size + 1 → (g < w5.heap.size + 1 ∨ wr.heap.size ≤ g) → ∀ o, W.cell? ⟨g, o, none⟩ = wa.cell? ⟨g, o, none⟩ := fun g hg hg2 o => World.cell?_of_block (h g (by omega) (fun e => by have := HVL.out g e; omega))
          exact ⟨(hh _ (by omega) (.inl (by omega)) _).trans g0, (hh _ (by omega) (.inr (by omega)) _).trans b0, (hh _ (by omega) (.inr (by omega)) _).trans b1, (hh _ (by omega) (.inr (by omega)) _).trans b2⟩)
        clear hx hE hs hxk hbx g0 b0 b1 b2
        go_upto_region 10 with fail
        rw [← hwa]
        clear hwa q0 q1 q2 hc d1 d2
        refine wp_region_last2 (S := fun W => W.cell? ⟨w5.heap.size, 0, none⟩ = some (.slice va vm vc) ∧ W.cell? ⟨wr.heap.size, 0, none⟩ = some (.int .i64 kd) ∧ W.cell? ⟨wr.heap.size, 1, none⟩ = some (.string s) ∧ W.cell? ⟨wr.heap.size, 2, none⟩ = some (.slice aa an ac)) rfl (by kernel_rfl) (by kernel_rfl) (HS.out _ (fun _ _ _ => rfl)) (fun hHeld => ?_)
        simp only [List.pop_toArray, List.dropLast_cons_cons, List.dropLast_singleton]
        try simp only [Act.put, List.setIfInBounds_toArray]
        refine' wpAnyH_take (i := 0) (v := _) rfl (by kernel_rfl) (by kernel_rfl) (by kernel_rfl) (fun _ _ _ h => h) (Or.inl ⟨by rfl, ?hya0⟩) (by assumption) ?resta0
        case hya0 =>
          intro W hSw
          (try dsimp only at hSw)
          first | (go_simp; done) | (go_simp; with_reducible rfl)
        try simp only [Act.put, List.setIfInBounds_toArray]
        refine' wpAnyH_take (i := 1) (v := _) rfl (by kernel_rfl) (by kernel_rfl) (by kernel_rfl) (fun _ _ _ h => h) (Or.inl ⟨by rfl, ?hya1⟩) (by assumption) ?resta1
        case hya1 =>
          intro W hSw
          (try dsimp only at hSw)
          first | (go_simp; done) | (go_simp; with_reducible rfl)
        try simp only [Act.put]
        refine' wpAnyH_take (i := 2) (v := _) rfl (by kernel_rfl) (by kernel_rfl) (by kernel_rfl) (fun _ _ _ h => h) (Or.inl ⟨by rfl, ?hya2⟩) (by assumption) ?resta2
        case hya2 =>
          intro W hSw
          (try dsimp only at hSw)
          first | (go_simp; done) | (go_simp; with_reducible rfl)
        try simp only [Act.put]
        refine' wpAnyH_take (i := 3) (v := _) rfl (by kernel_rfl) (by kernel_rfl) (by kernel_rfl) (fun _ _ _ h => h) (Or.inl ⟨by rfl, ?hya3⟩) (by assumption) ?resta3
        case hya3 =>
          intro W hSw
          (try dsimp only at hSw)
          first | (go_simp; done) | (go_simp; with_reducible rfl)
        try simp only [Act.put]
        refine wpAnyH_ready (rs := [4]) (by kernel_rfl) (by simp) ?_
        refine AllReadyH.cons (i := 4) (o := _) rfl (fun K hK => ?_) AllReadyH.nil
        go_simp
        go_at_call 56
        with_reducible refine CMV.out.mono ?_
        rintro e w6 ⟨⟨am, mm, mc, rfl, hme, hmb, hmcp⟩, hb6⟩
        have hz6 : wa.heap.size ≤ w6.heap.size := hb6.size
        have HB6 := Lib.hid (show Below wa.heap.size wa w6 from ⟨hb6.os, hb6.tape, hb6.output, hb6.size, hb6.block⟩)
        have HO6 := Lib.hid (HOW.out.kept HB6.out (by omega))
        have hat : NodeAt w6 (w5.heap.size + 1) (.slice va vm vc) ⟨kd, s, am, mm, mc⟩ (movedN cl ⟨kd, s.toList, l⟩) := by
          refine ⟨rfl, rfl, HSZ.out, ?_, fun b off e => ?_, hmcp⟩
          · rw [← HML.out]; exact hme
          · have h2 := hmb b off e
            have h3 : wa.heap.size ≤ b := h2.1
            exact ⟨by omega, h2.2, fun c => by have := HVL.out b c; omega⟩
        have HAT := Lib.hid hat
        clear hme hmb hb6 hat hmcp
        refine hK.out _ _ (HS.out _ (fun g hg _ => HB6.out.block g hg)) (fun hHeld => ?_)
        clear hK K
        try simp only [Act.put, List.setIfInBounds_toArray]
        refine wpAnyH_ready (rs := [5]) (by kernel_rfl) (by simp) ?_
        refine AllReadyH.cons (i := 5) (o := _) rfl (fun K hK => ?_) AllReadyH.nil
        go_simp
        refine hK.out _ _ (HS.out _ (fun g hg _ => ((tu1 w6 _).block g (by omega)).trans (HB6.out.block g hg))) (fun hHeld => ?_)
        clear hK K
        try simp only [Act.put, List.setIfInBounds_toArray]
        refine wpAnyH_ready (rs := [6]) (by kernel_rfl) (by simp) ?_
        refine AllReadyH.cons (i := 6) (o := _) rfl (fun K hK => ?_) AllReadyH.nil
        refine step_append_node w6 (by rfl) (.tmp 37) (.tmp 41) (by rfl) (w5.heap.size + 1) (.slice va vm vc) (shrN cl b.nodes k) ⟨kd, s, am, mm, mc⟩ (movedN cl ⟨kd, s.toList, l⟩) (by rfl) (by rfl) (by rfl) HO6.out HAT.out (by omega) (by have := HSL.out; omega) w6 (Below.refl _ _) ?_
        intro v7 w7 ho hb7 hkp
        obtain ⟨va7, vc7, hv7, _⟩ := ho.sees (by have := HSL.out; rw [List.length_append, List.length_singleton]; omega)
        obtain ⟨vm7, hvm7⟩ : ∃ m, m = (shrN cl b.nodes k ++ [movedN cl ⟨kd, s.toList, l⟩]).length := ⟨_, rfl⟩
        rw [← hvm7] at hv7
        have HVM := Lib.hid hvm7
        clear hvm7
        subst hv7
        have HO7 := Lib.hid ho
        have HB7 := Lib.hid hb7
        have HX7 := Lib.hid (HXW.out.stay ((hb7.block w5.heap.size (by omega)).trans (HB6.out.block _ (by omega))))
        obtain ⟨k0, k1, k2⟩ := HX7.out.cells
        have fz7 := HX7.out.thaw 0
        have hz7 := hb7.size
        clear ho hb7
        refine hK.out _ _ (HS.out _ (fun g hg hne => (hkp.2 g (by omega) hne).trans (HB6.out.block g hg))) (fun hHeld => ?_)
        clear hkp
        clear hK K
        try simp only [Act.put, List.setIfInBounds_toArray]
        refine' wpAnyH_take (i := 7) (v := _) rfl (by kernel_rfl) (by kernel_rfl) (by kernel_rfl) (fun _ _ _ h => h) (Or.inl ⟨by rfl, ?hya7⟩) (by assumption) ?resta7
        case hya7 =>
          intro W hSw
          (try dsimp only at hSw)
          first | (go_simp; done) | (go_simp; with_reducible rfl)
        try simp only [Act.put]
        refine wpAnyH_done (by kernel_rfl) ?_ _
        unfold LastPost
        go_simp
        go_wp2_with fail
        go_roundw
        case rel =>
          refine ⟨k + 1, va7, vm7, vc7, by omega, by go_num, Lib.hid ?_, Lib.hid (HX7.out.set0 _ _ _), Lib.hid ?_, by simp; omega⟩
          · rw [HSN.out]
            exact HO7.out.beside (g := w5.heap.size) ((Beside.refl _ _).setCell 0 _) (by omega)
          · exact ((HBr.out.trans (HBA.out.mono (by omega))).trans ((HB6.out.mono (by omega)).trans (HB7.out.mono (by omega)))).setCell (Nat.le_refl _) _
        case measure => simp [intOf]; omega
      · have d1 : ((x : Int) == (k : Int)) = false := by rw [beq_eq_false_iff_ne]; omega
        have d2 : (x == k) = false := by rw [beq_eq_false_iff_ne]; exact hxk
        have HSN := Lib.hid (show shrN cl b.nodes (k + 1) = shrN cl b.nodes k by
          unfold shrN
          rw [keepP_succ, show isRep cl k = false from by
            cases hr : isRep cl k with
            | false => rfl
            | true => exact absurd (HXC.out.trans (isRep_iff.1 hr)) hxk]
          simp)
        clear hx hE hs hxk
        go_wp2_with fail
        go_roundw
        case rel =>
          refine ⟨k + 1, va, vm, vc, by omega, by go_num, Lib.hid ?_, Lib.hid (HXR.out.stay ((tu1 wr _).block _ hgz)), Lib.hid (HBr.out.alloc (by omega) _), by simp; omega⟩
          rw [HSN.out]
          exact HO.out.kept (tu1 wr _) (by omega)
        case measure => simp [intOf]; omega
    · obtain rfl : k = nn := by omega
      have d1 : decide ((k : Int) < (k : Int)) = false := decide_eq_false (by omega)
      obtain ⟨x0, x1, x2⟩ := (HX1.out.on HBN.out HX1.out.lt).cells
      obtain ⟨wz, hwz⟩ : ∃ wz : World, wz = wr := ⟨_, rfl⟩
      subst hwz
      go_wp2_with fail
      clear x0 x1 x2
      have hgz : w5.heap.size < wz.heap.size := by omega
      go_loopw [48] (fun i wr => ∃ (j : Nat) (ua : Option Addr) (uc : Nat), j ≤ rn ∧ i = .int .i64 j ∧ Hid (IInts wr wz.heap.size (.slice ua j uc) ((b.roots.take j).map fun r => ((idxC cl r.toNat : Nat) : Int))) ∧ Hid (BBox wr w5.heap.size va vm vc a5 sn c5 ua j uc) ∧ Hid (Beside w5.heap.size wz wr)) (fun i _ => rn - (intOf i).toNat)
      case atStart => exact ⟨0, none, 0, Nat.zero_le _, rfl, Lib.hid (IInts.zero _ _), HXR, Lib.hid (Beside.refl _ _)⟩
      case round =>
        clear HXR
        obtain ⟨j, ua, uc, hj, rfl, HU, HXR, HBS⟩ := hrel
        have hzw := HBS.out.size
        have HBF := Lib.hid (show Below w5.heap.size w5 wr from HBr.out.trans (HBS.out.below (Nat.le_refl _) (by omega)))
        by_cases hlj : j < rn
        · obtain ⟨rb, ro, r, rfl, hrb, hr, hrc⟩ := ((HN.out.roots.below (HB1.out.mono hb)).below (bound := bound) ((HB5.out.mono (by omega)).trans (HBF.out.mono (by omega)))).at_ hlj
          obtain ⟨r0, r1⟩ := HRO.out r (List.mem_of_getElem? hr)
          obtain ⟨x, rfl⟩ : ∃ x : Nat, r = (x : Int) := ⟨r.toNat, (Int.toNat_of_nonneg r0).symm⟩
          have hxn : x < k := by have := HNL.out; simp at r1; omega
          obtain ⟨ib, io, rfl, hib, hci⟩ := cls_at (HI5.out.below HBF.out) hxn
          rw [idxL_at cl hxn] at hci
          obtain ⟨ixx, hixx⟩ : ∃ m, m = idxC cl x := ⟨_, rfl⟩
          rw [← hixx] at hci
          have i1 : (j : Int) < (rn : Int) := by omega
          have i2 : (0 : Int) ≤ (j : Int) := by omega
          have i3 : (x : Int) < (k : Int) := by omega
          have i4 : (0 : Int) ≤ (x : Int) := by omega
          have HST := Lib.hid (show (b.roots.take (j + 1)).map (fun r => ((idxC cl r.toNat : Nat) : Int)) = (b.roots.take j).map (fun r => ((idxC cl r.toNat : Nat) : Int)) ++ [(ixx : Int)] by
            rw [tuTake_at hr, List.map_append, hixx]
            rfl)
          obtain ⟨g0, g1, g2⟩ := HXR.out.cells
          have HUD := Lib.hid (show IInts wr.drew wz.heap.size (.slice ua j uc) ((b.roots.take j).map fun r => ((idxC cl r.toNat : Nat) : Int)) from HU.out)
          have HUL := Lib.hid (show ∀ g, (Value.slice ua j uc).ownBlock = some g → wz.heap.size ≤ g ∧ g < wr.heap.size from fun g e => World.ownsRow.lt HU.out g e)
          have HS := Lib.hid (fun (W : World) (h : ∀ g, g < wr.heap.size → (Value.slice ua j uc).ownBlock ≠ some g → W.heap[g]? = wr.heap[g]?) => show W.cell? ⟨w5.heap.size, 2, none⟩ = some (.slice ua j uc) ∧ W.cell? ⟨ib, io + x, none⟩ = some (.int .i64 (ixx : Int)) from by
            have hh : ∀ (g : Nat), g < wz.heap.size → ∀ o, W.cell? ⟨g, o, none⟩ = wr.cell? ⟨g, o, none⟩ := fun g hg o => World.cell?_of_block (h g (by omega) (fun e => by have := HUL.out g e; omega))
            exact ⟨(hh _ (by omega) _).trans g2, (hh _ (by omega) _).trans hci⟩)
          clear hr r0 r1 hixx g0 g1 g2 hci
          go_upto_region 15 with fail
          clear hrc
          refine wp_region_last2 (S := fun W => W.cell? ⟨w5.heap.size, 2, none⟩ = some (.slice ua j uc) ∧ W.cell? ⟨ib, io + x, none⟩ = some (.int .i64 (ixx : Int))) rfl (by kernel_rfl) (by kernel_rfl) (HS.out _ (fun _ _ _ => rfl)) (fun hHeld => ?_)
          simp only [List.pop_toArray, List.dropLast_cons_cons, List.dropLast_singleton]
          try simp only [Act.put, List.setIfInBounds_toArray]
          refine' wpAnyH_take (i := 0) (v := _) rfl (by kernel_rfl) (by kernel_rfl) (by kernel_rfl) (fun _ _ _ h => h) (Or.inl ⟨by rfl, ?hyb0⟩) (by assumption) ?restb0
          case hyb0 =>
            intro W hSw
            (try dsimp only at hSw)
            first | (go_simp; done) | (go_simp; with_reducible rfl)
          try simp only [Act.put, List.setIfInBounds_toArray]
          refine' wpAnyH_take (i := 1) (v := _) rfl (by kernel_rfl) (by kernel_rfl) (by kernel_rfl) (fun _ _ _ h => h) (Or.inl ⟨by rfl, ?hyb1⟩) (by assumption) ?restb1
          case hyb1 =>
            intro W hSw
            (try dsimp only at hSw)
            first | (go_simp; done) | (go_simp; with_reducible rfl)
          try simp only [Act.put]
          refine' wpAnyH_take (i := 2) (v := _) rfl (by kernel_rfl) (by kernel_rfl) (by kernel_rfl) (fun _ _ _ h => h) (Or.inl ⟨by rfl, ?hyb2⟩) (by assumption) ?restb2
          case hyb2 =>
            intro W hSw
            (try dsimp only at hSw)
            first | (go_simp; done) | (go_simp; with_reducible rfl)
          try simp only [Act.put]
          refine' wpAnyH_take (i := 3) (v := _) rfl (by kernel_rfl) (by kernel_rfl) (by kernel_rfl) (fun _ _ _ h => h) (Or.inl ⟨by rfl, ?hyb3⟩) (by assumption) ?restb3
          case hyb3 =>
            intro W hSw
            (try dsimp only at hSw)
            first | (go_simp; done) | (go_simp; with_reducible rfl)
          try simp only [Act.put]
          refine' wpAnyH_take (i := 4) (v := _) rfl (by kernel_rfl) (by kernel_rfl) (by kernel_rfl) (fun _ _ _ h => h) (Or.inl ⟨by rfl, ?hyb4⟩) (by assumption) ?restb4
          case hyb4 =>
            intro W hSw
            (try dsimp only at hSw)
            first | (go_simp; done) | (go_simp; with_reducible rfl)
          try simp only [Act.put]
          refine' wpAnyH_take (i := 5) (v := _) rfl (by kernel_rfl) (by kernel_rfl) (by kernel_rfl) (fun _ _ _ h => h) (Or.inl ⟨by rfl, ?hyb5⟩) (by assumption) ?restb5
          case hyb5 =>
            intro W hSw
            (try dsimp only at hSw)
            first | (go_simp; done) | (go_simp; with_reducible rfl)
          try simp only [Act.put]
          refine wpAnyH_ready (rs := [6]) (by kernel_rfl) (by simp) ?_
          refine AllReadyH.cons (i := 6) (o := _) rfl (fun K hK => ?_) AllReadyH.nil
          go_simp
          refine hK.out _ _ (HS.out _ (fun g hg _ => (tu1 wr _).block g hg)) (fun hHeld => ?_)
          clear hK K
          try simp only [Act.put, List.setIfInBounds_toArray]
          refine wpAnyH_ready (rs := [7]) (by kernel_rfl) (by simp) ?_
          refine AllReadyH.cons (i := 7) (o := _) rfl (fun K hK => ?_) AllReadyH.nil
          refine step_append_int10 wr.drew (by rfl) (.tmp 53) (.tmp 58) (by rfl) wz.heap.size (.slice ua j uc) ((b.roots.take j).map fun r => ((idxC cl r.toNat : Nat) : Int)) (ixx : Int) (by rfl) (by rfl) (by rfl) HUD.out (by show _ ≤ wr.heap.size; omega) (by rw [List.length_map, List.length_take]; have := HRL.out; omega) wr (bel_drewN (Below.refl _ _) 1) ?_
          intro v7 w7 ho hb7 hkp
          obtain ⟨ua7, uc7, hv7, _, _, _, _⟩ := ho.sees
          rw [List.length_append, List.length_map, List.length_take, List.length_singleton, HRL.out, Nat.min_eq_left (by omega)] at hv7
          subst hv7
          have HU7 := Lib.hid ho
          have HB7 := Lib.hid hb7
          have HX7 := Lib.hid (HXR.out.stay (hb7.block w5.heap.size (by omega)))
          obtain ⟨k0, k1, k2⟩ := HX7.out.cells
          have fz7 := HX7.out.thaw 2
          have hz7 := hb7.size
          clear ho hb7
          refine hK.out _ _ (HS.out _ (fun g hg hne => hkp.2 g hg hne)) (fun hHeld => ?_)
          clear hkp
          clear hK K
          try simp only [Act.put, List.setIfInBounds_toArray]
          refine' wpAnyH_take (i := 8) (v := _) rfl (by kernel_rfl) (by kernel_rfl) (by kernel_rfl) (fun _ _ _ h => h) (Or.inl ⟨by rfl, ?hyb8⟩) (by assumption) ?restb8
          case hyb8 =>
            intro W hSw
            (try dsimp only at hSw)
            first | (go_simp; done) | (go_simp; with_reducible rfl)
          try simp only [Act.put]
          refine wpAnyH_done (by kernel_rfl) ?_ _
          unfold LastPost
          go_simp
          go_wp2_with fail
          go_roundw
          case rel =>
            refine ⟨j + 1, ua7, uc7, by omega, by go_num, Lib.hid ?_, Lib.hid (HX7.out.set2 _ _ _), Lib.hid ?_⟩
            · rw [HST.out]
              exact ownsRow_setCell_below HU7.out (show w5.heap.size < _ by omega) _
            · exact (Beside.setCell ⟨HB7.out.os.trans HBS.out.os, HB7.out.tape.trans HBS.out.tape, HB7.out.output.trans HBS.out.output, by omega, fun g hg hne => (HB7.out.block g hg).trans (HBS.out.block g hg hne)⟩ 2 _)
          case measure => simp [intOf]; omega
        · obtain rfl : j = rn := by omega
          have d1 : decide ((j : Int) < (j : Int)) = false := decide_eq_false (by omega)
          obtain ⟨g0, g1, g2⟩ := HXR.out.cells
          have HYR := Lib.hid (HY1.out.on (HB5.out.trans (HBF.out.mono hz5)) (by omega))
          obtain ⟨y0, y1, y2⟩ := HYR.out.cells
          have f0 := HYR.out.thaw 0
          have f1 := HYR.out.thaw 1
          have f2 := HYR.out.thaw 2
          have HOF := Lib.hid (HO.out.beside HBS.out (by omega))
          clear d1
          have d1 : decide ((j : Int) < (j : Int)) = false := decide_eq_false (by omega)
          go_wp2_with fail
          refine bodyPost_ret (v := bkV va vm vc a5 sn c5 ua j uc) (by simp [results, go_sem, y0, y1, y2]) rfl ?_
          have hset : ∀ (x y z : Value), Beside (w.heap.size + 1) wr (((wr.setCell ⟨w.heap.size + 1, 0, none⟩ x).setCell ⟨w.heap.size + 1, 1, none⟩ y).setCell ⟨w.heap.size + 1, 2, none⟩ z) := fun x y z => (((Beside.refl _ wr).setCell 0 x).setCell 1 y).setCell 2 z
          obtain ⟨va', vc', hva, hnd⟩ := (HOF.out.beside (hset (.slice va vm vc) (.slice a5 sn c5) (.slice ua j uc)) (by omega)).sees (by
            unfold shrN
            rw [List.length_map]
            have := rankP_le cl k
            unfold rankP at this
            omega)
          obtain ⟨ua', uc', hua, _, _, hfr, hnu⟩ := HU.out.sees
          rw [List.take_of_length_le (by have := HRL.out; omega)] at hua hnu hfr
          obtain ⟨e1, e2, _⟩ := Value.slice.inj hva
          obtain ⟨e4, e5, _⟩ := Value.slice.inj hua
          rw [← e1, ← e2] at hnd
          rw [← e4, ← e5] at hnu hfr
          refine ⟨⟨va, vm, vc, a5, sn, c5, ua, j, uc, rfl, ?_, ?_, ?_⟩, ?_⟩
          · show Nodes _ _ va vm (shrN cl b.nodes b.nodes.length)
            rw [HNL.out]
            exact hnd
          · refine (HS5.out.below HBF.out).stay10 (Nat.le_trans HBF.out.size (hset _ _ _).size) (fun h0 bb off e => (hset _ _ _).block bb ?_ (by have := HF5.out bb off e; omega))
            obtain ⟨b', off', e', hlt', _⟩ := HS5.out.2.2.2 h0
            rw [e] at e'
            obtain ⟨q1, _, _⟩ := Addr.mk.inj (Option.some.inj e')
            omega
          · refine hnu.stay10 (hset _ _ _).size (fun h0 bb off e => (hset _ _ _).block bb ?_ ?_)
            · obtain ⟨b', off', e', hlt', _⟩ := hnu.2.2 h0
              rw [e] at e'
              obtain ⟨q1, _, _⟩ := Addr.mk.inj (Option.some.inj e')
              omega
            · obtain ⟨b', off', e', hge⟩ := hfr h0
              rw [e] at e'
              obtain ⟨q1, _, _⟩ := Addr.mk.inj (Option.some.inj e')
              omega
          · exact HB1.out.trans ((HB5.out.mono (by omega)).trans ((HBF.out.mono (by omega)).trans ((hset _ _ _).below (by omega) (by omega))))
end Go.Proofs.Ytgefhgcpnfbigaa
