/- Contract of equal.Classes. -/
import Derived.Test.YtgefhgcpnfbigaaBkMayB
import Derived.Test.YtgefhgcpnfbigaaBkGroup
import Derived.Deep.RegionHeld3
import Derived.Laws.NewBlocks
namespace Go.Proofs.Ytgefhgcpnfbigaa
open Go.RowKit Go.Sort

set_option maxHeartbeats 4000000 in
set_option maxRecDepth 20000 in
/-- slices.Equal at ints. -/
theorem eqInts10_any (a : Option Addr) (n c : Nat) (l : List Int) (a2 : Option Addr) (m c2 : Nat) (l2 : List Int) (w : World) (bound : Nat) (hb : bound ≤ w.heap.size) (h : Nums w bound a n l) (h2 : Nums w bound a2 m l2) :
    Calls Try.prog 48 #[.slice a n c, .slice a2 m c2] w fun e w' => e = .returned (.bool (decide (l = l2))) ∧ Below w.heap.size w w' := by
  have hsz := h.2.1
  have hsz2 := h2.2.1
  have HL1 := Lib.hid h.1
  have HL2 := Lib.hid h2.1
  have HN1 := Lib.hid h
  have HN2 := Lib.hid h2
  obtain ⟨R, hR⟩ : ∃ R, R = decide (l = l2) := ⟨_, rfl⟩
  rw [← hR]
  have HR := Lib.hid hR
  clear h h2 hR
  by_cases hnm : n = m
  case neg =>
    have d2 : ((n : Int) == (m : Int)) = false := by rw [beq_eq_false_iff_ne]; omega
    have d3 : (n == m) = false := by rw [beq_eq_false_iff_ne]; exact hnm
    have d4 : ((n : Int) != (m : Int)) = true := by unfold bne; rw [d2]; rfl
    have HZ := Lib.hid (show R = false by
      rw [HR.out, decide_eq_false_iff_not]
      intro e
      have := HL1.out
      rw [e, HL2.out] at this
      exact hnm this.symm)
    clear hnm
    go_enter Try.func48, Try.ntmps48
    go_wp2_with fail
    go_ret
    exact ⟨ret_bool HZ.out.symm, Below.refl _ _⟩
  case pos =>
    subst hnm
    go_enter Try.func48, Try.ntmps48
    go_wp2_with fail
    go_loopw [13] (fun i wr => ∃ k : Nat, k ≤ n ∧ i = .int .i64 k ∧ Hid (l.take k = l2.take k) ∧ Hid (Below w.heap.size w wr)) (fun i _ => n - (intOf i).toNat)
    case atStart => exact ⟨0, Nat.zero_le _, rfl, Lib.hid rfl, Lib.hid (Below.refl _ _)⟩
    case round =>
      obtain ⟨k, hk, rfl, HE, HBr⟩ := hrel
      by_cases hlt : k < n
      · obtain ⟨b1, o1, x, rfl, _, hx, hc1⟩ := (HN1.out.below (HBr.out.mono hb)).at_ hlt
        obtain ⟨b2, o2, y, rfl, _, hy, hc2⟩ := (HN2.out.below (HBr.out.mono hb)).at_ hlt
        have i1 : (k : Int) < (n : Int) := by omega
        have i2 : (0 : Int) ≤ (k : Int) := by omega
        have HX := Lib.hid hx
        have HY := Lib.hid hy
        clear hx hy
        cases hxy : x == y
        · have HZ := Lib.hid (show R = false by
            rw [HR.out, decide_eq_false_iff_not]
            intro e
            have h1 := HX.out
            rw [e, HY.out] at h1
            have := Option.some.inj h1
            rw [beq_eq_false_iff_ne] at hxy
            exact hxy this.symm)
          go_wp2
          go_quiet (fail)
          go_wp2
          go_ret
          exact ⟨ret_bool HZ.out.symm, bel_drewN HBr.out _⟩
        · have HE2 := Lib.hid (show l.take (k + 1) = l2.take (k + 1) by
            rw [List.take_add_one, List.take_add_one, HX.out, HY.out, HE.out, beq_iff_eq.1 hxy])
          go_wp2
          go_quiet (fail)
          go_wp2
          go_roundw
          case rel => exact ⟨k + 1, by omega, by go_num, HE2, Lib.hid (bel_drewN HBr.out _)⟩
          case measure => simp [intOf]; omega
      · obtain rfl : k = n := by omega
        have HZ := Lib.hid (show R = true by
          have := HE.out
          rw [List.take_of_length_le (by have := HL1.out; omega), List.take_of_length_le (by have := HL2.out; omega)] at this
          rw [HR.out, decide_eq_true this])
        have d3 : decide ((k : Int) < (k : Int)) = false := decide_eq_false (by omega)
        go_wp2_with fail
        go_ret
        exact ⟨ret_bool HZ.out.symm, HBr.out⟩
/-- Short enough for what the program writes of it. -/
theorem node_short {ns : List NodeL} (hn : NodesOk ns) {i : Nat} {x : NodeL} (hx : ns[i]? = some x) : (0 ≤ x.kind ∧ x.kind ≤ 5) ∧ x.peer.length ≤ 12 ∧ x.arms.length ≤ 6 ∧ ∀ e ∈ x.arms, e.label.length ≤ 12 ∧ 0 ≤ e.sk ∧ e.sk ≤ 5 := by
  have hv := hn.2 i x hx
  have hlen : ∀ s : Str, may s = true → s.length ≤ 12 := fun s h => by
    unfold may at h
    simp only [Bool.and_eq_true, decide_eq_true_eq] at h
    exact h.1.1.1.2
  refine ⟨(nodeB_kind hv).1, ?_, ?_, fun e he => ?_⟩
  · unfold nodeB at hv
    split at hv
    · simp only [Bool.and_eq_true, List.isEmpty_iff] at hv; rw [hv.1]; exact Nat.zero_le _
    · split at hv
      · rw [Bool.and_eq_true] at hv; exact hlen _ hv.1
      · cases hv
  · rcases nodeB_arms hv with h | h
    · rw [h]; exact Nat.zero_le _
    · unfold edgesB at h
      simp only [Bool.and_eq_true, decide_eq_true_eq] at h
      exact h.2
  · have h := hn.edge hx he
    exact ⟨hlen _ h.1, h.2.1⟩
theorem seenS_len {x : NodeL} (h1 : x.peer.length ≤ 12) (h2 : x.arms.length ≤ 6) (h3 : ∀ e ∈ x.arms, e.label.length ≤ 12) : (seenS x).length ≤ 1000 := by
  have := seenE_len h3 h2
  unfold seenS
  rw [List.length_cons, List.length_append]
  unfold seenE at this
  omega
set_option maxHeartbeats 4000000 in
theorem seen_writes (g : Nat) (na : Option Addr) (nn nc : Nat) (sa : Option Addr) (sn sc : Nat) (ra : Option Addr) (rn rc : Nat) (ns : List NodeL) (w : World) (bound : Nat) (hb : bound ≤ w.heap.size) (hg : BBox w g na nn nc sa sn sc ra rn rc) (hN : Nodes w bound na nn ns) (hn : NodesOk ns) :
    Writes w (.func (.func 43) #[] #[.pointer (some ⟨g, 0, none⟩)]) (seenAt ns) nn := by
  refine ⟨_, _, rfl, enters_of Try.func43 (by kernel_rfl) rfl, fun W hW base hb1 hb2 v i hi hB => ?_⟩
  show Calls Try.prog 43 #[v, .int .i64 (i : Int), .pointer (some ⟨g, 0, none⟩)] W _
  obtain ⟨c0, c1, c2⟩ := (hg.on hW hg.lt).cells
  obtain ⟨nb, no, kd, s, aa, an, ac, l, rfl, hnb, hx, ⟨q0, q1, q2⟩, hs, hE⟩ := (hN.below (hW.mono hb)).at_ hi
  obtain ⟨k0, k1, k2, k3⟩ := node_short hn hx
  have k2' : l.length ≤ 6 := k2
  have i1 : (i : Int) < (nn : Int) := by omega
  have i2 : (0 : Int) ≤ (i : Int) := by omega
  have CA := Lib.hid (appendSeen_any v [] kd s aa an ac l W base bound hB hb2 (by omega) (by simp) k0.1 k0.2 (by rw [← len_toList]; exact k1) hE (by have := hE.1; omega) k3)
  have HK := Lib.hid (show seenS ⟨kd, s.toList, l⟩ = seenAt ns i by unfold seenAt; rw [getN hx])
  rw [List.nil_append, HK.out] at CA
  clear hB hx hE k0 k1 k2 k2' k3 hg hN hn hs
  go_enter Try.func43, Try.ntmps43
  go_wp2_with (first
    | (go_at_call 44; (with_reducible refine CA.out.mono ?_)
       rintro e w2 ⟨⟨v2, rfl, ho2⟩, hb2⟩
       have HO2 := Lib.hid ho2
       have HB2 := Lib.hid hb2
       clear ho2 hb2)
    | fail)
  go_ret
  exact ⟨⟨_, rfl, HO2.out⟩, HB2.out⟩
set_option maxHeartbeats 8000000 in
set_option maxRecDepth 20000 in
theorem onw_writes (g h : Nat) (na : Option Addr) (nn nc : Nat) (sa : Option Addr) (sn sc : Nat) (ra : Option Addr) (rn rc : Nat) (ns : List NodeL) (ca : Option Addr) (cn cc : Nat) (cl : List Nat) (w : World) (bound : Nat) (hb : bound ≤ w.heap.size) (hg : BBox w g na nn nc sa sn sc ra rn rc) (hN : Nodes w bound na nn ns) (hn : NodesOk ns)
    (hh : w.heap[h]? = some (.cells #[.slice ca cn cc] 24 (0, 0))) (hC : Nums w bound ca cn (rowI cl)) (hcn : cn = nn) :
    Writes w (.func (.func 45) #[] #[.pointer (some ⟨h, 0, none⟩), .pointer (some ⟨g, 0, none⟩)]) (onwAt ns cl) nn := by
  subst hcn
  refine ⟨_, _, rfl, enters_of Try.func45 (by kernel_rfl) rfl, fun W hW base hb1 hb2 v i hi hB => ?_⟩
  show Calls Try.prog 45 #[v, .int .i64 (i : Int), .pointer (some ⟨h, 0, none⟩), .pointer (some ⟨g, 0, none⟩)] W _
  have hgl := hg.lt
  have hhl := (Array.getElem?_eq_some_iff.1 hh).1
  obtain ⟨nb, no, kd, s, aa, an, ac, l, rfl, hnb, hx, ⟨q0, q1, q2⟩, hs, hE⟩ := (hN.below (hW.mono hb)).at_ hi
  have hC2 := hC.below (hW.mono hb)
  obtain ⟨cb, co, rfl, hcb, hc⟩ := cls_at hC2 hi
  obtain ⟨x1, hx1⟩ : ∃ x, x = cl.getD i 0 := ⟨_, rfl⟩
  rw [← hx1] at hc
  obtain ⟨k0, k1, k2, k3⟩ := node_short hn hx
  have k2' : l.length ≤ 6 := k2
  have i1 : (i : Int) < (cn : Int) := by omega
  have i2 : (0 : Int) ≤ (i : Int) := by omega
  have HS := Lib.hid (fun (W2 : World) (h2 : Below base W W2) => show (W2.cell? ⟨h, 0, none⟩ = some (.slice (some ⟨cb, co, none⟩) cn cc) ∧ W2.cell? ⟨g, 0, none⟩ = some (.slice (some ⟨nb, no, none⟩) cn nc)) ∧ W2.cell? ⟨cb, co + i, none⟩ = some (.int .i64 (x1 : Int)) ∧
      W2.cell? ⟨nb, no + i * 3, none⟩ = some (.int .i64 kd) ∧ W2.cell? ⟨nb, no + i * 3 + 1, none⟩ = some (.string s) ∧ W2.cell? ⟨nb, no + i * 3 + 2, none⟩ = some (.slice aa an ac) from by
    have hW2 : Below w.heap.size w W2 := hW.trans (h2.mono hb1)
    refine ⟨⟨?_, (hg.on hW2 hgl).cells.1⟩, (h2.cell (p := ⟨cb, co + i, none⟩) (by show cb < _; omega)).trans hc, (h2.cell (p := ⟨nb, no + i * 3, none⟩) (by show nb < _; omega)).trans q0, (h2.cell (p := ⟨nb, no + i * 3 + 1, none⟩) (by show nb < _; omega)).trans q1, (h2.cell (p := ⟨nb, no + i * 3 + 2, none⟩) (by show nb < _; omega)).trans q2⟩
    rw [cell_of_row _ _ _ _ _ _ ((hW2.block h hhl).trans hh)]
    rfl)
  have HK := Lib.hid (show clsS x1 ++ onwE cl l = onwAt ns cl i by unfold onwAt onwS onwE; rw [getN hx, hx1])
  have CA := Lib.hid (fun (W2 : World) (h2 : Below base W W2) (hB2 : Bytes W2 base v []) => appendClass_any v [] x1 W2 base hB2 (by have := h2.size; omega) (by simp))
  have CO := Lib.hid (fun (W2 : World) (h2 : Below base W W2) (v2 : Value) (hB2 : Bytes W2 base v2 ([] ++ clsS x1)) => appendOnward_any v2 (clsS x1) kd s aa an ac l (some ⟨cb, co, none⟩) cn cc cl W2 base bound hB2 (by have := h2.size; omega) (by omega) (by rw [clsS_len]; omega) (hE.below (h2.mono (by omega))) (by have := hE.1; omega) (hC2.below (h2.mono (by omega))) (fun e he => by
    have h3 := hn.edge hx he
    have h4 : ns.length = cn := hN.1
    exact ⟨⟨h3.2.2.1.1, by have := h3.2.2.1.2; omega⟩, h3.2.2.2.1, by have := h3.2.2.2.2; omega⟩))
  have HBY := Lib.hid (show Bytes W.drew base v [] from hB)
  have HBD := Lib.hid (show Below base W W.drew from ⟨rfl, rfl, rfl, Nat.le_refl _, fun _ _ => rfl⟩)
  clear hB hx hE k0 k1 k2 k2' k3 hg hN hn hs hC hC2 hc hx1 q0 q1 q2 hh hgl hhl hnb hcb
  go_enter Try.func45, Try.ntmps45
  go_wp2
  go_region_held3 (fun W2 => (W2.cell? ⟨h, 0, none⟩ = some (.slice (some ⟨cb, co, none⟩) cn cc) ∧ W2.cell? ⟨g, 0, none⟩ = some (.slice (some ⟨nb, no, none⟩) cn nc)) ∧ W2.cell? ⟨cb, co + i, none⟩ = some (.int .i64 (x1 : Int)) ∧
      W2.cell? ⟨nb, no + i * 3, none⟩ = some (.int .i64 kd) ∧ W2.cell? ⟨nb, no + i * 3 + 1, none⟩ = some (.string s) ∧ W2.cell? ⟨nb, no + i * 3 + 2, none⟩ = some (.slice aa an ac))
    (first | exact HS.out _ (Below.refl _ _) | exact HS.out _ HBD.out | exact HS.out _ HB4.out | exact HS.out _ HB5.out | fail)
    (first
    | (go_at_call 47; (with_reducible refine (CA.out _ HBD.out HBY.out).mono ?_)
       rintro e w4 ⟨⟨v4, rfl, ho4⟩, hb4, _⟩
       have HO4 := Lib.hid ho4
       have HB4 := Lib.hid (HBD.out.trans hb4)
       clear ho4 hb4)
    | (go_at_call 46; (with_reducible refine (CO.out _ HB4.out _ HO4.out).mono ?_)
       rintro e w5 ⟨⟨v5, rfl, ho5⟩, hb5⟩
       rw [HK.out] at ho5
       have HO5 := Lib.hid ho5
       have HB5 := Lib.hid (HB4.out.trans hb5)
       clear ho5 hb5)
    | fail)
  all_goals
    go_wp2_with fail
    go_ret
    exact ⟨⟨_, rfl, HO5.out⟩, HB5.out⟩
/-- What Classes answers for a book. -/
def ClsP (b : BookL) (cl : List Nat) : Prop := (bookB b = true → IsCl b.nodes cl) ∧ (bookB b = false → cl = [])
/-- Numbers in memory stay where each cell that is read stays. -/
theorem Nums.keep2 {w w' : World} {bound bound' : Nat} {a : Option Addr} {n : Nat} {l : List Int} (h : Nums w bound a n l) (hbb : bound ≤ bound') (hk : ∀ b off, a = some ⟨b, off, none⟩ → ∀ (j : Nat) (x : Int), l[j]? = some x → w.cell? ⟨b, off + j, none⟩ = some (.int .i64 x) → w'.cell? ⟨b, off + j, none⟩ = some (.int .i64 x)) : Nums w' bound' a n l :=
  ⟨h.1, h.2.1, fun hn => by
    obtain ⟨b, off, e, hb, hc⟩ := h.2.2 hn
    exact ⟨b, off, e, by omega, fun j x hj => hk b off e j x hj (hc j x hj)⟩⟩
theorem cell_setCell_other {w : World} {g : Nat} {p : Addr} {v : Value} (h : p.block ≠ g) : (w.setCell ⟨g, 0, none⟩ v).cell? p = w.cell? p := World.cell?_of_block (Below.heap_setCell w ⟨g, 0, none⟩ v p.block h)
def natV : Option Value → Nat
  | some (.int _ k) => k.toNat
  | _ => 0
/-- The sum of the numbers of the slice that a box holds. -/
def sumAt (W : World) (h : Nat) : Nat := match W.cell? ⟨h, 0, none⟩ with
  | some (.slice (some a) n _) => ((List.range n).map fun j => natV (W.cell? ⟨a.block, a.off + j, none⟩)).sum
  | _ => 0
theorem sumAt_nums {W : World} {h bound : Nat} {a : Option Addr} {n c : Nat} {cl : List Nat} (hc : W.cell? ⟨h, 0, none⟩ = some (.slice a n c)) (hN : Nums W bound a n (rowI cl)) : sumAt W h = cl.sum := by
  unfold sumAt
  rw [hc]
  have hl : cl.length = n := by have := hN.1; rwa [rowI_len] at this
  rcases Nat.eq_zero_or_pos n with h0 | h0
  · subst h0
    have : cl = [] := List.eq_nil_of_length_eq_zero hl
    subst this
    rcases a with _ | a <;> rfl
  · obtain ⟨b, off, rfl, _, _⟩ := hN.2.2 h0
    show ((List.range n).map fun j => natV (W.cell? ⟨b, off + j, none⟩)).sum = cl.sum
    congr 1
    refine List.ext_getElem? fun j => ?_
    rw [List.getElem?_map]
    rcases Nat.lt_or_ge j n with hj | hj
    · obtain ⟨b', o', e, _, hcj⟩ := cls_at hN hj
      obtain ⟨e1, e2, _⟩ := Addr.mk.inj (Option.some.inj e)
      subst e1 e2
      rw [List.getElem?_range hj]
      show some (natV (W.cell? ⟨b, off + j, none⟩)) = _
      rw [hcj, List.getElem?_eq_getElem (by omega), List.getD_eq_getElem?_getD, List.getElem?_eq_getElem (by omega)]
      rfl
    · rw [List.getElem?_eq_none (by simpa using hj), List.getElem?_eq_none (by omega)]
      rfl
theorem rowI_inj {a b : List Nat} (h : rowI a = rowI b) : a = b := by
  unfold rowI at h
  exact List.map_inj_right (fun x y e => by omega) |>.1 h
set_option maxHeartbeats 8000000 in
set_option maxRecDepth 20000 in
theorem classes_any (na : Option Addr) (nn nc : Nat) (sa : Option Addr) (sn sc : Nat) (ra : Option Addr) (rn rc : Nat) (b : BookL) (w : World) (bound : Nat) (hb : bound ≤ w.heap.size) (h : BkIn w bound na nn sa sn ra rn b) :
    Calls Try.prog 15 #[bkV na nn nc sa sn sc ra rn rc] w fun e w' => (∃ a n c cl, e = .returned (.slice a n c) ∧ Nums w' w'.heap.size a n (rowI cl) ∧ ClsP b cl) ∧ Below w.heap.size w w' := by
  have HN := Lib.hid h
  have HB0 := Lib.hid (tu1 w (.cells #[.slice na nn nc, .slice sa sn sc, .slice ra rn rc] 26))
  have HBB := Lib.hid (show BBox (w.alloc (.cells #[.slice na nn nc, .slice sa sn sc, .slice ra rn rc] 26)) w.heap.size na nn nc sa sn sc ra rn rc from heap_alloc_new w _)
  have CM := Lib.hid (bookMay_any na nn nc sa sn sc ra rn rc b (w.alloc (.cells #[.slice na nn nc, .slice sa sn sc, .slice ra rn rc] 26)) bound (by simp; omega) (h.below (HB0.out.mono hb)))
  have hnl := h.nodes.1
  clear h
  cases hv : bookB b
  · rw [hv] at CM
    have HV := Lib.hid (show ClsP b [] from ⟨fun e => (by rw [hv] at e; cases e), fun _ => rfl⟩)
    clear hv hnl
    go_enter Try.func15, Try.ntmps15
    go_wp2_with (first
      | (go_at_call 39; (with_reducible refine CM.out.mono ?_)
         rintro e w2 ⟨rfl, hb2⟩
         have HB2 := Lib.hid (below_on HB0.out hb2)
         clear hb2)
      | fail)
    go_ret
    exact ⟨⟨none, 0, 0, [], rfl, Nums.zero _ _ _, HV.out⟩, HB2.out⟩
  rw [hv] at CM
  have HV := Lib.hid hv
  obtain ⟨hok, _, _, _⟩ := bookB_ok hv
  have HOK := Lib.hid hok
  have hn4 : nn ≤ 400 := by have := hok.1; omega
  have HNL := Lib.hid hnl
  clear hv hok hnl
  have CG := Lib.hid (fun (W : World) (hW : Below (w.heap.size + 1) (w.alloc (.cells #[.slice na nn nc, .slice sa sn sc, .slice ra rn rc] 26)) W) =>
    group_any (.func (.func 43) #[] #[.pointer (some ⟨w.heap.size, 0, none⟩)]) (seenAt b.nodes) nn hn4 (fun i hi => by
      have hx := hasN (ns := b.nodes) (i := i) (by rw [HNL.out]; exact hi)
      obtain ⟨_, k1, k2, k3⟩ := node_short HOK.out hx
      exact seenS_len k1 k2 (fun e he => (k3 e he).1)) W
      (seen_writes w.heap.size na nn nc sa sn sc ra rn rc b.nodes W bound (by have := hW.size; simp at this; omega) (HBB.out.on hW (by omega)) (HN.out.nodes.below ((HB0.out.mono hb).trans (hW.mono (by omega)))) HOK.out))
  go_enter Try.func15, Try.ntmps15
  go_wp2_with (first
    | (go_at_call 39; (with_reducible refine CM.out.mono ?_)
       rintro e w2 ⟨rfl, hb2⟩
       have HB2 := Lib.hid (show Below (w.heap.size + 1) (w.alloc (.cells #[.slice na nn nc, .slice sa sn sc, .slice ra rn rc] 26)) w2 from by rw [World.size_alloc] at hb2; exact hb2)
       obtain ⟨b20, b21, b22⟩ := (HBB.out.on HB2.out (by omega)).cells
       clear hb2)
    | (go_at_call 42; (with_reducible refine (CG.out _ HB2.out).mono ?_)
       rintro e w3 ⟨⟨a3, c3, cl3, rfl, hg3, hn3⟩, hb3⟩
       have HB3 := Lib.hid (HB2.out.trans (hb3.mono (by have := HB2.out.size; simp at this; omega)))
       have HG3 := Lib.hid hg3
       have HN3 := Lib.hid hn3
       clear hg3 hn3 hb3 b20 b21 b22)
    | fail)
  have HI3 := Lib.hid (Inv.start HOK.out (by rw [HNL.out]; exact HG3.out))
  go_loopw [4] (fun _ wr => ∃ (a : Option Addr) (c : Nat) (cl : List Nat), Hid (wr.heap[w3.heap.size]? = some (.cells #[.slice a nn c] 24 (0, 0))) ∧ Hid (Nums wr wr.heap.size a nn (rowI cl)) ∧ Hid (Inv b.nodes cl) ∧ Hid (Below (w.heap.size + 1) (w.alloc (.cells #[.slice na nn nc, .slice sa sn sc, .slice ra rn rc] 26)) wr)) (fun _ wr => 160000 - sumAt wr w3.heap.size)
  case atStart => exact ⟨a3, c3, cl3, Lib.hid (heap_alloc_new w3 _), Lib.hid ((HN3.out.alloc (Nat.le_refl _) _).more (by simp)), HI3, Lib.hid (HB3.out.alloc (by have := HB3.out.size; simpa using this) _)⟩
  case round =>
    clear HN3 HI3 HG3 CM CG HB2
    obtain ⟨ca, cc, cl, HH, HC, HI, HBr⟩ := hrel
    have HBX := Lib.hid (HBB.out.on HBr.out (by omega))
    obtain ⟨b0, b1, b2⟩ := HBX.out.cells
    have hhl := (Array.getElem?_eq_some_iff.1 HH.out).1
    have c0 : wr.cell? ⟨w3.heap.size, 0, none⟩ = some (.slice ca nn cc) := by rw [cell_of_row _ _ _ _ _ _ HH.out]; rfl
    have HSM := Lib.hid (sumAt_nums c0 HC.out)
    have hz1 : w.heap.size + 1 ≤ wr.heap.size := by have := HBr.out.size; simpa using this
    have HNR := Lib.hid ((HN.out.nodes.below ((HB0.out.mono hb).trans (HBr.out.mono (by omega)))).more (bound' := wr.heap.size) (by omega))
    have CG := Lib.hid (group_any (.func (.func 45) #[] #[.pointer (some ⟨w3.heap.size, 0, none⟩), .pointer (some ⟨w.heap.size, 0, none⟩)]) (onwAt b.nodes cl) nn hn4 (fun i hi => by
      have hx := hasN (ns := b.nodes) (i := i) (by rw [HNL.out]; exact hi)
      obtain ⟨_, k1, k2, k3⟩ := node_short HOK.out hx
      have := onwE_len (cl := cl) k2
      unfold onwAt onwS
      rw [List.length_append, clsS_len]
      unfold onwE at this
      omega) wr
      (onw_writes w.heap.size w3.heap.size na nn nc sa sn sc ra rn rc b.nodes ca nn cc cl wr wr.heap.size (Nat.le_refl _) HBX.out HNR.out HOK.out HH.out HC.out rfl))
    go_upto_region 6 with (first
      | (go_at_call 42; (with_reducible refine CG.out.mono ?_)
         rintro e w4 ⟨⟨a4, c4, cl4, rfl, hg4, hn4⟩, hb4⟩
         have HB4 := Lib.hid (HBr.out.trans (hb4.mono hz1))
         have HH4 := Lib.hid ((hb4.block w3.heap.size hhl).trans HH.out)
         have HC4 := Lib.hid ((HC.out.below hb4).more hb4.size)
         have HG4 := Lib.hid hg4
         have HN4 := Lib.hid hn4
         have c40 : w4.cell? ⟨w3.heap.size, 0, none⟩ = some (.slice ca nn cc) := by rw [cell_of_row _ _ _ _ _ _ HH4.out]; rfl
         have CE := Lib.hid (eqInts10_any a4 nn c4 (rowI cl4) ca nn cc (rowI cl) w4 w4.heap.size (Nat.le_refl _) HN4.out HC4.out)
         have HX4 := Lib.hid (HI.out.next HOK.out (by rw [HNL.out]; exact HG4.out))
         clear hg4 hn4 hb4)
      | (go_at_call 48; (with_reducible refine CE.out.mono ?_)
         rintro e w5 ⟨rfl, hb5⟩
         have HB5 := Lib.hid (HB4.out.trans (hb5.mono (by have := HB4.out.size; simpa using this)))
         have HH5 := Lib.hid ((hb5.block w3.heap.size (Array.getElem?_eq_some_iff.1 HH4.out).1).trans HH4.out)
         have c50 : w5.cell? ⟨w3.heap.size, 0, none⟩ = some (.slice ca nn cc) := by rw [cell_of_row _ _ _ _ _ _ HH5.out]; rfl
         have f50 : w5.frozen? ⟨w3.heap.size, 0, none⟩ = false := by unfold World.frozen?; rw [HH5.out]; simp
         have HC5 := Lib.hid ((HC4.out.below hb5).more hb5.size)
         have HN5 := Lib.hid ((HN4.out.below hb5).more hb5.size)
         clear hb5)
      | fail)
    · have hd : rowI cl4 = rowI cl := by assumption
      have HCL := Lib.hid (show ClsP b cl from ⟨fun _ => HX4.out.2.2 (rowI_inj hd), fun e => by rw [HV.out] at e; cases e⟩)
      clear hd
      go_wp2_with fail
      go_ret
      exact ⟨⟨_, _, _, cl, rfl, HC5.out, HCL.out⟩, HB0.out.trans (HB5.out.mono (by omega))⟩
    · have hd : ¬ rowI cl4 = rowI cl := by assumption
      have hne : cl ≠ cl4 := fun e => hd (by rw [e])
      have hset : (w5.setCell ⟨w3.heap.size, 0, none⟩ (.slice a4 nn c4)).heap[w3.heap.size]? = some (.cells #[.slice a4 nn c4] 24 (0, 0)) := one_setCell HH5.out
      have hnu : Nums (w5.setCell ⟨w3.heap.size, 0, none⟩ (.slice a4 nn c4)) (w5.setCell ⟨w3.heap.size, 0, none⟩ (.slice a4 nn c4)).heap.size a4 nn (rowI cl4) := by
        refine HN5.out.keep2 (by simp) fun bb off e j x hj hc => ?_
        rw [cell_setCell_other (by
          rintro rfl
          rw [cell_of_row _ _ _ _ _ _ HH5.out] at hc
          have := Array.getElem?_eq_some_iff.1 hc
          obtain ⟨_, h2⟩ := this
          simp at h2)]
        exact hc
      refine ⟨⟨a4, c4, cl4, Lib.hid hset, Lib.hid hnu, Lib.hid HX4.out.1, Lib.hid (HB5.out.setCell (by have := HB3.out.size; simpa using this) _)⟩, ?_⟩
      have hs4 : sumAt (w5.setCell ⟨w3.heap.size, 0, none⟩ (.slice a4 nn c4)) w3.heap.size = cl4.sum := sumAt_nums (by rw [cell_of_row _ _ _ _ _ _ hset]; rfl) hnu
      rw [hs4, HSM.out]
      have h1 := sum_more cl cl4 (HI.out.1.trans HX4.out.1.1.symm) (fun i hi => HX4.out.2.1 i (by rw [← HI.out.1]; exact hi)) hne
      have h2 := HX4.out.1.sum HOK.out
      omega
end Go.Proofs.Ytgefhgcpnfbigaa
