/- Contract of book.May, for any book: nodes, and the whole. -/
import Derived.Test.YtgefhgcpnfbigaaBkMay
import Derived.Deep.CutBlock
import Derived.Deep.DeepCutAuto
namespace Go.Proofs.Ytgefhgcpnfbigaa
open Go.RowKit Go.Sort

set_option maxHeartbeats 4000000 in
theorem validNode_any (na : Option Addr) (nn nc : Nat) (sa : Option Addr) (sn sc : Nat) (ra : Option Addr) (rn rc : Nat) (kd : Int) (s : ByteArray) (aa : Option Addr) (an ac : Nat) (l : List EdgeL) (w : World) (bound : Nat) (hb : bound ≤ w.heap.size) (hs : s.size ≤ maxLen) (h : Edges w bound aa an l) :
    Calls Try.prog 80 #[bkV na nn nc sa sn sc ra rn rc, .agg #[.int .i64 kd, .string s, .slice aa an ac]] w fun e w' => e = .returned (.bool (nodeB nn ⟨kd, s.toList, l⟩)) ∧ Below w.heap.size w w' := by
  obtain ⟨W1, hW1⟩ : ∃ W1, W1 = (w.alloc (.cells #[.slice na nn nc, .slice sa sn sc, .slice ra rn rc] 26)).alloc (.cells #[.int .i64 kd, .string s, .slice aa an ac] 62) := ⟨_, rfl⟩
  have HB := Lib.hid (show Below w.heap.size w W1 by rw [hW1]; exact below_on (tu1 w _) (tu1 _ _))
  have hlen := h.1
  obtain ⟨R, hR⟩ : ∃ R, R = nodeB nn ⟨kd, s.toList, l⟩ := ⟨_, rfl⟩
  rw [← hR]
  by_cases hk0 : kd = 0
  · subst hk0
    have hz : R = (s.toList.isEmpty && l.isEmpty) := hR
    subst hW1
    clear hR
    cases he : s.toList.isEmpty
    · rw [he] at hz
      have he2 : (s.toList == []) = false := by rw [empty_is]; exact he
      have HZ := Lib.hid hz
      clear hz h hs
      go_enter Try.func80, Try.ntmps80
      go_wp2_with fail
      go_ret
      exact ⟨ret_bool HZ.out.symm, HB.out⟩
    · rw [he] at hz
      have he2 : (s.toList == []) = true := by rw [empty_is]; exact he
      by_cases ha : an = 0
      · subst ha
        have hle : l.isEmpty = true := by rw [List.isEmpty_iff]; exact List.eq_nil_of_length_eq_zero hlen
        rw [hle] at hz
        have HZ := Lib.hid hz
        clear hz h hs hle hlen
        go_enter Try.func80, Try.ntmps80
        go_wp2_with fail
        go_ret
        exact ⟨ret_bool HZ.out.symm, HB.out⟩
      · have da : ((an : Int) == 0) = false := by rw [beq_eq_false_iff_ne]; omega
        have hle : l.isEmpty = false := by
          cases l with
          | nil => simp at hlen; omega
          | cons _ _ => rfl
        rw [hle] at hz
        have HZ := Lib.hid hz
        clear hz h hs hle hlen ha
        go_enter Try.func80, Try.ntmps80
        go_wp2_with fail
        go_ret
        exact ⟨ret_bool HZ.out.symm, HB.out⟩
  have k0 : (kd == 0) = false := by rw [beq_eq_false_iff_ne]; exact hk0
  by_cases hk12 : kd = 1 ∨ kd = 2
  · have hz : R = (may s.toList && edgesB nn l) := by rw [hR]; unfold nodeB; rw [if_neg hk0, if_pos hk12]
    have CM := Lib.hid (fun W => may_any s W hs)
    have CA := Lib.hid (fun (W : World) (hW : Below w.heap.size w W) => validEdges_any na nn nc sa sn sc ra rn rc aa an ac l W bound (by have := hW.size; omega) (h.below (hW.mono hb)))
    have HK12 := Lib.hid hk12
    clear hk0 hk12 hlen hR h hs
    cases hm : may s.toList
    · rw [hm] at CM hz
      have HZ := Lib.hid hz
      clear hz hm
      subst hW1
      rcases HK12.out with rfl | rfl
      all_goals
        go_enter Try.func80, Try.ntmps80
        go_wp2_with (first
          | (go_at_call 94; (with_reducible refine (CM.out _).mono ?_); rintro e w1 ⟨rfl, rfl⟩)
          | fail)
        go_ret
        exact ⟨ret_bool HZ.out.symm, HB.out⟩
    · rw [hm] at CM hz
      have HZ := Lib.hid hz
      clear hz hm
      subst hW1
      rcases HK12.out with rfl | rfl
      all_goals
        go_enter Try.func80, Try.ntmps80
        go_wp2_with (first
          | (go_at_call 94; (with_reducible refine (CM.out _).mono ?_); rintro e w1 ⟨rfl, rfl⟩)
          | (go_at_call 95; (with_reducible refine (CA.out _ HB.out).mono ?_)
             rintro e w2 ⟨rfl, hb2⟩
             have HB2 := Lib.hid (below_on HB.out hb2)
             clear hb2)
          | fail)
        go_ret
        exact ⟨ret_bool (by rw [HZ.out]; rfl), HB2.out⟩
  · have hz : R = false := by rw [hR]; unfold nodeB; rw [if_neg hk0, if_neg hk12]
    have k1 : (kd == 1) = false := by rw [beq_eq_false_iff_ne]; omega
    have k2 : (kd == 2) = false := by rw [beq_eq_false_iff_ne]; omega
    have HZ := Lib.hid hz
    subst hW1
    clear hk0 hk12 hlen hR h hs hz
    go_enter Try.func80, Try.ntmps80
    go_wp2_with fail
    go_ret
    exact ⟨ret_bool HZ.out.symm, HB.out⟩
/-- A book in memory. -/
structure BkIn (W : World) (bound : Nat) (na : Option Addr) (nn : Nat) (sa : Option Addr) (sn : Nat) (ra : Option Addr) (rn : Nat) (b : BookL) : Prop where
  nodes : Nodes W bound na nn b.nodes
  names : Strs W bound sa sn b.names
  roots : Nums W bound ra rn b.roots
section
variable {W W' : World} {bound bound' : Nat} {na sa ra : Option Addr} {nn sn rn : Nat} {b : BookL}
theorem BkIn.below (h : BkIn W bound na nn sa sn ra rn b) (hb : Below bound W W') : BkIn W' bound na nn sa sn ra rn b := ⟨h.nodes.below hb, h.names.below hb, h.roots.below hb⟩
theorem BkIn.more (h : BkIn W bound na nn sa sn ra rn b) (hb : bound ≤ bound') : BkIn W bound' na nn sa sn ra rn b := ⟨h.nodes.more hb, h.names.more hb, h.roots.more hb⟩
end
/-- A box of the call's own holds this book. -/
def BBox (W : World) (g : Nat) (na : Option Addr) (nn nc : Nat) (sa : Option Addr) (sn sc : Nat) (ra : Option Addr) (rn rc : Nat) : Prop := W.heap[g]? = some (.cells #[.slice na nn nc, .slice sa sn sc, .slice ra rn rc] 26 (0, 0))
section
variable {W W' : World} {g : Nat} {na sa ra : Option Addr} {nn nc sn sc rn rc : Nat}
theorem BBox.lt (h : BBox W g na nn nc sa sn sc ra rn rc) : g < W.heap.size := (Array.getElem?_eq_some_iff.1 h).1
theorem BBox.on (h : BBox W g na nn nc sa sn sc ra rn rc) {B : Nat} (hb : Below B W W') (hB : g < B) : BBox W' g na nn nc sa sn sc ra rn rc := (hb.block g hB).trans h
theorem BBox.cells (h : BBox W g na nn nc sa sn sc ra rn rc) : W.cell? ⟨g, 0, none⟩ = some (.slice na nn nc) ∧ W.cell? ⟨g, 1, none⟩ = some (.slice sa sn sc) ∧ W.cell? ⟨g, 2, none⟩ = some (.slice ra rn rc) :=
  ⟨by rw [cell_of_row _ _ _ _ _ _ h]; rfl, by rw [cell_of_row _ _ _ _ _ _ h]; rfl, by rw [cell_of_row _ _ _ _ _ _ h]; rfl⟩
end
theorem bookB_way {b : BookL} : bookB b = (decide (b.nodes.length ≤ 400) && decide (b.names.length = b.roots.length) && upB b.names && b.roots.all (inBk b.nodes.length) && b.nodes.all (nodeB b.nodes.length)) := rfl
theorem all_bad {α : Type} {p : α → Bool} {l : List α} {k : Nat} {x : α} (hx : l[k]? = some x) (h : p x = false) : l.all p = false := by
  rw [List.all_eq_false]
  exact ⟨x, List.mem_of_getElem? hx, by rw [h]; decide⟩
theorem all_step {α : Type} {p : α → Bool} {l : List α} {k : Nat} {x : α} (h : ∀ a ∈ l.take k, p a = true) (hx : l[k]? = some x) (hg : p x = true) : ∀ a ∈ l.take (k + 1), p a = true := by
  intro a ha
  rw [List.take_add_one, hx, List.mem_append] at ha
  rcases ha with ha | ha
  · exact h a ha
  · obtain rfl : a = x := by simpa using ha
    exact hg
set_option maxHeartbeats 8000000 in
set_option maxRecDepth 20000 in
theorem bookMay_any (na : Option Addr) (nn nc : Nat) (sa : Option Addr) (sn sc : Nat) (ra : Option Addr) (rn rc : Nat) (b : BookL) (w : World) (bound : Nat) (hb : bound ≤ w.heap.size) (h : BkIn w bound na nn sa sn ra rn b) :
    Calls Try.prog 39 #[bkV na nn nc sa sn sc ra rn rc] w fun e w' => e = .returned (.bool (bookB b)) ∧ Below w.heap.size w w' := by
  have hnz := h.nodes.2.1
  have hsz := h.names.2.1
  have hrz := h.roots.2.1
  have HNL := Lib.hid h.nodes.1
  have HSL := Lib.hid h.names.1
  have HRL := Lib.hid h.roots.1
  have HN := Lib.hid h
  have HB0 := Lib.hid (tu1 w (.cells #[.slice na nn nc, .slice sa sn sc, .slice ra rn rc] 26))
  have HBB := Lib.hid (show BBox (w.alloc (.cells #[.slice na nn nc, .slice sa sn sc, .slice ra rn rc] 26)) w.heap.size na nn nc sa sn sc ra rn rc from heap_alloc_new w _)
  obtain ⟨R, hR⟩ : ∃ R, R = bookB b := ⟨_, rfl⟩
  rw [← hR]
  rw [bookB_way] at hR
  have HR := Lib.hid hR
  clear h hR
  cases h1 : decide (nn ≤ 400)
  · have d1 : decide (400 < (nn : Int)) = true := decide_eq_true (by have := of_decide_eq_false h1; omega)
    have HZ := Lib.hid (show R = false by rw [HR.out, HNL.out, h1]; rfl)
    clear h1
    go_enter Try.func39, Try.ntmps39
    go_wp2_with fail
    go_ret
    exact ⟨ret_bool HZ.out.symm, HB0.out⟩
  have hn4 : nn ≤ 400 := of_decide_eq_true h1
  have d1 : decide (400 < (nn : Int)) = false := decide_eq_false (by omega)
  cases h2 : decide (sn = rn)
  · have d2 : ((sn : Int) == (rn : Int)) = false := by rw [beq_eq_false_iff_ne]; have := of_decide_eq_false h2; omega
    have d3 : (sn == rn) = false := by rw [beq_eq_false_iff_ne]; exact of_decide_eq_false h2
    have d4 : ((sn : Int) != (rn : Int)) = true := by unfold bne; rw [d2]; rfl
    have HZ := Lib.hid (show R = false by rw [HR.out, HNL.out, h1, HSL.out, HRL.out, h2]; rfl)
    clear h1 h2
    go_enter Try.func39, Try.ntmps39
    go_wp2_with fail
    go_ret
    exact ⟨ret_bool HZ.out.symm, HB0.out⟩
  obtain rfl : sn = rn := of_decide_eq_true h2
  have CU := Lib.hid (rising_any sa sn sc b.names (w.alloc (.cells #[.slice na nn nc, .slice sa sn sc, .slice ra sn rc] 26)) bound (by simp; omega) (HN.out.names.below (HB0.out.mono hb)))
  cases hu : upB b.names
  · rw [hu] at CU
    have HZ := Lib.hid (show R = false by rw [HR.out, HNL.out, h1, HSL.out, HRL.out, h2, hu]; rfl)
    clear h1 h2 hu
    go_enter Try.func39, Try.ntmps39
    go_wp2_with (first
      | (go_at_call 78; (with_reducible refine CU.out.mono ?_)
         rintro e w2 ⟨rfl, hb2⟩
         have HB2 := Lib.hid (below_on HB0.out hb2)
         clear hb2)
      | fail)
    go_ret
    exact ⟨ret_bool HZ.out.symm, HB2.out⟩
  rw [hu] at CU
  have HR2 := Lib.hid (show R = (b.roots.all (inBk nn) && b.nodes.all (nodeB nn)) by rw [HR.out, HNL.out, h1, HSL.out, HRL.out, h2, hu]; rfl)
  clear h1 h2 hu HR
  go_enter Try.func39, Try.ntmps39
  go_wp2_with (first
    | (go_at_call 78; (with_reducible refine CU.out.mono ?_)
       rintro e w2 ⟨rfl, hb2⟩
       have HB2 := Lib.hid (below_on HB0.out hb2)
       have HBB2 := Lib.hid (HBB.out.on hb2 (by simp))
       obtain ⟨b20, b21, b22⟩ := HBB2.out.cells
       clear hb2)
    | fail)
  clear CU HB0 HBB b20 b21 b22
  go_loopw [29] (fun i wr => ∃ k : Nat, k ≤ sn ∧ i = .int .i64 k ∧ Hid (∀ a ∈ b.roots.take k, inBk nn a = true) ∧ Hid (BBox wr w.heap.size na nn nc sa sn sc ra sn rc) ∧ Hid (Below w.heap.size w wr)) (fun i _ => sn - (intOf i).toNat)
  case atStart => exact ⟨0, Nat.zero_le _, rfl, Lib.hid (by simp), HBB2, HB2⟩
  case round =>
    obtain ⟨k, hk, rfl, HG, HBX, HBr⟩ := hrel
    clear HB2 HBB2
    obtain ⟨b0, b1, b2⟩ := HBX.out.cells
    by_cases hlt : k < sn
    · obtain ⟨rb, ro, x, rfl, hrb, hx, hc⟩ := (HN.out.roots.below (HBr.out.mono hb)).at_ hlt
      have i1 : (k : Int) < (sn : Int) := by omega
      have i2 : (0 : Int) ≤ (k : Int) := by omega
      have CI := Lib.hid (isNode_any na nn nc sa sn sc (some ⟨rb, ro, none⟩) sn rc x wr)
      cases hi : inBk nn x
      · rw [hi] at CI
        have HZ := Lib.hid (show R = false by rw [HR2.out, all_bad hx hi]; rfl)
        clear hi hx
        go_wp2_with (first
          | (go_at_call 79; (with_reducible refine CI.out.mono ?_)
             rintro e w3 ⟨rfl, hb3⟩
             have HB3 := Lib.hid (below_on HBr.out hb3)
             clear hb3)
          | fail)
        go_ret
        exact ⟨ret_bool HZ.out.symm, HB3.out⟩
      · rw [hi] at CI
        have HG2 := Lib.hid (all_step HG.out hx hi)
        have HLT := Lib.hid HBX.out.lt
        clear hi hx
        go_wp2_with (first
          | (go_at_call 79; (with_reducible refine CI.out.mono ?_)
             rintro e w3 ⟨rfl, hb3⟩
             have HB3 := Lib.hid (below_on HBr.out hb3)
             have HBX3 := Lib.hid (HBX.out.on hb3 HLT.out)
             clear hb3)
          | fail)
        go_roundw
        case rel => exact ⟨k + 1, by omega, by go_num, HG2, HBX3, HB3⟩
        case measure => simp [intOf]; omega
    · obtain rfl : k = sn := by omega
      have HRA := Lib.hid (show R = b.nodes.all (nodeB nn) by
        have := HG.out
        rw [List.take_of_length_le (by have := HRL.out; omega)] at this
        rw [HR2.out, List.all_eq_true.2 this]
        rfl)
      have d3 : decide ((k : Int) < (k : Int)) = false := decide_eq_false (by omega)
      clear HG HR2
      go_wp2_with fail
      go_loopw [41] (fun i wr => ∃ j : Nat, j ≤ nn ∧ i = .int .i64 j ∧ Hid (∀ a ∈ b.nodes.take j, nodeB nn a = true) ∧ Hid (BBox wr w.heap.size na nn nc sa k sc ra k rc) ∧ Hid (Below w.heap.size w wr)) (fun i _ => nn - (intOf i).toNat)
      case atStart => exact ⟨0, Nat.zero_le _, rfl, Lib.hid (by simp), HBX, HBr⟩
      case round =>
        clear HBX HBr b0 b1 b2
        obtain ⟨j, hj, rfl, HG, HBX, HBr⟩ := hrel
        obtain ⟨b0, b1, b2⟩ := HBX.out.cells
        by_cases hlt : j < nn
        · obtain ⟨nb, no, kd, s, aa, an, ac, l, rfl, hnb, hx, ⟨q0, q1, q2⟩, hs, hE⟩ := (HN.out.nodes.below (HBr.out.mono hb)).at_ hlt
          have i1 : (j : Int) < (nn : Int) := by omega
          have i2 : (0 : Int) ≤ (j : Int) := by omega
          have hzr := HBr.out.size
          have hnz2 : nb < wr.heap.size := by omega
          have HLT := Lib.hid HBX.out.lt
          have hwz : w.heap.size < wr.heap.size := HBX.out.lt
          have HBT := Lib.hid (tu1 wr (.cells #[.int .i64 kd, .string s, .slice aa an ac] 62))
          have CV := Lib.hid (validNode_any (some ⟨nb, no, none⟩) nn nc sa k sc ra k rc kd s aa an ac l (wr.alloc (.cells #[.int .i64 kd, .string s, .slice aa an ac] 62)) bound (by simp; omega) hs (hE.below (HBT.out.mono (by omega))))
          cases hi : nodeB nn ⟨kd, s.toList, l⟩
          · rw [hi] at CV
            have HZ := Lib.hid (show R = false by rw [HRA.out]; exact all_bad hx hi)
            clear hi hx hE
            go_wp2_with (first
              | (go_at_call 80; (with_reducible refine CV.out.mono ?_)
                 rintro e w3 ⟨rfl, hb3⟩
                 have HB3 := Lib.hid (below_on HBr.out (below_on HBT.out hb3))
                 clear hb3)
              | fail)
            go_ret
            exact ⟨ret_bool HZ.out.symm, HB3.out⟩
          · rw [hi] at CV
            have HG2 := Lib.hid (all_step HG.out hx hi)
            clear hi hx hE
            go_wp2_with (first
              | (go_at_call 80; (with_reducible refine CV.out.mono ?_)
                 rintro e w3 ⟨rfl, hb3⟩
                 have HB3 := Lib.hid (below_on HBr.out (below_on HBT.out hb3))
                 have HBX3 := Lib.hid (HBX.out.on (below_on HBT.out hb3) HLT.out)
                 clear hb3)
              | fail)
            go_roundw
            case rel => exact ⟨j + 1, by omega, by go_num, HG2, HBX3, HB3⟩
            case measure => simp [intOf]; omega
        · obtain rfl : j = nn := by omega
          have HZ := Lib.hid (show R = true by
            have := HG.out
            rw [List.take_of_length_le (by have := HNL.out; omega)] at this
            rw [HRA.out, List.all_eq_true.2 this])
          have d3 : decide ((j : Int) < (j : Int)) = false := decide_eq_false (by omega)
          go_wp2_with fail
          go_ret
          exact ⟨ret_bool HZ.out.symm, HBr.out⟩
end Go.Proofs.Ytgefhgcpnfbigaa
