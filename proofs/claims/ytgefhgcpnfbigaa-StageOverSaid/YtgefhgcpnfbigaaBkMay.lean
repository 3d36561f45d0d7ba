/- Contract of book.May, for any book. -/
import Derived.Test.YtgefhgcpnfbigaaBkText
import Derived.Test.YtgefhgcpnfbigaaRef2
import Derived.Laws.Cover1
namespace Go.Proofs.Ytgefhgcpnfbigaa
open Go.RowKit Go.Sort

theorem upB_step {l : List Str} {k : Nat} {x y : Str} (h : (l.take k).Pairwise (· < ·)) (hk : 1 ≤ k) (hx : l[k - 1]? = some x) (hy : l[k]? = some y) (hlt : x < y) : (l.take (k + 1)).Pairwise (· < ·) := by
  rw [tuTake_at hy, List.pairwise_append]
  refine ⟨h, List.pairwise_singleton _ _, fun a ha b hb => ?_⟩
  rw [List.mem_singleton.1 hb]
  obtain ⟨j, hj, rfl⟩ := List.mem_iff_getElem.1 ha
  have hjk : j < k := by rw [List.length_take] at hj; omega
  obtain ⟨h1, e1⟩ := List.getElem?_eq_some_iff.1 hx
  rcases Nat.lt_or_ge j (k - 1) with h2 | h2
  · have h3 := List.pairwise_iff_getElem.1 h j (k - 1) hj (by rw [List.length_take]; omega) h2
    rw [List.getElem_take, List.getElem_take, e1] at h3
    rw [List.getElem_take]
    exact List.lt_trans h3 hlt
  · obtain rfl : j = k - 1 := by omega
    rw [List.getElem_take, e1]
    exact hlt
theorem upB_bad {l : List Str} {k : Nat} {x y : Str} (hk : 1 ≤ k) (hx : l[k - 1]? = some x) (hy : l[k]? = some y) (hlt : ¬ x < y) : upB l = false := by
  unfold upB
  rw [decide_eq_false_iff_not]
  intro h
  obtain ⟨h1, e1⟩ := List.getElem?_eq_some_iff.1 hx
  obtain ⟨h2, e2⟩ := List.getElem?_eq_some_iff.1 hy
  have := List.pairwise_iff_getElem.1 h (k - 1) k h1 h2 (by omega)
  rw [e1, e2] at this
  exact hlt this
set_option maxHeartbeats 4000000 in
set_option maxRecDepth 20000 in
theorem rising_any (a : Option Addr) (n c : Nat) (l : List Str) (w : World) (bound : Nat) (hb : bound ≤ w.heap.size) (h : Strs w bound a n l) :
    Calls Try.prog 78 #[.slice a n c] w fun e w' => e = .returned (.bool (upB l)) ∧ Below w.heap.size w w' := by
  have hsz := h.2.1
  have HLEN := Lib.hid h.1
  have HN := Lib.hid h
  obtain ⟨R, hR⟩ : ∃ R, R = upB l := ⟨_, rfl⟩
  rw [← hR]
  have HR := Lib.hid hR
  clear h hR
  go_enter Try.func78, Try.ntmps78
  go_wp2_with fail
  go_loopw [3] (fun i wr => ∃ k : Nat, 1 ≤ k ∧ k ≤ n + 1 ∧ i = .int .i64 k ∧ Hid ((l.take k).Pairwise (· < ·)) ∧ Hid (Below w.heap.size w wr)) (fun i _ => n + 1 - (intOf i).toNat)
  case atStart =>
    refine ⟨1, Nat.le_refl _, by omega, rfl, Lib.hid ?_, Lib.hid (Below.refl _ _)⟩
    cases l with
    | nil => simp
    | cons x l => simp
  case round =>
    obtain ⟨k, hk1, hk, rfl, HP, HBr⟩ := hrel
    by_cases hlt : k < n
    · obtain ⟨b, off, rfl, hbb, hc1⟩ := (HN.out.below (HBr.out.mono hb)).at_ hlt
      obtain ⟨b2, o2, e2, _, hc2⟩ := (HN.out.below (HBr.out.mono hb)).at_ (show k - 1 < n by omega)
      obtain ⟨e3, e4, _⟩ := Addr.mk.inj (Option.some.inj e2)
      subst e3 e4
      obtain ⟨y, hy⟩ : ∃ y, y = baS (l.getD k []) := ⟨_, rfl⟩
      obtain ⟨x, hx⟩ : ∃ x, x = baS (l.getD (k - 1) []) := ⟨_, rfl⟩
      replace hc1 : wr.cell? ⟨b, off + k, none⟩ = some (Value.string y) := by rw [hy]; exact hc1
      replace hc2 : wr.cell? ⟨b, off + (k - 1), none⟩ = some (Value.string x) := by rw [hx]; exact hc2
      have HY := Lib.hid (show l[k]? = some y.toList by rw [hy, baS_toList, List.getD_eq_getElem?_getD, List.getElem?_eq_getElem (by rw [HLEN.out]; exact hlt)]; rfl)
      have HX := Lib.hid (show l[k - 1]? = some x.toList by rw [hx, baS_toList, List.getD_eq_getElem?_getD, List.getElem?_eq_getElem (by rw [HLEN.out]; omega)]; rfl)
      have i1 : (k : Int) < (n : Int) := by omega
      have i2 : (0 : Int) ≤ (k : Int) := by omega
      have i3 : (k : Int) - 1 < (n : Int) := by omega
      have i4 : (0 : Int) ≤ (k : Int) - 1 := by omega
      have i5 : IntKind.i64.wrap ((k : Int) - 1) = ((k - 1 : Nat) : Int) := by simp [IntKind.wrap, IntKind.bits, IntKind.signed]; omega
      clear hy hx e2
      cases hls : Op.bytesLess x.toList y.toList
      · have HZ := Lib.hid (HR.out.trans (upB_bad hk1 HX.out HY.out (by rw [bytesLess_eq, decide_eq_false_iff_not] at hls; exact hls)))
        go_wp2
        go_quiet (fail)
        go_wp2
        go_ret
        exact ⟨ret_bool HZ.out.symm, bel_drewN HBr.out _⟩
      · have HP2 := Lib.hid (upB_step HP.out hk1 HX.out HY.out (by rw [bytesLess_eq, decide_eq_true_eq] at hls; exact hls))
        go_wp2
        go_quiet (fail)
        go_wp2
        go_roundw
        case rel => exact ⟨k + 1, by omega, by omega, by go_num, HP2, Lib.hid (bel_drewN HBr.out _)⟩
        case measure => simp [intOf]; omega
    · have HZ := Lib.hid (show R = true from HR.out.trans (by
        have := HP.out
        rw [List.take_of_length_le (by rw [HLEN.out]; omega)] at this
        unfold upB
        exact decide_eq_true this))
      have d1 : decide ((k : Int) < (n : Int)) = false := decide_eq_false (by omega)
      go_wp2_with fail
      go_ret
      exact ⟨ret_bool HZ.out.symm, HBr.out⟩
abbrev bkV (na : Option Addr) (nn nc : Nat) (sa : Option Addr) (sn sc : Nat) (ra : Option Addr) (rn rc : Nat) : Value := .agg #[.slice na nn nc, .slice sa sn sc, .slice ra rn rc]
theorem isNode_any (na : Option Addr) (nn nc : Nat) (sa : Option Addr) (sn sc : Nat) (ra : Option Addr) (rn rc : Nat) (k : Int) (w : World) :
    Calls Try.prog 79 #[bkV na nn nc sa sn sc ra rn rc, .int .i64 k] w fun e w' => e = .returned (.bool (inBk nn k)) ∧ Below w.heap.size w w' := by
  have HB := Lib.hid (tu1 w (.cells #[.slice na nn nc, .slice sa sn sc, .slice ra rn rc] 26))
  cases h1 : decide (0 ≤ k)
  · have HZ := Lib.hid (show inBk nn k = false by unfold inBk; rw [h1]; rfl)
    go_enter Try.func79, Try.ntmps79
    go_wp2_with fail
    go_ret
    exact ⟨ret_bool HZ.out.symm, HB.out⟩
  · cases h2 : decide (k < (nn : Int))
    · have HZ := Lib.hid (show inBk nn k = false by unfold inBk; rw [h1, h2]; rfl)
      go_enter Try.func79, Try.ntmps79
      go_wp2_with fail
      go_ret
      exact ⟨ret_bool HZ.out.symm, HB.out⟩
    · have HZ := Lib.hid (show inBk nn k = true by unfold inBk; rw [h1, h2]; rfl)
      go_enter Try.func79, Try.ntmps79
      go_wp2_with fail
      go_ret
      exact ⟨ret_bool HZ.out.symm, HB.out⟩
theorem validSort_any (na : Option Addr) (nn nc : Nat) (sa : Option Addr) (sn sc : Nat) (ra : Option Addr) (rn rc : Nat) (k x : Int) (w : World) :
    Calls Try.prog 103 #[bkV na nn nc sa sn sc ra rn rc, .agg #[.int .i64 k, .int .i64 x]] w fun e w' => e = .returned (.bool (sortB nn k x)) ∧ Below w.heap.size w w' := by
  obtain ⟨W1, hW1⟩ : ∃ W1, W1 = (w.alloc (.cells #[.slice na nn nc, .slice sa sn sc, .slice ra rn rc] 26)).alloc (.cells #[.int .i64 k, .int .i64 x] 80) := ⟨_, rfl⟩
  have HB := Lib.hid (show Below w.heap.size w W1 by rw [hW1]; exact below_on (tu1 w _) (tu1 _ _))
  by_cases h5 : k = 5
  · subst h5
    have CI := Lib.hid (isNode_any na nn nc sa sn sc ra rn rc x W1)
    have HZ := Lib.hid (show sortB nn 5 x = inBk nn x by unfold sortB; rw [if_pos rfl])
    subst hW1
    go_enter Try.func103, Try.ntmps103
    go_wp2_with (first
      | (go_at_call 79; (with_reducible refine CI.out.mono ?_)
         rintro e w2 ⟨rfl, hb2⟩
         have HB2 := Lib.hid (below_on HB.out hb2)
         clear hb2)
      | fail)
    go_ret
    exact ⟨ret_bool HZ.out.symm, HB2.out⟩
  · have k5 : (k == 5) = false := beq_eq_false_iff_ne.2 h5
    have hz : sortB nn k x = (decide (0 ≤ k) && decide (k < 5) && (x == 0)) := by
      unfold sortB
      rw [if_neg h5]
      congr 1
    subst hW1
    cases h1 : decide (0 ≤ k) <;> cases h2 : decide (k < 5) <;> cases h3 : x == 0
    all_goals
      rw [h1, h2, h3] at hz
      have HZ := Lib.hid hz
      clear hz h5
      go_enter Try.func103, Try.ntmps103
      go_wp2_with fail
      go_ret
      exact ⟨ret_bool HZ.out.symm, HB.out⟩
theorem edgesB_few {n : Nat} {l : List EdgeL} (h : l.length < 1 ∨ 6 < l.length) : edgesB n l = false := by
  unfold edgesB
  rcases h with h | h
  · rw [decide_eq_false (show ¬ 1 ≤ l.length by omega)]; simp
  · rw [decide_eq_false (show ¬ l.length ≤ 6 by omega)]; simp
theorem edgesB_up {n : Nat} {l : List EdgeL} (h1 : 1 ≤ l.length) (h6 : l.length ≤ 6) (hg : ∀ a ∈ l, edgeB n a = true) : edgesB n l = upB (l.map EdgeL.label) := by
  have ha : l.all (edgeB n) = true := List.all_eq_true.2 hg
  unfold edgesB
  rw [ha, decide_eq_true h1, decide_eq_true h6]
  simp
theorem edgesB_bad {n : Nat} {l : List EdgeL} {k : Nat} {x : EdgeL} (hx : l[k]? = some x) (h : edgeB n x = false) : edgesB n l = false := by
  unfold edgesB
  have : l.all (edgeB n) = false := by
    rw [List.all_eq_false]
    exact ⟨x, List.mem_of_getElem? hx, by rw [h]; decide⟩
  rw [this]
  rfl
theorem edge_step {n : Nat} {l : List EdgeL} {k : Nat} {x : EdgeL} (h : ∀ a ∈ l.take k, edgeB n a = true) (hx : l[k]? = some x) (hg : edgeB n x = true) : ∀ a ∈ l.take (k + 1), edgeB n a = true := by
  intro a ha
  rw [tuTake_at hx, List.mem_append, List.mem_singleton] at ha
  rcases ha with ha | rfl
  · exact h a ha
  · exact hg
theorem Edges.max {w : World} {bound : Nat} {a : Option Addr} {n : Nat} {l : List EdgeL} (h : Edges w bound a n l) : ∀ s ∈ l.map EdgeL.label, s.length ≤ maxLen := by
  intro s hs
  obtain ⟨x, hx, rfl⟩ := List.mem_map.1 hs
  obtain ⟨j, hj, e⟩ := List.mem_iff_getElem.1 hx
  obtain ⟨b, off, s, _, _, _, _, _, h1, _, h2⟩ := h.at_ (k := j) (by rw [← h.1]; exact hj)
  rw [List.getElem?_eq_getElem hj, e] at h1
  obtain rfl := Option.some.inj h1
  rw [len_toList]
  exact h2
theorem edge_ways (nn : Nat) (s : Str) (k x nx : Int) : edgeB nn ⟨s, k, x, nx⟩ = (may s && sortB nn k x && inBk nn nx) := rfl
set_option maxHeartbeats 8000000 in
set_option maxRecDepth 20000 in
theorem validEdges_any (na : Option Addr) (nn nc : Nat) (sa : Option Addr) (sn sc : Nat) (ra : Option Addr) (rn rc : Nat) (a : Option Addr) (n c : Nat) (l : List EdgeL) (w : World) (bound : Nat) (hb : bound ≤ w.heap.size) (h : Edges w bound a n l) :
    Calls Try.prog 95 #[bkV na nn nc sa sn sc ra rn rc, .slice a n c] w fun e w' => e = .returned (.bool (edgesB nn l)) ∧ Below w.heap.size w w' := by
  have hsz := h.2.1
  have HLEN := Lib.hid h.1
  have HN := Lib.hid h
  have HMX := Lib.hid h.max
  have HB0 := Lib.hid (tu1 w (.cells #[.slice na nn nc, .slice sa sn sc, .slice ra rn rc] 26))
  obtain ⟨R, hR⟩ : ∃ R, R = edgesB nn l := ⟨_, rfl⟩
  rw [← hR]
  have HR := Lib.hid hR
  clear h hR
  by_cases h1 : (n : Int) < 1
  · have d1 : decide ((n : Int) < 1) = true := decide_eq_true h1
    have HZ := Lib.hid (HR.out.trans (edgesB_few (.inl (by rw [HLEN.out]; omega))))
    clear h1
    go_enter Try.func95, Try.ntmps95
    go_wp2_with fail
    go_ret
    exact ⟨ret_bool HZ.out.symm, HB0.out⟩
  have d1 : decide ((n : Int) < 1) = false := decide_eq_false h1
  by_cases h6 : 6 < (n : Int)
  · have d6 : decide (6 < (n : Int)) = true := decide_eq_true h6
    have HZ := Lib.hid (HR.out.trans (edgesB_few (.inr (by rw [HLEN.out]; omega))))
    clear h1 h6
    go_enter Try.func95, Try.ntmps95
    go_wp2_with fail
    go_ret
    exact ⟨ret_bool HZ.out.symm, HB0.out⟩
  have d6 : decide (6 < (n : Int)) = false := decide_eq_false h6
  have hn1 : 1 ≤ n := by omega
  have hn6 : n ≤ 6 := by omega
  have HBB := Lib.hid (show (w.alloc (.cells #[.slice na nn nc, .slice sa sn sc, .slice ra rn rc] 26)).heap[w.heap.size]? = some (.cells #[.slice na nn nc, .slice sa sn sc, .slice ra rn rc] 26 (0, 0)) from heap_alloc_new w _)
  clear h1 h6
  go_enter Try.func95, Try.ntmps95
  go_wp2_with fail
  go_loopw [5, 18] (fun o i wr => ∃ (k : Nat) (v : Value), k ≤ n ∧ i = .int .i64 k ∧ v = o ∧ Hid (∀ a ∈ l.take k, edgeB nn a = true) ∧ Hid (wr.ownsRow (w.heap.size + 1) 9 1 v k (((l.take k).map EdgeL.label).map encStr)) ∧ Hid (Below (w.heap.size + 1) (w.alloc (.cells #[.slice na nn nc, .slice sa sn sc, .slice ra rn rc] 26)) wr)) (fun _ i _ => n - (intOf i).toNat)
  case atStart => exact ⟨0, _, Nat.zero_le _, rfl, rfl, Lib.hid (by simp), Lib.hid (World.ownsRow_nil _ _ _ _), Lib.hid (Below.refl _ _)⟩
  case round =>
    obtain ⟨k, v, hk, rfl, hvo, HG, HO, HB1⟩ := hrel
    subst hvo
    have hzr : w.heap.size + 1 ≤ wr.heap.size := by have := HB1.out.size; simpa using this
    have HB := Lib.hid (show Below w.heap.size w wr from HB0.out.trans (HB1.out.mono (by omega)))
    have hbx := (HB1.out.block w.heap.size (by omega)).trans HBB.out
    have b0 : wr.cell? ⟨w.heap.size, 0, none⟩ = some (.slice na nn nc) := by rw [cell_of_row _ _ _ _ _ _ hbx]; rfl
    have b1 : wr.cell? ⟨w.heap.size, 1, none⟩ = some (.slice sa sn sc) := by rw [cell_of_row _ _ _ _ _ _ hbx]; rfl
    have b2 : wr.cell? ⟨w.heap.size, 2, none⟩ = some (.slice ra rn rc) := by rw [cell_of_row _ _ _ _ _ _ hbx]; rfl
    by_cases hlt : k < n
    · obtain ⟨b, off, s, sk, ta, nx, rfl, hbb, hx, ⟨q0, q1, q2, q3⟩, hs⟩ := HN.out.at_ hlt
      have r0 := (HB.out.cell (p := ⟨b, off + k * 4, none⟩) (by show b < _; omega)).trans q0
      have r1 := (HB.out.cell (p := ⟨b, off + k * 4 + 1, none⟩) (by show b < _; omega)).trans q1
      have r2 := (HB.out.cell (p := ⟨b, off + k * 4 + 2, none⟩) (by show b < _; omega)).trans q2
      have r3 := (HB.out.cell (p := ⟨b, off + k * 4 + 3, none⟩) (by show b < _; omega)).trans q3
      have hbz : b < wr.heap.size := by omega
      have hwz : w.heap.size < wr.heap.size := by omega
      have HBX := Lib.hid hbx
      have HBT := Lib.hid (below_on HB.out (tu1 wr (.cells #[.string s, .int .i64 sk, .int .i64 ta, .int .i64 nx] 82)))
      have HET := Lib.hid (heap_alloc_new wr (.cells #[.string s, .int .i64 sk, .int .i64 ta, .int .i64 nx] 82))
      have HBT1 := Lib.hid (HB1.out.alloc hzr (.cells #[.string s, .int .i64 sk, .int .i64 ta, .int .i64 nx] 82))
      have CM := Lib.hid (fun W => may_any s W hs)
      have CC := Lib.hid (fun W => validSort_any na nn nc sa sn sc ra rn rc sk ta W)
      have CI := Lib.hid (fun W => isNode_any na nn nc sa sn sc ra rn rc nx W)
      have HX := Lib.hid hx
      have HS := Lib.hid hs
      have hw := edge_ways nn s.toList sk ta nx
      clear q0 q1 q2 q3 hx hs hbx
      cases hm : may s.toList
      · rw [hm] at CM hw
        have HZ := Lib.hid (HR.out.trans (edgesB_bad HX.out hw))
        clear hm hw
        go_wp2_with (first
          | (go_at_call 94; (with_reducible refine (CM.out _).mono ?_); rintro e w1 ⟨rfl, rfl⟩)
          | fail)
        go_ret
        exact ⟨ret_bool HZ.out.symm, HBT.out⟩
      rw [hm] at CM hw
      cases hc : sortB nn sk ta
      · rw [hc] at CC hw
        have HZ := Lib.hid (HR.out.trans (edgesB_bad HX.out hw))
        clear hm hc hw
        go_wp2_with (first
          | (go_at_call 94; (with_reducible refine (CM.out _).mono ?_); rintro e w1 ⟨rfl, rfl⟩)
          | (go_at_call 103; (with_reducible refine (CC.out _).mono ?_)
             rintro e w2 ⟨rfl, hb2⟩
             have HB2 := Lib.hid (below_on HBT.out hb2)
             clear hb2)
          | fail)
        go_ret
        exact ⟨ret_bool HZ.out.symm, HB2.out⟩
      rw [hc] at CC hw
      cases hi : inBk nn nx
      · rw [hi] at CI hw
        have HZ := Lib.hid (HR.out.trans (edgesB_bad HX.out hw))
        clear hm hc hi hw
        go_wp2_with (first
          | (go_at_call 94; (with_reducible refine (CM.out _).mono ?_); rintro e w1 ⟨rfl, rfl⟩)
          | (go_at_call 103; (with_reducible refine (CC.out _).mono ?_)
             rintro e w2 ⟨rfl, hb2⟩
             have HB2 := Lib.hid (below_on HBT.out hb2)
             have HB21 := Lib.hid (HBT1.out.trans (hb2.mono (by simp; omega)))
             have HO2 := Lib.hid (ownsRow_on (HO.out.alloc (.cells #[.string s, .int .i64 sk, .int .i64 ta, .int .i64 nx] 82)) hb2 (Nat.le_refl _))
             have hbx2 := (hb2.block w.heap.size (by simp; omega)).trans (((tu1 wr (.cells #[.string s, .int .i64 sk, .int .i64 ta, .int .i64 nx] 82)).block w.heap.size (by omega)).trans HBX.out)
             have HET2 := Lib.hid ((hb2.block wr.heap.size (by simp)).trans HET.out)
             have b20 : w2.cell? ⟨w.heap.size, 0, none⟩ = some (.slice na nn nc) := by rw [cell_of_row _ _ _ _ _ _ hbx2]; rfl
             have b21 : w2.cell? ⟨w.heap.size, 1, none⟩ = some (.slice sa sn sc) := by rw [cell_of_row _ _ _ _ _ _ hbx2]; rfl
             have b22 : w2.cell? ⟨w.heap.size, 2, none⟩ = some (.slice ra rn rc) := by rw [cell_of_row _ _ _ _ _ _ hbx2]; rfl
             have t3 : w2.cell? ⟨wr.heap.size, 3, none⟩ = some (.int .i64 nx) := by rw [cell_of_row _ _ _ _ _ _ HET2.out]; rfl
             clear hb2 hbx2)
          | (go_at_call 79; (with_reducible refine (CI.out _).mono ?_)
             rintro e w3 ⟨rfl, hb3⟩
             have HB3 := Lib.hid (below_on HB2.out hb3)
             have HB31 := Lib.hid (HB21.out.trans (hb3.mono (by have := HB21.out.size; simp at this; omega)))
             have HO3 := Lib.hid (ownsRow_on HO2.out hb3 (Nat.le_refl _))
             have t0 : w3.cell? ⟨wr.heap.size, 0, none⟩ = some (.string s) := by
               have := hb3.block wr.heap.size (Array.getElem?_eq_some_iff.1 HET2.out).1
               rw [cell_of_row _ _ _ _ _ _ (this.trans HET2.out)]
               rfl
             clear hb3)
          | fail)
        go_ret
        exact ⟨ret_bool HZ.out.symm, HB3.out⟩
      · rw [hi] at CI hw
        have HG2 := Lib.hid (edge_step HG.out HX.out hw)
        have HST := Lib.hid (show (l.take (k + 1)).map EdgeL.label = (l.take k).map EdgeL.label ++ [s.toList] by rw [tuTake_at HX.out, List.map_append]; rfl)
        clear hm hc hi hw
        go_wp2_with (first
          | (go_at_call 94; (with_reducible refine (CM.out _).mono ?_); rintro e w1 ⟨rfl, rfl⟩)
          | (go_at_call 103; (with_reducible refine (CC.out _).mono ?_)
             rintro e w2 ⟨rfl, hb2⟩
             have HB2 := Lib.hid (below_on HBT.out hb2)
             have HB21 := Lib.hid (HBT1.out.trans (hb2.mono (by simp; omega)))
             have HO2 := Lib.hid (ownsRow_on (HO.out.alloc (.cells #[.string s, .int .i64 sk, .int .i64 ta, .int .i64 nx] 82)) hb2 (Nat.le_refl _))
             have hbx2 := (hb2.block w.heap.size (by simp; omega)).trans (((tu1 wr (.cells #[.string s, .int .i64 sk, .int .i64 ta, .int .i64 nx] 82)).block w.heap.size (by omega)).trans HBX.out)
             have HET2 := Lib.hid ((hb2.block wr.heap.size (by simp)).trans HET.out)
             have b20 : w2.cell? ⟨w.heap.size, 0, none⟩ = some (.slice na nn nc) := by rw [cell_of_row _ _ _ _ _ _ hbx2]; rfl
             have b21 : w2.cell? ⟨w.heap.size, 1, none⟩ = some (.slice sa sn sc) := by rw [cell_of_row _ _ _ _ _ _ hbx2]; rfl
             have b22 : w2.cell? ⟨w.heap.size, 2, none⟩ = some (.slice ra rn rc) := by rw [cell_of_row _ _ _ _ _ _ hbx2]; rfl
             have t3 : w2.cell? ⟨wr.heap.size, 3, none⟩ = some (.int .i64 nx) := by rw [cell_of_row _ _ _ _ _ _ HET2.out]; rfl
             clear hb2 hbx2)
          | (go_at_call 79; (with_reducible refine (CI.out _).mono ?_)
             rintro e w3 ⟨rfl, hb3⟩
             have HB3 := Lib.hid (below_on HB2.out hb3)
             have HB31 := Lib.hid (HB21.out.trans (hb3.mono (by have := HB21.out.size; simp at this; omega)))
             have HO3 := Lib.hid (ownsRow_on HO2.out hb3 (Nat.le_refl _))
             have t0 : w3.cell? ⟨wr.heap.size, 0, none⟩ = some (.string s) := by
               have := hb3.block wr.heap.size (Array.getElem?_eq_some_iff.1 HET2.out).1
               rw [cell_of_row _ _ _ _ _ _ (this.trans HET2.out)]
               rfl
             clear hb3)
          | (at_builtin
             refine wpList_append_strs _ rfl (.tmp 40) (.tmp 43) _ rfl (w.heap.size + 1) 9 Try.underlying23 info9 v k ((l.take k).map EdgeL.label) rfl (HO3.out.alloc _) _ _ 1 1 [s.toList] rfl (strs_one w3 s HS.out) (by omega) (by have := HB31.out.size; simp at this ⊢; omega) ?_
             intro v4 w4 own4 gr4 at4
             have HO4 := Lib.hid own4
             have HB4 := Lib.hid ((HB31.out.alloc (by have := HB31.out.size; simpa using this) _).grown gr4 (by have := HB31.out.size; simp at this ⊢; omega) (fun j hj => (HO3.out.lt j hj).1))
             clear own4 gr4 at4)
          | fail)
        go_roundw
        case rel => exact ⟨k + 1, v4, by omega, by go_num, rfl, HG2, Lib.hid (by rw [HST.out]; exact HO4.out), HB4⟩
        case measure => simp [intOf]; omega
    · obtain rfl : k = n := by omega
      have hall : l.take k = l := List.take_of_length_le (by have := HLEN.out; omega)
      have hz := HR.out.trans (edgesB_up (n := nn) (by rw [HLEN.out]; exact hn1) (by rw [HLEN.out]; exact hn6) (by
        have := HG.out
        rw [hall] at this
        exact this))
      have ho := HO.out
      rw [hall] at ho
      obtain ⟨oa, oc, hvo, hss, _, _⟩ := Strs.of_own ho (by omega) HMX.out
      subst hvo
      have CO := Lib.hid (rising_any oa k oc (l.map EdgeL.label) wr _ (Nat.le_refl _) hss)
      rw [← hz] at CO
      clear ho hss hz hall
      go_wp2_with (first
        | (go_at_call 78; (with_reducible refine CO.out.mono ?_)
           rintro e w4 ⟨rfl, hb4⟩
           have HB4 := Lib.hid (below_on HB.out hb4)
           clear hb4)
        | fail)
      go_ret
      exact ⟨rfl, HB4.out⟩
end Go.Proofs.Ytgefhgcpnfbigaa
