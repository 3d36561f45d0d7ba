/- Contracts of the reference's sameInts, SameEdges and SameBook, where both sides read the same. -/
import Derived.Test.YthdnibemicjmfaaBkMake
import Derived.Test.YthdnibemicjmfaaNmHas
import Derived.Deep.RegionHeld3
import Derived.Deep.DeepCutAuto
import Derived.Deep.CutBlock
import Derived.BigQuiet
namespace Go.Proofs.Ythdnibemicjmfaa
open Go.RowKit Go.Sort

set_option maxHeartbeats 4000000 in
theorem sameInts10_eq (a b : Option Addr) (n m ca cb : Nat) (l : List Int) (w : World) (bound : Nat) (ha : Nums w bound a n l) (hb : Nums w bound b m l) :
    Calls Try.prog 34 #[.slice a n ca, .slice b m cb] w fun e w' => e = .returned (.bool true) ∧ Below w.heap.size w w' := by
  have hnm : m = n := hb.1.symm.trans ha.1
  subst hnm
  have hsn := ha.2.1
  have HA := Lib.hid ha
  have HB := Lib.hid hb
  clear ha hb
  have n0 : ((m : Int) != (m : Int)) = false := by simp
  go_enter Try.func34, Try.ntmps34
  go_wp2_with fail
  go_loopw [5] (fun i wr => ∃ k : Nat, k ≤ m ∧ i = .int .i64 k ∧ ∃ q, wr = w.drewN q) (fun i _ => m - (intOf i).toNat)
  case atStart => exact ⟨0, Nat.zero_le _, rfl, 0, rfl⟩
  case round =>
    obtain ⟨k, hk, rfl, q, rfl⟩ := hrel
    by_cases hlt : k < m
    · obtain ⟨b1, o1, x, rfl, _, hx, hc1⟩ := HA.out.at_ hlt
      obtain ⟨b2, o2, y, rfl, _, hy, hc2⟩ := HB.out.at_ hlt
      rw [hx] at hy
      obtain rfl := Option.some.inj hy
      have i1 : (k : Int) < (m : Int) := by omega
      have i2 : (0 : Int) ≤ (k : Int) := by omega
      have n1 : (x != x) = false := by simp
      clear hx hy
      go_wp2_with fail
      go_quiet (fail)
      go_wp2_with fail
      go_roundw
      case rel => exact ⟨k + 1, by omega, by go_num, q + nq, rfl⟩
      case measure => simp [intOf]; omega
    · have d1 : decide ((k : Int) < (m : Int)) = false := decide_eq_false (by omega)
      go_wp2_with fail
      go_ret
      exact ⟨rfl, bel_drewN (Below.refl _ _) q⟩
set_option maxHeartbeats 4000000 in
theorem sameEdges_eq (a b : Option Addr) (n m ca cb : Nat) (l : List EdgeL) (w : World) (bound : Nat) (ha : Edges w bound a n l) (hb : Edges w bound b m l) :
    Calls Try.prog 35 #[.slice a n ca, .slice b m cb] w fun e w' => e = .returned (.bool true) ∧ Below w.heap.size w w' := by
  have hnm : m = n := hb.1.symm.trans ha.1
  subst hnm
  have hsn := ha.2.1
  have HA := Lib.hid ha
  have HB := Lib.hid hb
  clear ha hb
  have n0 : ((m : Int) != (m : Int)) = false := by simp
  go_enter Try.func35, Try.ntmps35
  go_wp2_with fail
  go_loopw [5] (fun i wr => ∃ k : Nat, k ≤ m ∧ i = .int .i64 k ∧ ∃ q, wr = w.drewN q) (fun i _ => m - (intOf i).toNat)
  case atStart => exact ⟨0, Nat.zero_le _, rfl, 0, rfl⟩
  case round =>
    obtain ⟨k, hk, rfl, q, rfl⟩ := hrel
    by_cases hlt : k < m
    · obtain ⟨b1, o1, s, sk, ta, nx, rfl, _, hx, ⟨c0, c1, c2, c3⟩, _⟩ := HA.out.at_ hlt
      obtain ⟨b2, o2, s', sk', ta', nx', rfl, _, hy, ⟨e0, e1, e2, e3⟩, _⟩ := HB.out.at_ hlt
      rw [hx] at hy
      obtain ⟨f1, f2, f3, f4⟩ := EdgeL.mk.inj (Option.some.inj hy)
      obtain rfl := toList_inj f1
      subst f2 f3 f4
      have i1 : (k : Int) < (m : Int) := by omega
      have i2 : (0 : Int) ≤ (k : Int) := by omega
      have n1 : (s.toList != s.toList) = false := by simp
      have n2 : (s.toList == s.toList) = true := by simp
      clear hx hy f1
      go_wp2_with fail
      go_quiet (fail)
      go_wp2_with fail
      go_roundw
      case rel => exact ⟨k + 1, by omega, by go_num, q + nq, rfl⟩
      case measure => simp [intOf]; omega
    · have d1 : decide ((k : Int) < (m : Int)) = false := decide_eq_false (by omega)
      go_wp2_with fail
      go_ret
      exact ⟨rfl, bel_drewN (Below.refl _ _) q⟩
/-- Two boxes that hold nodes. -/
theorem nod_pair (w : World) (k k' : Int) (s s' : ByteArray) (a a' : Option Addr) (n c n' c' : Nat) :
    let W := ((w.alloc (.cells #[.int .i64 k, .string s, .slice a n c] 41)).alloc (.cells #[.int .i64 k', .string s', .slice a' n' c'] 41)).drew
    (W.cell? ⟨w.heap.size, 0, none⟩ = some (.int .i64 k) ∧ W.cell? ⟨w.heap.size, 1, none⟩ = some (.string s) ∧ W.cell? ⟨w.heap.size, 2, none⟩ = some (.slice a n c)) ∧ (W.cell? ⟨w.heap.size + 1, 0, none⟩ = some (.int .i64 k') ∧ W.cell? ⟨w.heap.size + 1, 1, none⟩ = some (.string s') ∧ W.cell? ⟨w.heap.size + 1, 2, none⟩ = some (.slice a' n' c')) ∧ w.heap.size < W.heap.size ∧ w.heap.size + 1 < W.heap.size ∧ Below w.heap.size w W := by
  intro W
  have h1 : W.heap[w.heap.size]? = some (.cells #[.int .i64 k, .string s, .slice a n c] 41 (0, 0)) :=
    ((tu1 (w.alloc (.cells #[.int .i64 k, .string s, .slice a n c] 41)) (.cells #[.int .i64 k', .string s', .slice a' n' c'] 41)).block w.heap.size (by simp)).trans (heap_alloc_new w _)
  have h2 : W.heap[w.heap.size + 1]? = some (.cells #[.int .i64 k', .string s', .slice a' n' c'] 41 (0, 0)) := by
    have := heap_alloc_new (w.alloc (.cells #[.int .i64 k, .string s, .slice a n c] 41)) (.cells #[.int .i64 k', .string s', .slice a' n' c'] 41)
    rw [World.size_alloc] at this
    exact this
  have hb : Below w.heap.size w W := bel_drewN (below_on (tu1 w _) (tu1 _ _)) 1
  exact ⟨⟨by rw [cell_of_row _ _ _ _ _ _ h1]; rfl, by rw [cell_of_row _ _ _ _ _ _ h1]; rfl, by rw [cell_of_row _ _ _ _ _ _ h1]; rfl⟩, ⟨by rw [cell_of_row _ _ _ _ _ _ h2]; rfl, by rw [cell_of_row _ _ _ _ _ _ h2]; rfl, by rw [cell_of_row _ _ _ _ _ _ h2]; rfl⟩, (Array.getElem?_eq_some_iff.1 h1).1, (Array.getElem?_eq_some_iff.1 h2).1, hb⟩
theorem bel_drew6 {B : Nat} {w W : World} (h : Below B w W) : Below B w W.drew := bel_drewN h 1
set_option maxHeartbeats 16000000 in
set_option maxRecDepth 20000 in
theorem sameBook_eq (na : Option Addr) (nn nc : Nat) (sa : Option Addr) (sn sc : Nat) (ra : Option Addr) (rn rc : Nat) (na' : Option Addr) (nn' nc' : Nat) (sa' : Option Addr) (sn' sc' : Nat) (ra' : Option Addr) (rn' rc' : Nat) (b : BookL) (w : World) (bound : Nat) (hb : bound ≤ w.heap.size) (h : BkIn w bound na nn sa sn ra rn b) (h' : BkIn w bound na' nn' sa' sn' ra' rn' b) :
    Calls Try.prog 16 #[bkV na nn nc sa sn sc ra rn rc, bkV na' nn' nc' sa' sn' sc' ra' rn' rc'] w fun e w' => e = .returned (.bool true) ∧ Below w.heap.size w w' := by
  have e1 : nn = nn' := h.nodes.1.symm.trans h'.nodes.1
  subst e1
  have e2 : sn = sn' := h.names.1.symm.trans h'.names.1
  subst e2
  have e3 : rn = rn' := h.roots.1.symm.trans h'.roots.1
  subst e3
  have hnz := h.nodes.2.1
  obtain ⟨W1, hW1⟩ : ∃ W1, W1 = (w.alloc (.cells #[.slice na nn nc, .slice sa sn sc, .slice ra rn rc] 26)).alloc (.cells #[.slice na' nn nc', .slice sa' sn sc', .slice ra' rn rc'] 26) := ⟨_, rfl⟩
  have HB1 := Lib.hid (show Below w.heap.size w W1 by rw [hW1]; exact below_on (tu1 w _) (tu1 _ _))
  have HZ1 := Lib.hid (show W1.heap.size = w.heap.size + 1 + 1 by rw [hW1]; simp)
  have HX1 := Lib.hid (show BBox W1 w.heap.size na nn nc sa sn sc ra rn rc by rw [hW1]; exact ((tu1 _ _).block w.heap.size (by simp)).trans (heap_alloc_new w _))
  have HY1 := Lib.hid (show BBox W1 (w.heap.size + 1) na' nn nc' sa' sn sc' ra' rn rc' by
    have := heap_alloc_new (w.alloc (.cells #[.slice na nn nc, .slice sa sn sc, .slice ra rn rc] 26)) (.cells #[.slice na' nn nc', .slice sa' sn sc', .slice ra' rn rc'] 26)
    rw [World.size_alloc] at this
    rw [hW1]
    exact this)
  have HI := Lib.hid (show BkIn W1 W1.heap.size na nn sa sn ra rn b from (h.below (HB1.out.mono hb)).more (by have := HZ1.out; omega))
  have HJ := Lib.hid (show BkIn W1 W1.heap.size na' nn sa' sn ra' rn b from (h'.below (HB1.out.mono hb)).more (by have := HZ1.out; omega))
  have cn := same_any sa sa' sn sn sc sc' b.names b.names W1 _ HI.out.names HJ.out.names
  have hd : decide (b.names = b.names) = true := decide_eq_true rfl
  rw [hd] at cn
  have CN := Lib.hid cn
  have CI := Lib.hid (fun (W : World) (hW : Below W1.heap.size W1 W) => sameInts10_eq ra ra' rn rn rc rc' b.roots W _ (HI.out.roots.below hW) (HJ.out.roots.below hW))
  have n0 : ((nn : Int) != (nn : Int)) = false := by simp
  clear h h' cn hd
  go_enter Try.func16, Try.ntmps16
  go_upto_region 1 with fail
  rw [← hW1]
  clear hW1
  obtain ⟨y0, y1, y2⟩ := HX1.out.cells
  obtain ⟨z0, z1, z2⟩ := HY1.out.cells
  go_upto_region 3 with (first
    | (go_at_call 21; (with_reducible refine CN.out.mono ?_)
       rintro e w2 ⟨rfl, q2, rfl⟩)
    | (go_at_call 34; (with_reducible refine (CI.out _ (bel_drewN (Below.refl _ _) q2)).mono ?_)
       rintro e w3 ⟨rfl, hb3⟩
       have HB3 := Lib.hid (below_on (bel_drewN (Below.refl W1.heap.size W1) q2) hb3)
       clear hb3)
    | fail)
  clear y0 y1 y2 z0 z1 z2 n0
  go_wp2_with fail
  go_loopw [5] (fun i wr => ∃ k : Nat, k ≤ nn ∧ i = .int .i64 k ∧ Hid (Below w3.heap.size w3 wr)) (fun i _ => nn - (intOf i).toNat)
  case atStart => exact ⟨0, Nat.zero_le _, rfl, Lib.hid (Below.refl _ _)⟩
  case round =>
    obtain ⟨k, hk, rfl, HBr⟩ := hrel
    obtain ⟨ws, hws⟩ : ∃ ws : World, ws = wr := ⟨_, rfl⟩
    subst hws
    have HBs := Lib.hid (below_on HB3.out HBr.out)
    have HP := Lib.hid (fun (W : World) (hW : Below ws.heap.size ws W) => And.intro (HX1.out.on (below_on HBs.out hW) (by have := HZ1.out; omega)).cells (HY1.out.on (below_on HBs.out hW) (by have := HZ1.out; omega)).cells)
    obtain ⟨⟨y0, y1, y2⟩, z0, z1, z2⟩ := HP.out ws (Below.refl _ _)
    by_cases hlt : k < nn
    · obtain ⟨nb, no, kd, pe, ta, an, ac, tl, ena, hnb, hux, ⟨xc0, xc1, xc2⟩, _, hta⟩ := (HI.out.nodes.on HBs.out).at_ hlt
      obtain ⟨mb, mo, ke, qe, va, vn, vc, vl, enb, hmb, hvx, ⟨yc0, yc1, yc2⟩, _, hva⟩ := (HJ.out.nodes.on HBs.out).at_ hlt
      subst ena enb
      rw [hux] at hvx
      obtain ⟨f1, f2, f3⟩ := NodeL.mk.inj (Option.some.inj hvx)
      obtain rfl := toList_inj f2
      subst f1 f3
      have CE := Lib.hid (fun (W : World) (hW : Below ws.heap.size ws W) => sameEdges_eq ta va an vn ac vc tl W _ (hta.below hW) (hva.below hW))
      have i1 : (k : Int) < (nn : Int) := by omega
      have i2 : (0 : Int) ≤ (k : Int) := by omega
      have d1 : decide ((k : Int) < (nn : Int)) = true := decide_eq_true i1
      have HK := Lib.hid (fun (W : World) (hW : Below ws.heap.size ws W) => show (W.cell? ⟨w.heap.size, 0, none⟩ = some (.slice (some ⟨nb, no, none⟩) nn nc) ∧ W.cell? ⟨w.heap.size + 1, 0, none⟩ = some (.slice (some ⟨mb, mo, none⟩) nn nc')) ∧ (W.cell? ⟨nb, no + k * 3, none⟩ = some (.int .i64 kd) ∧ W.cell? ⟨nb, no + k * 3 + 1, none⟩ = some (.string pe) ∧ W.cell? ⟨nb, no + k * 3 + 2, none⟩ = some (.slice ta an ac)) ∧ W.cell? ⟨mb, mo + k * 3, none⟩ = some (.int .i64 kd) ∧ W.cell? ⟨mb, mo + k * 3 + 1, none⟩ = some (.string pe) ∧ W.cell? ⟨mb, mo + k * 3 + 2, none⟩ = some (.slice va vn vc) from
        ⟨⟨(HP.out W hW).1.1, (HP.out W hW).2.1⟩, ⟨(hW.cell (p := ⟨nb, no + k * 3, none⟩) hnb).trans xc0, (hW.cell (p := ⟨nb, no + k * 3 + 1, none⟩) hnb).trans xc1, (hW.cell (p := ⟨nb, no + k * 3 + 2, none⟩) hnb).trans xc2⟩, (hW.cell (p := ⟨mb, mo + k * 3, none⟩) hmb).trans yc0, (hW.cell (p := ⟨mb, mo + k * 3 + 1, none⟩) hmb).trans yc1, (hW.cell (p := ⟨mb, mo + k * 3 + 2, none⟩) hmb).trans yc2⟩)
      have HD := Lib.hid (Below.refl ws.heap.size ws)
      clear hux hvx hta hva xc0 xc1 xc2 yc0 yc1 yc2 f2 hnb hmb
      go_upto_region 6 with fail
      clear y0 y1 y2 z0 z1 z2
      go_cut [6, 7] (fun s6 s7 wx => ∃ gx gy : Nat, s6 = .pointer (some ⟨gx, 0, none⟩) ∧ s7 = .pointer (some ⟨gy, 0, none⟩) ∧ Hid (wx.cell? ⟨gx, 0, none⟩ = some (.int .i64 kd) ∧ wx.cell? ⟨gx, 1, none⟩ = some (.string pe) ∧ wx.cell? ⟨gx, 2, none⟩ = some (.slice ta an ac)) ∧ Hid (wx.cell? ⟨gy, 0, none⟩ = some (.int .i64 kd) ∧ wx.cell? ⟨gy, 1, none⟩ = some (.string pe) ∧ wx.cell? ⟨gy, 2, none⟩ = some (.slice va vn vc)) ∧ gx < wx.heap.size ∧ gy < wx.heap.size ∧ Hid (Below ws.heap.size ws wx))
      case first =>
        go_region_held3 (fun W => (W.cell? ⟨w.heap.size, 0, none⟩ = some (.slice (some ⟨nb, no, none⟩) nn nc) ∧ W.cell? ⟨w.heap.size + 1, 0, none⟩ = some (.slice (some ⟨mb, mo, none⟩) nn nc')) ∧ (W.cell? ⟨nb, no + k * 3, none⟩ = some (.int .i64 kd) ∧ W.cell? ⟨nb, no + k * 3 + 1, none⟩ = some (.string pe) ∧ W.cell? ⟨nb, no + k * 3 + 2, none⟩ = some (.slice ta an ac)) ∧ W.cell? ⟨mb, mo + k * 3, none⟩ = some (.int .i64 kd) ∧ W.cell? ⟨mb, mo + k * 3 + 1, none⟩ = some (.string pe) ∧ W.cell? ⟨mb, mo + k * 3 + 2, none⟩ = some (.slice va vn vc))
          (first | exact HK.out _ HD.out | exact HK.out _ (bel_drew6 HD.out) | (refine HK.out _ ?_; ((repeat' (first | exact HD.out | with_reducible apply bel_drew6 | with_reducible apply Below.setCell | with_reducible apply Below.alloc)) <;> simp)))
          (fail)
        all_goals (go_wp2_with fail; go_meet)
        case rel =>
          have h := nod_pair ws kd kd pe pe ta va an ac vn vc
          exact ⟨_, _, rfl, rfl, Lib.hid h.1, Lib.hid h.2.1, h.2.2.1, h.2.2.2.1, Lib.hid h.2.2.2.2⟩
        case rel =>
          have h := nod_pair ws kd kd pe pe va ta vn vc an ac
          exact ⟨_, _, rfl, rfl, Lib.hid h.2.1, Lib.hid h.1, h.2.2.2.1, h.2.2.1, Lib.hid h.2.2.2.2⟩
      case rest =>
        obtain ⟨gx, gy, e6, e7, HXC, HYC, hgx, hgy, HBE⟩ := hcut
        subst e6 e7
        obtain ⟨x0, x1, x2⟩ := HXC.out
        obtain ⟨u0, u1, u2⟩ := HYC.out
        have n1 : (kd != kd) = false := by simp
        have n2 : (pe.toList != pe.toList) = false := by simp
        go_wp2_with (first
          | (go_at_call 35; (with_reducible refine (CE.out _ HBE.out).mono ?_)
             rintro e wf ⟨rfl, hb⟩
             have HBf := Lib.hid (below_on HBE.out hb)
             clear hb)
          | fail)
        go_roundw
        case rel => exact ⟨k + 1, by omega, by go_num, Lib.hid (below_on HBr.out HBf.out)⟩
        case measure => simp [intOf]; omega
    · have d1 : decide ((k : Int) < (nn : Int)) = false := decide_eq_false (by omega)
      go_wp2_with fail
      go_ret
      exact ⟨rfl, below_on HB1.out HBs.out⟩
end Go.Proofs.Ythdnibemicjmfaa
