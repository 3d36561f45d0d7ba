/- Law: GlobeSteps. -/
import Derived.Test.YtcjanipjgjgjpaaGlFirsts
import Derived.Deep.RegionHeld3
import Derived.Deep.CutRange
namespace Go.Proofs.Ytcjanipjgjgjpaa
open Go.RowKit

set_option maxHeartbeats 16000000 in
set_option maxRecDepth 20000 in
theorem globeSteps_walk (a : Option Addr) (n c : Nat) (l : List Int) (y z : Int) (w : World) (h : Nums w w.heap.size a n l) (hlim : n * 8 ≤ 140737488351232) :
    Calls Try.prog 5 #[.slice a n c, .int .i64 y, .int .i64 z] w fun e w' => e = .returned (.bool true) ∧ Below w.heap.size w w' := by
  have HN := Lib.hid h
  have HF := Lib.hid (glFirst_any w)
  have hn0 := h.1
  have HLN := Lib.hid hn0
  clear h hn0
  go_enter Try.func5, Try.ntmps5
  go_upto_region 4 with (first
    | (go_at_call 8; (with_reducible refine HF.out.mono ?_)
       rintro e w1 ⟨rfl, hb1⟩
       have HB1 := Lib.hid hb1
       clear hb1)
    | (go_at_call 10; (with_reducible refine (given_any _).mono ?_)
       rintro e w2 ⟨xa, xb, rfl, _, hb2⟩
       have HB2 := Lib.hid (below_on HB1.out hb2)
       clear hb2)
    | (at_builtin
       refine wpList_append_plus rfl (.tmp 17) (.tmp 18) rfl w2.heap.size w.heap.size (.slice (some ⟨w2.heap.size, 0, none⟩) 1 1) a n c [2] l rfl rfl (IInts.one (W := w2) (cs := #[.int .i64 2]) (base := w2.heap.size) (g := w2.heap.size) 2 rfl rfl (Nat.le_refl _)) ((HN.out.below HB2.out).alloc HB2.out.size _) (by show (1 + n) * 8 ≤ _; omega) (by simp) ?_
       intro v3 w3 hown hgr
       obtain ⟨pa, pc, hv, _, _, _, hnu⟩ := hown.sees
       obtain ⟨pn, hpn⟩ : ∃ pn, pn = ([2] ++ l : List Int).length := ⟨_, rfl⟩
       rw [← hpn] at hv hnu
       subst hv
       have hpl : pn * 8 ≤ 140737488355328 := by rw [hpn, List.length_append, HLN.out]; show (1 + n) * 8 ≤ _; omega
       clear hpn
       have HNU := Lib.hid (show Nums w3 w3.heap.size pa pn (2 :: l) from hnu)
       have HB3 := Lib.hid ((HB2.out.alloc HB2.out.size (.cells #[.int .i64 2] 3)).grown hgr (by have := HB2.out.size; simp; omega) (fun j e => by cases e; exact HB2.out.size))
       clear hown hgr hnu)
    | (go_at_call 9; (with_reducible refine (law2_any xa xb pa pn pc l w3 HNU.out hpl).mono ?_)
       rintro e w4 ⟨⟨many, ⟨hm2, hm4⟩, ra, rc, sa, sn, sc, ps, rfl, hm, hr, hl, hok, h2, h9⟩, hb4⟩
       have HB4 := Lib.hid (below_on HB3.out hb4)
       obtain ⟨hpin, hmade⟩ := made_in hm2 hm4 hm hr hl hok h2 h9
       have HPI := Lib.hid hpin
       have HMD := Lib.hid hmade
       clear hm hr hl hok h2 h9 hb4 hpin hmade)
    | fail)
  have HG5 := Lib.hid (GIn.begin (rc := rc) (sc := sc) HB4.out HPI.out)
  generalize hg5 : w4.heap.size = g5 at HG5 ⊢
  generalize hw5 : w4.alloc (.cells #[.string ⟨#[112]⟩, .slice ra many rc, .slice sa sn sc] 27) = w5 at HG5 ⊢
  clear hg5 hw5 HPI HB4 HB3 HNU HB2 HB1 HF HN hpl
  obtain ⟨pc0, pc1, pc2⟩ := HG5.out.box.cells
  have hsn2 := HMD.out.low
  have hsn9 := HMD.out.high
  obtain ⟨ri, hri, hmz⟩ := mod_lt z many (by omega) (by omega)
  obtain ⟨k, hk, hmy⟩ := mod_lt y sn (by omega) (by omega)
  obtain ⟨rb, ro, rfl, hrb, hrc⟩ := HG5.out.roles hri
  have hne : ((many : Int) == 0) = false := by rw [beq_eq_false_iff_ne]; omega
  have i1 : (ri : Int) < (many : Int) := by omega
  have i2 : (0 : Int) ≤ (ri : Int) := by omega
  have hne2 : ((sn : Int) == 0) = false := by rw [beq_eq_false_iff_ne]; omega
  have i3 : (k : Int) < (sn : Int) := by omega
  have i4 : (0 : Int) ≤ (k : Int) := by omega
  have hwm : IntKind.u64.wrap (many : Int) = (many : Int) := IntWalk.u64_in _ (by omega)
  have hws : IntKind.u64.wrap (sn : Int) = (sn : Int) := IntWalk.u64_in _ (by omega)
  go_quiet (fail)
  go_upto_region 6 with fail
  have HG6 := Lib.hid (HG5.out.on (bel_drewN (Below.refl _ _) nq))
  generalize hw6 : w5.drewN nq = w6 at HG6 ⊢
  clear hw6 hmz hmy hwm hws hrc hrb pc0 pc1 pc2
  obtain ⟨pc0, pc1, pc2⟩ := HG6.out.box.cells
  have HLEN := Lib.hid HMD.out.len
  obtain ⟨b, off, q, s, aa, an, ac, al, hsa, hbb, hx, ⟨q0, q1, q2⟩, hq, hs, hal⟩ := HG6.out.pin.pts.at_ hk
  subst hsa
  have HPO := Lib.hid (show pointOf ps k = ⟨q.toList, s.toList, al⟩ by unfold pointOf; rw [hx]; rfl)
  have HB7 := Lib.hid (tu1 w6 (.cells #[.string q, .string s, .slice aa an ac] 40))
  have HG7 := Lib.hid (HG6.out.on HB7.out)
  have HX7 := Lib.hid (show (w6.alloc (.cells #[.string q, .string s, .slice aa an ac] 40)).heap[w6.heap.size]? = some (.cells #[.string q, .string s, .slice aa an ac] 40 (0, 0)) from heap_alloc_new w6 _)
  have HAL7 := Lib.hid (hal.on HB7.out)
  have HGD := Lib.hid (show ∀ x ∈ al, 0 ≤ x.next ∧ x.next < (sn : Int) from fun x hxa => by
    rcases pointB_ways ((protB_all HMD.out.ok).2.2.2.2 _ (List.mem_of_getElem? hx)) with h0 | ⟨_, _, _, _, h4⟩
    · have h5 := (endB_iff.1 h0).2.2
      dsimp only at h5
      rw [h5] at hxa
      cases hxa
    · have := (armB_all ((armsB_all h4).1 x hxa)).2.2
      rw [HLEN.out] at this
      exact this)
  go_upto_region 7 with fail
  generalize hgx : w6.heap.size = gx at HX7 ⊢
  generalize hw7 : w6.alloc (.cells #[.string q, .string s, .slice aa an ac] 40) = w7 at HG7 HX7 HAL7 ⊢
  clear hw7 hgx HB7 q0 q1 q2 hx hq hs hal hbb pc0 pc1 pc2
  have hgx2 : gx < w7.heap.size := (Array.getElem?_eq_some_iff.1 HX7.out).1
  have x0 : w7.cell? ⟨gx, 0, none⟩ = some (.string q) := by rw [cell_of_row _ _ _ _ _ _ HX7.out]; rfl
  have x1 : w7.cell? ⟨gx, 1, none⟩ = some (.string s) := by rw [cell_of_row _ _ _ _ _ _ HX7.out]; rfl
  have x2 : w7.cell? ⟨gx, 2, none⟩ = some (.slice aa an ac) := by rw [cell_of_row _ _ _ _ _ _ HX7.out]; rfl
  obtain ⟨_, _, _⟩ := HG7.out.box.cells
  cases hq1 : (q.toList == (rolS ri).toList)
  · cases hs1 : (s.toList == (rolS ri).toList)
    · have hin : inP ⟨q.toList, s.toList, al⟩ (rolS ri).toList = false := by unfold inP; dsimp only; rw [hq1, hs1]; rfl
      have HOU := Lib.hid (show outsP ps (rolS ri).toList k = al.map fun a => a.next.toNat by unfold outsP; rw [HPO.out, hin]; rfl)
      have HST := Lib.hid (near_step HMD.out.ok (rolS ri).toList (k := k) (by rw [HLEN.out]; exact hk) (by rw [HPO.out]; exact hin))
      have HOL := Lib.hid (show ∀ x ∈ al.map (fun a => a.next.toNat), x < ps.length from fun x hx => by
        obtain ⟨a9, ha9, rfl⟩ := List.mem_map.1 hx
        have := HGD.out a9 ha9
        rw [HLEN.out]
        omega)
      have CL := Lib.hid (fun (k2 : Nat) (W : World) (hW : Below w7.heap.size w7 W) (hk2 : k2 < sn) => (HG7.out.on hW).lost HMD.out hri hk2)
      have hanz := HAL7.out.2.1
      clear hin
      go_wp2_with fail
      go_loopw [11, 12, 13] (fun o b i wr => ∃ (k2 : Nat) (v : Value), k2 ≤ an ∧ i = .int .i64 k2 ∧ v = o ∧ b = .bool ((al.take k2).all fun a => (nearP ps (rolS ri).toList [a.next.toNat]).isEmpty) ∧ Hid (IInts wr w7.heap.size v (rowI ((al.take k2).map fun a => a.next.toNat))) ∧ Hid (Below w7.heap.size w7 wr)) (fun _ _ i _ => an - (intOf i).toNat)
      case atStart => exact ⟨0, _, Nat.zero_le _, rfl, rfl, rfl, Lib.hid (IInts.zero _ _), Lib.hid (Below.refl _ _)⟩
      case round =>
        obtain ⟨k2, v, hk2, rfl, hvo, hbo, HO, HBr⟩ := hrel
        subst hvo
        obtain ⟨B, hB⟩ : ∃ B, ((al.take k2).all fun a => (nearP ps (rolS ri).toList [a.next.toNat]).isEmpty) = B := ⟨_, rfl⟩
        rw [hB] at hbo
        subst hbo
        have HBE := Lib.hid hB
        clear hB
        have HGr := Lib.hid (HG7.out.on HBr.out)
        have hzr := HBr.out.size
        have g0 := (HBr.out.cell (p := ⟨gx, 0, none⟩) hgx2).trans x0
        have g1 := (HBr.out.cell (p := ⟨gx, 1, none⟩) hgx2).trans x1
        have g2 := (HBr.out.cell (p := ⟨gx, 2, none⟩) hgx2).trans x2
        obtain ⟨_, _, _⟩ := HGr.out.box.cells
        by_cases hlt : k2 < an
        · obtain ⟨lb, lo, s6, u6, ck, nx, haa, hlb, hx6, ⟨z0, z1, z2, z3⟩, _, _⟩ := HAL7.out.at_ hlt
          subst haa
          have r3 := (HBr.out.cell (p := ⟨lb, lo + k2 * 4 + 3, none⟩) hlb).trans z3
          have r3' := z3
          have hgd := HGD.out _ (List.mem_of_getElem? hx6)
          dsimp only at hgd
          obtain ⟨x9, rfl⟩ : ∃ x9 : Nat, nx = (x9 : Int) := ⟨nx.toNat, by omega⟩
          have hx9 : x9 < sn := by omega
          have HT1 := Lib.hid (show (al.take (k2 + 1)).map (fun a => a.next.toNat) = (al.take k2).map (fun a => a.next.toNat) ++ [x9] by rw [tuTake_at hx6, List.map_append]; rfl)
          have HT2 := Lib.hid (show ((al.take (k2 + 1)).all fun a => (nearP ps (rolS ri).toList [a.next.toNat]).isEmpty) = (((al.take k2).all fun a => (nearP ps (rolS ri).toList [a.next.toNat]).isEmpty) && (nearP ps (rolS ri).toList [x9]).isEmpty) by
            rw [tuTake_at hx6, List.all_append]
            simp)
          rw [HBE.out] at HT2
          have j1 : (k2 : Int) < (an : Int) := by omega
          have j2 : (0 : Int) ≤ (k2 : Int) := by omega
          have hlen2 : (rowI ((al.take k2).map fun a => a.next.toNat)).length ≤ 1000 := by
            rw [rowI_len, List.length_map, List.length_take]
            have h6 : an ≤ 6 := by
              rcases pointB_ways ((protB_all HMD.out.ok).2.2.2.2 _ (pointOf_lt (ps := ps) (p := k) (by rw [HLEN.out]; exact hk) ▸ List.getElem_mem (by rw [HLEN.out]; exact hk))) with h0 | ⟨_, _, _, _, h4⟩
              · rw [HPO.out] at h0
                have h5 := (endB_iff.1 h0).2.2
                dsimp only at h5
                have := HAL7.out.1
                rw [h5] at this
                simp at this
                omega
              · rw [HPO.out] at h4
                have := (armsB_all h4).2.2.2
                have := HAL7.out.1
                dsimp only at *
                omega
            omega
          clear z0 z1 z2 z3 hx6 hgd
          go_upto_region 15 with (first
            | (at_builtin
               refine wpList_append_iints2 rfl (.tmp 72) (.tmp 79) rfl w7.heap.size v (rowI ((al.take k2).map fun a => a.next.toNat)) (x9 : Int) rfl rfl rfl rfl HO.out hzr (by omega) ?_
               intro v6 w8 ho6 hg6 hat6
               have HO6 := Lib.hid ho6
               have HB6 := Lib.hid ((HBr.out.alloc hzr (.cells #[.int .i64 (x9 : Int)] 3)).grown hg6 (by simp; omega) (fun k e => (HO.out.lt k e).1))
               clear ho6 hg6 hat6)
            | fail)
          have HG8 := Lib.hid (HG7.out.on HB6.out)
          have hz8 := HB6.out.size
          have k0 := (HB6.out.cell (p := ⟨gx, 0, none⟩) hgx2).trans x0
          have k1 := (HB6.out.cell (p := ⟨gx, 1, none⟩) hgx2).trans x1
          have k2' := (HB6.out.cell (p := ⟨gx, 2, none⟩) hgx2).trans x2
          have k3 := (HB6.out.cell (p := ⟨lb, lo + k2 * 4 + 3, none⟩) hlb).trans r3'
          obtain ⟨_, _, _⟩ := HG8.out.box.cells
          have HBd := Lib.hid (show Below w7.heap.size w7 w8.drew from ⟨HB6.out.os, HB6.out.tape, HB6.out.output, HB6.out.size, HB6.out.block⟩)
          cases B
          · have HT3 := Lib.hid (HT2.out.trans (Bool.false_and _))
            go_quiet (fail)
            go_wp2_with fail
            go_roundw
            case rel => exact ⟨k2 + 1, _, by omega, by go_num, rfl, by rw [HT3.out], Lib.hid (by rw [HT1.out]; unfold rowI; rw [List.map_append]; exact HO6.out), Lib.hid (bel_drewN HB6.out nq)⟩
            case measure => simp [intOf]; omega
          · have HT3 := Lib.hid (HT2.out.trans (Bool.true_and _))
            go_region_with (first
              | (go_at_call 19; (with_reducible refine (CL.out x9 _ HBd.out hx9).mono ?_)
                 rintro e w9 ⟨rfl, hb9⟩
                 have HB9 := Lib.hid (show Below w7.heap.size w7 w9 from HBd.out.trans (hb9.mono HBd.out.size))
                 have HO9 := Lib.hid (show IInts w9 w7.heap.size v6 (rowI ((al.take k2).map fun a => a.next.toNat) ++ [(x9 : Int)]) from (HO6.out.drewN 1).below hb9 (Nat.le_refl _))
                 clear hb9)
              | fail)
            all_goals
              go_wp2_with fail
              go_roundw
              case rel => exact ⟨k2 + 1, _, by omega, by go_num, rfl, by rw [HT3.out], Lib.hid (by rw [HT1.out]; unfold rowI; rw [List.map_append]; exact HO9.out), HB9⟩
              case measure => simp [intOf]; omega
        · have hwh : al.take k2 = al := List.take_of_length_le (by have := HAL7.out.1; omega)
          rw [hwh] at HO HBE
          obtain ⟨va, vc, hv, _, _, _, hnu⟩ := HO.out.sees
          obtain ⟨vn, hvn⟩ : ∃ vn, vn = (rowI (al.map fun a => a.next.toNat)).length := ⟨_, rfl⟩
          rw [← hvn] at hv hnu
          subst hv
          obtain ⟨L, hL⟩ : ∃ L, L = nearP ps (rolS ri).toList [k] := ⟨_, rfl⟩
          have HL2 := Lib.hid (show nearP ps (rolS ri).toList (al.map fun a => a.next.toNat) = L by rw [hL, HST.out, HOU.out])
          have hEB : L.isEmpty = B := by
            have h1 := near_empty HMD.out.ok (rolS ri).toList HOL.out
            rw [HL2.out] at h1
            rw [← HBE.out, Bool.eq_iff_iff, List.isEmpty_iff, h1, List.all_eq_true]
            constructor
            · intro h2 a9 ha9
              rw [List.isEmpty_iff]
              exact h2 _ (List.mem_map.2 ⟨a9, ha9, rfl⟩)
            · intro h2 k9 hk9
              obtain ⟨a9, ha9, rfl⟩ := List.mem_map.1 hk9
              exact List.isEmpty_iff.1 (h2 a9 ha9)
          obtain ⟨m, hm⟩ : ∃ m, m = (rowI L).length := ⟨_, rfl⟩
          have HNV := Lib.hid hnu
          have HM := Lib.hid hm
          have HLL := Lib.hid hL
          have HEB := Lib.hid hEB
          have H0 := Lib.hid (show Below wr.heap.size wr wr.drew from bel_drewN (Below.refl _ _) 1)
          have H1 := Lib.hid (show Below wr.heap.size wr (wr.alloc (.cells #[.int .i64 (k : Int)] 3)).drew from bel_drewN (tu1 wr (.cells #[.int .i64 (k : Int)] 3)) 1)
          have HK := Lib.hid (fun (W : World) (hW : Below wr.heap.size wr W) => (HGr.out.on hW).box.cells)
          have C1 := Lib.hid ((((HGr.out.on H1.out).near HMD.out hri (va := some ⟨wr.heap.size, 0, none⟩) (vn := 1) 1 (l := rowI [k]) (show Nums (wr.alloc (.cells #[.int .i64 (k : Int)] 3)).drew (wr.alloc (.cells #[.int .i64 (k : Int)] 3)).drew.heap.size (some ⟨wr.heap.size, 0, none⟩) 1 (rowI [k]) from ((INums_made wr #[.int .i64 (k : Int)] (rowI [k]) 1 rfl rfl (by omega)).more (by simp)).keep (fun _ _ => rfl))).mono fun e w2 h => (⟨by
            obtain ⟨v9, e1, e2⟩ := h.1
            rw [startP_all (show ∀ x ∈ [k], x < ps.length from fun x hx => by rw [HLEN.out]; simp at hx; omega), ← HLL.out] at e2
            obtain ⟨xa, xc, rfl, _, _, _, hnu⟩ := e2.sees
            rw [← HM.out] at e1 hnu
            exact ⟨xa, xc, e1, hnu⟩, below_on H1.out h.2⟩ : (∃ xa xc, e = .returned (.slice xa m xc) ∧ Nums w2 w2.heap.size xa m (rowI L)) ∧ Below wr.heap.size wr w2)))
          have C2 := Lib.hid (fun (W : World) (hW : Below wr.heap.size wr W) => ((HGr.out.on hW).near HMD.out hri vc (HNV.out.on hW)).mono fun e w2 h => (⟨by
            obtain ⟨v9, e1, e2⟩ := h.1
            rw [startP_all HOL.out, HL2.out] at e2
            obtain ⟨xa, xc, rfl, _, _, _, hnu⟩ := e2.sees
            rw [← HM.out] at e1 hnu
            exact ⟨xa, xc, e1, hnu⟩, below_on hW h.2, h.2⟩ : (∃ xa xc, e = .returned (.slice xa m xc) ∧ Nums w2 w2.heap.size xa m (rowI L)) ∧ Below wr.heap.size wr w2 ∧ Below W.heap.size W w2))
          have C3 := Lib.hid (fun (xa za : Option Addr) (xc zc : Nat) (W : World) (hx : Nums W W.heap.size xa m (rowI L)) (hz : Nums W W.heap.size za m (rowI L)) (hW : Below wr.heap.size wr W) => (sameInts_any xa za m m xc zc _ _ W _ hx hz).mono fun e w2 h => (⟨by rw [h.1, decide_eq_true rfl], by obtain ⟨q, hq⟩ := h.2; rw [hq]; exact bel_drewN hW q⟩ : e = .returned (.bool true) ∧ Below wr.heap.size wr w2))
          have C4 := Lib.hid (fun (W : World) (hW : Below wr.heap.size wr W) => ((HGr.out.on hW).lost HMD.out hri hk).mono fun e w2 h => (⟨by rw [h.1, ← HLL.out, HEB.out], below_on hW h.2⟩ : e = .returned (.bool B) ∧ Below wr.heap.size wr w2))
          have d9 : decide ((k2 : Int) < (an : Int)) = false := decide_eq_false (by omega)
          have HE := Lib.hid (show Below w.heap.size w wr from HGr.out.bel)
          clear hwh hvn hnu hm hL hEB HBE HST HOU HOL CL
          go_upto_region 16 with fail
          go_region_held3 (fun W => W.cell? ⟨g5, 0, none⟩ = some (.string ⟨#[112]⟩) ∧ W.cell? ⟨g5, 1, none⟩ = some (.slice (some ⟨rb, ro, none⟩) many rc) ∧ W.cell? ⟨g5, 2, none⟩ = some (.slice (some ⟨b, off, none⟩) sn sc))
            (first | exact HK.out _ H0.out | exact HK.out _ H1.out | exact HK.out _ H2.out | exact HK.out _ H3.out | exact HK.out _ H4.out | exact HK.out _ H5.out)
            (first
            | (go_at_call 17; (with_reducible refine C1.out.mono ?_)
               rintro e v2 ⟨⟨xa, xc, rfl, hx⟩, h2⟩
               have H2 := Lib.hid h2
               have HXN := Lib.hid hx
               clear h2 hx)
            | (go_at_call 17; (with_reducible refine (C2.out _ H2.out).mono ?_)
               rintro e v3 ⟨⟨za, zc, rfl, hx⟩, h3, h3'⟩
               have HZN := Lib.hid hx
               have HXN3 := Lib.hid (HXN.out.on h3')
               have H3 := Lib.hid h3
               clear h3 hx h3')
            | (go_at_call 18; (with_reducible refine (C3.out _ _ _ _ _ HXN3.out HZN.out H3.out).mono ?_)
               rintro e v4 ⟨rfl, h4⟩
               have H4 := Lib.hid h4
               clear h4)
            | (go_at_call 19; (with_reducible refine (C4.out _ H4.out).mono ?_)
               rintro e v5 ⟨rfl, h5⟩
               have H5 := Lib.hid h5
               clear h5)
            | fail)
          all_goals
            go_wp2_with fail
            go_ret
            exact ⟨by simp, HE.out.trans (H5.out.mono HE.out.size)⟩
    · have hin : inP ⟨q.toList, s.toList, al⟩ (rolS ri).toList = true := by unfold inP; dsimp only; rw [hq1, hs1]; rfl
      have HY7 := Lib.hid (HG7.out.on (tu1 w7 (.cells #[.int .i64 (k : Int), .int .i64 (k : Int)] 3)))
      have CN := Lib.hid (HY7.out.near HMD.out hri (va := some ⟨w7.heap.size, 0, none⟩) (vn := 2) 2 (l := rowI [k, k]) ((INums_made w7 #[.int .i64 (k : Int), .int .i64 (k : Int)] (rowI [k, k]) 2 rfl rfl (by omega)).more (by simp)))
      rw [startP_all (show ∀ x ∈ [k, k], x < ps.length from fun x hx => by rw [HLEN.out]; simp at hx; omega), near_in HMD.out.ok (rolS ri).toList (k := k) (by rw [HLEN.out]; exact hk) (by rw [HPO.out]; exact hin) (s := [k, k]) (fun x => by simp)] at CN
      go_wp2_with (first
        | (go_at_call 17; (with_reducible refine CN.out.mono ?_)
           rintro e w8 ⟨⟨v8, rfl, hi8⟩, hb8⟩
           obtain ⟨ya, yc, hv, _, _, _, hnu⟩ := hi8.sees
           have hv : v8 = .slice ya 1 yc := hv
           subst hv
           have HG8 := Lib.hid (HY7.out.on hb8)
           have HNU8 := Lib.hid (show Nums w8 w8.heap.size ya 1 [(k : Int)] from hnu)
           have CS := Lib.hid (sameInts_any ya (some ⟨w8.heap.size, 0, none⟩) 1 1 yc 1 [(k : Int)] [(k : Int)] (w8.alloc (.cells #[.int .i64 (k : Int)] 3)) (w8.heap.size + 1) ((HNU8.out.alloc (Nat.le_refl _) _).more (by omega)) (INums_made w8 #[.int .i64 (k : Int)] [(k : Int)] 1 rfl rfl (by omega)))
           rw [decide_eq_true rfl] at CS
           clear hi8 hb8 hnu)
        | (go_at_call 18; (with_reducible refine CS.out.mono ?_)
           rintro e w9 ⟨rfl, q9, rfl⟩
           have HB9 := Lib.hid (bel_drewN (below_on HG8.out.bel (tu1 w8 (.cells #[.int .i64 (k : Int)] 3))) q9))
        | fail)
      go_ret
      exact ⟨rfl, HB9.out⟩
  · have hin : inP ⟨q.toList, s.toList, al⟩ (rolS ri).toList = true := by unfold inP; dsimp only; rw [hq1]; rfl
    have HY7 := Lib.hid (HG7.out.on (tu1 w7 (.cells #[.int .i64 (k : Int), .int .i64 (k : Int)] 3)))
    have CN := Lib.hid (HY7.out.near HMD.out hri (va := some ⟨w7.heap.size, 0, none⟩) (vn := 2) 2 (l := rowI [k, k]) ((INums_made w7 #[.int .i64 (k : Int), .int .i64 (k : Int)] (rowI [k, k]) 2 rfl rfl (by omega)).more (by simp)))
    rw [startP_all (show ∀ x ∈ [k, k], x < ps.length from fun x hx => by rw [HLEN.out]; simp at hx; omega), near_in HMD.out.ok (rolS ri).toList (k := k) (by rw [HLEN.out]; exact hk) (by rw [HPO.out]; exact hin) (s := [k, k]) (fun x => by simp)] at CN
    go_wp2_with (first
      | (go_at_call 17; (with_reducible refine CN.out.mono ?_)
         rintro e w8 ⟨⟨v8, rfl, hi8⟩, hb8⟩
         obtain ⟨ya, yc, hv, _, _, _, hnu⟩ := hi8.sees
         have hv : v8 = .slice ya 1 yc := hv
         subst hv
         have HG8 := Lib.hid (HY7.out.on hb8)
         have HNU8 := Lib.hid (show Nums w8 w8.heap.size ya 1 [(k : Int)] from hnu)
         have CS := Lib.hid (sameInts_any ya (some ⟨w8.heap.size, 0, none⟩) 1 1 yc 1 [(k : Int)] [(k : Int)] (w8.alloc (.cells #[.int .i64 (k : Int)] 3)) (w8.heap.size + 1) ((HNU8.out.alloc (Nat.le_refl _) _).more (by omega)) (INums_made w8 #[.int .i64 (k : Int)] [(k : Int)] 1 rfl rfl (by omega)))
         rw [decide_eq_true rfl] at CS
         clear hi8 hb8 hnu)
      | (go_at_call 18; (with_reducible refine CS.out.mono ?_)
         rintro e w9 ⟨rfl, q9, rfl⟩
         have HB9 := Lib.hid (bel_drewN (below_on HG8.out.bel (tu1 w8 (.cells #[.int .i64 (k : Int)] 3))) q9))
      | fail)
    go_ret
    exact ⟨rfl, HB9.out⟩
end Go.Proofs.Ytcjanipjgjgjpaa
