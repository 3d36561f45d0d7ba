/- Contract of the reference's LocalTrim. -/
import Derived.Test.YtbbdmipfbnfpfaaGreatTuSameO
import Derived.Test.YtbbdmipfbnfpfaaGreatTuMoved
import Derived.Deep.RegionHeld3
import Derived.Deep.RegionLaw
namespace Go.Proofs.YtbbdmipfbnfpfaaGreat
open Go.RowKit

theorem TBox.on {W W' : World} {g : Nat} {k : Int} {s : ByteArray} {a : Option Addr} {n c : Nat} (h : TBox W g k s a n c) (hb : Below W.heap.size W W') : TBox W' g k s a n c := (hb.block g h.lt).trans h
set_option maxHeartbeats 16000000 in
set_option maxRecDepth 20000 in
theorem tuTrim_any (nm : ByteArray) (a : Option Addr) (n c : Nat) (ts : List TurnL) (w : World) (bound : Nat) (hb : bound ≤ w.heap.size) (h : Turns w bound a n ts) :
    Calls Tryz.prog 15 #[.agg #[.string nm, .slice a n c]] w fun e w' => (∃ ra rn rc, e = .returned (.agg #[.string (trimName ts nm), .slice ra rn rc]) ∧ Turns w' w'.heap.size ra rn (trimL ts)) ∧ Below w.heap.size w w' := by
  have HB0 := Lib.hid (below_on (tu1 w (.cells #[.string nm, .slice a n c] 24)) (tu1 (w.alloc (.cells #[.string nm, .slice a n c] 24)) (.cells #[.string ⟨#[]⟩, .slice none 0 0] 24)))
  have HL := Lib.hid ((LBox.new w nm a n c).on (tu1 (w.alloc (.cells #[.string nm, .slice a n c] 24)) (.cells #[.string ⟨#[]⟩, .slice none 0 0] 24)))
  have HX := Lib.hid (LBox.new (w.alloc (.cells #[.string nm, .slice a n c] 24)) ⟨#[]⟩ none 0 0)
  rw [World.size_alloc] at HX
  have CR := Lib.hid (fun (W : World) (hW : Below w.heap.size w W) => tuLReach_any nm a n c ts W bound (by have := hW.size; omega) (h.below (hW.mono hb)))
  obtain ⟨lc0, lc1⟩ := HL.out.cells
  obtain ⟨xc0, xc1⟩ := HX.out.cells
  have ff : ∀ j, ((w.alloc (.cells #[.string nm, .slice a n c] 24)).alloc (.cells #[.string ⟨#[]⟩, .slice none 0 0] 24)).frozen? ⟨w.heap.size + 1, j, none⟩ = false := by simp
  have HN := Lib.hid h
  have HLEN := Lib.hid h.1
  cases hv : locB ts
  · have e1 : reachL ts = [] := by unfold reachL; rw [hv]; rfl
    rw [e1] at CR
    have HZ := Lib.hid (show trimL ts = [] by unfold trimL; rw [hv]; rfl)
    have HY := Lib.hid (show trimName ts nm = ⟨#[]⟩ by unfold trimName; rw [hv]; rfl)
    clear h hv e1
    go_enter Tryz.func15, Tryz.ntmps15
    go_wp2_with (first
      | (go_at_call 10; (with_reducible refine (CR.out _ HB0.out).mono ?_)
         rintro e w1 ⟨⟨v, rfl, hiv⟩, hb1⟩
         have HB1 := Lib.hid (below_on HB0.out hb1)
         obtain ⟨ra, rc, rfl, _, _, _, hnu⟩ := hiv.sees
         have z0 : (rowI []).length = 0 := rfl
         obtain ⟨yc0, yc1⟩ := (HX.out.on hb1).cells
         have f0 := (hb1.frozen (p := ⟨w.heap.size + 1, 0, none⟩) (by simp)).trans (ff 0)
         have f1 := (hb1.frozen (p := ⟨w.heap.size + 1, 1, none⟩) (by simp)).trans (ff 1)
         rw [z0]
         clear hb1 hiv hnu)
      | fail)
    refine bodyPost_ret (v := .agg #[.string ⟨#[]⟩, .slice none 0 0]) (by simp [results, go_sem, yc0, yc1]) rfl ?_
    exact ⟨⟨none, 0, 0, by rw [HY.out], by rw [HZ.out]; exact Turns.zero _ _ _⟩, (HB1.out.setCell (by simp) _).setCell (by simp) _⟩
  · have HZ := Lib.hid (show trimL ts = trimT ts by unfold trimL; rw [hv]; rfl)
    have HY := Lib.hid (show trimName ts nm = nm by unfold trimName; rw [hv]; rfl)
    have HRE := Lib.hid (show reachL ts = reachT ts by unfold reachL; rw [hv]; rfl)
    have HV := Lib.hid hv
    obtain ⟨r0, hr0⟩ := reach_zero ts
    have hlen0 : 0 < (reachT ts).length := by rw [hr0]; simp
    have hfew : (reachT ts).length ≤ 40 := by have := reach_few hv; have := (locB_one hv).2.1; omega
    rw [HRE.out] at CR
    clear h hv hr0
    go_enter Tryz.func15, Tryz.ntmps15
    go_wp2_with (first
      | (go_at_call 10; (with_reducible refine (CR.out _ HB0.out).mono ?_)
         rintro e w1 ⟨⟨v, rfl, hiv⟩, hb1⟩
         have HB1 := Lib.hid (below_on HB0.out hb1)
         obtain ⟨ra, rc, rfl, _, _, _, hnu⟩ := hiv.sees
         have HNU := Lib.hid hnu
         have HLM := Lib.hid (HL.out.on hb1)
         have f0 := (hb1.frozen (p := ⟨w.heap.size + 1, 0, none⟩) (by simp)).trans (ff 0)
         have f1 := (hb1.frozen (p := ⟨w.heap.size + 1, 1, none⟩) (by simp)).trans (ff 1)
         have HXM := Lib.hid (HX.out.on hb1)
         obtain ⟨mc0, mc1⟩ := HLM.out.cells
         obtain ⟨yc0, yc1⟩ := HXM.out.cells
         rw [rowI_len] at HNU ⊢
         obtain ⟨rn, hrn⟩ : ∃ rn, rn = (reachT ts).length := ⟨_, rfl⟩
         rw [← hrn] at HNU hlen0 hfew ⊢
         have HRN := Lib.hid hrn
         have hsz2 : w.heap.size + 2 ≤ w1.heap.size := by have := hb1.size; simpa using this
         have zn : ((rn : Int) == 0) = false := by rw [beq_eq_false_iff_ne]; omega
         clear hb1 hiv hnu hrn)
      | fail)
    have HLN := Lib.hid (LBox.new w1 nm none 0 0)
    go_loopw [5] (fun i wr => ∃ (k : Nat) (sa : Option Addr) (sn sc : Nat), k ≤ rn ∧ i = .int .i64 k ∧ Hid (TOwn wr (w1.heap.size + 1) (.slice sa sn sc) (((reachT ts).take k).map (trim1 ts))) ∧ Hid (LBox wr w1.heap.size nm sa sn sc) ∧ Hid (Below w1.heap.size w1 wr)) (fun i _ => rn - (intOf i).toNat)
    case atStart => exact ⟨0, none, 0, 0, Nat.zero_le _, rfl, Lib.hid (by rw [List.take_zero]; exact TOwn.zero _ _), HLN, Lib.hid (tu1 w1 _)⟩
    case round =>
      obtain ⟨k, sa, sn, sc, hk, rfl, HO, HLB, HBr⟩ := hrel
      have HBW := Lib.hid (below_on HB1.out HBr.out)
      obtain ⟨mc0, mc1⟩ := (HLM.out.on HBr.out).cells
      obtain ⟨oc0, oc1⟩ := HLB.out.cells
      have hzl := HLB.out.lt
      have hzr := HBr.out.size
      have hzw := HB1.out.size
      by_cases hlt : k < rn
      · obtain ⟨rb, ro, x, rfl, hrb, hx, hc⟩ := (HNU.out.below HBr.out).at_ hlt
        obtain ⟨p, rfl, hp⟩ := rowI_at hx
        have hmemp := List.mem_of_getElem? hp
        have hpn := reach_lt HV.out p hmemp
        rw [HLEN.out] at hpn
        obtain ⟨b, off, kd, s, aa, an, ac, l, rfl, hbb, ht, ⟨q0, q1, q2⟩, hs, hal⟩ := HN.out.at_ hpn
        have r0 := (HBW.out.cell (p := ⟨b, off + p * 3, none⟩) (by show b < _; omega)).trans q0
        have r1 := (HBW.out.cell (p := ⟨b, off + p * 3 + 1, none⟩) (by show b < _; omega)).trans q1
        have r2 := (HBW.out.cell (p := ⟨b, off + p * 3 + 2, none⟩) (by show b < _; omega)).trans q2
        have hto : turnOf ts p = ⟨kd, s.toList, l⟩ := by unfold turnOf; rw [ht]; rfl
        have hao : armsOf ts p = l := by unfold armsOf; rw [ht]; rfl
        have hcl := reach_closed HV.out p hmemp
        have hgd := (arms_ok HV.out p).1
        rw [hao] at hcl hgd
        have hl4 : an ≤ 1000 := by
          have h1 := arms_few HV.out l (List.mem_map.2 ⟨_, List.mem_of_getElem? ht, rfl⟩)
          have := hal.1
          omega
        obtain ⟨wo, hwo⟩ : ∃ wo : World, wo = wr := ⟨_, rfl⟩
        subst hwo
        have HBX := Lib.hid (show Below wo.heap.size wo (wo.alloc (.cells #[.int .i64 kd, .string s, .slice aa an ac] 44)).drew from bel_drew1 ((Below.refl _ _).alloc (Nat.le_refl _) _))
        have HTB := Lib.hid (show TBox (wo.alloc (.cells #[.int .i64 kd, .string s, .slice aa an ac] 44)).drew wo.heap.size kd s aa an ac from TBox.new wo kd s aa an ac)
        have HSS := Lib.hid hs
        have HML := Lib.hid (show (movedA (reachT ts) l).length ≤ 1000000 by unfold movedA; rw [List.length_map, sortA_len, hal.1]; omega)
        have HFL := Lib.hid (show (((reachT ts).take k).map (trim1 ts)).length ≤ 1000000 by rw [List.length_map, List.length_take]; omega)
        have HFL2 := Lib.hid (show (((reachT ts).take k).map (trim1 ts) ++ [(⟨kd, s.toList, movedA (reachT ts) l⟩ : TurnL)]).length ≤ 1000000 by rw [List.length_append, List.length_map, List.length_take, List.length_singleton]; omega)
        have CM := Lib.hid (fun (W : World) (hW0 : Below wo.heap.size wo W) => (tuMoved_any aa an ac l (some ⟨rb, ro, none⟩) rn rc (reachT ts) W W.heap.size (Nat.le_refl _) ((hal.below ((below_on HBW.out hW0).mono hb)).more (by have := (below_on HBW.out hW0).size; omega)) hl4 ((HNU.out.below (below_on HBr.out hW0)).more (below_on HBr.out hW0).size)
          (fun x hx => ⟨(armB_all (hgd x hx)).2.2.1, hcl x hx⟩)).mono fun e w3 h => (by obtain ⟨⟨v, hv1, hv2⟩, h2⟩ := h; exact ⟨⟨v, hv1, hv2.low hW0.size, h2⟩, below_on hW0 h2⟩ : (∃ v, e = .returned v ∧ AOwn w3 wo.heap.size v (movedA (reachT ts) l) ∧ Below W.heap.size W w3) ∧ Below wo.heap.size wo w3))
        have HST := Lib.hid (show ((reachT ts).take (k + 1)).map (trim1 ts) = ((reachT ts).take k).map (trim1 ts) ++ [(⟨kd, s.toList, movedA (reachT ts) l⟩ : TurnL)] by
          rw [take_snoc hp, List.map_append, List.map_cons, List.map_nil, show trim1 ts p = ⟨kd, s.toList, movedA (reachT ts) l⟩ by unfold trim1; rw [hto]])
        have hf0 : wo.frozen? ⟨w1.heap.size, 1, none⟩ = false := by
          have h := HLB.out
          unfold LBox at h
          unfold World.frozen?
          rw [h]
          rfl
        have z1 : b < wo.heap.size := by omega
        have z2 : rb < wo.heap.size := by omega
        have z3 : w.heap.size < wo.heap.size := by omega
        clear q0 q1 q2 hx hp ht hal hto hao hcl hgd hmemp
        have i1 : (p : Int) < (n : Int) := by omega
        go_upto_region 8 with fail
        go_region
        go_upto_region 9 with fail
        generalize hw8 : (wo.alloc (.cells #[.int .i64 kd, .string s, .slice aa an ac] 44)).drew = w8 at HBX HTB ⊢
        clear hw8
        have HB8 := Lib.hid (show Below wo.heap.size wo w8.drew from bel_drew1 HBX.out)
        have HT8 := Lib.hid (show TBox w8.drew wo.heap.size kd s aa an ac from HTB.out)
        have HL8 := Lib.hid (HLB.out.on HBX.out)
        obtain ⟨_, _, _⟩ := HTB.out.cells
        obtain ⟨_, _⟩ := HL8.out.cells
        have CM8 := Lib.hid (CM.out w8.drew HB8.out)
        clear CM CR ff lc0 lc1 xc0 xc1 f0 f1 mc0 mc1 yc0 yc1 zn HLM HXM HNU HN HB0 HL HX HLN HBW HBX HL8 HTB r0 r1 r2 hc hf0 oc0 oc1 i1 hrb hbb
        go_region_law (first
          | (refine step_append_turn w3 (by rfl) (.tmp 31) (.tmp 41) (by rfl) (w1.heap.size + 1) (.slice sa sn sc) (((reachT ts).take k).map (trim1 ts)) ⟨kd, s, a3, n3, c3⟩ ⟨kd, s.toList, movedA (reachT ts) l⟩ (by rfl) (by rfl) (by rfl) HO3.out HTA.out (by have := HB3.out.size; omega) HFL.out wo (HB3.out.mono (by omega)) ?_
             intro v4 w4 hown hbel
             obtain ⟨sa4, sc4, hv4, _⟩ := hown.sees HFL2.out
             obtain ⟨sn4, hn4⟩ : ∃ x, x = (((reachT ts).take k).map (trim1 ts) ++ [(⟨kd, s.toList, movedA (reachT ts) l⟩ : TurnL)]).length := ⟨_, rfl⟩
             rw [← hn4] at hv4
             clear hn4
             subst hv4
             have HO4 := Lib.hid hown
             have HB4 := Lib.hid hbel
             have HL4 := Lib.hid (show LBox w4 w1.heap.size nm sa sn sc from (hbel.block w1.heap.size (by omega)).trans HLB.out)
             obtain ⟨_, _⟩ := HL4.out.cells
             have vf1 := HL4.out.thaw 1
             clear hown hbel)
          | (go_simp; go_at_call 35; (with_reducible refine CM8.out.mono ?_)
             rintro e w3 ⟨⟨v3, he3, hv3, hlow3⟩, hb3⟩
             subst he3
             obtain ⟨a3, c3, hva3, har3, _, _⟩ := hv3.sees HML.out
             obtain ⟨n3, hn3⟩ : ∃ x, x = (movedA (reachT ts) l).length := ⟨_, rfl⟩
             rw [← hn3] at hva3 har3
             clear hn3
             subst hva3
             have HB3 := Lib.hid hb3
             have HO3 := Lib.hid (HO.out.kept HB3.out (by omega))
             have HLI3 := Lib.hid hv3.lies
             have HTA := Lib.hid (show TurnAt w3 (w1.heap.size + 1) (.slice sa sn sc) ⟨kd, s, a3, n3, c3⟩ ⟨kd, s.toList, movedA (reachT ts) l⟩ from ⟨rfl, rfl, HSS.out, har3, fun b off e => by
               have h1 := HLI3.out b off e
               refine ⟨by omega, h1.2, fun e2 => ?_⟩
               have h2 := HO.out.lies b e2
               omega⟩)
             have HT3 := Lib.hid (show TBox w3 wo.heap.size kd s aa an ac from HT8.out.on hlow3)
             obtain ⟨_, _, _⟩ := HT3.out.cells
             obtain ⟨_, _⟩ := (HLB.out.on HB3.out).cells
             have hz3 : w1.heap.size < w3.heap.size := (HLB.out.on HB3.out).lt
             have hz4 : wo.heap.size < w3.heap.size := HT3.out.lt
             clear hv3 har3 hb3)
          | fail)
        all_goals
          go_wp2
          go_roundw
          case rel => exact ⟨k + 1, sa4, sn4, sc4, by omega, by go_num, Lib.hid (by rw [HST.out]; exact HO4.out.beside ((Beside.refl w1.heap.size w4).setCell 1 (.slice sa4 sn4 sc4)) (by omega)), Lib.hid (LBox.set HL4.out), Lib.hid ((HBr.out.trans (HB4.out.mono (by omega))).setCell (by simp) _)⟩
          case measure => simp [intOf]; omega
      · have hsn := HO.out
        rw [List.take_of_length_le (by have := HRN.out; omega)] at hsn
        have hend := hsn.beside (((Beside.refl (w.heap.size + 1) wr).setCell 0 (.string nm)).setCell 1 (.slice sa sn sc)) (by omega)
        obtain ⟨ea, ec, hee, het⟩ := hend.sees (by rw [List.length_map]; have := HRN.out; omega)
        obtain ⟨L, hL⟩ : ∃ L, L = ((reachT ts).map (trim1 ts)).length := ⟨_, rfl⟩
        rw [← hL] at hee het
        injection hee with g1 g2 g3
        subst g1 g2 g3
        have HT := Lib.hid het
        have zc0 := (HBr.out.cell (p := ⟨w.heap.size + 1, 0, none⟩) (by show w.heap.size + 1 < _; omega)).trans yc0
        have zc1 := (HBr.out.cell (p := ⟨w.heap.size + 1, 1, none⟩) (by show w.heap.size + 1 < _; omega)).trans yc1
        have zf0 := (HBr.out.frozen (p := ⟨w.heap.size + 1, 0, none⟩) (by show w.heap.size + 1 < _; omega)).trans f0
        have zf1 := (HBr.out.frozen (p := ⟨w.heap.size + 1, 1, none⟩) (by show w.heap.size + 1 < _; omega)).trans f1
        clear hsn hend het hL
        go_wp2
        refine bodyPost_ret (v := .agg #[.string nm, .slice sa sn sc]) (by simp [results, go_sem, zc0, zc1]) rfl ?_
        exact ⟨⟨sa, _, sc, by rw [HY.out], by rw [HZ.out]; exact HT.out⟩, (HBW.out.setCell (by simp) _).setCell (by simp) _⟩
end Go.Proofs.YtbbdmipfbnfpfaaGreat
