/- Contract of the program's Trim. -/
import Derived.Test.YtiofpeckcfdilaaGreatDoorTuSearchs
import Derived.Test.YtiofpeckcfdilaaGreatDoorTuTrim
import Derived.Test.YtiofpeckcfdilaaGreatDoorTuRows
import Derived.Deep.Onto
namespace Go.Proofs.YtiofpeckcfdilaaGreatDoor
open Go.RowKit

/-- The block holds this turn. -/
def TBox (W : World) (g : Nat) (k : Int) (s : ByteArray) (a : Option Addr) (n c : Nat) : Prop := W.heap[g]? = some (.cells #[.int .i64 k, .string s, .slice a n c] 51 (0, 0))
theorem TBox.lt {W : World} {g : Nat} {k : Int} {s : ByteArray} {a : Option Addr} {n c : Nat} (h : TBox W g k s a n c) : g < W.heap.size := (Array.getElem?_eq_some_iff.1 h).1
theorem TBox.new (w : World) (k : Int) (s : ByteArray) (a : Option Addr) (n c : Nat) : TBox (w.alloc (.cells #[.int .i64 k, .string s, .slice a n c] 51)) w.heap.size k s a n c := heap_alloc_new w _
theorem TBox.cells {W : World} {g : Nat} {k : Int} {s : ByteArray} {a : Option Addr} {n c : Nat} (h : TBox W g k s a n c) : W.cell? ⟨g, 0, none⟩ = some (.int .i64 k) ∧ W.cell? ⟨g, 1, none⟩ = some (.string s) ∧ W.cell? ⟨g, 2, none⟩ = some (.slice a n c) := by
  unfold TBox at h
  refine ⟨?_, ?_, ?_⟩
  all_goals (rw [cell_of_row _ _ _ _ _ _ h]; rfl)
theorem TBox.thaw {W : World} {g : Nat} {k : Int} {s : ByteArray} {a : Option Addr} {n c : Nat} (h : TBox W g k s a n c) (o : Nat) : W.frozen? ⟨g, o, none⟩ = false := by
  unfold TBox at h
  unfold World.frozen?
  rw [h]
  simp
theorem TBox.set {W : World} {g : Nat} {k : Int} {s : ByteArray} {a a' : Option Addr} {n c n' c' : Nat} (h : TBox W g k s a n c) : TBox (W.setCell ⟨g, 2, none⟩ (.slice a' n' c')) g k s a' n' c' := by
  unfold TBox at h ⊢
  obtain ⟨hlt, hk⟩ := Array.getElem?_eq_some_iff.1 h
  show (W.heap.modify g _)[g]? = _
  rw [Array.getElem?_eq_getElem (by rw [Array.size_modify]; exact hlt), Array.getElem_modify_self, hk]
  rfl

theorem TOwn.low {w : World} {base base' : Nat} {v : Value} {f : List TurnL} (h : TOwn w base v f) (hb : base' ≤ base) : TOwn w base' v f := by
  obtain ⟨rs, h1, h2, h3⟩ := h
  refine ⟨rs, h1.mono hb, h2, fun j r t hr ht => ?_⟩
  obtain ⟨e1, e2, e3, e4, e5⟩ := h3 j r t hr ht
  exact ⟨e1, e2, e3, e4, fun b off e => ⟨by have := (e5 b off e).1; omega, (e5 b off e).2⟩⟩
theorem trimL_few (ts : List TurnL) : (trimL ts).length ≤ 40 := by
  unfold trimL
  cases hv : locB ts
  · simp
  · rw [if_pos rfl]
    unfold trimT
    rw [List.length_map]
    have := reach_few hv
    have := (locB_one hv).2.1
    omega
set_option maxHeartbeats 16000000 in
set_option maxRecDepth 20000 in
theorem ownTrimO_any (nm : ByteArray) (a : Option Addr) (n c : Nat) (ts : List TurnL) (w : World) (bound : Nat) (hb : bound ≤ w.heap.size) (h : Turns w bound a n ts) :
    Calls Tryz.prog 32 #[.agg #[.string nm, .slice a n c]] w fun e w' => (∃ ra rn rc, e = .returned (.agg #[.string (trimName ts nm), .slice ra rn rc]) ∧ TOwn w' w.heap.size (.slice ra rn rc) (trimL ts)) ∧ Below w.heap.size w w' := by
  have HB0 := Lib.hid (below_on (tu1 w (.cells #[.string nm, .slice a n c] 24)) (tu1 (w.alloc (.cells #[.string nm, .slice a n c] 24)) (.cells #[.string ⟨#[]⟩, .slice none 0 0] 24)))
  have HL := Lib.hid ((LBox.new w nm a n c).on (tu1 (w.alloc (.cells #[.string nm, .slice a n c] 24)) (.cells #[.string ⟨#[]⟩, .slice none 0 0] 24)))
  have HX := Lib.hid (LBox.new (w.alloc (.cells #[.string nm, .slice a n c] 24)) ⟨#[]⟩ none 0 0)
  rw [World.size_alloc] at HX
  have CM := Lib.hid (fun (W : World) (hW : Below w.heap.size w W) => ownMay_any nm a n c ts W bound (by have := hW.size; omega) (h.below (hW.mono hb)))
  obtain ⟨lc0, lc1⟩ := HL.out.cells
  obtain ⟨xc0, xc1⟩ := HX.out.cells
  have HN := Lib.hid h
  have HLEN := Lib.hid h.1
  cases hv : locB ts
  · rw [hv] at CM
    have HZ := Lib.hid (show trimL ts = [] by unfold trimL; rw [hv]; rfl)
    have HY := Lib.hid (show trimName ts nm = ⟨#[]⟩ by unfold trimName; rw [hv]; rfl)
    clear h hv
    go_enter Tryz.func32, Tryz.ntmps32
    go_wp2_with (first
      | (go_at_call 53; (with_reducible refine (CM.out _ HB0.out).mono ?_)
         rintro e w1 ⟨rfl, hb1⟩
         have HB1 := Lib.hid (below_on HB0.out hb1)
         have HX1 := Lib.hid (HX.out.on hb1)
         obtain ⟨yc0, yc1⟩ := HX1.out.cells
         have f0 := HX1.out.thaw 0
         have f1 := HX1.out.thaw 1
         clear hb1)
      | fail)
    refine bodyPost_ret (v := .agg #[.string ⟨#[]⟩, .slice none 0 0]) (by simp [results, go_sem, yc0, yc1]) rfl ?_
    exact ⟨⟨none, 0, 0, by rw [HY.out], by rw [HZ.out]; exact TOwn.zero _ _⟩, (HB1.out.setCell (by simp) _).setCell (by simp) _⟩
  · rw [hv] at CM
    have HZ := Lib.hid (show trimL ts = trimT ts by unfold trimL; rw [hv]; rfl)
    have HY := Lib.hid (show trimName ts nm = nm by unfold trimName; rw [hv]; rfl)
    have HV := Lib.hid hv
    have CS := Lib.hid (fun (W : World) (hW : Below w.heap.size w W) => ownSearch_any nm a n c ts W bound (by have := hW.size; omega) (h.below (hW.mono hb)) hv)
    have hfew : (reachT ts).length ≤ 40 := by have := reach_few hv; have := (locB_one hv).2.1; omega
    clear h hv
    go_enter Tryz.func32, Tryz.ntmps32
    go_wp2_with (first
      | (go_at_call 53; (with_reducible refine (CM.out _ HB0.out).mono ?_)
         rintro e w0 ⟨rfl, hb1⟩
         have HB00 := Lib.hid (below_on HB0.out hb1)
         have HX00 := Lib.hid (HX.out.on hb1)
         have HL00 := Lib.hid (HL.out.on hb1)
         obtain ⟨mc0, mc1⟩ := HL00.out.cells
         clear hb1)
      | (go_at_call 67; (with_reducible refine (CS.out _ HB00.out).mono ?_)
         rintro e w1 ⟨⟨v, mb, rfl, hiv, hpm⟩, hb1⟩
         have HB1 := Lib.hid (below_on HB00.out hb1)
         obtain ⟨ra, rc, rfl, _, _, _, hnu⟩ := hiv.sees
         have HNU := Lib.hid hnu
         have HPM := Lib.hid hpm
         have HLM := Lib.hid (HL00.out.on hb1)
         have HXM := Lib.hid (HX00.out.on hb1)
         obtain ⟨mc0, mc1⟩ := HLM.out.cells
         obtain ⟨yc0, yc1⟩ := HXM.out.cells
         rw [rowI_len] at HNU ⊢
         obtain ⟨rn, hrn⟩ : ∃ rn, rn = (reachT ts).length := ⟨_, rfl⟩
         rw [← hrn] at HNU hfew ⊢
         have HRN := Lib.hid hrn
         have hsz2 : w.heap.size + 2 ≤ w1.heap.size := by have := hb1.size; have := HB00.out.size; have := HX00.out.lt; omega
         clear hb1 hiv hnu hrn hpm)
      | fail)
    have HLN := Lib.hid (LBox.new w1 nm none 0 0)
    go_loopw [24] (fun i wr => ∃ (k : Nat) (sa : Option Addr) (sn sc : Nat), k ≤ rn ∧ i = .int .i64 k ∧ Hid (TOwn wr (w1.heap.size + 1) (.slice sa sn sc) (((reachT ts).take k).map (trim1 ts))) ∧ Hid (LBox wr w1.heap.size nm sa sn sc) ∧ Hid (Below w1.heap.size w1 wr)) (fun i _ => rn - (intOf i).toNat)
    case atStart => exact ⟨0, none, 0, 0, Nat.zero_le _, rfl, Lib.hid (by rw [List.take_zero]; exact TOwn.zero _ _), HLN, Lib.hid (tu1 w1 _)⟩
    case round =>
      obtain ⟨k, sa, sn, sc, hk, rfl, HO, HLB, HBr⟩ := hrel
      obtain ⟨wo, hwo⟩ : ∃ wo : World, wo = wr := ⟨_, rfl⟩
      subst hwo
      have HBW := Lib.hid (below_on HB1.out HBr.out)
      obtain ⟨mc0, mc1⟩ := (HLM.out.on HBr.out).cells
      obtain ⟨oc0, oc1⟩ := HLB.out.cells
      have hzl := HLB.out.lt
      have hzr := HBr.out.size
      have hzw := HB1.out.size
      by_cases hlt : k < rn
      · obtain ⟨rb, ro, x, rfl, hrb, hx, hc⟩ := (HNU.out.below HBr.out).at_ hlt
        obtain ⟨p, rfl, hp⟩ := rowI_at hx
        have hmemp := List.mem_of_getElem? hp
        have hpn := reach_lt HV.out p hmemp
        rw [HLEN.out] at hpn
        obtain ⟨b, off, kd, s, aa, an, ac, l, rfl, hbb, ht, ⟨q0, q1, q2⟩, hs, hal⟩ := HN.out.at_ hpn
        have r0 := (HBW.out.cell (p := ⟨b, off + p * 3, none⟩) (by show b < _; omega)).trans q0
        have r1 := (HBW.out.cell (p := ⟨b, off + p * 3 + 1, none⟩) (by show b < _; omega)).trans q1
        have r2 := (HBW.out.cell (p := ⟨b, off + p * 3 + 2, none⟩) (by show b < _; omega)).trans q2
        have hto : turnOf ts p = ⟨kd, s.toList, l⟩ := by unfold turnOf; rw [ht]; rfl
        have hao : armsOf ts p = l := by unfold armsOf; rw [ht]; rfl
        have hcl := reach_closed HV.out p hmemp
        have hgd := arms_ok HV.out p
        rw [hao] at hcl hgd
        have hl4 : an ≤ 1000 := by
          have h1 := arms_few HV.out l (List.mem_map.2 ⟨_, List.mem_of_getElem? ht, rfl⟩)
          have := hal.1
          omega
        have HBX := Lib.hid (tu1 wo (.cells #[.int .i64 kd, .string s, .slice aa an ac] 51))
        have HTB := Lib.hid (TBox.new wo kd s aa an ac)
        have HSS := Lib.hid hs
        have HSL := Lib.hid (show (sortA l).length = an by rw [sortA_len]; exact hal.1)
        have HCL := Lib.hid (fun (x : ArmL) (hx : x ∈ sortA l) => (⟨(armB_all (hgd.1 x (mem_sortA.1 hx))).2.2, hcl x (mem_sortA.1 hx)⟩ : (0 ≤ x.next ∧ x.next < (ts.length : Int)) ∧ x.next.toNat ∈ reachT ts))
        have HML := Lib.hid (show (movedA (reachT ts) l).length = an by unfold movedA; rw [List.length_map, sortA_len, hal.1])
        have HMV := Lib.hid (show mixA (reachT ts) (sortA l) an = movedA (reachT ts) l by
          unfold mixA movedA
          rw [List.take_of_length_le (by rw [HSL.out]; exact Nat.le_refl _), List.drop_of_length_le (by rw [HSL.out]; exact Nat.le_refl _), List.append_nil])
        have HFL := Lib.hid (show (((reachT ts).take k).map (trim1 ts)).length ≤ 1000000 by rw [List.length_map, List.length_take]; omega)
        have HFL2 := Lib.hid (show (((reachT ts).take k).map (trim1 ts) ++ [(⟨kd, s.toList, movedA (reachT ts) l⟩ : TurnL)]).length ≤ 1000000 by rw [List.length_append, List.length_map, List.length_take, List.length_singleton]; omega)
        have CO := Lib.hid (fun (W : World) (hW0 : Below wo.heap.size wo W) => ownSorted_any aa an ac l W bound (hal.below ((below_on HBW.out hW0).mono hb)) hl4 hgd.2)
        have HST := Lib.hid (show ((reachT ts).take (k + 1)).map (trim1 ts) = ((reachT ts).take k).map (trim1 ts) ++ [(⟨kd, s.toList, movedA (reachT ts) l⟩ : TurnL)] by
          rw [take_snoc hp, List.map_append, List.map_cons, List.map_nil, show trim1 ts p = ⟨kd, s.toList, movedA (reachT ts) l⟩ by unfold trim1; rw [hto]])
        have HTL := Lib.hid HO.out.lies
        have z1 : b < wo.heap.size := by omega
        have z2 : rb < wo.heap.size := by omega
        have z3 : w.heap.size < wo.heap.size := by omega
        have i1 : (p : Int) < (n : Int) := by omega
        clear q0 q1 q2 hx hp ht hal hto hao hcl hgd hmemp hs
        go_wp2_with (first
          | (go_at_call 68; (with_reducible refine (CO.out _ HBX.out).mono ?_)
             rintro e w3 ⟨⟨vl, he, hvl⟩, hb3⟩
             subst he
             obtain ⟨la, lc, hva, _, _, _⟩ := hvl.sees (by rw [HSL.out]; omega)
             rw [HSL.out] at hva
             subst hva
             have HVL := Lib.hid (hvl.low (base' := wo.heap.size) (by simp))
             have HLIE := Lib.hid (fun b off e => (hvl.lies b off e).1)
             have HT3 := Lib.hid (show TBox w3 wo.heap.size kd s aa an ac from (hb3.block wo.heap.size (by simp)).trans HTB.out)
             have HB3 := Lib.hid (below_on HBX.out hb3)
             have f2 := HT3.out.thaw 2
             obtain ⟨_, _, _⟩ := HT3.out.cells
             clear hvl hb3)
          | fail)
        have HB3b := Lib.hid (HB3.out.setCell (p := ⟨wo.heap.size, 2, none⟩) (by simp) (.slice la an lc))
        have HT3b := Lib.hid (HT3.out.set (a' := la) (n' := an) (c' := lc))
        have hlne : ∀ b off, la = some ⟨b, off, none⟩ → wo.heap.size < b := fun b off e => by
          have := HLIE.out b off e
          simp at this
          omega
        have HLNE := Lib.hid hlne
        have HV3b := Lib.hid (show AOwn (w3.setCell ⟨wo.heap.size, 2, none⟩ (.slice la an lc)) wo.heap.size (.slice la an lc) (mixA (reachT ts) (sortA l) 0) by
          unfold mixA
          rw [List.take_zero, List.drop_zero, List.map_nil, List.nil_append]
          obtain ⟨rs, h1, h2⟩ := HVL.out
          refine ⟨rs, ownsRow_setCell_other h1 (fun e => ?_) _, h2⟩
          cases la with
          | none => cases e
          | some ad =>
            obtain ⟨bb, oo, pp⟩ := ad
            rcases h1.2 with ⟨e1, _⟩ | ⟨g, cap, cur, e1, _⟩
            · cases e1
            · injection e1 with e1 _ _
              injection e1 with e1
              injection e1 with e1 e2 e3
              subst e1 e2 e3
              have := hlne bb 0 rfl
              have := Option.some.inj e
              simp at this
              omega)
        clear hlne
        go_loopw [40] (fun i wr => ∃ k2 : Nat, k2 ≤ an ∧ i = .int .i64 k2 ∧ Hid (AOwn wr wo.heap.size (.slice la an lc) (mixA (reachT ts) (sortA l) k2)) ∧ Hid (TBox wr wo.heap.size kd s la an lc) ∧ Hid (Below wo.heap.size wo wr)) (fun i _ => an - (intOf i).toNat)
        case atStart => exact ⟨0, Nat.zero_le _, rfl, HV3b, HT3b, HB3b⟩
        case round =>
          obtain ⟨k2, hk2, rfl, HA, HTt, HBt⟩ := hrel
          obtain ⟨tc0, tc1, tc2⟩ := HTt.out.cells
          have hzt := HTt.out.lt
          by_cases hlt2 : k2 < an
          · obtain ⟨x, hx⟩ : ∃ x, (sortA l)[k2]? = some x := ⟨_, List.getElem?_eq_getElem (by rw [HSL.out]; exact hlt2)⟩
            obtain ⟨hm1, hm2⟩ := mixA_at (row := reachT ts) hx
            have hmem := HCL.out x (List.mem_of_getElem? hx)
            obtain ⟨lg, lc2, hva, _, hlg2⟩ := HA.out.spot (by rw [mixA_len, HSL.out]; omega)
            rw [mixA_len, HSL.out] at hva
            injection hva with e1 _ e3
            subst e1 e3
            have hlg3 := HLNE.out lg 0 rfl
            have hAd : AOwn wr.drew wo.heap.size (.slice (some ⟨lg, 0, none⟩) an lc) (mixA (reachT ts) (sortA l) k2) := by
              obtain ⟨rs, h1, h2⟩ := HA.out
              exact ⟨rs, h1.drew, h2⟩
            have hst := hAd.stored (by rw [mixA_len]; exact HSL.out) hm1 (((reachT ts).idxOf x.next.toNat : Nat) : Int)
            obtain ⟨la2, lc3, hva2, hla2, _, _⟩ := HA.out.sees (by rw [mixA_len, HSL.out]; omega)
            rw [mixA_len, HSL.out] at hva2 hla2
            injection hva2 with e1 _ e3
            subst e1 e3
            obtain ⟨b1, o1, s1, u1, ck, nx, hbe, _, hx1, ⟨y0, y1, y2, y3⟩, _, _⟩ := hla2.at_ hlt2
            injection hbe with hbe
            injection hbe with e4 e5 _
            subst e4 e5
            rw [hm1] at hx1
            obtain rfl := Option.some.inj hx1
            dsimp only at hmem hst hm2
            rw [Nat.zero_add] at y3
            obtain ⟨y, hy⟩ : ∃ y : Nat, nx = (y : Int) := ⟨nx.toNat, by omega⟩
            subst hy
            rw [Int.toNat_natCast] at hmem hst hm2
            have hyb : y ≤ 1000000 := by have := HLEN.out; have := (locB_one HV.out).2.1; omega
            have hpw : PMap wr mb (reachT ts) := HPM.out.below (HBr.out.trans (HBt.out.mono hzr)) HPM.out.lt
            have hlk := hpw.look hyb hmem.2
            have hlk2 : (Instr.lookup 108 (.map (some mb)) (.int .i64 (y : Int)) false).run Tryz.prog wr.drew = .ok (.int .i64 (((reachT ts).idxOf y : Nat) : Int)) wr.drew := (show PMap wr.drew mb (reachT ts) from hpw).look hyb hmem.2
            obtain ⟨pi, hpi⟩ : ∃ pi : Nat, pi = (reachT ts).idxOf y := ⟨_, rfl⟩
            rw [← hpi] at hst hm2 hlk hlk2
            have fz := hst.2
            have HSTO := Lib.hid hst.1
            have HM2 := Lib.hid hm2
            have hbd : Below wo.heap.size wo wr.drew := ⟨HBt.out.os, HBt.out.tape, HBt.out.output, HBt.out.size, HBt.out.block⟩
            have HBS := Lib.hid (hbd.setCell (p := ⟨lg, k2 * 4 + 3, none⟩) (by show wo.heap.size ≤ lg; omega) (.int .i64 (pi : Int)))
            have HTS := Lib.hid (show TBox (wr.drew.setCell ⟨lg, k2 * 4 + 3, none⟩ (.int .i64 (pi : Int))) wo.heap.size kd s (some ⟨lg, 0, none⟩) an lc from (heap_setCell_ne (by omega)).trans HTt.out)
            have i2 : (k2 : Int) < (an : Int) := by omega
            have i3 : (0 : Int) ≤ (k2 : Int) := by omega
            clear y0 y1 y2 hst hm1 hm2 hx hmem hpi hla2 hpw hbd hAd
            go_wp2_with fail
            go_region
            go_wp2_with fail
            go_roundw
            case rel => exact ⟨k2 + 1, by omega, by go_num, Lib.hid (by rw [← HM2.out]; exact HSTO.out), HTS, HBS⟩
            case measure => simp [intOf]; omega
          · have hown : AOwn wr wo.heap.size (.slice la an lc) (movedA (reachT ts) l) := by
              have h1 := HA.out
              rw [show k2 = an by omega, HMV.out] at h1
              exact h1
            obtain ⟨la2, lc3, hva2, hla2, _, _⟩ := hown.sees (by rw [HML.out]; omega)
            rw [HML.out] at hva2 hla2
            injection hva2 with e1 _ e3
            subst e1 e3
            have HLI := Lib.hid hown.lies
            have HO2 := Lib.hid (HO.out.kept HBt.out (by omega))
            have HTA := Lib.hid (show TurnAt wr (w1.heap.size + 1) (.slice sa sn sc) ⟨kd, s, la, an, lc⟩ ⟨kd, s.toList, movedA (reachT ts) l⟩ from ⟨rfl, rfl, HSS.out, hla2, fun b off e => by
              have h1 := HLI.out b off e
              refine ⟨by omega, h1.2, fun e2 => ?_⟩
              have h2 := HTL.out b e2
              omega⟩)
            have HLBt := Lib.hid (show LBox wr w1.heap.size nm sa sn sc from (HBt.out.block w1.heap.size (by omega)).trans HLB.out)
            obtain ⟨uc0, uc1⟩ := HLBt.out.cells
            have hzq := HBt.out.size
            clear hown hla2
            go_wp2_with (first
              | (at_builtin
                 refine wpList_append_turn rfl (.tmp 58) (.tmp 60) rfl (w1.heap.size + 1) (.slice sa sn sc) (((reachT ts).take k).map (trim1 ts)) ⟨kd, s, la, an, lc⟩ ⟨kd, s.toList, movedA (reachT ts) l⟩ rfl rfl rfl rfl HO2.out HTA.out (by omega) HFL.out wo (HBt.out.mono (by omega)) ?_
                 intro v4 w4 hown hbel
                 obtain ⟨sa4, sc4, hv4, _⟩ := hown.sees HFL2.out
                 obtain ⟨sn4, hn4⟩ : ∃ x, x = (((reachT ts).take k).map (trim1 ts) ++ [(⟨kd, s.toList, movedA (reachT ts) l⟩ : TurnL)]).length := ⟨_, rfl⟩
                 rw [← hn4] at hv4
                 clear hn4
                 subst hv4
                 have HO4 := Lib.hid hown
                 have HB4 := Lib.hid hbel
                 have HL4 := Lib.hid (show LBox w4 w1.heap.size nm sa sn sc from (hbel.block w1.heap.size (by omega)).trans HLB.out)
                 obtain ⟨vc0, vc1⟩ := HL4.out.cells
                 have vf1 := HL4.out.thaw 1
                 clear hown hbel)
              | fail)
            go_roundw
            case rel => exact ⟨k + 1, sa4, sn4, sc4, by omega, by go_num, Lib.hid (by rw [HST.out]; exact HO4.out.beside ((Beside.refl w1.heap.size w4).setCell 1 (.slice sa4 sn4 sc4)) (by omega)), Lib.hid (LBox.set HL4.out), Lib.hid ((HBr.out.trans (HB4.out.mono (by omega))).setCell (by simp) _)⟩
            case measure => simp [intOf]; omega
      · have hsn := HO.out
        rw [List.take_of_length_le (by have := HRN.out; omega)] at hsn
        have hend := hsn.beside (((Beside.refl (w.heap.size + 1) wo).setCell 0 (.string nm)).setCell 1 (.slice sa sn sc)) (by omega)
        have HT := Lib.hid (hend.low (base' := w.heap.size) (by omega))
        have HXE := Lib.hid (HXM.out.on HBr.out)
        obtain ⟨zc0, zc1⟩ := HXE.out.cells
        have zf0 := HXE.out.thaw 0
        have zf1 := HXE.out.thaw 1
        clear hsn hend
        go_wp2
        refine bodyPost_ret (v := .agg #[.string nm, .slice sa sn sc]) (by simp [results, go_sem, zc0, zc1]) rfl ?_
        exact ⟨⟨sa, _, sc, by rw [HY.out], by rw [HZ.out]; exact HT.out⟩, (HBW.out.setCell (by simp) _).setCell (by simp) _⟩
theorem ownTrim_any (nm : ByteArray) (a : Option Addr) (n c : Nat) (ts : List TurnL) (w : World) (bound : Nat) (hb : bound ≤ w.heap.size) (h : Turns w bound a n ts) :
    Calls Tryz.prog 32 #[.agg #[.string nm, .slice a n c]] w fun e w' => (∃ ra rn rc, e = .returned (.agg #[.string (trimName ts nm), .slice ra rn rc]) ∧ Turns w' w'.heap.size ra rn (trimL ts)) ∧ Below w.heap.size w w' :=
  (ownTrimO_any nm a n c ts w bound hb h).mono fun e w' ⟨⟨ra, rn, rc, e1, e2⟩, e3⟩ => by
    obtain ⟨a2, c2, hv, ht⟩ := e2.sees (by have := trimL_few ts; omega)
    obtain ⟨q1, q2, _⟩ := Value.slice.inj hv
    subst q1 q2
    exact ⟨⟨ra, _, rc, e1, ht⟩, e3⟩
end Go.Proofs.YtiofpeckcfdilaaGreatDoor
