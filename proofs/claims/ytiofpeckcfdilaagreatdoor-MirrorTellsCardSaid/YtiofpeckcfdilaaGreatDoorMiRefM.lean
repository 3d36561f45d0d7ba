/- Contract of the reference's Mirror. -/
import Derived.Test.YtiofpeckcfdilaaGreatDoorMiAll
import Derived.Test.YtiofpeckcfdilaaGreatDoorTuTells
import Derived.Test.YtiofpeckcfdilaaGreatDoorTuPeers
import Derived.Test.YtiofpeckcfdilaaGreatDoorTuRefs
import Derived.Test.YtiofpeckcfdilaaGreatDoorRef2
import Derived.Test.YtiofpeckcfdilaaGreatDoorTuWrongs
import Derived.Deep.RegionHeld3
import Derived.Deep.DeepCutAuto
namespace Go.Proofs.YtiofpeckcfdilaaGreatDoor
open Go.RowKit

theorem nameOK_any (s : ByteArray) (w : World) (hs : s.size ≤ maxLen) : Calls Tryz.prog 37 #[.string s] w fun e w' => e = .returned (.bool (may s.toList)) ∧ w = w' := by
  have CN := Lib.hid (refMay_any s w hs)
  go_enter Tryz.func37, Tryz.ntmps37
  go_wp2_with (first
    | (go_at_call 69; (with_reducible refine CN.out.mono ?_)
       rintro e w1 ⟨rfl, rfl⟩)
    | fail)
  go_ret
  exact ⟨rfl, rfl⟩
/-- The first k turns are those of the other side. -/
structure Half (T f : List TurnL) (me : Str) (k : Nat) : Prop where
  len : f.length = T.length
  done : ∀ j, j < k → f[j]? = (T[j]?).map (mirT me)
  rest : ∀ j, k ≤ j → f[j]? = T[j]?
theorem Half.start (T : List TurnL) (me : Str) : Half T T me 0 := ⟨rfl, fun j hj => absurd hj (Nat.not_lt_zero j), fun _ _ => rfl⟩
theorem Half.next {T f : List TurnL} {me : Str} {k : Nat} {t : TurnL} (h : Half T f me k) (ht : T[k]? = some t) : Half T (f.set k (mirT me t)) me (k + 1) := by
  have hk := (List.getElem?_eq_some_iff.1 ht).1
  refine ⟨by rw [List.length_set, h.len], fun j hj => ?_, fun j hj => ?_⟩
  · by_cases e : j = k
    · subst e
      rw [List.getElem?_set_self (by rw [h.len]; exact hk), ht]
      rfl
    · rw [List.getElem?_set_ne (fun q => e q.symm)]
      exact h.done j (by omega)
  · rw [List.getElem?_set_ne (by omega)]
    exact h.rest j (by omega)
theorem Half.skip {T f : List TurnL} {me : Str} {k : Nat} {t : TurnL} (h : Half T f me k) (ht : T[k]? = some t) (e : mirT me t = t) : Half T f me (k + 1) := by
  refine ⟨h.len, fun j hj => ?_, fun j hj => h.rest j (by omega)⟩
  by_cases ej : j = k
  · subst ej
    rw [h.rest j (Nat.le_refl _), ht, Option.map_some, e]
  · exact h.done j (by omega)
theorem Half.end_ {T f : List TurnL} {me : Str} {k : Nat} (h : Half T f me k) (hk : T.length ≤ k) : f = mirL me T := by
  refine List.ext_getElem? fun j => ?_
  rw [mir_at]
  rcases Nat.lt_or_ge j T.length with hj | hj
  · exact h.done j (by omega)
  · rw [List.getElem?_eq_none hj, List.getElem?_eq_none (by rw [h.len]; exact hj)]
    rfl
theorem mirE_bool {ts : List TurnL} (h : locB ts = true) {me : Str} (hm : may me = true) : mirE ts me = if decide (1 < (peersT ts).length) || hasS (peersT ts) me then 1201 else 0 := by
  unfold mirE
  rw [h, hm]
  rfl
theorem hasS_one (x me : Str) : hasS [x] me = (x == me) := by
  unfold hasS
  rw [Bool.eq_iff_iff, List.contains_iff_mem, List.mem_singleton, beq_iff_eq]
  exact ⟨fun e => e.symm, fun e => e.symm⟩
theorem other_cell {W : World} {g q o x : Nat} {u v : Value} (hne : g ≠ q) (h : W.cell? ⟨g, x, none⟩ = some v) : (W.setCell ⟨q, o, none⟩ u).cell? ⟨g, x, none⟩ = some v := (World.cell?_of_block (heap_setCell_ne hne)).trans h
theorem bel_drewR {B : Nat} {w W : World} (h : Below B w W) : Below B w W.drew := ⟨h.os, h.tape, h.output, h.size, h.block⟩
set_option maxHeartbeats 16000000 in
set_option maxRecDepth 20000 in
theorem refMirror_any (nm me : ByteArray) (a : Option Addr) (n c : Nat) (ts : List TurnL) (w : World) (bound : Nat) (hb : bound ≤ w.heap.size) (h : Turns w bound a n ts) (hm : me.size ≤ maxLen) :
    Calls Tryz.prog 12 #[.agg #[.string nm, .slice a n c], .string me] w fun e w' => OfRet nm ts me.toList w e w' := by
  obtain ⟨w0, hw0⟩ : ∃ w0, w0 = (w.alloc (.cells #[.string nm, .slice a n c] 24)).alloc (.cells #[.string ⟨#[]⟩, .slice none 0 0] 24) := ⟨_, rfl⟩
  have hsz0 : w0.heap.size = w.heap.size + 2 := by rw [hw0]; simp
  have HB0 := Lib.hid (show Below w.heap.size w w0 by rw [hw0]; exact below_on (tu1 w _) (tu1 _ _))
  have HL0 := Lib.hid (show LBox w0 w.heap.size nm a n c by rw [hw0]; exact (LBox.new w nm a n c).on (tu1 _ _))
  have HX0 := Lib.hid (show LBox w0 (w.heap.size + 1) ⟨#[]⟩ none 0 0 by
    rw [hw0]
    have := LBox.new (w.alloc (.cells #[.string nm, .slice a n c] 24)) ⟨#[]⟩ none 0 0
    rw [World.size_alloc] at this
    exact this)
  have CM := Lib.hid (fun (W : World) (hW : Below w0.heap.size w0 W) => tuLocal_any nm a n c ts W bound (by have := hW.size; omega) ((h.below (HB0.out.mono hb)).below (hW.mono (by omega))))
  have CP := Lib.hid (fun (W : World) (hW : Below w0.heap.size w0 W) => tuPeers_any nm a n c ts W bound (by have := hW.size; omega) ((h.below (HB0.out.mono hb)).below (hW.mono (by omega))))
  have CT := Lib.hid (fun (W : World) (hW : Below w0.heap.size w0 W) => tuTrimO_any nm a n c ts W bound (by have := hW.size; omega) ((h.below (HB0.out.mono hb)).below (hW.mono (by omega))))
  have CK := Lib.hid (fun (W : World) => nameOK_any me W hm)
  obtain ⟨lc0, lc1⟩ := HL0.out.cells
  obtain ⟨xc0, xc1⟩ := HX0.out.cells
  have xf0 := HX0.out.thaw 0
  have xf1 := HX0.out.thaw 1
  clear h
  cases hv : locB ts
  · rw [hv] at CM
    have HE := Lib.hid (show mirE ts me.toList = 1200 by unfold mirE; rw [hv]; rfl)
    have HQ := Lib.hid (show mirN ts nm me.toList = ⟨#[]⟩ ∧ mirQ ts me.toList = [] by unfold mirN mirQ; rw [HE.out]; exact ⟨rfl, rfl⟩)
    clear hv
    subst hw0
    go_enter Tryz.func12, Tryz.ntmps12
    go_wp2_with (first
      | (go_at_call 36; (with_reducible refine (CM.out _ (Below.refl _ _)).mono ?_)
         rintro e w1 ⟨rfl, hb1⟩
         have HB1 := Lib.hid hb1
         have HX1 := Lib.hid (HX0.out.on hb1)
         have HL1 := Lib.hid (HL0.out.on hb1)
         obtain ⟨_, _⟩ := HX1.out.cells
         obtain ⟨_, _⟩ := HL1.out.cells
         have f2 := HX1.out.thaw 0
         have f3 := HX1.out.thaw 1
         clear hb1)
      | fail)
    refine bodyPost_ret (v := .tuple #[.agg #[.string ⟨#[]⟩, .slice none 0 0], .int .i64 1200]) (by simp [results, go_sem, *]) rfl ?_
    exact ⟨⟨none, 0, 0, by rw [HQ.out.1, HE.out], by rw [HQ.out.2]; exact Turns.zero _ _ _⟩, ((below_on HB0.out HB1.out).setCell (by show w.heap.size ≤ w.heap.size + 1; omega) _).setCell (by show w.heap.size ≤ w.heap.size + 1; omega) _⟩
  · rw [hv] at CM
    cases hk : may me.toList
    · rw [hk] at CK
      have HE := Lib.hid (show mirE ts me.toList = 1200 by unfold mirE; rw [hv, hk]; rfl)
      have HQ := Lib.hid (show mirN ts nm me.toList = ⟨#[]⟩ ∧ mirQ ts me.toList = [] by unfold mirN mirQ; rw [HE.out]; exact ⟨rfl, rfl⟩)
      clear hv hk
      subst hw0
      go_enter Tryz.func12, Tryz.ntmps12
      go_wp2_with (first
        | (go_at_call 36; (with_reducible refine (CM.out _ (Below.refl _ _)).mono ?_)
           rintro e w1 ⟨rfl, hb1⟩
           have HB1 := Lib.hid hb1
           have HX1 := Lib.hid (HX0.out.on hb1)
           have HL1 := Lib.hid (HL0.out.on hb1)
           obtain ⟨_, _⟩ := HX1.out.cells
           obtain ⟨_, _⟩ := HL1.out.cells
           have f2 := HX1.out.thaw 0
           have f3 := HX1.out.thaw 1
           clear hb1)
        | (go_at_call 37; (with_reducible refine (CK.out _).mono ?_)
           rintro e w2 ⟨rfl, rfl⟩)
        | fail)
      refine bodyPost_ret (v := .tuple #[.agg #[.string ⟨#[]⟩, .slice none 0 0], .int .i64 1200]) (by simp [results, go_sem, *]) rfl ?_
      exact ⟨⟨none, 0, 0, by rw [HQ.out.1, HE.out], by rw [HQ.out.2]; exact Turns.zero _ _ _⟩, ((below_on HB0.out HB1.out).setCell (by show w.heap.size ≤ w.heap.size + 1; omega) _).setCell (by show w.heap.size ≤ w.heap.size + 1; omega) _⟩
    · rw [hk] at CK
      have hbz := mirE_bool hv hk
      obtain ⟨bz, hbe⟩ : ∃ bz, bz = (decide (1 < (peersT ts).length) || hasS (peersT ts) me.toList) := ⟨_, rfl⟩
      rw [← hbe] at hbz
      have HBZ := Lib.hid hbe
      have HE := Lib.hid hbz
      have HV := Lib.hid hv
      rw [trimL_of hv, trimName_of hv] at CT
      clear hv hk hbe hbz
      have HSZ := Lib.hid hsz0
      subst hw0
      go_enter Tryz.func12, Tryz.ntmps12
      go_upto_region 4 with (first
        | (go_at_call 36; (with_reducible refine (CM.out _ (Below.refl _ _)).mono ?_)
           rintro e w1 ⟨rfl, hb1⟩
           have HB1 := Lib.hid hb1
           have HX1 := Lib.hid (HX0.out.on hb1)
           have HL1 := Lib.hid (HL0.out.on hb1)
           obtain ⟨_, _⟩ := HX1.out.cells
           obtain ⟨_, _⟩ := HL1.out.cells
           have f2 := HX1.out.thaw 0
           have f3 := HX1.out.thaw 1
           clear hb1)
        | (go_at_call 37; (with_reducible refine (CK.out _).mono ?_)
           rintro e w2 ⟨rfl, rfl⟩)
        | (go_at_call 38; (with_reducible refine (CP.out _ HB1.out).mono ?_)
           rintro e w3 ⟨⟨xa, xn, xc, rfl, hss⟩, hb3⟩
           have HB3 := Lib.hid (below_on HB1.out hb3)
           have HSS := Lib.hid hss
           have HX3 := Lib.hid (HX1.out.on hb3)
           have HL3 := Lib.hid (HL1.out.on hb3)
           clear hb3 hss)
        | fail)
      go_cut [34] (fun s wx => s = .bool bz ∧ Hid (Below w3.heap.size w3 wx))
      case first =>
        have H3 := Lib.hid (Below.refl w3.heap.size w3)
        rcases hp : peersT ts with _ | ⟨x, _ | ⟨y, r⟩⟩
        · rw [hp] at HSS HBZ
          obtain rfl : xn = 0 := HSS.out.1.symm
          have hb0 : bz = false := HBZ.out
          subst hb0
          clear hp
          go_wp2_with fail
          go_meet
          case rel => exact ⟨rfl, H3⟩
        · rw [hp] at HSS HBZ
          obtain rfl : xn = 1 := HSS.out.1.symm
          have hb0 : bz = (x == me.toList) := by rw [HBZ.out, hasS_one]; rfl
          obtain ⟨b, off, rfl, hb, hc⟩ := HSS.out.at_ (k := 0) (by omega)
          rw [Nat.add_zero, show ([x] : List Str).getD 0 [] = x from rfl] at hc
          unfold encStr at hc
          cases hx : (x == me.toList)
          · have es : ((baS x).toList == me.toList) = false := by rw [baS_toList]; exact hx
            rw [hx] at hb0
            subst hb0
            have HX2 := Lib.hid hx
            clear hp hx
            go_wp2_with fail
            go_meet
            case rel => exact ⟨by rw [HX2.out], H3⟩
          · have es : ((baS x).toList == me.toList) = true := by rw [baS_toList]; exact hx
            rw [hx] at hb0
            subst hb0
            have HX2 := Lib.hid hx
            clear hp hx
            go_wp2_with fail
            go_meet
            case rel => exact ⟨by rw [HX2.out], H3⟩
        · rw [hp] at HSS HBZ
          have d1 : decide ((1 : Int) < (xn : Int)) = true := decide_eq_true (by have := HSS.out.1; simp only [List.length_cons] at this; omega)
          have hb0 : bz = true := by rw [HBZ.out]; simp
          subst hb0
          clear hp
          go_wp2_with fail
          go_meet
          case rel => exact ⟨rfl, H3⟩
      case rest =>
        obtain ⟨e34, HC⟩ := hcut
        subst e34
        have HB4 := Lib.hid (below_on HB3.out HC.out)
        have HX4 := Lib.hid (HX3.out.on HC.out)
        have HL4 := Lib.hid (HL3.out.on HC.out)
        obtain ⟨yc0, yc1⟩ := HX4.out.cells
        obtain ⟨zc0, zc1⟩ := HL4.out.cells
        have g2 := HX4.out.thaw 0
        have g3 := HX4.out.thaw 1
        cases bz
        · have HE' := Lib.hid (show mirE ts me.toList = 0 from HE.out)
          have HQ := Lib.hid (show mirN ts nm me.toList = nm ∧ mirQ ts me.toList = mirL me.toList (trimT ts) by unfold mirN mirQ; rw [HE'.out]; exact ⟨rfl, rfl⟩)
          go_upto_region 7 with (first
            | (go_at_call 39; (with_reducible refine (CT.out _ HB4.out).mono ?_)
               rintro e w5 ⟨⟨ra, rn, rc, rfl, ht5⟩, hb5⟩
               have HT5 := Lib.hid ht5
               have HB5 := Lib.hid (below_on HB4.out hb5)
               have HX5 := Lib.hid (HX4.out.on hb5)
               obtain ⟨ra', rc', hsl, _⟩ := ht5.sees (by have := trimL_few ts; rw [trimL_of HV.out] at this; omega)
               have HLEN := Lib.hid (show (trimT ts).length = rn from (Value.slice.inj hsl).2.1.symm)
               clear hb5 ht5 hsl)
            | fail)
          obtain ⟨r0, hr0⟩ := reach_zero ts
          obtain ⟨q, rfl, hq1, hq2⟩ := HT5.out.spot (by rw [trim_len, hr0]; simp)
          have hrn40 : rn ≤ 40 := by have := trimL_few ts; rw [trimL_of HV.out, HLEN.out] at this; exact this
          have HL6 := Lib.hid (LBox.new w5 nm (some ⟨q, 0, none⟩) rn rc)
          have HBX := Lib.hid (tu1 w5 (.cells #[.string nm, .slice (some ⟨q, 0, none⟩) rn rc] 24))
          obtain ⟨g7, hg7⟩ : ∃ g7, g7 = w5.heap.size := ⟨_, rfl⟩
          rw [← hg7] at HL6 ⊢
          generalize hw6 : w5.alloc (.cells #[.string nm, .slice (some ⟨q, 0, none⟩) rn rc] 24) = w6 at HL6 HBX ⊢
          have hz4 : w.heap.size + 2 ≤ wc.heap.size := by have := HB4.out.size; have := HSZ.out; omega
          have HNE := Lib.hid (show g7 ≠ q by omega)
          have HNR := Lib.hid (show w.heap.size + 1 ≠ q by omega)
          clear hw6 hg7 hr0
          have HO6 := Lib.hid (HT5.out.kept HBX.out (by omega))
          have HX6 := Lib.hid (HX5.out.on HBX.out)
          have HB6 := Lib.hid (below_on HB0.out (below_on HB5.out HBX.out))
          clear yc0 yc1 zc0 zc1 g2 g3
          go_wp2
          go_loopw [8] (fun i wr => ∃ (k : Nat) (f : List TurnL), k ≤ rn ∧ i = .int .i64 k ∧ Hid (TOwn wr wc.heap.size (.slice (some ⟨q, 0, none⟩) rn rc) f) ∧ Hid (Half (trimT ts) f me.toList k) ∧ Hid (LBox wr g7 nm (some ⟨q, 0, none⟩) rn rc) ∧ Hid (LBox wr (w.heap.size + 1) ⟨#[]⟩ none 0 0) ∧ Hid (Below w.heap.size w wr)) (fun i _ => rn - (intOf i).toNat)
          case atStart => exact ⟨0, trimT ts, Nat.zero_le _, rfl, HO6, Lib.hid (Half.start _ _), HL6, HX6, HB6⟩
          case round =>
            obtain ⟨k, f, hk, rfl, HO, HHF, HLB, HXr, HBr⟩ := hrel
            obtain ⟨bc0, bc1⟩ := HLB.out.cells
            by_cases hkn : k < rn
            · obtain ⟨t, ht⟩ : ∃ t, (trimT ts)[k]? = some t := ⟨_, List.getElem?_eq_getElem (by rw [HLEN.out]; exact hkn)⟩
              have hfk : f[k]? = some t := (HHF.out.rest k (Nat.le_refl _)).trans ht
              have hvt := turnB_arms ((locB_one (trim_valid HV.out)).2.2 t (List.mem_of_getElem? ht))
              obtain ⟨q', ⟨kd, s, aa, an, ac⟩, t', hqq, hbb, ht', ⟨q0, q1, q2⟩, hvf⟩ := HO.out.at2 hkn
              obtain ⟨hqe, _, _⟩ := Addr.mk.inj (Option.some.inj hqq)
              subst hqe
              rw [hfk] at ht'
              obtain rfl := Option.some.inj ht'
              dsimp only at q0 q1 q2
              have hkd : kd = t.kind := hvf.1
              have i1 : (k : Int) < (rn : Int) := by omega
              have i2 : (0 : Int) ≤ (k : Int) := by omega
              have HOd := Lib.hid (HO.out.kept (bel_drewR (Below.refl _ _)) (by omega))
              have HB7 := Lib.hid (show wr.drew.cell? ⟨g7, 1, none⟩ = some (.slice (some ⟨q, 0, none⟩) rn rc) from bc1)
              clear hvf hqq ht'
              by_cases h1 : kd = 1
              · subst h1
                have hT : mirT me.toList t = ⟨2, me.toList, t.arms⟩ := by unfold mirT; rw [if_pos hkd.symm]
                have k1 := HOd.out.kinded (HHF.out.len.trans HLEN.out) hfk 2
                have k2 := k1.1.peered (by rw [List.length_set]; exact HHF.out.len.trans HLEN.out) (by rw [List.getElem?_set_self (by have := HHF.out.len; have := HLEN.out; omega)]) me hm
                rw [List.set_set, ← hT] at k2
                have fz1 := k1.2
                have fz2 := k2.2
                have HO2 := Lib.hid k2.1
                have HH2 := Lib.hid (HHF.out.next ht)
                go_upto_region 12 with fail
                have hbd7 := HB7.out
                have qd0 : wr.drew.cell? ⟨q, k * 3, none⟩ = some (.int .i64 1) := q0
                have hbd9 : (wr.setCell ⟨q, k * 3, none⟩ (.int .i64 2)).drew.cell? ⟨g7, 1, none⟩ = some (.slice (some ⟨q, 0, none⟩) rn rc) := other_cell HNE.out HB7.out
                have qd1 : (wr.setCell ⟨q, k * 3, none⟩ (.int .i64 2)).drew.cell? ⟨q, k * 3 + 1, none⟩ = some (.string s) := (World.cell?_setCell_other wr _ _ _ (by simp)).trans q1
                have fz3 : (wr.setCell ⟨q, k * 3, none⟩ (.int .i64 2)).drew.frozen? ⟨q, k * 3 + 1, none⟩ = false := fz2
                clear k1 k2 hT hkd hfk ht hvt q0 q1 q2 bc0 bc1
                go_region
                go_wp2_with fail
                go_roundw
                case rel => exact ⟨k + 1, _, by omega, by go_num, HO2, HH2, Lib.hid ((heap_setCell_ne HNE.out).trans ((heap_setCell_ne HNE.out).trans HLB.out)), Lib.hid ((heap_setCell_ne HNR.out).trans ((heap_setCell_ne HNR.out).trans HXr.out)), Lib.hid (((bel_drewR HBr.out).setCell (by show w.heap.size ≤ q; omega) _).setCell (by show w.heap.size ≤ q; omega) _)⟩
                case measure => simp [intOf]; omega
              · by_cases h2 : kd = 2
                · subst h2
                  have hT : mirT me.toList t = ⟨1, me.toList, t.arms⟩ := by unfold mirT; rw [if_neg (by omega), if_pos hkd.symm]
                  have k1 := HOd.out.kinded (HHF.out.len.trans HLEN.out) hfk 1
                  have k2 := k1.1.peered (by rw [List.length_set]; exact HHF.out.len.trans HLEN.out) (by rw [List.getElem?_set_self (by have := HHF.out.len; have := HLEN.out; omega)]) me hm
                  rw [List.set_set, ← hT] at k2
                  have fz1 := k1.2
                  have fz2 := k2.2
                  have HO2 := Lib.hid k2.1
                  have HH2 := Lib.hid (HHF.out.next ht)
                  go_upto_region 14 with fail
                  have hbd7 := HB7.out
                  have qd0 : wr.drew.cell? ⟨q, k * 3, none⟩ = some (.int .i64 2) := q0
                  have hbd9 : (wr.setCell ⟨q, k * 3, none⟩ (.int .i64 1)).drew.cell? ⟨g7, 1, none⟩ = some (.slice (some ⟨q, 0, none⟩) rn rc) := other_cell HNE.out HB7.out
                  have qd1 : (wr.setCell ⟨q, k * 3, none⟩ (.int .i64 1)).drew.cell? ⟨q, k * 3 + 1, none⟩ = some (.string s) := (World.cell?_setCell_other wr _ _ _ (by simp)).trans q1
                  have fz3 : (wr.setCell ⟨q, k * 3, none⟩ (.int .i64 1)).drew.frozen? ⟨q, k * 3 + 1, none⟩ = false := fz2
                  clear k1 k2 hT hkd hfk ht hvt q0 q1 q2 bc0 bc1
                  go_region
                  go_wp2_with fail
                  go_roundw
                  case rel => exact ⟨k + 1, _, by omega, by go_num, HO2, HH2, Lib.hid ((heap_setCell_ne HNE.out).trans ((heap_setCell_ne HNE.out).trans HLB.out)), Lib.hid ((heap_setCell_ne HNR.out).trans ((heap_setCell_ne HNR.out).trans HXr.out)), Lib.hid (((bel_drewR HBr.out).setCell (by show w.heap.size ≤ q; omega) _).setCell (by show w.heap.size ≤ q; omega) _)⟩
                  case measure => simp [intOf]; omega
                · have e0 : t.kind = 0 := by rcases hvt with ⟨e, _, _⟩ | ⟨e, _, _⟩ <;> omega
                  have HH2 := Lib.hid (HHF.out.skip ht (by
                    rcases hvt with ⟨e, e2, e3⟩ | ⟨e, _, _⟩
                    · obtain ⟨tk, tp, ta⟩ := t
                      dsimp only at e e2 e3
                      subst e e2 e3
                      rfl
                    · omega))
                  have n1 : (kd == 1) = false := beq_eq_false_iff_ne.2 h1
                  have n2 : (kd == 2) = false := beq_eq_false_iff_ne.2 h2
                  clear hvt e0 hkd hfk ht h1 h2
                  go_wp2
                  go_roundw
                  case rel => exact ⟨k + 1, f, by omega, by go_num, HO, HH2, HLB, HXr, HBr⟩
                  case measure => simp [intOf]; omega
            · obtain ⟨xc0, xc1⟩ := HXr.out.cells
              have xf0 := HXr.out.thaw 0
              have xf1 := HXr.out.thaw 1
              have HFE := Lib.hid (HHF.out.end_ (by rw [HLEN.out]; omega))
              go_wp2
              refine bodyPost_ret (v := .tuple #[.agg #[.string nm, .slice (some ⟨q, 0, none⟩) rn rc], .int .i64 0]) (by simp [results, go_sem, *]) rfl ?_
              refine ⟨⟨some ⟨q, 0, none⟩, rn, rc, by rw [HQ.out.1, HE'.out], ?_⟩, (HBr.out.setCell (by show w.heap.size ≤ w.heap.size + 1; omega) _).setCell (by show w.heap.size ≤ w.heap.size + 1; omega) _⟩
              have h2 := (HO.out.beside ((Beside.refl (w.heap.size + 1) wr).setCell 0 (.string nm)) (by omega)).beside ((Beside.refl (w.heap.size + 1) _).setCell 1 (.slice (some ⟨q, 0, none⟩) rn rc)) (by omega)
              rw [HQ.out.2, ← HFE.out]
              exact (h2.row (by have := HHF.out.len; have := HLEN.out; omega)).1
        · have HE' := Lib.hid (show mirE ts me.toList = 1201 from HE.out)
          have HQ := Lib.hid (show mirN ts nm me.toList = ⟨#[]⟩ ∧ mirQ ts me.toList = [] by unfold mirN mirQ; rw [HE'.out]; exact ⟨rfl, rfl⟩)
          go_wp2_with fail
          refine bodyPost_ret (v := .tuple #[.agg #[.string ⟨#[]⟩, .slice none 0 0], .int .i64 1201]) (by simp [results, go_sem, *]) rfl ?_
          exact ⟨⟨none, 0, 0, by rw [HQ.out.1, HE'.out], by rw [HQ.out.2]; exact Turns.zero _ _ _⟩, ((below_on HB0.out HB4.out).setCell (by show w.heap.size ≤ w.heap.size + 1; omega) _).setCell (by show w.heap.size ≤ w.heap.size + 1; omega) _⟩
end Go.Proofs.YtiofpeckcfdilaaGreatDoor
