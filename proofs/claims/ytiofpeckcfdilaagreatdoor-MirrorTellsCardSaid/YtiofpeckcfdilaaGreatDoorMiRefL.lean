/- Contract of the reference's Lift. -/
import Derived.Test.YtiofpeckcfdilaaGreatDoorMiRefM
import Derived.Test.YtiofpeckcfdilaaGreatDoorMiLifts
import Derived.Test.YtiofpeckcfdilaaGreatDoorNmRefFresh
namespace Go.Proofs.YtiofpeckcfdilaaGreatDoor
open Go.RowKit

theorem mirE_few {ts : List TurnL} {me : Str} (h : mirE ts me = 0) : (peersT ts).length ≤ 1 := by
  obtain ⟨h1, h2⟩ := mirE_ok h
  rw [mirE_bool h1 h2] at h
  rcases Nat.lt_or_ge 1 (peersT ts).length with g | g
  · rw [decide_eq_true g] at h
    simp at h
  · omega
theorem trim_has {ts : List TurnL} (h : locB ts = true) : ∀ t ∈ trimT ts, t.kind ≠ 0 → t.peer ∈ peersT ts := by
  intro t hm hk
  unfold trimT at hm
  obtain ⟨p, hp, rfl⟩ := List.mem_map.1 hm
  have hl := reach_lt h p hp
  dsimp only at hk ⊢
  rw [turnOf_lt hl] at hk ⊢
  exact peer_has h hp (List.getElem?_eq_getElem hl) hk
theorem lift_same {ts : List TurnL} {me : Str} (h : mirE ts me = 0) : ∀ t ∈ trimT ts, t.kind ≠ 0 → t.peer = liftR ts me := by
  intro t hm hk
  have h1 := trim_has (mirE_ok h).1 t hm hk
  have h2 := mirE_few h
  unfold liftR
  rcases hp : peersT ts with _ | ⟨x, r⟩
  · rw [hp] at h1; cases h1
  · rw [hp] at h1 h2
    simp only [List.length_cons] at h2
    obtain rfl : r = [] := List.eq_nil_of_length_eq_zero (by omega)
    exact List.mem_singleton.1 h1
/-- The box of a point. -/
def DBox (W : World) (g : Nat) (r : PR) : Prop := W.heap[g]? = some (.cells #[.string r.q, .string r.s, .slice r.a r.n r.c] 82 (0, 0))
theorem DBox.new (w : World) (r : PR) : DBox (w.alloc (.cells #[.string r.q, .string r.s, .slice r.a r.n r.c] 82)) w.heap.size r := heap_alloc_new w _
theorem DBox.cells {W : World} {g : Nat} {r : PR} (h : DBox W g r) : W.cell? ⟨g, 0, none⟩ = some (.string r.q) ∧ W.cell? ⟨g, 1, none⟩ = some (.string r.s) ∧ W.cell? ⟨g, 2, none⟩ = some (.slice r.a r.n r.c) := by
  unfold DBox at h
  refine ⟨?_, ?_, ?_⟩
  all_goals (rw [cell_of_row _ _ _ _ _ _ h]; rfl)
theorem DBox.thaw {W : World} {g : Nat} {r : PR} (h : DBox W g r) (o : Nat) : W.frozen? ⟨g, o, none⟩ = false := by
  unfold DBox at h
  unfold World.frozen?
  rw [h]
  simp
theorem DBox.two {W : World} {g : Nat} {r : PR} (h : DBox W g r) (x y : ByteArray) : DBox ((W.setCell ⟨g, 0, none⟩ (.string x)).setCell ⟨g, 1, none⟩ (.string y)) g ⟨x, y, r.a, r.n, r.c⟩ := by
  have hset : ∀ (V : World) (cur : Array Value) (o : Nat) (u : Value), V.heap[g]? = some (.cells cur 82 (0, 0)) → (V.setCell ⟨g, o, none⟩ u).heap[g]? = some (.cells (cur.set! o u) 82 (0, 0)) := fun V cur o u hV => by
    obtain ⟨hlt, hk2⟩ := Array.getElem?_eq_some_iff.1 hV
    show (V.heap.modify g _)[g]? = _
    rw [Array.getElem?_eq_getElem (by rw [Array.size_modify]; exact hlt), Array.getElem_modify_self, hk2]
    rfl
  unfold DBox at h ⊢
  exact hset _ _ 1 _ (hset _ _ 0 _ h)
theorem DBox.on {W W' : World} {g : Nat} {r : PR} (h : DBox W g r) (hb : Below W.heap.size W W') : DBox W' g r := (hb.block g (Array.getElem?_eq_some_iff.1 h).1).trans h
theorem QFact.below {w w' : World} {lo0 lo B : Nat} {r : PR} {t : PointL} (h : QFact w lo0 lo r t) (hb : Below B w w') (hl : lo ≤ B) : QFact w' lo0 lo r t := by
  obtain ⟨h1, h2, h3, h4, h5⟩ := h
  exact ⟨h1, h2, h3, h4.below (hb.mono hl), h5⟩
theorem bel_drewT {B : Nat} {w W : World} (h : Below B w W) : Below B w W.drew := ⟨h.os, h.tape, h.output, h.size, h.block⟩
theorem PBox.setN {W : World} {g : Nat} {nm nm' : ByteArray} {ra : Option Addr} {rn rc : Nat} {a : Option Addr} {n c : Nat} (h : PBox W g nm ra rn rc a n c) : PBox (W.setCell ⟨g, 0, none⟩ (.string nm')) g nm' ra rn rc a n c := by
  unfold PBox at h ⊢
  obtain ⟨hlt, hk⟩ := Array.getElem?_eq_some_iff.1 h
  show (W.heap.modify g _)[g]? = _
  rw [Array.getElem?_eq_getElem (by rw [Array.size_modify]; exact hlt), Array.getElem_modify_self, hk]
  rfl
set_option maxHeartbeats 32000000 in
set_option maxRecDepth 20000 in
theorem refLift_any (nm me : ByteArray) (a : Option Addr) (n c : Nat) (ts : List TurnL) (w : World) (bound : Nat) (hb : bound ≤ w.heap.size) (h : Turns w bound a n ts) (hm : me.size ≤ maxLen) (hnm : nm.size ≤ maxLen) :
    Calls Tryz.prog 14 #[.agg #[.string nm, .slice a n c], .string me] w fun e w' => LiftRet nm ts me.toList w e w' := by
  obtain ⟨w0, hw0⟩ : ∃ w0, w0 = (w.alloc (.cells #[.string nm, .slice a n c] 24)).alloc (.cells #[.string ⟨#[]⟩, .slice none 0 0, .slice none 0 0] 37) := ⟨_, rfl⟩
  have hsz0 : w0.heap.size = w.heap.size + 2 := by rw [hw0]; simp
  have HB0 := Lib.hid (show Below w.heap.size w w0 by rw [hw0]; exact below_on (tu1 w _) (tu1 _ _))
  have HL0 := Lib.hid (show LBox w0 w.heap.size nm a n c by rw [hw0]; exact (LBox.new w nm a n c).on (tu1 _ _))
  have HX0 := Lib.hid (show PBox w0 (w.heap.size + 1) ⟨#[]⟩ none 0 0 none 0 0 by
    rw [hw0]
    have := PBox.new (w.alloc (.cells #[.string nm, .slice a n c] 24)) ⟨#[]⟩ none 0 0 none 0 0
    rw [World.size_alloc] at this
    exact this)
  have CM := Lib.hid (fun (W : World) (hW : Below w0.heap.size w0 W) => refMirror_any nm me a n c ts W bound (by have := hW.size; omega) ((h.below (HB0.out.mono hb)).below (hW.mono (by omega))) hm)
  have CP := Lib.hid (fun (W : World) (hW : Below w0.heap.size w0 W) => tuPeers_any nm a n c ts W bound (by have := hW.size; omega) ((h.below (HB0.out.mono hb)).below (hW.mono (by omega))))
  have CT := Lib.hid (fun (W : World) (hW : Below w0.heap.size w0 W) => tuTrimO_any nm a n c ts W bound (by have := hW.size; omega) ((h.below (HB0.out.mono hb)).below (hW.mono (by omega))))
  have CK := Lib.hid (fun (W : World) => nameOK_any nm W hnm)
  have CF := Lib.hid (fun (W : World) => refFresh_any (some ⟨W.heap.size, 0, none⟩) 1 1 [me.toList] ⟨#[112, 101, 101, 114]⟩ (W.alloc (.cells #[.string me] 9)) (by omega) (by simp [maxLen, ByteArray.size]) ((strs_one W me hm).more (by simp)))
  rw [peer_list] at CF
  unfold OfRet at CM
  obtain ⟨MN, hMN⟩ : ∃ MN, MN = mirN ts nm me.toList := ⟨_, rfl⟩
  rw [← hMN] at CM
  obtain ⟨lc0, lc1⟩ := HL0.out.cells
  obtain ⟨xc0, xc1, xc2⟩ := HX0.out.cells
  have HSZ := Lib.hid hsz0
  clear h hMN
  by_cases hme0 : mirE ts me.toList = 0
  · have HV := Lib.hid (mirE_ok hme0).1
    have HFP := Lib.hid (mirE_few hme0)
    have HSM := Lib.hid (lift_same hme0)
    have H40 := Lib.hid (show (trimT ts).length ≤ 40 by have := trimL_few ts; rw [trimL_of HV.out] at this; exact this)
    rw [hme0] at CM
    rw [trimL_of HV.out, trimName_of HV.out] at CT
    by_cases h24 : 24 < (trimT ts).length
    · have HE := Lib.hid (show liftE ts me.toList = 1202 by unfold liftE; rw [if_pos hme0, trimL_of HV.out, if_pos h24])
      have HQ := Lib.hid (show liftQN ts nm me.toList = ⟨#[]⟩ ∧ liftQR ts me.toList = [] ∧ liftQP ts me.toList = [] by unfold liftQN liftQR liftQP; rw [HE.out]; exact ⟨rfl, rfl, rfl⟩)
      have H24 := Lib.hid h24
      clear hme0 h24 hsz0
      subst hw0
      go_enter Tryz.func14, Tryz.ntmps14
      go_wp2_with (first
        | (go_at_call 12; (with_reducible refine (CM.out _ (Below.refl _ _)).mono ?_)
           rintro e w1 ⟨⟨ra, rn, rc, rfl, _⟩, hb1⟩
           have HBY := Lib.hid (below_on hb1 (tu1 w1 (.cells #[.string MN, .slice ra rn rc] 24)))
           have HL1 := Lib.hid (HL0.out.on HBY.out)
           have HX1 := Lib.hid (HX0.out.on HBY.out)
           obtain ⟨_, _⟩ := HL1.out.cells
           obtain ⟨_, _, _⟩ := HX1.out.cells
           have f0 := HX1.out.thaw 0
           have f1 := HX1.out.thaw 1
           have f2 := HX1.out.thaw 2
           clear hb1)
        | (go_at_call 39; (with_reducible refine (CT.out _ HBY.out).mono ?_)
           rintro e w2 ⟨⟨ta, tn, tc, rfl, ht2⟩, hb2⟩
           have HB2 := Lib.hid (below_on HBY.out hb2)
           have HX2 := Lib.hid ((HX1.out.on hb2).on (tu1 w2 (.cells #[.string nm, .slice ta tn tc] 24)))
           obtain ⟨ra', rc', hsl, _⟩ := ht2.sees (by have := H40.out; omega)
           have hrn : (trimT ts).length = tn := (Value.slice.inj hsl).2.1.symm
           have d24 : decide ((24 : Int) < (tn : Int)) = true := decide_eq_true (by have := H24.out; omega)
           obtain ⟨_, _, _⟩ := HX2.out.cells
           have f3 := HX2.out.thaw 0
           have f4 := HX2.out.thaw 1
           have f5 := HX2.out.thaw 2
           clear hb2 hsl ht2 hrn)
        | fail)
      refine bodyPost_ret (v := .tuple #[.agg #[.string ⟨#[]⟩, .slice none 0 0, .slice none 0 0], .int .i64 1202]) (by simp [results, go_sem, *]) rfl ?_
      exact ⟨⟨none, 0, 0, none, 0, 0, by rw [HQ.out.1, HE.out], by rw [HQ.out.2.1]; exact Strs.zero _ _ _, by rw [HQ.out.2.2]; exact Pts.zero _ _ _⟩, ((((below_on HB0.out (below_on HB2.out (tu1 w2 _))).setCell (by show w.heap.size ≤ w.heap.size + 1; omega) _).setCell (by show w.heap.size ≤ w.heap.size + 1; omega) _).setCell (by show w.heap.size ≤ w.heap.size + 1; omega) _)⟩
    · have HE := Lib.hid (show liftE ts me.toList = 0 by unfold liftE; rw [if_pos hme0, trimL_of HV.out, if_neg h24])
      have HQ := Lib.hid (show liftQN ts nm me.toList = liftN nm ∧ liftQR ts me.toList = [me.toList, liftR ts me.toList] ∧ liftQP ts me.toList = pntL me.toList (trimT ts) by unfold liftQN liftQR liftQP; rw [HE.out]; exact ⟨rfl, rfl, rfl⟩)
      have H24 := Lib.hid h24
      clear hme0 h24 hsz0
      subst hw0
      go_enter Tryz.func14, Tryz.ntmps14
      go_upto_region 7 with (first
        | (go_at_call 12; (with_reducible refine (CM.out _ (Below.refl _ _)).mono ?_)
           rintro e w1 ⟨⟨ra, rn, rc, rfl, _⟩, hb1⟩
           have HBY := Lib.hid (below_on hb1 (tu1 w1 (.cells #[.string MN, .slice ra rn rc] 24)))
           have HL1 := Lib.hid (HL0.out.on HBY.out)
           have HX1 := Lib.hid (HX0.out.on HBY.out)
           obtain ⟨_, _⟩ := HL1.out.cells
           obtain ⟨_, _, _⟩ := HX1.out.cells
           have f0 := HX1.out.thaw 0
           have f1 := HX1.out.thaw 1
           have f2 := HX1.out.thaw 2
           clear hb1)
        | (go_at_call 39; (with_reducible refine (CT.out _ HBY.out).mono ?_)
           rintro e w2 ⟨⟨ta, tn, tc, rfl, ht2⟩, hb2⟩
           obtain ⟨lo0, hlo0⟩ : ∃ lo0, lo0 = (w1.alloc (.cells #[.string MN, .slice ra rn rc] 24)).heap.size := ⟨_, rfl⟩
           have hz1 : w.heap.size + 2 ≤ lo0 := by have := HBY.out.size; have := HSZ.out; omega
           have hz2 : lo0 ≤ w2.heap.size := by have := hb2.size; omega
           have HT2 := Lib.hid (show TOwn w2 lo0 (.slice ta tn tc) (trimT ts) by rw [hlo0]; exact ht2)
           have HB2 := Lib.hid (below_on HBY.out hb2)
           have HL2 := Lib.hid (HL1.out.on hb2)
           have HX2 := Lib.hid (HX1.out.on hb2)
           obtain ⟨ra', rc', hsl, _⟩ := ht2.sees (by have := H40.out; omega)
           have HRN := Lib.hid (show (trimT ts).length = tn from (Value.slice.inj hsl).2.1.symm)
           have ht40 : tn ≤ 40 := by have := H40.out; have := HRN.out; omega
           have d24 : decide ((24 : Int) < (tn : Int)) = false := decide_eq_false (by have := H24.out; have := HRN.out; omega)
           clear hb2 hsl ht2 hlo0)
        | fail)
      have HL3 := Lib.hid (LBox.new w2 nm ta tn tc)
      have HBX := Lib.hid (tu1 w2 (.cells #[.string nm, .slice ta tn tc] 24))
      obtain ⟨g8, hg8⟩ : ∃ g8, g8 = w2.heap.size := ⟨_, rfl⟩
      rw [← hg8] at HL3 ⊢
      generalize hw3 : w2.alloc (.cells #[.string nm, .slice ta tn tc] 24) = w3 at HL3 HBX ⊢
      have hz3 : w2.heap.size + 1 ≤ w3.heap.size := by rw [← hw3]; simp
      have hz3b : w3.heap.size ≤ w2.heap.size + 1 := by rw [← hw3]; simp
      have hg8a : w2.heap.size ≤ g8 := by omega
      have hg8b : g8 ≤ w2.heap.size := by omega
      clear hw3 hg8 lc0 lc1 xc0 xc1 xc2 d24 f0 f1 f2
      have HLA := Lib.hid (HL2.out.on HBX.out)
      have HXA := Lib.hid (HX2.out.on HBX.out)
      have HB3 := Lib.hid (below_on HB2.out HBX.out)
      go_upto_region 9 with (first
        | (go_at_call 45; (with_reducible refine (CF.out w3).mono ?_)
           rintro e w4 ⟨rfl, hb4⟩
           have HB4 := Lib.hid (below_on (tu1 w3 (.cells #[.string me] 9)) hb4)
           have HL4 := Lib.hid (HLA.out.on HB4.out)
           obtain ⟨_, _⟩ := HL4.out.cells
           clear hb4)
        | (go_at_call 38; (with_reducible refine (CP.out _ (below_on HB3.out HB4.out)).mono ?_)
           rintro e w5 ⟨⟨ya, yn, yc, rfl, hss⟩, hb5⟩
           have HB5 := Lib.hid (below_on HB4.out hb5)
           have HSS := Lib.hid hss
           clear hb5 hss)
        | fail)
      go_upto_if 38 with fail
      go_cut [9] (fun s9 wx => ∃ s : ByteArray, s9 = .string s ∧ Hid (s.toList = liftR ts me.toList ∧ s.size ≤ maxLen) ∧ Hid (Below w5.heap.size w5 wx))
      case first =>
        have H5 := Lib.hid (Below.refl w5.heap.size w5)
        rcases hp : peersT ts with _ | ⟨x, _ | ⟨y, r⟩⟩
        · rw [hp] at HSS
          obtain rfl : yn = 0 := HSS.out.1.symm
          have HZ := Lib.hid (show (baS (freshS [me.toList] peerS)).toList = liftR ts me.toList ∧ (baS (freshS [me.toList] peerS)).size ≤ maxLen by
            refine ⟨by rw [baS_toList]; unfold liftR; rw [hp], ?_⟩
            rw [← len_toList, baS_toList]
            have := fresh_short me.toList
            unfold maxLen
            omega)
          clear hp
          go_wp2_with fail
          go_meet
          case rel => exact ⟨_, rfl, HZ, H5⟩
        · rw [hp] at HSS
          obtain rfl : yn = 1 := HSS.out.1.symm
          have HZ := Lib.hid (show (baS x).toList = liftR ts me.toList ∧ (baS x).size ≤ maxLen by
            refine ⟨by rw [baS_toList]; unfold liftR; rw [hp], ?_⟩
            rw [← len_toList, baS_toList]
            exact HSS.out.max x (by simp))
          obtain ⟨b, off, rfl, hb', hc⟩ := HSS.out.at_ (k := 0) (by omega)
          rw [Nat.add_zero, show ([x] : List Str).getD 0 [] = x from rfl] at hc
          unfold encStr at hc
          clear hp
          go_wp2_with fail
          go_meet
          case rel => exact ⟨_, rfl, HZ, H5⟩
        · have := HFP.out
          rw [hp] at this
          simp at this
      case rest =>
        obtain ⟨s, e9, HS, HC⟩ := hcut
        subst e9
        obtain ⟨wk, hwk⟩ : ∃ wk : World, wk = wc := ⟨_, rfl⟩
        rw [← hwk] at HC ⊢
        clear hwk
        have HBk := Lib.hid (below_on HB5.out HC.out)
        have HLk := Lib.hid (HL3.out.on HBk.out)
        have HLp := Lib.hid (HLA.out.on HBk.out)
        have HXk := Lib.hid (HXA.out.on HBk.out)
        have hzk : w3.heap.size ≤ wk.heap.size := HBk.out.size
        go_upto_region 12 with fail
        have HRW := Lib.hid (heap_alloc_new wk (.cells #[.string me, .string s] 9))
        have HPB := Lib.hid (show PBox ((wk.alloc (.cells #[.string me, .string s] 9)).alloc (.cells #[.string ⟨#[112, 97, 105, 114]⟩, .slice (some ⟨wk.heap.size, 0, none⟩) 2 2, .slice none 0 0] 37)) (wk.heap.size + 1) ⟨#[112, 97, 105, 114]⟩ (some ⟨wk.heap.size, 0, none⟩) 2 2 none 0 0 by
          have := PBox.new (wk.alloc (.cells #[.string me, .string s] 9)) ⟨#[112, 97, 105, 114]⟩ (some ⟨wk.heap.size, 0, none⟩) 2 2 none 0 0
          rw [World.size_alloc] at this
          exact this)
        have HR6 := Lib.hid (((tu1 (wk.alloc (.cells #[.string me, .string s] 9)) (.cells #[.string ⟨#[112, 97, 105, 114]⟩, .slice (some ⟨wk.heap.size, 0, none⟩) 2 2, .slice none 0 0] 37)).block wk.heap.size (by simp)).trans HRW.out)
        have HB6 := Lib.hid (below_on (tu1 wk (.cells #[.string me, .string s] 9)) (tu1 (wk.alloc (.cells #[.string me, .string s] 9)) (.cells #[.string ⟨#[112, 97, 105, 114]⟩, .slice (some ⟨wk.heap.size, 0, none⟩) 2 2, .slice none 0 0] 37)))
        generalize hw6 : (wk.alloc (.cells #[.string me, .string s] 9)).alloc (.cells #[.string ⟨#[112, 97, 105, 114]⟩, .slice (some ⟨wk.heap.size, 0, none⟩) 2 2, .slice none 0 0] 37) = w6 at HPB HR6 HB6 ⊢
        have hz6 : wk.heap.size + 2 ≤ w6.heap.size := by rw [← hw6]; simp
        have hz6b : w6.heap.size ≤ wk.heap.size + 2 := by rw [← hw6]; simp
        obtain ⟨g11, hg11⟩ : ∃ g11, g11 = wk.heap.size + 1 := ⟨_, rfl⟩
        rw [← hg11] at HPB ⊢
        have hg11a : wk.heap.size + 1 ≤ g11 := by omega
        have hg11b : g11 ≤ wk.heap.size + 1 := by omega
        clear hw6 HRW hg11
        have HL6 := Lib.hid (HLk.out.on HB6.out)
        have HP6 := Lib.hid (HLp.out.on HB6.out)
        have HX6 := Lib.hid (HXk.out.on HB6.out)
        have HW6 := Lib.hid (below_on HB0.out (below_on HB3.out (below_on HBk.out HB6.out)))
        have HT6 := Lib.hid (below_on HBX.out (below_on HBk.out HB6.out))
        obtain ⟨pc0, pc1⟩ := HP6.out.cells
        obtain ⟨bc0, bc1, bc2⟩ := HPB.out.cells
        have bf0 := HPB.out.thaw 0
        obtain ⟨mb, hmb⟩ : ∃ mb, mb = may nm.toList := ⟨_, rfl⟩
        rw [← hmb] at CK
        have HMB := Lib.hid hmb
        clear hmb
        go_upto_if 48 with (first
          | (go_at_call 37; (with_reducible refine (CK.out _).mono ?_)
             rintro e w7 ⟨rfl, rfl⟩)
          | fail)
        go_cut [] (fun wx => Hid (PBox wx g11 (liftN nm) (some ⟨wk.heap.size, 0, none⟩) 2 2 none 0 0) ∧ Hid (Below g11 w6 wx))
        case first =>
          cases mb
          · have HN := Lib.hid (show liftN nm = ⟨#[112, 97, 105, 114]⟩ by unfold liftN; rw [← HMB.out]; rfl)
            go_wp2_with fail
            go_meet
            case rel => exact ⟨Lib.hid (by rw [HN.out]; exact HPB.out), Lib.hid (Below.refl _ _)⟩
          · have HN := Lib.hid (show liftN nm = nm by unfold liftN; rw [← HMB.out]; rfl)
            go_wp2_with fail
            go_meet
            case rel => exact ⟨Lib.hid (by rw [HN.out]; exact HPB.out.setN), Lib.hid ((Below.refl g11 w6).setCell (by show g11 ≤ g11; omega) _)⟩
        case rest =>
          obtain ⟨HPS, HC7⟩ := hcut
          obtain ⟨ws, hws⟩ : ∃ ws : World, ws = wc := ⟨_, rfl⟩
          rw [← hws] at HPS HC7 ⊢
          clear hws pc0 pc1 bc0 bc1 bc2 bf0 CM CP CT CK CF
          have hzs : w6.heap.size ≤ ws.heap.size := HC7.out.size
          have hlo : w2.heap.size ≤ g11 + 1 := by omega
          go_wp2_with fail
          go_loopw [12] (fun i wr => ∃ (k : Nat) (pa : Option Addr) (pn pc : Nat), k ≤ tn ∧ i = .int .i64 k ∧ Hid (PBox wr g11 (liftN nm) (some ⟨wk.heap.size, 0, none⟩) 2 2 pa pn pc) ∧ Hid (QOwn wr lo0 w2.heap.size (g11 + 1) (.slice pa pn pc) (((trimT ts).take k).map (pntT me.toList))) ∧ Hid (Below g11 ws wr)) (fun i _ => tn - (intOf i).toNat)
          case atStart => exact ⟨0, none, 0, 0, Nat.zero_le _, rfl, HPS, Lib.hid (QOwn.zero _ _ _ _), Lib.hid (Below.refl _ _)⟩
          case round =>
            obtain ⟨k, pa, pn, pc, hk, rfl, HPr, HO, HBr⟩ := hrel
            have HB6r := Lib.hid (HC7.out.trans HBr.out)
            have hzr0 : ws.heap.size ≤ wr.heap.size := HBr.out.size
            have hzr : w2.heap.size ≤ wr.heap.size := by omega
            have HLr := Lib.hid (show LBox wr g8 nm ta tn tc from (HB6r.out.block g8 (by omega)).trans HL6.out)
            obtain ⟨rc0, rc1⟩ := HLr.out.cells
            by_cases hkn : k < tn
            · have HW2 := Lib.hid (show Below w2.heap.size w2 wr from HT6.out.trans (HB6r.out.mono (by omega)))
              obtain ⟨q, ⟨kd, sp, aa, an, ac⟩, t, hqq, hbb, ht, ⟨q0, q1, q2⟩, hvf⟩ := HT2.out.at2 hkn
              subst hqq
              dsimp only at q0 q1 q2
              have r0 := (HW2.out.cell (p := ⟨q, k * 3, none⟩) hbb).trans q0
              have r2 := (HW2.out.cell (p := ⟨q, k * 3 + 2, none⟩) hbb).trans q2
              have HVF := Lib.hid (hvf.below HW2.out)
              have HTK := Lib.hid ht
              have HKD := Lib.hid (show kd = t.kind from hvf.1)
              have HTB := Lib.hid (turnB_arms ((locB_one (trim_valid HV.out)).2.2 t (List.mem_of_getElem? ht)))
              have HPE := Lib.hid (HSM.out t (List.mem_of_getElem? ht))
              obtain ⟨T, hT⟩ : ∃ T, T = pntT me.toList t := ⟨_, rfl⟩
              have HTT := Lib.hid hT
              have HFL := Lib.hid (show (((trimT ts).take k).map (pntT me.toList)).length ≤ 1000000 by rw [List.length_map, List.length_take]; omega)
              have i1 : (k : Int) < (tn : Int) := by omega
              have i2 : (0 : Int) ≤ (k : Int) := by omega
              have hqz : q < wr.heap.size := by omega
              clear ht hvf q0 q1 q2 hT
              go_upto_region 18 with fail
              have HD := Lib.hid (DBox.new wr ⟨⟨#[]⟩, ⟨#[]⟩, aa, an, ac⟩)
              have HBD := Lib.hid (tu1 wr (.cells #[.string ⟨#[]⟩, .string ⟨#[]⟩, .slice aa an ac] 82))
              dsimp only at HD
              obtain ⟨gp, hgp⟩ : ∃ gp, gp = wr.heap.size := ⟨_, rfl⟩
              rw [← hgp] at HD ⊢
              generalize hwx : wr.alloc (.cells #[.string ⟨#[]⟩, .string ⟨#[]⟩, .slice aa an ac] 82) = wx at HD HBD ⊢
              have s0 := (HBD.out.cell (p := ⟨q, k * 3, none⟩) hqz).trans r0
              have HLx := Lib.hid (HLr.out.on HBD.out)
              obtain ⟨x0, x1⟩ := HLx.out.cells
              obtain ⟨d0, d1, d2⟩ := HD.out.cells
              have df0 := HD.out.thaw 0
              have df1 := HD.out.thaw 1
              have hgpa : wr.heap.size ≤ gp := by omega
              have hgpb : gp ≤ wr.heap.size := by omega
              clear hwx hgp rc0 rc1 r0 r2
              by_cases h1 : kd = 1
              · subst h1
                have HQF := Lib.hid (show QFact wr lo0 w2.heap.size ⟨me, s, aa, an, ac⟩ T by
                  have e := HPE.out (by have := HKD.out; omega)
                  rw [HTT.out]; unfold pntT; rw [if_pos HKD.out.symm]
                  exact ⟨⟨rfl, hm⟩, by rw [e]; exact HS.out.1, HS.out.2, HVF.out.2.2.2.1, HVF.out.2.2.2.2⟩)
                have HDY := Lib.hid (HD.out.two me s)
                have HBY2 := Lib.hid ((HBD.out.setCell (p := ⟨gp, 0, none⟩) (show wr.heap.size ≤ gp by omega) (.string me)).setCell (p := ⟨gp, 1, none⟩) (show wr.heap.size ≤ gp by omega) (.string s))
                go_upto_region 23 with fail
                generalize hwy : (wx.setCell ⟨gp, 0, none⟩ (.string me)).setCell ⟨gp, 1, none⟩ (.string s) = wy at HDY HBY2 ⊢
                clear hwy d0 d1 d2
                have HST := Lib.hid (show ((trimT ts).take (k + 1)).map (pntT me.toList) = ((trimT ts).take k).map (pntT me.toList) ++ [T] by rw [HTT.out, take_snoc HTK.out, List.map_append]; rfl)
                have HQY := Lib.hid (HQF.out.below HBY2.out hzr)
                have HOY := Lib.hid (HO.out.below HBY2.out (Nat.le_refl _) hzr)
                have HPY := Lib.hid (HPr.out.on HBY2.out)
                have hzy := HBY2.out.size
                obtain ⟨_, _, _⟩ := HPY.out.cells
                obtain ⟨_, _, _⟩ := HDY.out.cells
                go_wp2_with (first
                  | (at_builtin
                     refine wpList_append_qpoint rfl (.tmp 85) (.tmp 87) rfl lo0 w2.heap.size (g11 + 1) (.slice pa pn pc) (((trimT ts).take k).map (pntT me.toList)) ⟨me, s, aa, an, ac⟩ T rfl rfl rfl rfl HOY.out HQY.out hlo (by omega) HFL.out wy (Below.refl _ _) ?_
                     intro v4 w4 hown hbel
                     obtain ⟨pa4, pc4, hv4, _⟩ := hown.sees (by rw [List.length_append]; have := HFL.out; simp at *; omega) (by have := hbel.size; omega)
                     obtain ⟨N4, hN4⟩ : ∃ N4, N4 = (((trimT ts).take k).map (pntT me.toList) ++ [T]).length := ⟨_, rfl⟩
                     rw [← hN4] at hv4
                     clear hN4
                     have HO4 := Lib.hid (show QOwn w4 lo0 w2.heap.size (g11 + 1) (.slice pa4 N4 pc4) (((trimT ts).take k).map (pntT me.toList) ++ [T]) by rw [← hv4]; exact hown)
                     subst hv4
                     have HP4 := Lib.hid (show PBox w4 g11 (liftN nm) (some ⟨wk.heap.size, 0, none⟩) 2 2 pa pn pc from (hbel.block g11 (by omega)).trans HPY.out)
                     have HB4 := Lib.hid (HBr.out.trans ((HBY2.out.mono (by omega)).trans (hbel.mono (by omega))))
                     have hz4 : w2.heap.size ≤ w4.heap.size := by have := hbel.size; omega
                     obtain ⟨_, _, _⟩ := HP4.out.cells
                     have f4 := HP4.out.thaw 2
                     clear hown hbel)
                  | fail)
                go_roundw
                case rel => exact ⟨k + 1, pa4, _, pc4, by omega, by go_num, Lib.hid HP4.out.set, Lib.hid (by rw [HST.out]; exact HO4.out.beside ((Beside.refl g11 w4).setCell 2 _) (.inr (by omega)) (by omega) hz4), Lib.hid (HB4.out.setCell (by show g11 ≤ g11; omega) _)⟩
                case measure => simp [intOf]; omega
              · by_cases h2 : kd = 2
                · subst h2
                  have HQF := Lib.hid (show QFact wr lo0 w2.heap.size ⟨s, me, aa, an, ac⟩ T by
                    have e := HPE.out (by have := HKD.out; omega)
                    rw [HTT.out]; unfold pntT; rw [if_neg (by have := HKD.out; omega), if_pos HKD.out.symm]
                    exact ⟨⟨by rw [e]; exact HS.out.1, HS.out.2⟩, rfl, hm, HVF.out.2.2.2.1, HVF.out.2.2.2.2⟩)
                  have HDY := Lib.hid (HD.out.two s me)
                  have HBY2 := Lib.hid ((HBD.out.setCell (p := ⟨gp, 0, none⟩) (show wr.heap.size ≤ gp by omega) (.string s)).setCell (p := ⟨gp, 1, none⟩) (show wr.heap.size ≤ gp by omega) (.string me))
                  go_upto_region 23 with fail
                  generalize hwy : (wx.setCell ⟨gp, 0, none⟩ (.string s)).setCell ⟨gp, 1, none⟩ (.string me) = wy at HDY HBY2 ⊢
                  clear hwy d0 d1 d2
                  have HST := Lib.hid (show ((trimT ts).take (k + 1)).map (pntT me.toList) = ((trimT ts).take k).map (pntT me.toList) ++ [T] by rw [HTT.out, take_snoc HTK.out, List.map_append]; rfl)
                  have HQY := Lib.hid (HQF.out.below HBY2.out hzr)
                  have HOY := Lib.hid (HO.out.below HBY2.out (Nat.le_refl _) hzr)
                  have HPY := Lib.hid (HPr.out.on HBY2.out)
                  have hzy := HBY2.out.size
                  obtain ⟨_, _, _⟩ := HPY.out.cells
                  obtain ⟨_, _, _⟩ := HDY.out.cells
                  go_wp2_with (first
                    | (at_builtin
                       refine wpList_append_qpoint rfl (.tmp 85) (.tmp 87) rfl lo0 w2.heap.size (g11 + 1) (.slice pa pn pc) (((trimT ts).take k).map (pntT me.toList)) ⟨s, me, aa, an, ac⟩ T rfl rfl rfl rfl HOY.out HQY.out hlo (by omega) HFL.out wy (Below.refl _ _) ?_
                       intro v4 w4 hown hbel
                       obtain ⟨pa4, pc4, hv4, _⟩ := hown.sees (by rw [List.length_append]; have := HFL.out; simp at *; omega) (by have := hbel.size; omega)
                       obtain ⟨N4, hN4⟩ : ∃ N4, N4 = (((trimT ts).take k).map (pntT me.toList) ++ [T]).length := ⟨_, rfl⟩
                       rw [← hN4] at hv4
                       clear hN4
                       have HO4 := Lib.hid (show QOwn w4 lo0 w2.heap.size (g11 + 1) (.slice pa4 N4 pc4) (((trimT ts).take k).map (pntT me.toList) ++ [T]) by rw [← hv4]; exact hown)
                       subst hv4
                       have HP4 := Lib.hid (show PBox w4 g11 (liftN nm) (some ⟨wk.heap.size, 0, none⟩) 2 2 pa pn pc from (hbel.block g11 (by omega)).trans HPY.out)
                       have HB4 := Lib.hid (HBr.out.trans ((HBY2.out.mono (by omega)).trans (hbel.mono (by omega))))
                       have hz4 : w2.heap.size ≤ w4.heap.size := by have := hbel.size; omega
                       obtain ⟨_, _, _⟩ := HP4.out.cells
                       have f4 := HP4.out.thaw 2
                       clear hown hbel)
                    | fail)
                  go_roundw
                  case rel => exact ⟨k + 1, pa4, _, pc4, by omega, by go_num, Lib.hid HP4.out.set, Lib.hid (by rw [HST.out]; exact HO4.out.beside ((Beside.refl g11 w4).setCell 2 _) (.inr (by omega)) (by omega) hz4), Lib.hid (HB4.out.setCell (by show g11 ≤ g11; omega) _)⟩
                  case measure => simp [intOf]; omega
                · have n1 : (kd == 1) = false := beq_eq_false_iff_ne.2 h1
                  have n2 : (kd == 2) = false := beq_eq_false_iff_ne.2 h2
                  have HQF := Lib.hid (show QFact wr lo0 w2.heap.size ⟨⟨#[]⟩, ⟨#[]⟩, aa, an, ac⟩ T by
                    have hz := HTB.out
                    rw [HTT.out]; unfold pntT; rw [if_neg (by have := HKD.out; omega), if_neg (by have := HKD.out; omega)]
                    have ha : t.arms = [] := by rcases hz with ⟨_, _, e⟩ | ⟨e, _, _⟩
                                                · exact e
                                                · have := HKD.out; omega
                    have h4 := HVF.out.2.2.2.1
                    rw [ha] at h4
                    exact ⟨⟨by rw [ByteArray.toList_eq], by simp [maxLen, ByteArray.size]⟩, by rw [ByteArray.toList_eq], by simp [maxLen, ByteArray.size], h4, HVF.out.2.2.2.2⟩)
                  go_upto_region 23 with fail
                  clear d0 d1 d2
                  have HDY := HD
                  have HBY2 := HBD
                  generalize hwy : wx = wy at HDY HBY2 ⊢
                  clear hwy
                  have HST := Lib.hid (show ((trimT ts).take (k + 1)).map (pntT me.toList) = ((trimT ts).take k).map (pntT me.toList) ++ [T] by rw [HTT.out, take_snoc HTK.out, List.map_append]; rfl)
                  have HQY := Lib.hid (HQF.out.below HBY2.out hzr)
                  have HOY := Lib.hid (HO.out.below HBY2.out (Nat.le_refl _) hzr)
                  have HPY := Lib.hid (HPr.out.on HBY2.out)
                  have hzy := HBY2.out.size
                  obtain ⟨_, _, _⟩ := HPY.out.cells
                  obtain ⟨_, _, _⟩ := HDY.out.cells
                  go_wp2_with (first
                    | (at_builtin
                       refine wpList_append_qpoint rfl (.tmp 85) (.tmp 87) rfl lo0 w2.heap.size (g11 + 1) (.slice pa pn pc) (((trimT ts).take k).map (pntT me.toList)) ⟨⟨#[]⟩, ⟨#[]⟩, aa, an, ac⟩ T rfl rfl rfl rfl HOY.out HQY.out hlo (by omega) HFL.out wy (Below.refl _ _) ?_
                       intro v4 w4 hown hbel
                       obtain ⟨pa4, pc4, hv4, _⟩ := hown.sees (by rw [List.length_append]; have := HFL.out; simp at *; omega) (by have := hbel.size; omega)
                       obtain ⟨N4, hN4⟩ : ∃ N4, N4 = (((trimT ts).take k).map (pntT me.toList) ++ [T]).length := ⟨_, rfl⟩
                       rw [← hN4] at hv4
                       clear hN4
                       have HO4 := Lib.hid (show QOwn w4 lo0 w2.heap.size (g11 + 1) (.slice pa4 N4 pc4) (((trimT ts).take k).map (pntT me.toList) ++ [T]) by rw [← hv4]; exact hown)
                       subst hv4
                       have HP4 := Lib.hid (show PBox w4 g11 (liftN nm) (some ⟨wk.heap.size, 0, none⟩) 2 2 pa pn pc from (hbel.block g11 (by omega)).trans HPY.out)
                       have HB4 := Lib.hid (HBr.out.trans ((HBY2.out.mono (by omega)).trans (hbel.mono (by omega))))
                       have hz4 : w2.heap.size ≤ w4.heap.size := by have := hbel.size; omega
                       obtain ⟨_, _, _⟩ := HP4.out.cells
                       have f4 := HP4.out.thaw 2
                       clear hown hbel)
                    | fail)
                  go_roundw
                  case rel => exact ⟨k + 1, pa4, _, pc4, by omega, by go_num, Lib.hid HP4.out.set, Lib.hid (by rw [HST.out]; exact HO4.out.beside ((Beside.refl g11 w4).setCell 2 _) (.inr (by omega)) (by omega) hz4), Lib.hid (HB4.out.setCell (by show g11 ≤ g11; omega) _)⟩
                  case measure => simp [intOf]; omega
            · have hl : (trimT ts).length ≤ k := by rw [HRN.out]; omega
              have HOE := Lib.hid (show QOwn wr lo0 w2.heap.size (g11 + 1) (.slice pa pn pc) (pntL me.toList (trimT ts)) by
                have := HO.out
                rw [List.take_of_length_le hl] at this
                exact this)
              obtain ⟨_, _, hsv, _⟩ := HOE.out.sees (by rw [pnt_len]; have := H40.out; omega) hzr
              have hpn : pn = (pntL me.toList (trimT ts)).length := (Value.slice.inj hsv).2.1
              have hp40 : pn ≤ 1000 := by rw [hpn, pnt_len]; have := H40.out; omega
              have HXr := Lib.hid (show PBox wr (w.heap.size + 1) ⟨#[]⟩ none 0 0 none 0 0 from (HB6r.out.block (w.heap.size + 1) (by omega)).trans HX6.out)
              have HRr := Lib.hid ((HB6r.out.block wk.heap.size (by omega)).trans HR6.out)
              have HWr := Lib.hid (HW6.out.trans (HB6r.out.mono (by omega)))
              obtain ⟨_, _, _⟩ := HPr.out.cells
              obtain ⟨_, _, _⟩ := HXr.out.cells
              have f0 := HXr.out.thaw 0
              have f1 := HXr.out.thaw 1
              have f2 := HXr.out.thaw 2
              have HNE := Lib.hid (show wk.heap.size ≠ w.heap.size + 1 ∧ w.heap.size + 1 < lo0 ∧ w.heap.size + 1 < g11 + 1 by omega)
              have HPN := Lib.hid (And.intro hpn hp40)
              clear hpn hp40 hsv
              have d1 : decide ((k : Int) < (tn : Int)) = false := decide_eq_false (by omega)
              go_wp2_with fail
              refine bodyPost_ret (v := .tuple #[.agg #[.string (liftN nm), .slice (some ⟨wk.heap.size, 0, none⟩) 2 2, .slice pa pn pc], .int .i64 0]) (by simp [results, go_sem, *]) rfl ?_
              have hE := lift_end (gR := w.heap.size + 1) HRr.out HNE.out.1 hm HS.out.2 HOE.out HNE.out.2.1 HNE.out.2.2 hzr HPN.out.1.symm HPN.out.2 (.string (liftN nm)) (.slice (some ⟨wk.heap.size, 0, none⟩) 2 2) (.slice pa pn pc)
              exact ⟨⟨_, _, _, _, _, _, by rw [HQ.out.1, HE.out], by rw [HQ.out.2.1, ← HS.out.1]; exact hE.1, by rw [HQ.out.2.2]; exact hE.2⟩, ((HWr.out.setCell (by show w.heap.size ≤ w.heap.size + 1; omega) _).setCell (by show w.heap.size ≤ w.heap.size + 1; omega) _).setCell (by show w.heap.size ≤ w.heap.size + 1; omega) _⟩
  · have hle : liftE ts me.toList = mirE ts me.toList := by unfold liftE; rw [if_neg hme0]
    have HQ := Lib.hid (show liftQN ts nm me.toList = ⟨#[]⟩ ∧ liftQR ts me.toList = [] ∧ liftQP ts me.toList = [] by unfold liftQN liftQR liftQP; rw [hle]; simp only [if_neg hme0, and_self])
    obtain ⟨E, hE⟩ : ∃ E, E = mirE ts me.toList := ⟨_, rfl⟩
    rw [← hE] at CM hme0 hle
    have HE := Lib.hid hle
    have en : (E != 0) = true := bne_iff_ne.2 hme0
    clear hme0 hE hle hsz0
    subst hw0
    go_enter Tryz.func14, Tryz.ntmps14
    go_wp2_with (first
      | (go_at_call 12; (with_reducible refine (CM.out _ (Below.refl _ _)).mono ?_)
         rintro e w1 ⟨⟨ra, rn, rc, rfl, _⟩, hb1⟩
         have HBY := Lib.hid (below_on hb1 (tu1 w1 (.cells #[.string MN, .slice ra rn rc] 24)))
         have HL1 := Lib.hid (HL0.out.on HBY.out)
         have HX1 := Lib.hid (HX0.out.on HBY.out)
         obtain ⟨_, _⟩ := HL1.out.cells
         obtain ⟨_, _, _⟩ := HX1.out.cells
         have f0 := HX1.out.thaw 0
         have f1 := HX1.out.thaw 1
         have f2 := HX1.out.thaw 2
         clear hb1)
      | fail)
    refine bodyPost_ret (v := .tuple #[.agg #[.string ⟨#[]⟩, .slice none 0 0, .slice none 0 0], .int .i64 E]) (by simp [results, go_sem, *]) rfl ?_
    exact ⟨⟨none, 0, 0, none, 0, 0, by rw [HQ.out.1, HE.out], by rw [HQ.out.2.1]; exact Strs.zero _ _ _, by rw [HQ.out.2.2]; exact Pts.zero _ _ _⟩, ((((below_on HB0.out HBY.out).setCell (by show w.heap.size ≤ w.heap.size + 1; omega) _).setCell (by show w.heap.size ≤ w.heap.size + 1; omega) _).setCell (by show w.heap.size ≤ w.heap.size + 1; omega) _)⟩
end Go.Proofs.YtiofpeckcfdilaaGreatDoor
