/- Law: MirrorTells. -/
import Derived.Test.YtiofpeckcfdilaaGreatDoorMiRefL
import Derived.Test.YtiofpeckcfdilaaGreatDoorMiSameP
import Derived.Test.YtiofpeckcfdilaaGreatDoorMiFew
namespace Go.Proofs.YtiofpeckcfdilaaGreatDoor
open Go.RowKit

theorem LBox.fillT {W : World} {g : Nat} {nm nm' : ByteArray} {a a' : Option Addr} {n c n' c' : Nat} (h : LBox W g nm a n c) : LBox ((W.setCell ⟨g, 0, none⟩ (.string nm')).setCell ⟨g, 1, none⟩ (.slice a' n' c')) g nm' a' n' c' := by
  unfold LBox at h
  refine LBox.set (a := a) (n := n) (c := c) ?_
  unfold LBox
  obtain ⟨hlt, hk⟩ := Array.getElem?_eq_some_iff.1 h
  show (W.heap.modify g _)[g]? = _
  rw [Array.getElem?_eq_getElem (by rw [Array.size_modify]; exact hlt), Array.getElem_modify_self, hk]
  rfl
theorem strs_onT {W W' : World} {a : Option Addr} {n : Nat} {ss : List Str} (h : Strs W W.heap.size a n ss) (hb : Below W.heap.size W W') : Strs W' W'.heap.size a n ss := (h.below hb).more hb.size
theorem bel_drewNT {B : Nat} {w W : World} (h : Below B w W) (q : Nat) : Below B w (W.drewN q) := ⟨h.os, h.tape, h.output, h.size, h.block⟩
set_option maxHeartbeats 32000000 in
set_option maxRecDepth 20000 in
theorem mirrorTells_walk (nm : ByteArray) (a : Option Addr) (n c : Nat) (ts : List TurnL) (la : Option Addr) (ln lc : Nat) (ls : List Int) (x : ByteArray) (w : World) (h : Turns w w.heap.size a n ts) (hnm : nm.size ≤ maxLen) (hm : Nums w w.heap.size la ln ls) (hlim : ln * 8 ≤ 140737488351232) (hx : x.size ≤ maxLen) :
    Calls Tryz.prog 3 #[.agg #[.string nm, .slice a n c], .slice la ln lc, .string x] w fun e w' => e = .returned (.bool true) ∧ Below w.heap.size w w' := by
  have HB0 := Lib.hid (tu1 w (.cells #[.string nm, .slice a n c] 24))
  have HA := Lib.hid (LBox.new w nm a n c)
  have HT := Lib.hid (h.on HB0.out)
  have HM := Lib.hid ((hm.below HB0.out).more HB0.out.size)
  clear h hm
  go_enter Tryz.func3, Tryz.ntmps3
  go_upto_region 1 with fail
  obtain ⟨ga, hga⟩ : ∃ ga, ga = w.heap.size := ⟨_, rfl⟩
  rw [← hga] at HA ⊢
  generalize hw1 : w.alloc (.cells #[.string nm, .slice a n c] 24) = w1 at HB0 HA HT HM ⊢
  have hga2 : w.heap.size ≤ ga := by omega
  clear hw1 hga
  have HF := Lib.hid (miFirst_any w1)
  have CFa := Lib.hid (fun (W : World) (hW : Below w1.heap.size w1 W) => (few12_any nm a n c ts W W.heap.size (Nat.le_refl _) (HT.out.on hW)).mono fun e w2 h => (⟨h.1, below_on hW h.2⟩ : e = .returned (.bool (fewB ts)) ∧ Below w1.heap.size w1 w2))
  go_upto_region 3 with (first
    | (go_at_call 7; (with_reducible refine HF.out.mono ?_)
       rintro e w2 ⟨rfl, hb2⟩
       have HB2 := Lib.hid hb2
       obtain ⟨_, _⟩ := (HA.out.on hb2).cells
       clear hb2)
    | fail)
  cases hfa : fewB ts
  · rw [hfa] at CFa
    clear hfa
    go_wp2_with (first
      | (go_at_call 8; (with_reducible refine (CFa.out _ HB2.out).mono ?_)
         rintro e w3 ⟨rfl, h3⟩
         have H3 := Lib.hid h3
         clear h3)
      | fail)
    go_ret
    exact ⟨rfl, below_on HB0.out H3.out⟩
  rw [hfa] at CFa
  clear hfa
  go_upto_region 6 with (first
    | (go_at_call 8; (with_reducible refine (CFa.out _ HB2.out).mono ?_)
       rintro e w3 ⟨rfl, h3⟩
       have H3 := Lib.hid h3
       obtain ⟨_, _⟩ := (HA.out.on h3).cells
       clear h3)
    | fail)
  have HL := Lib.hid (LBox.new w3 nm a n c)
  have HBX := Lib.hid (tu1 w3 (.cells #[.string nm, .slice a n c] 24))
  obtain ⟨g7, hg7⟩ : ∃ g7, g7 = w3.heap.size := ⟨_, rfl⟩
  rw [← hg7] at HL ⊢
  generalize hw4 : w3.alloc (.cells #[.string nm, .slice a n c] 24) = w4 at HL HBX ⊢
  have hg7a : w3.heap.size ≤ g7 := by omega
  clear hw4 hg7
  have H4 := Lib.hid (below_on H3.out HBX.out)
  have HW4 := Lib.hid (below_on HB0.out H4.out)
  have HT4 := Lib.hid (HT.out.on H4.out)
  have HM4 := Lib.hid ((HM.out.below H4.out).more H4.out.size)
  have hz3 : w.heap.size ≤ w3.heap.size := (below_on HB0.out H3.out).size
  have hz7 := HL.out.lt
  have HNM := Lib.hid hnm
  obtain ⟨lc0, lc1⟩ := HL.out.cells
  have f0 := HL.out.thaw 0
  have f1 := HL.out.thaw 1
  go_upto_if 24 with fail
  go_cut [] (fun wx => ∃ (ym : ByteArray) (ya : Option Addr) (yn yc : Nat) (us : List TurnL), Hid (LBox wx g7 ym ya yn yc) ∧ Hid (Turns wx wx.heap.size ya yn us) ∧ Hid (ym.size ≤ maxLen) ∧ Hid (Below w.heap.size w wx))
  case first =>
    by_cases hn : 0 < ln
    · have d1 : decide ((0 : Int) < (ln : Int)) = true := decide_eq_true (by omega)
      have d2 : decide (0 < ln) = true := decide_eq_true hn
      go_wp2_with (first
        | (go_at_call 10; (with_reducible refine (new_any la ln lc ls w4 w4.heap.size HM4.out hlim).mono ?_)
           rintro e w5 ⟨g, rfl, hd2, hg2, hb2⟩
           have HD2 := Lib.hid hd2
           have HB5 := Lib.hid hb2
           clear hd2 hb2)
        | (go_at_call 9; (with_reducible refine (made_local HD2.out).mono ?_)
           rintro e w6 ⟨⟨sa, sn, sc, us, rfl, hm3, hln, hloc, hfew⟩, hb3⟩
           have HT6 := Lib.hid hm3.towns
           have HFW := Lib.hid hfew
           have hz5 : w4.heap.size ≤ w5.heap.size := HB5.out.size
           have hb13 : Below w4.heap.size w4 w6 := HB5.out.trans (hb3.below hg2 HB5.out.size)
           have HB6 := Lib.hid hb13
           have HX6 := Lib.hid (HL.out.on hb13)
           obtain ⟨_, _⟩ := HX6.out.cells
           have f3 := HX6.out.thaw 0
           have f4 := HX6.out.thaw 1
           clear hm3 hloc hb3 hln hb13)
        | fail)
      have hend := HT6.out.beside (((Beside.refl g7 w6).setCell 0 (.string ⟨#[116]⟩)).setCell 1 (.slice sa sn sc)) (by omega)
      obtain ⟨a2, c2, hv, ht⟩ := hend.sees (by have := HFW.out; omega)
      obtain ⟨e1, e2, e3⟩ := Value.slice.inj hv
      subst e1 e3
      rw [← e2] at ht
      have HTE := Lib.hid ht
      clear hend hv ht e2
      go_meet
      case rel => exact ⟨⟨#[116]⟩, sa, sn, sc, us, Lib.hid HX6.out.fillT, HTE, Lib.hid (by simp [maxLen, ByteArray.size]), Lib.hid (((below_on HW4.out HB6.out).setCell (by show w.heap.size ≤ g7; omega) _).setCell (by show w.heap.size ≤ g7; omega) _)⟩
    · have d1 : decide ((0 : Int) < (ln : Int)) = false := decide_eq_false (by omega)
      have d2 : decide (0 < ln) = false := decide_eq_false hn
      go_wp2_with fail
      go_meet
      case rel => exact ⟨nm, a, n, c, ts, HL, HT4, HNM, HW4⟩
  case rest =>
    obtain ⟨ym, ya, yn, yc, us, HLy, HTy, HNy, HWy⟩ := hcut
    obtain ⟨wy, hwy⟩ : ∃ wy : World, wy = wc := ⟨_, rfl⟩
    rw [← hwy] at HLy HTy HWy ⊢
    clear hwy lc0 lc1 f0 f1
    have CO := Lib.hid (fun (W : World) (hW : Below wy.heap.size wy W) => of_any ym x ya yn yc us W _ (Nat.le_refl _) (HTy.out.on hW) hx)
    have CM := Lib.hid (fun (W : World) (hW : Below wy.heap.size wy W) => refMirror_any ym x ya yn yc us W _ (Nat.le_refl _) (HTy.out.on hW) hx)
    have CL := Lib.hid (fun (W : World) (hW : Below wy.heap.size wy W) => lift_any ym x ya yn yc us W _ (Nat.le_refl _) (HTy.out.on hW) hx HNy.out)
    have CE := Lib.hid (fun (W : World) (hW : Below wy.heap.size wy W) => refLift_any ym x ya yn yc us W _ (Nat.le_refl _) (HTy.out.on hW) hx HNy.out)
    unfold OfRet at CO CM
    unfold LiftRet at CL CE
    obtain ⟨MN, hMN⟩ : ∃ MN, MN = mirN us ym x.toList := ⟨_, rfl⟩
    obtain ⟨MQ, hMQ⟩ : ∃ MQ, MQ = mirQ us x.toList := ⟨_, rfl⟩
    obtain ⟨ME, hME⟩ : ∃ ME, ME = mirE us x.toList := ⟨_, rfl⟩
    obtain ⟨LN, hLN⟩ : ∃ LN, LN = liftQN us ym x.toList := ⟨_, rfl⟩
    obtain ⟨LR, hLR⟩ : ∃ LR, LR = liftQR us x.toList := ⟨_, rfl⟩
    obtain ⟨LP, hLP⟩ : ∃ LP, LP = liftQP us x.toList := ⟨_, rfl⟩
    obtain ⟨LE, hLE⟩ : ∃ LE, LE = liftE us x.toList := ⟨_, rfl⟩
    rw [← hMN, ← hMQ, ← hME] at CO CM
    rw [← hLN, ← hLR, ← hLP, ← hLE] at CL CE
    clear hMN hMQ hME hLN hLR hLP hLE
    obtain ⟨lc0, lc1⟩ := HLy.out.cells
    go_upto_region 12 with (first
      | (go_at_call 11; (with_reducible refine (CO.out _ (Below.refl _ _)).mono ?_)
         rintro e w5 ⟨⟨ra, rn, rc, rfl, ht5⟩, hb5⟩
         have hk5 := tu1 w5 (.cells #[.string MN, .slice ra rn rc] 24)
         have H5 := Lib.hid (below_on hb5 hk5)
         have B5 := Lib.hid (LBox.new w5 MN ra rn rc)
         have T5 := Lib.hid (ht5.on hk5)
         obtain ⟨_, _⟩ := (HLy.out.on H5.out).cells
         clear ht5 hb5 hk5)
      | (go_at_call 12; (with_reducible refine (CM.out _ H5.out).mono ?_)
         rintro e w6 ⟨⟨sa, sn, sc, rfl, ht6⟩, hb6⟩
         have hk6 := tu1 w6 (.cells #[.string MN, .slice sa sn sc] 24)
         have hk := below_on hb6 hk6
         have H6 := Lib.hid (below_on H5.out hk)
         have B6 := Lib.hid (LBox.new w6 MN sa sn sc)
         have T6 := Lib.hid (ht6.on hk6)
         have B56 := Lib.hid (B5.out.on hk)
         have T56 := Lib.hid (T5.out.on hk)
         obtain ⟨_, _⟩ := (HLy.out.on H6.out).cells
         clear ht6 hb6 hk6 hk)
      | (go_at_call 13; (with_reducible refine (CL.out _ H6.out).mono ?_)
         rintro e w7 ⟨⟨qa, qn, qc, pa, pn, pc, rfl, hs7, hp7⟩, hb7⟩
         have hk7 := tu1 w7 (.cells #[.string LN, .slice qa qn qc, .slice pa pn pc] 37)
         have hk := below_on hb7 hk7
         have H7 := Lib.hid (below_on H6.out hk)
         have B7 := Lib.hid (PBox.new w7 LN qa qn qc pa pn pc)
         have S7 := Lib.hid (strs_onT hs7 hk7)
         have P7 := Lib.hid (hp7.on hk7)
         have B57 := Lib.hid (B56.out.on hk)
         have T57 := Lib.hid (T56.out.on hk)
         have B67 := Lib.hid (B6.out.on hk)
         have T67 := Lib.hid (T6.out.on hk)
         obtain ⟨_, _⟩ := (HLy.out.on H7.out).cells
         clear hs7 hp7 hb7 hk7 hk)
      | (go_at_call 14; (with_reducible refine (CE.out _ H7.out).mono ?_)
         rintro e w8 ⟨⟨ua, un, uc, va, vn, vc, rfl, hs8, hp8⟩, hb8⟩
         have hk8 := tu1 w8 (.cells #[.string LN, .slice ua un uc, .slice va vn vc] 37)
         have hk := below_on hb8 hk8
         have H8 := Lib.hid (below_on H7.out hk)
         have B8 := Lib.hid (PBox.new w8 LN ua un uc va vn vc)
         have S8 := Lib.hid (strs_onT hs8 hk8)
         have P8 := Lib.hid (hp8.on hk8)
         have B58 := Lib.hid (B57.out.on hk)
         have T58 := Lib.hid (T57.out.on hk)
         have B68 := Lib.hid (B67.out.on hk)
         have T68 := Lib.hid (T67.out.on hk)
         have B78 := Lib.hid (B7.out.on hk)
         have S78 := Lib.hid (strs_onT S7.out hk)
         have P78 := Lib.hid (P7.out.on hk)
         clear hs8 hp8 hb8 hk8 hk)
      | fail)
    generalize hwz : w8.alloc (.cells #[.string LN, .slice ua un uc, .slice va vn vc] 37) = wz at H8 B8 S8 P8 B58 T58 B68 T68 B78 S78 P78 ⊢
    clear hwz B5 B56 B57 B6 B67 B7 T5 T56 T57 T6 T67 S7 P7 lc0 lc1
    obtain rfl : pn = vn := by rw [← P78.out.1, ← P8.out.1]
    have HK := Lib.hid (fun (W : World) (hW : Below wz.heap.size wz W) => (And.intro (B58.out.on hW).cells (And.intro (B68.out.on hW).cells (And.intro (B78.out.on hW).cells (B8.out.on hW).cells))))
    have C1 := Lib.hid (fun (W : World) (hW : Below wz.heap.size wz W) => (tuSameT_any ra sa rn sn rc sc MQ MQ W W.heap.size (T58.out.on hW) (T68.out.on hW)).mono fun e w2 h => (⟨by rw [h.1, sameTs_iff.2 rfl], by obtain ⟨q, hq⟩ := h.2; rw [hq]; exact bel_drewNT hW q⟩ : e = .returned (.bool true) ∧ Below wz.heap.size wz w2))
    have C2 := Lib.hid (fun (W : World) (hW : Below wz.heap.size wz W) => (same_any qa ua qn un qc uc LR LR W W.heap.size (strs_onT S78.out hW) (strs_onT S8.out hW)).mono fun e w2 h => (⟨by rw [h.1, decide_eq_true rfl], by obtain ⟨q, hq⟩ := h.2; rw [hq]; exact bel_drewNT hW q⟩ : e = .returned (.bool true) ∧ Below wz.heap.size wz w2))
    have C3 := Lib.hid (fun (W : World) (hW : Below wz.heap.size wz W) => (miSameP_any pa va pn pc vc LP W W.heap.size (P78.out.on hW) (P8.out.on hW)).mono fun e w2 h => (⟨h.1, by obtain ⟨q, hq⟩ := h.2; rw [hq]; exact bel_drewNT hW q⟩ : e = .returned (.bool true) ∧ Below wz.heap.size wz w2))
    have R0 := Lib.hid (Below.refl wz.heap.size wz)
    obtain ⟨⟨_, _⟩, ⟨_, _⟩, ⟨_, _, _⟩, _, _, _⟩ := HK.out _ R0.out
    have m1 : (MN.toList == MN.toList) = true := by simp
    have m2 : (ME == ME) = true := by simp
    have m3 : (LE == LE) = true := by simp
    have m4 : (LN.toList == LN.toList) = true := by simp
    go_wp2_with (first
      | (go_at_call 15; (with_reducible refine (C1.out _ R0.out).mono ?_)
         rintro e z1 ⟨rfl, h1⟩
         have R1 := Lib.hid h1
         obtain ⟨⟨_, _⟩, ⟨_, _⟩, ⟨_, _, _⟩, _, _, _⟩ := HK.out _ h1
         clear h1)
      | (go_at_call 16; (with_reducible refine (C2.out _ R1.out).mono ?_)
         rintro e z2 ⟨rfl, h2⟩
         have R2 := Lib.hid h2
         obtain ⟨⟨_, _⟩, ⟨_, _⟩, ⟨_, _, _⟩, _, _, _⟩ := HK.out _ h2
         clear h2)
      | (go_at_call 17; (with_reducible refine (C3.out _ R2.out).mono ?_)
         rintro e z3 ⟨rfl, h3⟩
         have R3 := Lib.hid h3
         clear h3)
      | fail)
    go_ret
    exact ⟨rfl, below_on HWy.out (below_on H8.out R3.out)⟩
end Go.Proofs.YtiofpeckcfdilaaGreatDoor
