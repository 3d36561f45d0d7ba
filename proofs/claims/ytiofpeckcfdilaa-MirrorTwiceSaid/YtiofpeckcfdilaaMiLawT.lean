/- Law: MirrorTwice. -/
import Derived.Test.YtiofpeckcfdilaaMiFacts
import Derived.Deep.RegionHeld3
import Derived.Deep.DeepCutAuto
namespace Go.Proofs.Ytiofpeckcfdilaa
open Go.RowKit

set_option maxHeartbeats 16000000 in
set_option maxRecDepth 20000 in
theorem mirrorTwice_walk (a : Option Addr) (n c : Nat) (l : List Int) (w : World) (h : Nums w w.heap.size a n l) (hlim : n * 8 ≤ 140737488351232) :
    Calls Try.prog 4 #[.slice a n c] w fun e w' => e = .returned (.bool true) ∧ Below w.heap.size w w' := by
  have HN := Lib.hid h
  have HF := Lib.hid (miFirst_any w)
  clear h
  go_enter Try.func4, Try.ntmps4
  go_upto_region 4 with (first
    | (go_at_call 17; (with_reducible refine HF.out.mono ?_)
       rintro e w1 ⟨rfl, hb1⟩
       have HB1 := Lib.hid hb1
       clear hb1)
    | (go_at_call 18; (with_reducible refine (pair_any a n c l w1 ((HN.out.below HB1.out).more HB1.out.size) hlim).mono ?_)
       rintro e w2 ⟨⟨sa, sn, sc, ts, rfl, ht2, hln, hloc, hfew, hpe⟩, hb2⟩
       have HT2 := Lib.hid ht2
       have HLN := Lib.hid hln
       have HLOC := Lib.hid hloc
       have HPE := Lib.hid hpe
       have HB2 := Lib.hid (below_on HB1.out hb2)
       clear ht2 hln hloc hpe hb2)
    | fail)
  obtain ⟨p1, p2, p3, p4, p5, p6, p7⟩ := pair_facts HLOC.out HPE.out
  have P3 := Lib.hid p3
  have P6 := Lib.hid p6
  have HL3 := Lib.hid (LBox.new w2 ⟨#[116]⟩ sa sn sc)
  have HBX := Lib.hid (tu1 w2 (.cells #[.string ⟨#[116]⟩, .slice sa sn sc] 38))
  obtain ⟨g3, hg3⟩ : ∃ g3, g3 = w2.heap.size := ⟨_, rfl⟩
  rw [← hg3] at HL3 ⊢
  clear hg3
  generalize hw3 : w2.alloc (.cells #[.string ⟨#[116]⟩, .slice sa sn sc] 38) = w3 at HL3 HBX ⊢
  clear hw3
  have HT3 := Lib.hid (HT2.out.on HBX.out)
  have HB3 := Lib.hid (below_on HB2.out HBX.out)
  have CO := Lib.hid (of_any ⟨#[116]⟩ ⟨#[109, 101]⟩ sa sn sc ts w3 _ (Nat.le_refl _) HT3.out me_small)
  rw [me_list] at CO
  unfold OfRet mirN at CO
  rw [p1, p2, if_pos rfl] at CO
  obtain ⟨lc0, lc1⟩ := HL3.out.cells
  obtain ⟨M, hM⟩ : ∃ M, M = mirL [109, 101] (trimT ts) := ⟨_, rfl⟩
  have HM := Lib.hid hM
  rw [← hM] at CO P3 p4 p5 p7
  clear hM
  have P4 := Lib.hid p4
  have P5 := Lib.hid p5
  have P7 := Lib.hid p7
  clear p1 p2 p3 p4 p5 p6 p7
  go_upto_region 5 with (first
    | (go_at_call 19; (with_reducible refine CO.out.mono ?_)
       rintro e w4 ⟨⟨ra, rn, rc, rfl, ht4⟩, hb4⟩
       have HT4 := Lib.hid ht4
       have HB34 := Lib.hid hb4
       clear ht4 hb4)
    | fail)
  have HM5 := Lib.hid (LBox.new w4 ⟨#[116]⟩ ra rn rc)
  have HBY := Lib.hid (tu1 w4 (.cells #[.string ⟨#[116]⟩, .slice ra rn rc] 38))
  obtain ⟨g4, hg4⟩ : ∃ g4, g4 = w4.heap.size := ⟨_, rfl⟩
  rw [← hg4] at HM5 ⊢
  clear hg4
  generalize hw5 : w4.alloc (.cells #[.string ⟨#[116]⟩, .slice ra rn rc] 38) = w5 at HM5 HBY ⊢
  clear hw5
  have HB5 := Lib.hid (below_on (below_on HB3.out HB34.out) HBY.out)
  have HT5 := Lib.hid ((HT3.out.on HB34.out).on HBY.out)
  have HL5 := Lib.hid ((HL3.out.on HB34.out).on HBY.out)
  have HU5 := Lib.hid (HT4.out.on HBY.out)
  obtain ⟨mc0, mc1⟩ := HM5.out.cells
  have CM := Lib.hid ((ownMay_any ⟨#[116]⟩ ra rn rc M w5 _ (Nat.le_refl _) HU5.out).mono fun e w' h => (⟨by rw [h.1, P3.out], h.2⟩ : e = .returned (.bool true) ∧ Below w5.heap.size w5 w'))
  have CP := Lib.hid (fun (W : World) (hW : Below w5.heap.size w5 W) => ownPeers_any ⟨#[116]⟩ ra rn rc M W _ (Nat.le_refl _) (HU5.out.on hW))
  clear lc0 lc1
  go_upto_region 8 with (first
    | (go_at_call 20; (with_reducible refine CM.out.mono ?_)
       rintro e w6 ⟨rfl, hb6⟩
       have HB56 := Lib.hid hb6
       obtain ⟨_, _⟩ := (HM5.out.on hb6).cells
       clear hb6)
    | (go_at_call 21; (with_reducible refine (CP.out _ HB56.out).mono ?_)
       rintro e w7 ⟨⟨xa, xn, xc, rfl, hss⟩, hb7⟩
       have HB57 := Lib.hid (below_on HB56.out hb7)
       have HSS := Lib.hid hss
       clear hb7 hss)
    | fail)
  go_cut [40] (fun s wx => s = .bool false ∧ Hid (Below w7.heap.size w7 wx))
  case first =>
    have H7 := Lib.hid (Below.refl w7.heap.size w7)
    rcases P7.out with e | e
    · rw [e] at HSS
      obtain rfl : xn = 0 := HSS.out.1.symm
      clear e
      go_wp2_with fail
      go_meet
      case rel => exact ⟨rfl, H7⟩
    · rw [e] at HSS
      obtain rfl : xn = 1 := HSS.out.1.symm
      obtain ⟨b, off, rfl, hb, hc⟩ := HSS.out.at_ (k := 0) (by omega)
      rw [Nat.add_zero, show ([[109, 101]] : List Str).getD 0 [] = [109, 101] from rfl] at hc
      unfold encStr at hc
      have es : ((baS [109, 101]).toList != [109, 101]) = false := by rw [baS_toList]; rfl
      clear e
      go_wp2_with fail
      go_meet
      case rel => exact ⟨rfl, H7⟩
  case rest =>
    obtain ⟨e40, HC⟩ := hcut
    subst e40
    have HBc := Lib.hid (below_on HB57.out HC.out)
    have CO2 := Lib.hid (of_any ⟨#[116]⟩ ⟨#[97]⟩ ra rn rc M wc _ (Nat.le_refl _) (HU5.out.on HBc.out) (by simp [maxLen, ByteArray.size]))
    rw [one_list] at CO2
    unfold OfRet mirN at CO2
    rw [P4.out, P5.out, if_pos rfl] at CO2
    have HMc := Lib.hid (HM5.out.on HBc.out)
    obtain ⟨kc0, kc1⟩ := HMc.out.cells
    clear mc0 mc1
    go_upto_region 11 with (first
      | (go_at_call 19; (with_reducible refine CO2.out.mono ?_)
         rintro e w8 ⟨⟨ya, yn, yc, rfl, ht8⟩, hb8⟩
         have HT8 := Lib.hid ht8
         have HBc8 := Lib.hid hb8
         clear ht8 hb8)
      | fail)
    have HY9 := Lib.hid (LBox.new w8 ⟨#[116]⟩ ya yn yc)
    have HBZ := Lib.hid (tu1 w8 (.cells #[.string ⟨#[116]⟩, .slice ya yn yc] 38))
    obtain ⟨g7, hg7⟩ : ∃ g7, g7 = w8.heap.size := ⟨_, rfl⟩
    rw [← hg7] at HY9 ⊢
    clear hg7
    generalize hw9 : w8.alloc (.cells #[.string ⟨#[116]⟩, .slice ya yn yc] 38) = w9 at HY9 HBZ ⊢
    clear hw9 kc0 kc1
    have HB59 := Lib.hid (below_on (below_on HBc.out HBc8.out) HBZ.out)
    have HT9 := Lib.hid (HT5.out.on HB59.out)
    have HV9 := Lib.hid (HT8.out.on HBZ.out)
    have HL9 := Lib.hid (HL5.out.on HB59.out)
    have HM9 := Lib.hid (HM5.out.on HB59.out)
    have hrn : (trimT ts).length = rn := by
      have := HU5.out.1
      rw [HM.out, mir_len] at this
      exact this
    have HRN := Lib.hid hrn
    have nn : ((rn : Int) == (rn : Int)) = true := by simp
    clear hrn
    have C1 := Lib.hid (fun (W : World) (hW : Below w9.heap.size w9 W) => (ownSame_any ⟨#[116]⟩ ⟨#[116]⟩ ya sa yn yc sn sc _ _ W W.heap.size (Nat.le_refl _) (HV9.out.on hW) (HT9.out.on hW)).mono fun e w2 h => (⟨by rw [h.1, P6.out], below_on hW h.2⟩ : e = .returned (.bool true) ∧ Below w9.heap.size w9 w2))
    have C2 := Lib.hid (fun (W : World) (hW : Below w9.heap.size w9 W) => (ownTrim_any ⟨#[116]⟩ sa sn sc _ W W.heap.size (Nat.le_refl _) (HT9.out.on hW)).mono fun e w2 h => (⟨by
      obtain ⟨za, zn, zc, e1, e2⟩ := h.1
      have hz := e2.1
      rw [trimL_of HLOC.out, HRN.out] at hz
      subst hz
      exact ⟨_, za, zc, e1⟩, below_on hW h.2⟩ : (∃ nm za zc, e = .returned (.agg #[.string nm, .slice za rn zc])) ∧ Below w9.heap.size w9 w2))
    have HK := Lib.hid (fun (W : World) (hW : Below w9.heap.size w9 W) => show W.cell? ⟨g3, 0, none⟩ = some (.string ⟨#[116]⟩) ∧ W.cell? ⟨g3, 1, none⟩ = some (.slice sa sn sc) ∧ W.cell? ⟨g4, 1, none⟩ = some (.slice ra rn rc) ∧ W.cell? ⟨g7, 0, none⟩ = some (.string ⟨#[116]⟩) ∧ W.cell? ⟨g7, 1, none⟩ = some (.slice ya yn yc) from
      ⟨((HL9.out.on hW).cells).1, ((HL9.out.on hW).cells).2, ((HM9.out.on hW).cells).2, ((HY9.out.on hW).cells).1, ((HY9.out.on hW).cells).2⟩)
    have H0 := Lib.hid (show Below w9.heap.size w9 w9.drew from bel_drewN (Below.refl _ _) 1)
    have HBE := Lib.hid (below_on HB5.out HB59.out)
    go_region_held3 (fun W => W.cell? ⟨g3, 0, none⟩ = some (.string ⟨#[116]⟩) ∧ W.cell? ⟨g3, 1, none⟩ = some (.slice sa sn sc) ∧ W.cell? ⟨g4, 1, none⟩ = some (.slice ra rn rc) ∧ W.cell? ⟨g7, 0, none⟩ = some (.string ⟨#[116]⟩) ∧ W.cell? ⟨g7, 1, none⟩ = some (.slice ya yn yc))
      (first | exact HK.out _ H0.out | exact HK.out _ H1.out | exact HK.out _ H2.out)
      (first
      | (go_at_call 22; (with_reducible refine (C1.out _ H0.out).mono ?_)
         rintro e v1 ⟨rfl, h1⟩
         have H1 := Lib.hid h1
         clear h1)
      | (go_at_call 23; (with_reducible refine (C2.out _ H1.out).mono ?_)
         rintro e v2 ⟨⟨zs, za, zc, rfl⟩, h2⟩
         have fl := fun W => field_turns zs za rn zc W
         have H2 := Lib.hid h2
         clear h2)
      | fail)
    all_goals
      go_wp2_with fail
      go_ret
      exact ⟨rfl, below_on HBE.out H2.out⟩
end Go.Proofs.Ytiofpeckcfdilaa
