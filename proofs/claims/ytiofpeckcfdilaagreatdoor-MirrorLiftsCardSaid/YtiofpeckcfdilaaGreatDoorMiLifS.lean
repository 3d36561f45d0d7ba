/- Law: MirrorLifts. (Printed by gen/gen12l.py.) -/
import Derived.Test.YtiofpeckcfdilaaGreatDoorMiLiftQ
import Derived.Test.YtiofpeckcfdilaaGreatDoorMiPairs
import Derived.Test.YtiofpeckcfdilaaGreatDoorMiRoleU
import Derived.Test.YtiofpeckcfdilaaGreatDoorGlViss
import Derived.Test.YtiofpeckcfdilaaGreatDoorTuLawT
import Derived.Test.YtiofpeckcfdilaaGreatDoorTuOwnRW
import Derived.Deep.RegionHeld3
import Derived.Deep.DeepCutAuto
namespace Go.Proofs.YtiofpeckcfdilaaGreatDoor
open Go.RowKit

/-- What is read in rows of turns and arms doesn't lie in the box of a local type. -/
theorem lbox_cellL {W : World} {g : Nat} {nm : ByteArray} {a : Option Addr} {n c : Nat} (h : LBox W g nm a n c) : W.cell? ⟨g, 0, none⟩ = some (.string nm) ∧ W.cell? ⟨g, 1, none⟩ = some (.slice a n c) ∧ ∀ o, 2 ≤ o → W.cell? ⟨g, o, none⟩ = none := by
  refine ⟨h.cells.1, h.cells.2, fun o ho => ?_⟩
  unfold LBox at h
  rw [cell_of_row _ _ _ _ _ _ h]
  simp
  omega
theorem Arms.asideL {W W' : World} {g : Nat} {nm : ByteArray} {a : Option Addr} {n c bound m : Nat} {ad : Option Addr} {l : List ArmL} (h : Arms W bound ad m l) (hb : LBox W g nm a n c) (hk : ∀ b, b ≠ g → W'.heap[b]? = W.heap[b]?) : Arms W' bound ad m l :=
  ⟨h.1, h.2.1, fun hn => by
    obtain ⟨b, off, e, hlt, hc⟩ := h.2.2 hn
    obtain ⟨k0, k1, k2⟩ := lbox_cellL hb
    have hne : b ≠ g := fun q => by
      subst q
      obtain ⟨s, u, ⟨c0, c1, _, _⟩, _⟩ := hc 0 _ (List.getElem?_eq_getElem (by rw [h.1]; exact hn))
      rw [Nat.zero_mul, Nat.add_zero] at c0 c1
      have h3 : off = 0 ∨ off = 1 ∨ 2 ≤ off := by omega
      rcases h3 with rfl | rfl | h3
      · rw [show (0 + 1 : Nat) = 1 from rfl, k1] at c1; cases c1
      · rw [k1] at c0; cases c0
      · rw [k2 _ h3] at c0; cases c0
    refine ⟨b, off, e, hlt, fun j x hj => ?_⟩
    obtain ⟨s, u, ⟨c0, c1, c2, c3⟩, h1⟩ := hc j x hj
    have hq : ∀ o, W'.cell? ⟨b, o, none⟩ = W.cell? ⟨b, o, none⟩ := fun o => World.cell?_of_block (hk b hne)
    exact ⟨s, u, ⟨(hq _).trans c0, (hq _).trans c1, (hq _).trans c2, (hq _).trans c3⟩, h1⟩⟩
theorem Turns.asideL {W W' : World} {g : Nat} {nm : ByteArray} {a : Option Addr} {n c bound m : Nat} {ad : Option Addr} {ts : List TurnL} (h : Turns W bound ad m ts) (hb : LBox W g nm a n c) (hk : ∀ b, b ≠ g → W'.heap[b]? = W.heap[b]?) : Turns W' bound ad m ts :=
  ⟨h.1, h.2.1, fun hn => by
    obtain ⟨b, off, e, hlt, hc⟩ := h.2.2 hn
    obtain ⟨k0, k1, k2⟩ := lbox_cellL hb
    have hne : b ≠ g := fun q => by
      subst q
      obtain ⟨s, aa, an, ac, ⟨c0, _, _⟩, _⟩ := hc 0 _ (List.getElem?_eq_getElem (by rw [h.1]; exact hn))
      rw [Nat.zero_mul, Nat.add_zero] at c0
      have h3 : off = 0 ∨ off = 1 ∨ 2 ≤ off := by omega
      rcases h3 with rfl | rfl | h3
      · rw [k0] at c0; cases c0
      · rw [k1] at c0; cases c0
      · rw [k2 _ h3] at c0; cases c0
    refine ⟨b, off, e, hlt, fun j x hj => ?_⟩
    obtain ⟨s, aa, an, ac, ⟨c0, c1, c2⟩, h1, h2, h3⟩ := hc j x hj
    have hq : ∀ o, W'.cell? ⟨b, o, none⟩ = W.cell? ⟨b, o, none⟩ := fun o => World.cell?_of_block (hk b hne)
    exact ⟨s, aa, an, ac, ⟨(hq _).trans c0, (hq _).trans c1, (hq _).trans c2⟩, h1, h2, h3.asideL hb hk⟩⟩
theorem LBox.fillL {W : World} {g : Nat} {nm nm' : ByteArray} {a a' : Option Addr} {n c n' c' : Nat} (h : LBox W g nm a n c) : LBox ((W.setCell ⟨g, 0, none⟩ (.string nm')).setCell ⟨g, 1, none⟩ (.slice a' n' c')) g nm' a' n' c' := by
  unfold LBox at h
  refine LBox.set (a := a) (n := n) (c := c) ?_
  unfold LBox
  obtain ⟨hlt, hk⟩ := Array.getElem?_eq_some_iff.1 h
  show (W.heap.modify g _)[g]? = _
  rw [Array.getElem?_eq_getElem (by rw [Array.size_modify]; exact hlt), Array.getElem_modify_self, hk]
  rfl
theorem bel_drewQ {B : Nat} {w W : World} (h : Below B w W) : Below B w W.drew := ⟨h.os, h.tape, h.output, h.size, h.block⟩
theorem liftN_t : liftN ⟨#[116]⟩ = ⟨#[116]⟩ := by
  unfold liftN
  rw [show (⟨#[116]⟩ : ByteArray).toList = [116] by rw [ByteArray.toList_eq], if_pos (by decide)]
theorem t_name : (⟨#[116]⟩ : ByteArray).toList = [116] := by rw [ByteArray.toList_eq]
theorem t_few : (⟨#[116]⟩ : ByteArray).size ≤ maxLen := by simp [maxLen, ByteArray.size]
set_option maxHeartbeats 32000000 in
set_option maxRecDepth 100000 in
theorem mirrorLifts_walk (a : Option Addr) (n c : Nat) (l : List Int) (a' : Option Addr) (n' c' : Nat) (l' : List Int) (w : World) (h : Nums w w.heap.size a n l) (hlim : n * 8 ≤ 140737488351232) (h' : Nums w w.heap.size a' n' l') (_hlim' : n' * 8 ≤ 140737488351232) :
    Calls Tryz.prog 4 #[.slice a n c, .slice a' n' c'] w fun e w' => e = .returned (.bool true) ∧ Below w.heap.size w w' := by
  have HN := Lib.hid h
  have HN' := Lib.hid h'
  have HF := Lib.hid (miFirst_any w)
  clear h h'
  go_enter Tryz.func4, Tryz.ntmps4
  go_upto_region 4 with (first
    | (go_at_call 7; (with_reducible refine HF.out.mono ?_)
       rintro e w1 ⟨rfl, hb1⟩
       have HB1 := Lib.hid hb1
       clear hb1)
    | (go_at_call 18; (with_reducible refine (pair_any a n c l w1 ((HN.out.below HB1.out).more HB1.out.size) hlim).mono ?_)
       rintro e w2 ⟨⟨sa, sn, sc, ts, rfl, ht2, hln, hloc, hfew, hpe⟩, hb2⟩
       have HT2 := Lib.hid ht2
       have HLN := Lib.hid hln
       have HLOC := Lib.hid hloc
       have HPE := Lib.hid hpe
       have HB2 := Lib.hid (below_on HB1.out hb2)
       clear ht2 hln hloc hpe hb2)
    | fail)
  obtain ⟨p1, p2, p3, p4, p5, p6, p7⟩ := pair_facts HLOC.out HPE.out
  have P3 := Lib.hid p3
  have P6 := Lib.hid p6
  have HL3 := Lib.hid (LBox.new w2 ⟨#[116]⟩ sa sn sc)
  have HBX := Lib.hid (tu1 w2 (.cells #[.string ⟨#[116]⟩, .slice sa sn sc] 24))
  obtain ⟨g3, hg3⟩ : ∃ g3, g3 = w2.heap.size := ⟨_, rfl⟩
  rw [← hg3] at HL3 ⊢
  clear hg3
  generalize hw3 : w2.alloc (.cells #[.string ⟨#[116]⟩, .slice sa sn sc] 24) = w3 at HL3 HBX ⊢
  clear hw3
  have HT3 := Lib.hid (HT2.out.on HBX.out)
  have HB3 := Lib.hid (below_on HB2.out HBX.out)
  have HFEW := Lib.hid hfew
  have lz := lifts_zero HLOC.out HFEW.out HPE.out
  have lp := lifts_prot HLOC.out HFEW.out HPE.out
  have CO := Lib.hid (of_any ⟨#[116]⟩ ⟨#[109, 101]⟩ sa sn sc ts w3 _ (Nat.le_refl _) HT3.out me_small)
  have CL := Lib.hid (fun (W : World) (hW : Below w3.heap.size w3 W) => lift_any ⟨#[116]⟩ ⟨#[109, 101]⟩ sa sn sc ts W _ (Nat.le_refl _) (HT3.out.on hW) me_small t_few)
  rw [me_list] at CO CL
  unfold OfRet mirN at CO
  unfold LiftRet liftQN liftQR liftQP at CL
  rw [p1, p2, if_pos rfl] at CO
  simp only [lz, if_pos, liftN_t] at CL
  obtain ⟨lc0, lc1⟩ := HL3.out.cells
  obtain ⟨X, hX⟩ : ∃ X, X = liftR ts [109, 101] := ⟨_, rfl⟩
  obtain ⟨PS, hPS⟩ : ∃ PS, PS = pntL [109, 101] (trimT ts) := ⟨_, rfl⟩
  rw [← hX, ← hPS] at CL lp
  have HPR := Lib.hid lp
  obtain ⟨hxm, hxne, hxt⟩ := lift_peer HLOC.out HPE.out
  have hr1 : hasS [[109, 101], X] [109, 101] = true := by unfold hasS; rw [List.contains_iff_mem]; simp
  have hr2 : hasS [[109, 101], X] X = true := by unfold hasS; rw [List.contains_iff_mem]; simp
  have t1 : Two8 PS [109, 101] := by rw [hPS]; exact two_lift (trim_valid HLOC.out) (fun t ht hk => (hxt t ht hk).1) (.inl rfl)
  have t2 : Two8 PS X := by rw [hPS, hX]; exact two_lift (trim_valid HLOC.out) (fun t ht hk => (hxt t ht hk).1) (.inr rfl)
  obtain ⟨A, hA⟩ := duo_role lp hr1 t1
  obtain ⟨B, hB⟩ := duo_role lp hr2 t2
  obtain ⟨na, hna⟩ := roleP_spec hA
  obtain ⟨nb, hnb⟩ := roleP_spec hB
  have HVA := Lib.hid (role_valid lp hr1 hna)
  have HVB := Lib.hid (role_valid lp hr2 hnb)
  have HWAY := Lib.hid (fun ws => lifts_way HLOC.out HFEW.out HPE.out (A := A) (B := B) (by rw [← hPS]; exact hna) (by rw [← hPS, ← hX]; exact hnb) ws)
  have HRA := Lib.hid (show roleQ [116] [[109, 101], X] PS [109, 101] = .ok A by rw [roleQ_in lp hr1]; exact hA)
  have HRB := Lib.hid (show roleQ [116] [[109, 101], X] PS X = .ok B by rw [roleQ_in lp hr2]; exact hB)
  have HXL := Lib.hid (show X.length ≤ maxLen by
    rw [hX]
    have h1 := hxm
    unfold may at h1
    simp only [Bool.and_eq_true, decide_eq_true_eq] at h1
    have := h1.1.1.1.2
    unfold maxLen
    omega)
  obtain ⟨M, hM⟩ : ∃ M, M = mirL [109, 101] (trimT ts) := ⟨_, rfl⟩
  rw [← hM] at CO HWAY p3
  have P3 := Lib.hid p3
  clear hX hPS lz lp hxm hxne hxt hr1 hr2 t1 t2 hA hB hna hnb hM p1 p2 p3 p4 p5 p6 p7 hfew
  go_upto_region 5 with (first
    | (go_at_call 11; (with_reducible refine CO.out.mono ?_)
       rintro e w4 ⟨⟨ra, rn, rc, rfl, ht4⟩, hb4⟩
       have HT4 := Lib.hid ht4
       have HB34 := Lib.hid hb4
       clear ht4 hb4)
    | fail)
  have HM5 := Lib.hid (LBox.new w4 ⟨#[116]⟩ ra rn rc)
  have HBY := Lib.hid (tu1 w4 (.cells #[.string ⟨#[116]⟩, .slice ra rn rc] 24))
  obtain ⟨g4, hg4⟩ : ∃ g4, g4 = w4.heap.size := ⟨_, rfl⟩
  rw [← hg4] at HM5 ⊢
  clear hg4
  generalize hw5 : w4.alloc (.cells #[.string ⟨#[116]⟩, .slice ra rn rc] 24) = w5 at HM5 HBY ⊢
  clear hw5 lc0 lc1
  have HB35 := Lib.hid (below_on HB34.out HBY.out)
  have HU5 := Lib.hid (HT4.out.on HBY.out)
  obtain ⟨_, _⟩ := (HL3.out.on HB35.out).cells
  go_upto_region 6 with (first
    | (go_at_call 13; (with_reducible refine (CL.out _ HB35.out).mono ?_)
       rintro e w6 ⟨⟨qa, qn, qc, pa, pn, pc, rfl, hs6, hp6⟩, hb6⟩
       have HS6 := Lib.hid hs6
       have HP6 := Lib.hid hp6
       have HB56 := Lib.hid hb6
       clear hs6 hp6 hb6)
    | fail)
  obtain rfl : qn = 2 := HS6.out.1.symm
  have HQ7 := Lib.hid (PBox.new w6 ⟨#[116]⟩ qa 2 qc pa pn pc)
  have HBZ := Lib.hid (tu1 w6 (.cells #[.string ⟨#[116]⟩, .slice qa 2 qc, .slice pa pn pc] 37))
  obtain ⟨g8, hg8⟩ : ∃ g8, g8 = w6.heap.size := ⟨_, rfl⟩
  rw [← hg8] at HQ7 ⊢
  clear hg8
  generalize hw7 : w6.alloc (.cells #[.string ⟨#[116]⟩, .slice qa 2 qc, .slice pa pn pc] 37) = w7 at HQ7 HBZ ⊢
  clear hw7
  have HB57 := Lib.hid (below_on HB56.out HBZ.out)
  have HB37 := Lib.hid (below_on HB35.out HB57.out)
  have HPI := Lib.hid (show PIn w7 ⟨#[116]⟩ qa 2 [[109, 101], X] pa pn PS from ⟨t_few, HS6.out.on HBZ.out, HP6.out.on HBZ.out⟩)
  obtain ⟨rb, ro, rfl, hrb, hrc0⟩ := HPI.out.roles.at_ (k := 0) (by omega)
  obtain ⟨rb2, ro2, hra2, _, hrc1⟩ := HPI.out.roles.at_ (k := 1) (by omega)
  obtain ⟨e1, e2, _⟩ := Addr.mk.inj (Option.some.inj hra2)
  subst e1 e2
  rw [Nat.add_zero, show ([[109, 101], X] : List Str).getD 0 [] = [109, 101] from rfl] at hrc0
  rw [show ([[109, 101], X] : List Str).getD 1 [] = X from rfl] at hrc1
  unfold encStr at hrc0 hrc1
  have es : ((baS [109, 101]).toList != [109, 101]) = false := by rw [baS_toList]; rfl
  have HRC := Lib.hid (And.intro hrb (And.intro hrc0 hrc1))
  obtain ⟨qc0, qc1, qc2⟩ := HQ7.out.cells
  have CM := Lib.hid (PIn.may (rc := qc) (c := pc) HPI.out)
  rw [t_name, HPR.out] at CM
  have CR1 := Lib.hid (fun (W : World) (hW : Below w7.heap.size w7 W) => roleU_any ⟨#[116]⟩ (some ⟨rb, ro, none⟩) 2 qc [[109, 101], X] pa pn pc PS ⟨#[109, 101]⟩ W (HPI.out.on hW))
  have CR2 := Lib.hid (fun (W : World) (hW : Below w7.heap.size w7 W) => roleU_any ⟨#[116]⟩ (some ⟨rb, ro, none⟩) 2 qc [[109, 101], X] pa pn pc PS (baS X) W (HPI.out.on hW))
  rw [t_name, me_list, HRA.out] at CR1
  rw [t_name, baS_toList, HRB.out] at CR2
  unfold RoleAns errU turnsU at CR1 CR2
  dsimp only at CR1 CR2
  clear hra2 hrb hrc1
  go_upto_region 8 with (first
    | (go_at_call 19; (with_reducible refine CM.out.mono ?_)
       rintro e w8 ⟨rfl, hb8⟩
       have HB78 := Lib.hid hb8
       obtain ⟨_, _, _⟩ := (HQ7.out.on hb8).cells
       have rc8 := (hb8.cell (p := ⟨rb, ro, none⟩) HRC.out.1).trans hrc0
       clear hb8)
    | fail)
  have HB3c := Lib.hid (below_on HB37.out HB78.out)
  go_upto_region 9 with (first
    | (go_at_call 20; (with_reducible refine (CR1.out _ HB78.out).mono ?_)
       rintro e w9 ⟨xs, xa, xn, xc, rfl, hl9, hb9⟩
       have HT9 := Lib.hid hl9.turns
       have HB89 := Lib.hid hb9
       clear hl9 hb9)
    | fail)
  have HX10 := Lib.hid (LBox.new w9 xs xa xn xc)
  have HBW := Lib.hid (tu1 w9 (.cells #[.string xs, .slice xa xn xc] 24))
  obtain ⟨g10, hg10⟩ : ∃ g10, g10 = w9.heap.size := ⟨_, rfl⟩
  rw [← hg10] at HX10 ⊢
  clear hg10
  generalize hwa : w9.alloc (.cells #[.string xs, .slice xa xn xc] 24) = wa at HX10 HBW ⊢
  clear hwa qc0 qc1 qc2 rc8 es
  have HB7a := Lib.hid (below_on (below_on HB78.out HB89.out) HBW.out)
  have HTa := Lib.hid (HT9.out.on HBW.out)
  have HK := Lib.hid (fun (W : World) (hW : Below wa.heap.size wa W) => show (W.cell? ⟨g8, 0, none⟩ = some (.string ⟨#[116]⟩) ∧ W.cell? ⟨g8, 1, none⟩ = some (.slice (some ⟨rb, ro, none⟩) 2 qc) ∧ W.cell? ⟨g8, 2, none⟩ = some (.slice pa pn pc)) ∧ W.cell? ⟨rb, ro + 1, none⟩ = some (.string (baS X)) from
    ⟨((HQ7.out.on HB7a.out).on hW).cells, ((below_on HB7a.out hW).cell (p := ⟨rb, ro + 1, none⟩) HRC.out.1).trans HRC.out.2.2⟩)
  have H0 := Lib.hid (bel_drewQ (Below.refl wa.heap.size wa))
  have HA0 := Lib.hid (bel_drewQ (tu1 wa (.cells #[.string ⟨#[]⟩, .slice none 0 0] 24)))
  have HAX := Lib.hid (show LBox (wa.alloc (.cells #[.string ⟨#[]⟩, .slice none 0 0] 24)).drew wa.heap.size ⟨#[]⟩ none 0 0 from LBox.new wa ⟨#[]⟩ none 0 0)
  go_cut [12, 13] (fun s12 s13 wx => ∃ (g12 : Nat) (ys : ByteArray) (ya : Option Addr) (yn yc : Nat), s12 = .pointer (some ⟨g12, 0, none⟩) ∧ s13 = .int .i64 0 ∧ Hid (LBox wx g12 ys ya yn yc) ∧ Hid (Turns wx wx.heap.size ya yn B) ∧ Hid (Below wa.heap.size wa wx))
  case first =>
    go_region_held3 (fun W => (W.cell? ⟨g8, 0, none⟩ = some (.string ⟨#[116]⟩) ∧ W.cell? ⟨g8, 1, none⟩ = some (.slice (some ⟨rb, ro, none⟩) 2 qc) ∧ W.cell? ⟨g8, 2, none⟩ = some (.slice pa pn pc)) ∧ W.cell? ⟨rb, ro + 1, none⟩ = some (.string (baS X)))
      (first | exact HK.out _ H0.out | exact HK.out _ HA0.out | exact HK.out _ H8.out | exact HK.out _ (below_on H8.out (tu1 w10 _)) | exact HK.out _ ((H8.out.setCell (by simp) _).setCell (by simp) _))
      (first
      | (go_at_call 20; (with_reducible refine (CR2.out _ (below_on HB7a.out H0.out)).mono ?_)
         rintro e w10 ⟨ys, ya, yn, yc, rfl, hl8, hb8⟩
         have H8 := Lib.hid (below_on H0.out hb8)
         have HT8 := Lib.hid hl8.turns
         clear hb8 hl8)
      | (go_at_call 20; (with_reducible refine (CR2.out _ (below_on HB7a.out HA0.out)).mono ?_)
         rintro e w10 ⟨ys, ya, yn, yc, rfl, hl8, hb8⟩
         have H8 := Lib.hid (below_on HA0.out hb8)
         have HX8 := Lib.hid (HAX.out.on hb8)
         have HT8 := Lib.hid hl8.turns
         obtain ⟨_, _⟩ := HX8.out.cells
         have f0 := HX8.out.thaw 0
         have f1 := HX8.out.thaw 1
         clear hb8 hl8)
      | fail)
    all_goals (go_wp2_with fail; go_meet)
    case rel => exact ⟨_, ys, ya, yn, yc, rfl, rfl, Lib.hid (LBox.new w10 ys ya yn yc), Lib.hid (HT8.out.on (tu1 w10 _)), Lib.hid (below_on H8.out (tu1 w10 _))⟩
    case rel => exact ⟨_, ys, ya, yn, yc, rfl, rfl, Lib.hid HX8.out.fillL, Lib.hid ((HT8.out.asideL HX8.out (fun b hb => (heap_setCell_ne hb).trans (heap_setCell_ne hb))).more (by simp)), Lib.hid ((H8.out.setCell (by simp) _).setCell (by simp) _)⟩
  case rest =>
    obtain ⟨g12, ys, ya, yn, yc, e12, e13, HXb, HTb, HBb⟩ := hcut
    subst e12 e13
    obtain ⟨wb, hwb⟩ : ∃ wb : World, wb = wc := ⟨_, rfl⟩
    rw [← hwb] at HXb HTb HBb ⊢
    clear hwb
    have HB7b := Lib.hid (below_on HB7a.out HBb.out)
    have HB3b := Lib.hid (below_on HB37.out HB7b.out)
    have HB5b := Lib.hid (below_on HB57.out HB7b.out)
    have HBE := Lib.hid (below_on HB3.out HB3b.out)
    have HT1 := Lib.hid (HT3.out.on HB3b.out)
    have HT2 := Lib.hid (HTa.out.on HBb.out)
    have HT3' := Lib.hid (HU5.out.on HB5b.out)
    have HL1 := Lib.hid (HL3.out.on HB3b.out)
    have HL2 := Lib.hid (HX10.out.on HBb.out)
    have HL3' := Lib.hid (HM5.out.on HB5b.out)
    clear HK H0 HA0 HAX CR1 CR2 CM CO CL HF HN HPI HRC
    have CW1 := Lib.hid (fun (v : Value) (k : Nat) (ws : List Str) (W : World) (hk : k ≤ 20) (hw : W.ownsRow wb.heap.size 9 1 v k (ws.map encStr)) (hm : ∀ s ∈ ws, s.length ≤ maxLen) (hW : Below wb.heap.size wb W) => show Calls Tryz.prog 21 #[.agg #[.string ⟨#[116]⟩, .slice sa sn sc], v] W fun e w' => e = .returned (walkV (walkT ts 0 ws)) ∧ Below W.heap.size W w' from by
      obtain ⟨oa, oc, rfl, hss, _, _⟩ := Strs.of_own hw (by omega) hm
      have := ownWalk_any ⟨#[116]⟩ sa sn sc ts oa k oc ws W _ (Nat.le_refl _) (HT1.out.on hW) hss
      rwa [walkL_of HLOC.out] at this)
    have CW2 := Lib.hid (fun (v : Value) (k : Nat) (ws : List Str) (W : World) (hk : k ≤ 20) (hw : W.ownsRow wb.heap.size 9 1 v k (ws.map encStr)) (hm : ∀ s ∈ ws, s.length ≤ maxLen) (hW : Below wb.heap.size wb W) => show Calls Tryz.prog 21 #[.agg #[.string xs, .slice xa xn xc], v] W fun e w' => e = .returned (walkV (walkT A 0 ws)) ∧ Below W.heap.size W w' from by
      obtain ⟨oa, oc, rfl, hss, _, _⟩ := Strs.of_own hw (by omega) hm
      have := ownWalk_any xs xa xn xc A oa k oc ws W _ (Nat.le_refl _) (HT2.out.on hW) hss
      rwa [walkL_of HVA.out] at this)
    have CW3 := Lib.hid (fun (v : Value) (k : Nat) (ws : List Str) (W : World) (hk : k ≤ 20) (hw : W.ownsRow wb.heap.size 9 1 v k (ws.map encStr)) (hm : ∀ s ∈ ws, s.length ≤ maxLen) (hW : Below wb.heap.size wb W) => show Calls Tryz.prog 21 #[.agg #[.string ⟨#[116]⟩, .slice ra rn rc], v] W fun e w' => e = .returned (walkV (walkT M 0 ws)) ∧ Below W.heap.size W w' from by
      obtain ⟨oa, oc, rfl, hss, _, _⟩ := Strs.of_own hw (by omega) hm
      have := ownWalk_any ⟨#[116]⟩ ra rn rc M oa k oc ws W _ (Nat.le_refl _) (HT3'.out.on hW) hss
      rwa [walkL_of P3.out] at this)
    have CW4 := Lib.hid (fun (v : Value) (k : Nat) (ws : List Str) (W : World) (hk : k ≤ 20) (hw : W.ownsRow wb.heap.size 9 1 v k (ws.map encStr)) (hm : ∀ s ∈ ws, s.length ≤ maxLen) (hW : Below wb.heap.size wb W) => show Calls Tryz.prog 21 #[.agg #[.string ys, .slice ya yn yc], v] W fun e w' => e = .returned (walkV (walkT B 0 ws)) ∧ Below W.heap.size W w' from by
      obtain ⟨oa, oc, rfl, hss, _, _⟩ := Strs.of_own hw (by omega) hm
      have := ownWalk_any ys ya yn yc B oa k oc ws W _ (Nat.le_refl _) (HTb.out.on hW) hss
      rwa [walkL_of HVB.out] at this)
    go_wp2_with fail
    go_loopw [14, 15] (fun sl i wr => ∃ (k : Nat) (v : Value) (ws : List Str), k ≤ 20 ∧ k ≤ n' ∧ i = .int .i64 k ∧ v = sl ∧ Hid (wr.ownsRow wb.heap.size 9 1 v k (ws.map encStr)) ∧ Hid (∀ s ∈ ws, s.length ≤ maxLen) ∧ Hid (Below wb.heap.size wb wr)) (fun _ i _ => n' - (intOf i).toNat)
    case atStart => exact ⟨0, _, [], Nat.zero_le _, Nat.zero_le _, rfl, rfl, Lib.hid (World.ownsRow_nil _ _ _ _), Lib.hid (fun s hs => by cases hs), Lib.hid (Below.refl _ _)⟩
    case round =>
      obtain ⟨k, v0, ws, hk20, hk, rfl, rfl, HO, HWS, HBr⟩ := hrel
      obtain ⟨wo, hwo⟩ : ∃ wo : World, wo = wr := ⟨_, rfl⟩
      subst hwo
      by_cases hk1 : k < n'
      · by_cases hk2 : k < 20
        · have i1 : (k : Int) < (n' : Int) := by omega
          have i2 : (0 : Int) ≤ (k : Int) := by omega
          have i3 : (k : Int) < 20 := by omega
          obtain ⟨_, _⟩ := (HL1.out.on HBr.out).cells
          have D1 := Lib.hid (fun (W : World) (hW : Below wo.heap.size wo W) => CW1.out v0 k ws W hk20 (ownsRow_on HO.out hW (Nat.le_refl _)) HWS.out (below_on HBr.out hW))
          have D2 := Lib.hid (fun (W : World) (hW : Below wo.heap.size wo W) => CW2.out v0 k ws W hk20 (ownsRow_on HO.out hW (Nat.le_refl _)) HWS.out (below_on HBr.out hW))
          have D3 := Lib.hid (fun (W : World) (hW : Below wo.heap.size wo W) => CW3.out v0 k ws W hk20 (ownsRow_on HO.out hW (Nat.le_refl _)) HWS.out (below_on HBr.out hW))
          have D4 := Lib.hid (fun (W : World) (hW : Below wo.heap.size wo W) => CW4.out v0 k ws W hk20 (ownsRow_on HO.out hW (Nat.le_refl _)) HWS.out (below_on HBr.out hW))
          rcases HWAY.out ws with ⟨r1, r2, r3, r4⟩ | ⟨p, u, q, v, t, ta, tm, tb, ⟨r1, r2, r3, r4⟩, ⟨k1, k2, k3, k4⟩, m1, m2, m3⟩
          · rw [r1] at D1
            rw [r2] at D2
            rw [r3] at D3
            rw [r4] at D4
            dsimp only [walkV] at D1 D2 D3 D4
            clear r1 r2 r3 r4
            go_wp2_with (first
              | (go_at_call 21; (with_reducible refine (D1.out _ (Below.refl _ _)).mono ?_)
                 rintro e wk1 ⟨rfl, hbk⟩
                 have HW1 := Lib.hid (hbk)
                 obtain ⟨_, _⟩ := (HL2.out.on (below_on HBr.out HW1.out)).cells
                 clear hbk)
              | (go_at_call 21; (with_reducible refine (D2.out _ (HW1.out)).mono ?_)
                 rintro e wk2 ⟨rfl, hbk⟩
                 have HW2 := Lib.hid (below_on HW1.out hbk)
                 obtain ⟨_, _⟩ := (HL3'.out.on (below_on HBr.out HW2.out)).cells
                 clear hbk)
              | (go_at_call 21; (with_reducible refine (D3.out _ (HW2.out)).mono ?_)
                 rintro e wk3 ⟨rfl, hbk⟩
                 have HW3 := Lib.hid (below_on HW2.out hbk)
                 obtain ⟨_, _⟩ := (HXb.out.on (below_on HBr.out HW3.out)).cells
                 clear hbk)
              | (go_at_call 21; (with_reducible refine (D4.out _ (HW3.out)).mono ?_)
                 rintro e wq ⟨rfl, hbk⟩
                 have HW4 := Lib.hid (below_on HW3.out hbk)
                 clear hbk)
              | fail)
            go_ret
            exact ⟨rfl, below_on HBE.out (below_on HBr.out HW4.out)⟩
          · rw [r1] at D1
            rw [r2] at D2
            rw [r3] at D3
            rw [r4] at D4
            dsimp only [walkV] at D1 D2 D3 D4
            have HKS := Lib.hid (And.intro k1 (And.intro k2 (And.intro k3 k4)))
            have HM3 := Lib.hid m3
            have HM1 := Lib.hid (And.intro m1 m2)
            clear r1 r2 r3 r4 k1 k2 k3 k4 m1 m2 m3
            go_upto_region 24 with (first
              | (go_at_call 21; (with_reducible refine (D1.out _ (Below.refl _ _)).mono ?_)
                 rintro e wk1 ⟨rfl, hbk⟩
                 have HW1 := Lib.hid (hbk)
                 obtain ⟨_, _⟩ := (HL2.out.on (below_on HBr.out HW1.out)).cells
                 clear hbk)
              | (go_at_call 21; (with_reducible refine (D2.out _ (HW1.out)).mono ?_)
                 rintro e wk2 ⟨rfl, hbk⟩
                 have HW2 := Lib.hid (below_on HW1.out hbk)
                 obtain ⟨_, _⟩ := (HL3'.out.on (below_on HBr.out HW2.out)).cells
                 clear hbk)
              | (go_at_call 21; (with_reducible refine (D3.out _ (HW2.out)).mono ?_)
                 rintro e wk3 ⟨rfl, hbk⟩
                 have HW3 := Lib.hid (below_on HW2.out hbk)
                 obtain ⟨_, _⟩ := (HXb.out.on (below_on HBr.out HW3.out)).cells
                 clear hbk)
              | (go_at_call 21; (with_reducible refine (D4.out _ (HW3.out)).mono ?_)
                 rintro e wq ⟨rfl, hbk⟩
                 have HW4 := Lib.hid (below_on HW3.out hbk)
                 clear hbk)
              | fail)
            have HBq := Lib.hid (below_on HBr.out HW4.out)
            have ps := (List.getElem?_eq_some_iff.1 HKS.out.1).1
            have us := (List.getElem?_eq_some_iff.1 HKS.out.2.1).1
            have qs := (List.getElem?_eq_some_iff.1 HKS.out.2.2.1).1
            have vs := (List.getElem?_eq_some_iff.1 HKS.out.2.2.2).1
            rw [(HT1.out.on HBq.out).1] at ps
            rw [(HT2.out.on HBq.out).1] at us
            rw [(HT3'.out.on HBq.out).1] at qs
            rw [(HTb.out.on HBq.out).1] at vs
            obtain ⟨b1, o1, d1, s1, _, _, _, _, ea1, hb1, hx1, ⟨x1, x2, _⟩, _, _⟩ := (HT1.out.on HBq.out).at_ ps
            obtain ⟨b2, o2, d2, s2, _, _, _, _, ea2, hb2, hx2, ⟨y1, y2, _⟩, _, _⟩ := (HT2.out.on HBq.out).at_ us
            obtain ⟨b3, o3, d3, s3, _, _, _, _, ea3, hb3, hx3, ⟨z1, z2, _⟩, _, _⟩ := (HT3'.out.on HBq.out).at_ qs
            obtain ⟨b4, o4, d4, s4, _, _, _, _, ea4, hb4, hx4, ⟨v1, v2, _⟩, _, _⟩ := (HTb.out.on HBq.out).at_ vs
            subst ea1 ea2 ea3 ea4
            obtain rfl := Option.some.inj (HKS.out.1.symm.trans hx1)
            obtain rfl := Option.some.inj (HKS.out.2.1.symm.trans hx2)
            obtain rfl := Option.some.inj (HKS.out.2.2.1.symm.trans hx3)
            obtain rfl := Option.some.inj (HKS.out.2.2.2.symm.trans hx4)
            have hd1 : d2 = d1 := HM1.out.1
            have hd2 : d4 = d3 := HM1.out.2
            subst hd1 hd2
            have HPE3 := Lib.hid (show d2 ≠ 0 → s2.toList = [97] ∧ s4.toList = [109, 101] from HM3.out)
            have nn1 : (d2 != d2) = false := by simp
            have nn2 : (d4 != d4) = false := by simp
            have j1 : (p : Int) < (sn : Int) := by omega
            have j2 : (0 : Int) ≤ (p : Int) := by omega
            have j3 : (u : Int) < (xn : Int) := by omega
            have j4 : (0 : Int) ≤ (u : Int) := by omega
            have j5 : (q : Int) < (rn : Int) := by omega
            have j6 : (0 : Int) ≤ (q : Int) := by omega
            have j7 : (v : Int) < (yn : Int) := by omega
            have j8 : (0 : Int) ≤ (v : Int) := by omega
            have HS := Lib.hid (fun (W : World) (hW : Below wq.heap.size wq W) => show W.cell? ⟨g3, 1, none⟩ = some (.slice (some ⟨b1, o1, none⟩) sn sc) ∧ W.cell? ⟨g10, 1, none⟩ = some (.slice (some ⟨b2, o2, none⟩) xn xc) ∧ W.cell? ⟨g4, 1, none⟩ = some (.slice (some ⟨b3, o3, none⟩) rn rc) ∧ W.cell? ⟨g12, 1, none⟩ = some (.slice (some ⟨b4, o4, none⟩) yn yc) ∧ W.cell? ⟨b1, o1 + p * 3, none⟩ = some (.int .i64 d2) ∧ W.cell? ⟨b2, o2 + u * 3, none⟩ = some (.int .i64 d2) ∧ W.cell? ⟨b2, o2 + u * 3 + 1, none⟩ = some (.string s2) ∧ W.cell? ⟨b3, o3 + q * 3, none⟩ = some (.int .i64 d4) ∧ W.cell? ⟨b4, o4 + v * 3, none⟩ = some (.int .i64 d4) ∧ W.cell? ⟨b4, o4 + v * 3 + 1, none⟩ = some (.string s4) from
              ⟨((HL1.out.on HBq.out).on hW).cells.2, ((HL2.out.on HBq.out).on hW).cells.2, ((HL3'.out.on HBq.out).on hW).cells.2, ((HXb.out.on HBq.out).on hW).cells.2,
               (hW.cell (p := ⟨b1, o1 + p * 3, none⟩) hb1).trans x1, (hW.cell (p := ⟨b2, o2 + u * 3, none⟩) hb2).trans y1, (hW.cell (p := ⟨b2, o2 + u * 3 + 1, none⟩) hb2).trans y2, (hW.cell (p := ⟨b3, o3 + q * 3, none⟩) hb3).trans z1, (hW.cell (p := ⟨b4, o4 + v * 3, none⟩) hb4).trans v1, (hW.cell (p := ⟨b4, o4 + v * 3 + 1, none⟩) hb4).trans v2⟩)
            clear hx1 hx2 hx3 hx4 x1 x2 y1 y2 z1 z2 v1 v2 HKS HM1 HM3
            go_cut [190] (fun s190 wx => s190 = .bool false ∧ Hid (Below wq.heap.size wq wx))
            case first =>
              by_cases h0 : d2 = 0
              · have n0 : (d2 != 0) = false := by rw [h0]; rfl
                clear h0
                have HBd := Lib.hid (show Below wq.heap.size wq wq.drew from bel_drewQ (Below.refl _ _))
                obtain ⟨wd, hwd2⟩ : ∃ wd : World, wd = wq.drew := ⟨_, rfl⟩
                rw [← hwd2] at HBd
                have hHD := HS.out _ HBd.out
                refine wp_region_held_drew (S := fun W => W.cell? ⟨g3, 1, none⟩ = some (.slice (some ⟨b1, o1, none⟩) sn sc) ∧ W.cell? ⟨g10, 1, none⟩ = some (.slice (some ⟨b2, o2, none⟩) xn xc) ∧ W.cell? ⟨g4, 1, none⟩ = some (.slice (some ⟨b3, o3, none⟩) rn rc) ∧ W.cell? ⟨g12, 1, none⟩ = some (.slice (some ⟨b4, o4, none⟩) yn yc) ∧ W.cell? ⟨b1, o1 + p * 3, none⟩ = some (.int .i64 d2) ∧ W.cell? ⟨b2, o2 + u * 3, none⟩ = some (.int .i64 d2) ∧ W.cell? ⟨b2, o2 + u * 3 + 1, none⟩ = some (.string s2) ∧ W.cell? ⟨b3, o3 + q * 3, none⟩ = some (.int .i64 d4) ∧ W.cell? ⟨b4, o4 + v * 3, none⟩ = some (.int .i64 d4) ∧ W.cell? ⟨b4, o4 + v * 3 + 1, none⟩ = some (.string s4)) (by kernel_rfl) (by rw [← hwd2]; exact hHD) (fun hHeld => ?_)
                rw [← hwd2]
                rw [← hwd2] at hHeld
                clear hHD hwd2
                try simp only [Act.put, List.setIfInBounds_toArray]
                refine' wpAnyH_take (i := 0) (v := _) rfl (by kernel_rfl) (by kernel_rfl) (by kernel_rfl) (fun _ _ _ h => h) (Or.inl ⟨by kernel_rfl, ?hya0⟩) (by assumption) ?resta0
                case hya0 => intro W hSw; (try dsimp only at hSw); first | (go_simp; done) | (go_simp; with_reducible rfl)
                try simp only [Act.put]
                refine' wpAnyH_take (i := 1) (v := _) rfl (by kernel_rfl) (by kernel_rfl) (by kernel_rfl) (fun _ _ _ h => h) (Or.inl ⟨by kernel_rfl, ?hya1⟩) (by assumption) ?resta1
                case hya1 => intro W hSw; (try dsimp only at hSw); first | (go_simp; done) | (go_simp; with_reducible rfl)
                try simp only [Act.put]
                refine' wpAnyH_take (i := 2) (v := _) rfl (by kernel_rfl) (by kernel_rfl) (by kernel_rfl) (fun _ _ _ h => h) (Or.inl ⟨by kernel_rfl, ?hya2⟩) (by assumption) ?resta2
                case hya2 => intro W hSw; (try dsimp only at hSw); first | (go_simp; done) | (go_simp; with_reducible rfl)
                try simp only [Act.put]
                refine' wpAnyH_take (i := 3) (v := _) rfl (by kernel_rfl) (by kernel_rfl) (by kernel_rfl) (fun _ _ _ h => h) (Or.inl ⟨by kernel_rfl, ?hya3⟩) (by assumption) ?resta3
                case hya3 => intro W hSw; (try dsimp only at hSw); first | (go_simp; done) | (go_simp; with_reducible rfl)
                try simp only [Act.put]
                refine' wpAnyH_take (i := 4) (v := _) rfl (by kernel_rfl) (by kernel_rfl) (by kernel_rfl) (fun _ _ _ h => h) (Or.inl ⟨by kernel_rfl, ?hya4⟩) (by assumption) ?resta4
                case hya4 => intro W hSw; (try dsimp only at hSw); first | (go_simp; done) | (go_simp; with_reducible rfl)
                try simp only [Act.put]
                refine' wpAnyH_take (i := 5) (v := _) rfl (by kernel_rfl) (by kernel_rfl) (by kernel_rfl) (fun _ _ _ h => h) (Or.inl ⟨by kernel_rfl, ?hya5⟩) (by assumption) ?resta5
                case hya5 => intro W hSw; (try dsimp only at hSw); first | (go_simp; done) | (go_simp; with_reducible rfl)
                try simp only [Act.put]
                refine' wpAnyH_take (i := 6) (v := _) rfl (by kernel_rfl) (by kernel_rfl) (by kernel_rfl) (fun _ _ _ h => h) (Or.inl ⟨by kernel_rfl, ?hya6⟩) (by assumption) ?resta6
                case hya6 => intro W hSw; (try dsimp only at hSw); first | (go_simp; done) | (go_simp; with_reducible rfl)
                try simp only [Act.put, List.getElem_toArray, List.getElem_cons_succ, List.getElem_cons_zero, List.setIfInBounds_toArray, List.set_cons_succ, List.set_cons_zero]
                refine' wpAnyH_take (i := 7) (v := _) rfl (by kernel_rfl) (by kernel_rfl) (by kernel_rfl) (fun _ _ _ h => h) (Or.inl ⟨by kernel_rfl, ?hya7⟩) (by assumption) ?resta7
                case hya7 => intro W hSw; (try dsimp only at hSw); first | (go_simp; done) | (go_simp; with_reducible rfl)
                try simp only [Act.put]
                refine' wpAnyH_take (i := 8) (v := _) rfl (by kernel_rfl) (by kernel_rfl) (by kernel_rfl) (fun _ _ _ h => h) (Or.inl ⟨by kernel_rfl, ?hya8⟩) (by assumption) ?resta8
                case hya8 => intro W hSw; (try dsimp only at hSw); first | (go_simp; done) | (go_simp; with_reducible rfl)
                try simp only [Act.put]
                refine' wpAnyH_take (i := 9) (v := _) rfl (by kernel_rfl) (by kernel_rfl) (by kernel_rfl) (fun _ _ _ h => h) (Or.inl ⟨by kernel_rfl, ?hya9⟩) (by assumption) ?resta9
                case hya9 => intro W hSw; (try dsimp only at hSw); first | (go_simp; done) | (go_simp; with_reducible rfl)
                try simp only [Act.put]
                refine' wpAnyH_take (i := 10) (v := _) rfl (by kernel_rfl) (by kernel_rfl) (by kernel_rfl) (fun _ _ _ h => h) (Or.inl ⟨by kernel_rfl, ?hya10⟩) (by assumption) ?resta10
                case hya10 => intro W hSw; (try dsimp only at hSw); first | (go_simp; done) | (go_simp; with_reducible rfl)
                try simp only [Act.put]
                refine' wpAnyH_take (i := 11) (v := _) rfl (by kernel_rfl) (by kernel_rfl) (by kernel_rfl) (fun _ _ _ h => h) (Or.inl ⟨by kernel_rfl, ?hya11⟩) (by assumption) ?resta11
                case hya11 => intro W hSw; (try dsimp only at hSw); first | (go_simp; done) | (go_simp; with_reducible rfl)
                try simp only [Act.put]
                refine' wpAnyH_take (i := 12) (v := _) rfl (by kernel_rfl) (by kernel_rfl) (by kernel_rfl) (fun _ _ _ h => h) (Or.inl ⟨by kernel_rfl, ?hya12⟩) (by assumption) ?resta12
                case hya12 => intro W hSw; (try dsimp only at hSw); first | (go_simp; done) | (go_simp; with_reducible rfl)
                try simp only [Act.put]
                refine' wpAnyH_take (i := 13) (v := _) rfl (by kernel_rfl) (by kernel_rfl) (by kernel_rfl) (fun _ _ _ h => h) (Or.inl ⟨by kernel_rfl, ?hya13⟩) (by assumption) ?resta13
                case hya13 => intro W hSw; (try dsimp only at hSw); first | (go_simp; done) | (go_simp; with_reducible rfl)
                try simp only [Act.put]
                refine' wpAnyH_take (i := 14) (v := _) rfl (by kernel_rfl) (by kernel_rfl) (by kernel_rfl) (fun _ _ _ h => h) (Or.inl ⟨by kernel_rfl, ?hya14⟩) (by assumption) ?resta14
                case hya14 => intro W hSw; (try dsimp only at hSw); first | (go_simp; done) | (go_simp; with_reducible rfl)
                try simp only [Act.put, List.getElem_toArray, List.getElem_cons_succ, List.getElem_cons_zero, List.setIfInBounds_toArray, List.set_cons_succ, List.set_cons_zero]
                refine' wpAnyH_take (i := 15) (v := _) rfl (by kernel_rfl) (by kernel_rfl) (by kernel_rfl) (fun _ _ _ h => h) (Or.inl ⟨by kernel_rfl, ?hya15⟩) (by assumption) ?resta15
                case hya15 => intro W hSw; (try dsimp only at hSw); first | (go_simp; done) | (go_simp; with_reducible rfl)
                try simp only [Act.put]
                refine' wpAnyH_take (i := 16) (v := _) rfl (by kernel_rfl) (by kernel_rfl) (by kernel_rfl) (fun _ _ _ h => h) (Or.inl ⟨by kernel_rfl, ?hya16⟩) (by assumption) ?resta16
                case hya16 => intro W hSw; (try dsimp only at hSw); first | (go_simp; done) | (go_simp; with_reducible rfl)
                try simp only [Act.put]
                refine' wpAnyH_take (i := 17) (v := _) rfl (by kernel_rfl) (by kernel_rfl) (by kernel_rfl) (fun _ _ _ h => h) (Or.inl ⟨by kernel_rfl, ?hya17⟩) (by assumption) ?resta17
                case hya17 => intro W hSw; (try dsimp only at hSw); first | (go_simp; done) | (go_simp; with_reducible rfl)
                try simp only [Act.put]
                refine' wpAnyH_take (i := 18) (v := _) rfl (by kernel_rfl) (by kernel_rfl) (by kernel_rfl) (fun _ _ _ h => h) (Or.inl ⟨by kernel_rfl, ?hya18⟩) (by assumption) ?resta18
                case hya18 => intro W hSw; (try dsimp only at hSw); first | (go_simp; done) | (go_simp; with_reducible rfl)
                try simp only [Act.put]
                refine' wpAnyH_take (i := 19) (v := _) rfl (by kernel_rfl) (by kernel_rfl) (by kernel_rfl) (fun _ _ _ h => h) (Or.inl ⟨by kernel_rfl, ?hya19⟩) (by assumption) ?resta19
                case hya19 => intro W hSw; (try dsimp only at hSw); first | (go_simp; done) | (go_simp; with_reducible rfl)
                try simp only [Act.put]
                refine' wpAnyH_take (i := 20) (v := _) rfl (by kernel_rfl) (by kernel_rfl) (by kernel_rfl) (fun _ _ _ h => h) (Or.inl ⟨by kernel_rfl, ?hya20⟩) (by assumption) ?resta20
                case hya20 => intro W hSw; (try dsimp only at hSw); first | (go_simp; done) | (go_simp; with_reducible rfl)
                try simp only [Act.put]
                refine' wpAnyH_take (i := 21) (v := _) rfl (by kernel_rfl) (by kernel_rfl) (by kernel_rfl) (fun _ _ _ h => h) (Or.inl ⟨by kernel_rfl, ?hya21⟩) (by assumption) ?resta21
                case hya21 => intro W hSw; (try dsimp only at hSw); first | (go_simp; done) | (go_simp; with_reducible rfl)
                try simp only [Act.put]
                refine' wpAnyH_take (i := 22) (v := _) rfl (by kernel_rfl) (by kernel_rfl) (by kernel_rfl) (fun _ _ _ h => h) (Or.inl ⟨by kernel_rfl, ?hya22⟩) (by assumption) ?resta22
                case hya22 => intro W hSw; (try dsimp only at hSw); first | (go_simp; done) | (go_simp; with_reducible rfl)
                try simp only [Act.put, List.getElem_toArray, List.getElem_cons_succ, List.getElem_cons_zero, List.setIfInBounds_toArray, List.set_cons_succ, List.set_cons_zero]
                refine' wpAnyH_take (i := 23) (v := _) rfl (by kernel_rfl) (by kernel_rfl) (by kernel_rfl) (fun _ _ _ h => h) (Or.inl ⟨by kernel_rfl, ?hya23⟩) (by assumption) ?resta23
                case hya23 => intro W hSw; (try dsimp only at hSw); first | (go_simp; done) | (go_simp; with_reducible rfl)
                try simp only [Act.put]
                refine' wpAnyH_take (i := 24) (v := _) rfl (by kernel_rfl) (by kernel_rfl) (by kernel_rfl) (fun _ _ _ h => h) (Or.inl ⟨by kernel_rfl, ?hya24⟩) (by assumption) ?resta24
                case hya24 => intro W hSw; (try dsimp only at hSw); first | (go_simp; done) | (go_simp; with_reducible rfl)
                try simp only [Act.put]
                refine' wpAnyH_take (i := 25) (v := _) rfl (by kernel_rfl) (by kernel_rfl) (by kernel_rfl) (fun _ _ _ h => h) (Or.inl ⟨by kernel_rfl, ?hya25⟩) (by assumption) ?resta25
                case hya25 => intro W hSw; (try dsimp only at hSw); first | (go_simp; done) | (go_simp; with_reducible rfl)
                try simp only [Act.put]
                refine' wpAnyH_take (i := 26) (v := _) rfl (by kernel_rfl) (by kernel_rfl) (by kernel_rfl) (fun _ _ _ h => h) (Or.inl ⟨by kernel_rfl, ?hya26⟩) (by assumption) ?resta26
                case hya26 => intro W hSw; (try dsimp only at hSw); first | (go_simp; done) | (go_simp; with_reducible rfl)
                try simp only [Act.put]
                refine' wpAnyH_take (i := 27) (v := _) rfl (by kernel_rfl) (by kernel_rfl) (by kernel_rfl) (fun _ _ _ h => h) (Or.inl ⟨by kernel_rfl, ?hya27⟩) (by assumption) ?resta27
                case hya27 => intro W hSw; (try dsimp only at hSw); first | (go_simp; done) | (go_simp; with_reducible rfl)
                try simp only [Act.put]
                refine' wpAnyH_take (i := 28) (v := _) rfl (by kernel_rfl) (by kernel_rfl) (by kernel_rfl) (fun _ _ _ h => h) (Or.inl ⟨by kernel_rfl, ?hya28⟩) (by assumption) ?resta28
                case hya28 => intro W hSw; (try dsimp only at hSw); first | (go_simp; done) | (go_simp; with_reducible rfl)
                try simp only [Act.put]
                refine' wpAnyH_take (i := 29) (v := _) rfl (by kernel_rfl) (by kernel_rfl) (by kernel_rfl) (fun _ _ _ h => h) (Or.inl ⟨by kernel_rfl, ?hya29⟩) (by assumption) ?resta29
                case hya29 => intro W hSw; (try dsimp only at hSw); first | (go_simp; done) | (go_simp; with_reducible rfl)
                try simp only [Act.put]
                refine' wpAnyH_take (i := 30) (v := _) rfl (by kernel_rfl) (by kernel_rfl) (by kernel_rfl) (fun _ _ _ h => h) (Or.inl ⟨by kernel_rfl, ?hya30⟩) (by assumption) ?resta30
                case hya30 => intro W hSw; (try dsimp only at hSw); first | (go_simp; done) | (go_simp; with_reducible rfl)
                try simp only [Act.put, List.getElem_toArray, List.getElem_cons_succ, List.getElem_cons_zero, List.setIfInBounds_toArray, List.set_cons_succ, List.set_cons_zero]
                refine' wpAnyH_take (i := 31) (v := _) rfl (by kernel_rfl) (by kernel_rfl) (by kernel_rfl) (fun _ _ _ h => h) (Or.inl ⟨by kernel_rfl, ?hya31⟩) (by assumption) ?resta31
                case hya31 => intro W hSw; (try dsimp only at hSw); first | (go_simp; done) | (go_simp; with_reducible rfl)
                try simp only [Act.put]
                refine' wpAnyH_take (i := 32) (v := _) rfl (by kernel_rfl) (by kernel_rfl) (by kernel_rfl) (fun _ _ _ h => h) (Or.inl ⟨by kernel_rfl, ?hya32⟩) (by assumption) ?resta32
                case hya32 => intro W hSw; (try dsimp only at hSw); first | (go_simp; done) | (go_simp; with_reducible rfl)
                try simp only [Act.put]
                refine' wpAnyH_take (i := 33) (v := _) rfl (by kernel_rfl) (by kernel_rfl) (by kernel_rfl) (fun _ _ _ h => h) (Or.inl ⟨by kernel_rfl, ?hya33⟩) (by assumption) ?resta33
                case hya33 => intro W hSw; (try dsimp only at hSw); first | (go_simp; done) | (go_simp; with_reducible rfl)
                try simp only [Act.put]
                refine' wpAnyH_take (i := 34) (v := _) rfl (by kernel_rfl) (by kernel_rfl) (by kernel_rfl) (fun _ _ _ h => h) (Or.inl ⟨by kernel_rfl, ?hya34⟩) (by assumption) ?resta34
                case hya34 => intro W hSw; (try dsimp only at hSw); first | (go_simp; done) | (go_simp; with_reducible rfl)
                try simp only [Act.put]
                refine' wpAnyH_take (i := 35) (v := _) rfl (by kernel_rfl) (by kernel_rfl) (by kernel_rfl) (fun _ _ _ h => h) (Or.inl ⟨by kernel_rfl, ?hya35⟩) (by assumption) ?resta35
                case hya35 => intro W hSw; (try dsimp only at hSw); first | (go_simp; done) | (go_simp; with_reducible rfl)
                try simp only [Act.put]
                refine' wpAnyH_take (i := 36) (v := _) rfl (by kernel_rfl) (by kernel_rfl) (by kernel_rfl) (fun _ _ _ h => h) (Or.inl ⟨by kernel_rfl, ?hya36⟩) (by assumption) ?resta36
                case hya36 => intro W hSw; (try dsimp only at hSw); first | (go_simp; done) | (go_simp; with_reducible rfl)
                try simp only [Act.put]
                refine wpAnyH_take (i := 37) (v := undef) rfl (by kernel_rfl) (by kernel_rfl) (by kernel_rfl) (fun _ _ _ h => h) (Or.inr ⟨by kernel_rfl, rfl⟩) (by assumption) ?_
                try simp only [Act.put]
                refine wpAnyH_take (i := 38) (v := undef) rfl (by kernel_rfl) (by kernel_rfl) (by kernel_rfl) (fun _ _ _ h => h) (Or.inr ⟨by kernel_rfl, rfl⟩) (by assumption) ?_
                try simp only [Act.put, List.getElem_toArray, List.getElem_cons_succ, List.getElem_cons_zero, List.setIfInBounds_toArray, List.set_cons_succ, List.set_cons_zero]
                refine wpAnyH_take (i := 39) (v := undef) rfl (by kernel_rfl) (by kernel_rfl) (by kernel_rfl) (fun _ _ _ h => h) (Or.inr ⟨by kernel_rfl, rfl⟩) (by assumption) ?_
                try simp only [Act.put]
                refine wpAnyH_take (i := 40) (v := undef) rfl (by kernel_rfl) (by kernel_rfl) (by kernel_rfl) (fun _ _ _ h => h) (Or.inr ⟨by kernel_rfl, rfl⟩) (by assumption) ?_
                try simp only [Act.put]
                refine wpAnyH_take (i := 41) (v := undef) rfl (by kernel_rfl) (by kernel_rfl) (by kernel_rfl) (fun _ _ _ h => h) (Or.inr ⟨by kernel_rfl, rfl⟩) (by assumption) ?_
                try simp only [Act.put]
                refine wpAnyH_take (i := 42) (v := undef) rfl (by kernel_rfl) (by kernel_rfl) (by kernel_rfl) (fun _ _ _ h => h) (Or.inr ⟨by kernel_rfl, rfl⟩) (by assumption) ?_
                try simp only [Act.put]
                refine wpAnyH_take (i := 43) (v := undef) rfl (by kernel_rfl) (by kernel_rfl) (by kernel_rfl) (fun _ _ _ h => h) (Or.inr ⟨by kernel_rfl, rfl⟩) (by assumption) ?_
                try simp only [Act.put]
                refine wpAnyH_take (i := 44) (v := undef) rfl (by kernel_rfl) (by kernel_rfl) (by kernel_rfl) (fun _ _ _ h => h) (Or.inr ⟨by kernel_rfl, rfl⟩) (by assumption) ?_
                try simp only [Act.put]
                refine wpAnyH_take (i := 45) (v := undef) rfl (by kernel_rfl) (by kernel_rfl) (by kernel_rfl) (fun _ _ _ h => h) (Or.inr ⟨by kernel_rfl, rfl⟩) (by assumption) ?_
                try simp only [Act.put]
                refine wpAnyH_take (i := 46) (v := undef) rfl (by kernel_rfl) (by kernel_rfl) (by kernel_rfl) (fun _ _ _ h => h) (Or.inr ⟨by kernel_rfl, rfl⟩) (by assumption) ?_
                try simp only [Act.put, List.getElem_toArray, List.getElem_cons_succ, List.getElem_cons_zero, List.setIfInBounds_toArray, List.set_cons_succ, List.set_cons_zero]
                refine wpAnyH_take (i := 47) (v := undef) rfl (by kernel_rfl) (by kernel_rfl) (by kernel_rfl) (fun _ _ _ h => h) (Or.inr ⟨by kernel_rfl, rfl⟩) (by assumption) ?_
                try simp only [Act.put]
                refine wpAnyH_take (i := 48) (v := undef) rfl (by kernel_rfl) (by kernel_rfl) (by kernel_rfl) (fun _ _ _ h => h) (Or.inr ⟨by kernel_rfl, rfl⟩) (by assumption) ?_
                try simp only [Act.put]
                refine wpAnyH_take (i := 49) (v := undef) rfl (by kernel_rfl) (by kernel_rfl) (by kernel_rfl) (fun _ _ _ h => h) (Or.inr ⟨by kernel_rfl, rfl⟩) (by assumption) ?_
                try simp only [Act.put]
                refine wpAnyH_take (i := 50) (v := undef) rfl (by kernel_rfl) (by kernel_rfl) (by kernel_rfl) (fun _ _ _ h => h) (Or.inr ⟨by kernel_rfl, rfl⟩) (by assumption) ?_
                try simp only [Act.put]
                refine wpAnyH_take (i := 51) (v := undef) rfl (by kernel_rfl) (by kernel_rfl) (by kernel_rfl) (fun _ _ _ h => h) (Or.inr ⟨by kernel_rfl, rfl⟩) (by assumption) ?_
                try simp only [Act.put]
                refine wpAnyH_take (i := 52) (v := undef) rfl (by kernel_rfl) (by kernel_rfl) (by kernel_rfl) (fun _ _ _ h => h) (Or.inr ⟨by kernel_rfl, rfl⟩) (by assumption) ?_
                try simp only [Act.put]
                refine' wpAnyH_take (i := 53) (v := _) rfl (by kernel_rfl) (by kernel_rfl) (by kernel_rfl) (fun _ _ _ h => h) (Or.inl ⟨by kernel_rfl, ?hya53⟩) (by assumption) ?resta53
                case hya53 => intro W hSw; (try dsimp only at hSw); first | (go_simp; done) | (go_simp; with_reducible rfl)
                try simp only [Act.put]
                refine' wpAnyH_take (i := 54) (v := _) rfl (by kernel_rfl) (by kernel_rfl) (by kernel_rfl) (fun _ _ _ h => h) (Or.inl ⟨by kernel_rfl, ?hya54⟩) (by assumption) ?resta54
                case hya54 => intro W hSw; (try dsimp only at hSw); first | (go_simp; done) | (go_simp; with_reducible rfl)
                try simp only [Act.put, List.setIfInBounds_toArray]
                refine wpAnyH_done (by kernel_rfl) ?_ _
                simp only [List.getElem_toArray, List.getElem_cons_succ, List.getElem_cons_zero, List.setIfInBounds_toArray, List.set_cons_succ, List.set_cons_zero]
                go_wp2_with fail
                go_meet
                case rel => exact ⟨rfl, HBd⟩
              · have n0 : (d2 != 0) = true := bne_iff_ne.2 h0
                have e1 : (s2.toList == [97]) = true := by rw [(HPE3.out h0).1]; rfl
                have e2 : (s4.toList == [109, 101]) = true := by rw [(HPE3.out h0).2]; rfl
                clear h0
                have HBd := Lib.hid (show Below wq.heap.size wq wq.drew from bel_drewQ (Below.refl _ _))
                obtain ⟨wd, hwd2⟩ : ∃ wd : World, wd = wq.drew := ⟨_, rfl⟩
                rw [← hwd2] at HBd
                have hHD := HS.out _ HBd.out
                refine wp_region_held_drew (S := fun W => W.cell? ⟨g3, 1, none⟩ = some (.slice (some ⟨b1, o1, none⟩) sn sc) ∧ W.cell? ⟨g10, 1, none⟩ = some (.slice (some ⟨b2, o2, none⟩) xn xc) ∧ W.cell? ⟨g4, 1, none⟩ = some (.slice (some ⟨b3, o3, none⟩) rn rc) ∧ W.cell? ⟨g12, 1, none⟩ = some (.slice (some ⟨b4, o4, none⟩) yn yc) ∧ W.cell? ⟨b1, o1 + p * 3, none⟩ = some (.int .i64 d2) ∧ W.cell? ⟨b2, o2 + u * 3, none⟩ = some (.int .i64 d2) ∧ W.cell? ⟨b2, o2 + u * 3 + 1, none⟩ = some (.string s2) ∧ W.cell? ⟨b3, o3 + q * 3, none⟩ = some (.int .i64 d4) ∧ W.cell? ⟨b4, o4 + v * 3, none⟩ = some (.int .i64 d4) ∧ W.cell? ⟨b4, o4 + v * 3 + 1, none⟩ = some (.string s4)) (by kernel_rfl) (by rw [← hwd2]; exact hHD) (fun hHeld => ?_)
                rw [← hwd2]
                rw [← hwd2] at hHeld
                clear hHD hwd2
                try simp only [Act.put, List.setIfInBounds_toArray]
                refine' wpAnyH_take (i := 0) (v := _) rfl (by kernel_rfl) (by kernel_rfl) (by kernel_rfl) (fun _ _ _ h => h) (Or.inl ⟨by kernel_rfl, ?hyb0⟩) (by assumption) ?restb0
                case hyb0 => intro W hSw; (try dsimp only at hSw); first | (go_simp; done) | (go_simp; with_reducible rfl)
                try simp only [Act.put]
                refine' wpAnyH_take (i := 1) (v := _) rfl (by kernel_rfl) (by kernel_rfl) (by kernel_rfl) (fun _ _ _ h => h) (Or.inl ⟨by kernel_rfl, ?hyb1⟩) (by assumption) ?restb1
                case hyb1 => intro W hSw; (try dsimp only at hSw); first | (go_simp; done) | (go_simp; with_reducible rfl)
                try simp only [Act.put]
                refine' wpAnyH_take (i := 2) (v := _) rfl (by kernel_rfl) (by kernel_rfl) (by kernel_rfl) (fun _ _ _ h => h) (Or.inl ⟨by kernel_rfl, ?hyb2⟩) (by assumption) ?restb2
                case hyb2 => intro W hSw; (try dsimp only at hSw); first | (go_simp; done) | (go_simp; with_reducible rfl)
                try simp only [Act.put]
                refine' wpAnyH_take (i := 3) (v := _) rfl (by kernel_rfl) (by kernel_rfl) (by kernel_rfl) (fun _ _ _ h => h) (Or.inl ⟨by kernel_rfl, ?hyb3⟩) (by assumption) ?restb3
                case hyb3 => intro W hSw; (try dsimp only at hSw); first | (go_simp; done) | (go_simp; with_reducible rfl)
                try simp only [Act.put]
                refine' wpAnyH_take (i := 4) (v := _) rfl (by kernel_rfl) (by kernel_rfl) (by kernel_rfl) (fun _ _ _ h => h) (Or.inl ⟨by kernel_rfl, ?hyb4⟩) (by assumption) ?restb4
                case hyb4 => intro W hSw; (try dsimp only at hSw); first | (go_simp; done) | (go_simp; with_reducible rfl)
                try simp only [Act.put]
                refine' wpAnyH_take (i := 5) (v := _) rfl (by kernel_rfl) (by kernel_rfl) (by kernel_rfl) (fun _ _ _ h => h) (Or.inl ⟨by kernel_rfl, ?hyb5⟩) (by assumption) ?restb5
                case hyb5 => intro W hSw; (try dsimp only at hSw); first | (go_simp; done) | (go_simp; with_reducible rfl)
                try simp only [Act.put]
                refine' wpAnyH_take (i := 6) (v := _) rfl (by kernel_rfl) (by kernel_rfl) (by kernel_rfl) (fun _ _ _ h => h) (Or.inl ⟨by kernel_rfl, ?hyb6⟩) (by assumption) ?restb6
                case hyb6 => intro W hSw; (try dsimp only at hSw); first | (go_simp; done) | (go_simp; with_reducible rfl)
                try simp only [Act.put, List.getElem_toArray, List.getElem_cons_succ, List.getElem_cons_zero, List.setIfInBounds_toArray, List.set_cons_succ, List.set_cons_zero]
                refine' wpAnyH_take (i := 7) (v := _) rfl (by kernel_rfl) (by kernel_rfl) (by kernel_rfl) (fun _ _ _ h => h) (Or.inl ⟨by kernel_rfl, ?hyb7⟩) (by assumption) ?restb7
                case hyb7 => intro W hSw; (try dsimp only at hSw); first | (go_simp; done) | (go_simp; with_reducible rfl)
                try simp only [Act.put]
                refine' wpAnyH_take (i := 8) (v := _) rfl (by kernel_rfl) (by kernel_rfl) (by kernel_rfl) (fun _ _ _ h => h) (Or.inl ⟨by kernel_rfl, ?hyb8⟩) (by assumption) ?restb8
                case hyb8 => intro W hSw; (try dsimp only at hSw); first | (go_simp; done) | (go_simp; with_reducible rfl)
                try simp only [Act.put]
                refine' wpAnyH_take (i := 9) (v := _) rfl (by kernel_rfl) (by kernel_rfl) (by kernel_rfl) (fun _ _ _ h => h) (Or.inl ⟨by kernel_rfl, ?hyb9⟩) (by assumption) ?restb9
                case hyb9 => intro W hSw; (try dsimp only at hSw); first | (go_simp; done) | (go_simp; with_reducible rfl)
                try simp only [Act.put]
                refine' wpAnyH_take (i := 10) (v := _) rfl (by kernel_rfl) (by kernel_rfl) (by kernel_rfl) (fun _ _ _ h => h) (Or.inl ⟨by kernel_rfl, ?hyb10⟩) (by assumption) ?restb10
                case hyb10 => intro W hSw; (try dsimp only at hSw); first | (go_simp; done) | (go_simp; with_reducible rfl)
                try simp only [Act.put]
                refine' wpAnyH_take (i := 11) (v := _) rfl (by kernel_rfl) (by kernel_rfl) (by kernel_rfl) (fun _ _ _ h => h) (Or.inl ⟨by kernel_rfl, ?hyb11⟩) (by assumption) ?restb11
                case hyb11 => intro W hSw; (try dsimp only at hSw); first | (go_simp; done) | (go_simp; with_reducible rfl)
                try simp only [Act.put]
                refine' wpAnyH_take (i := 12) (v := _) rfl (by kernel_rfl) (by kernel_rfl) (by kernel_rfl) (fun _ _ _ h => h) (Or.inl ⟨by kernel_rfl, ?hyb12⟩) (by assumption) ?restb12
                case hyb12 => intro W hSw; (try dsimp only at hSw); first | (go_simp; done) | (go_simp; with_reducible rfl)
                try simp only [Act.put]
                refine' wpAnyH_take (i := 13) (v := _) rfl (by kernel_rfl) (by kernel_rfl) (by kernel_rfl) (fun _ _ _ h => h) (Or.inl ⟨by kernel_rfl, ?hyb13⟩) (by assumption) ?restb13
                case hyb13 => intro W hSw; (try dsimp only at hSw); first | (go_simp; done) | (go_simp; with_reducible rfl)
                try simp only [Act.put]
                refine' wpAnyH_take (i := 14) (v := _) rfl (by kernel_rfl) (by kernel_rfl) (by kernel_rfl) (fun _ _ _ h => h) (Or.inl ⟨by kernel_rfl, ?hyb14⟩) (by assumption) ?restb14
                case hyb14 => intro W hSw; (try dsimp only at hSw); first | (go_simp; done) | (go_simp; with_reducible rfl)
                try simp only [Act.put, List.getElem_toArray, List.getElem_cons_succ, List.getElem_cons_zero, List.setIfInBounds_toArray, List.set_cons_succ, List.set_cons_zero]
                refine' wpAnyH_take (i := 15) (v := _) rfl (by kernel_rfl) (by kernel_rfl) (by kernel_rfl) (fun _ _ _ h => h) (Or.inl ⟨by kernel_rfl, ?hyb15⟩) (by assumption) ?restb15
                case hyb15 => intro W hSw; (try dsimp only at hSw); first | (go_simp; done) | (go_simp; with_reducible rfl)
                try simp only [Act.put]
                refine' wpAnyH_take (i := 16) (v := _) rfl (by kernel_rfl) (by kernel_rfl) (by kernel_rfl) (fun _ _ _ h => h) (Or.inl ⟨by kernel_rfl, ?hyb16⟩) (by assumption) ?restb16
                case hyb16 => intro W hSw; (try dsimp only at hSw); first | (go_simp; done) | (go_simp; with_reducible rfl)
                try simp only [Act.put]
                refine' wpAnyH_take (i := 17) (v := _) rfl (by kernel_rfl) (by kernel_rfl) (by kernel_rfl) (fun _ _ _ h => h) (Or.inl ⟨by kernel_rfl, ?hyb17⟩) (by assumption) ?restb17
                case hyb17 => intro W hSw; (try dsimp only at hSw); first | (go_simp; done) | (go_simp; with_reducible rfl)
                try simp only [Act.put]
                refine' wpAnyH_take (i := 18) (v := _) rfl (by kernel_rfl) (by kernel_rfl) (by kernel_rfl) (fun _ _ _ h => h) (Or.inl ⟨by kernel_rfl, ?hyb18⟩) (by assumption) ?restb18
                case hyb18 => intro W hSw; (try dsimp only at hSw); first | (go_simp; done) | (go_simp; with_reducible rfl)
                try simp only [Act.put]
                refine' wpAnyH_take (i := 19) (v := _) rfl (by kernel_rfl) (by kernel_rfl) (by kernel_rfl) (fun _ _ _ h => h) (Or.inl ⟨by kernel_rfl, ?hyb19⟩) (by assumption) ?restb19
                case hyb19 => intro W hSw; (try dsimp only at hSw); first | (go_simp; done) | (go_simp; with_reducible rfl)
                try simp only [Act.put]
                refine' wpAnyH_take (i := 20) (v := _) rfl (by kernel_rfl) (by kernel_rfl) (by kernel_rfl) (fun _ _ _ h => h) (Or.inl ⟨by kernel_rfl, ?hyb20⟩) (by assumption) ?restb20
                case hyb20 => intro W hSw; (try dsimp only at hSw); first | (go_simp; done) | (go_simp; with_reducible rfl)
                try simp only [Act.put]
                refine' wpAnyH_take (i := 21) (v := _) rfl (by kernel_rfl) (by kernel_rfl) (by kernel_rfl) (fun _ _ _ h => h) (Or.inl ⟨by kernel_rfl, ?hyb21⟩) (by assumption) ?restb21
                case hyb21 => intro W hSw; (try dsimp only at hSw); first | (go_simp; done) | (go_simp; with_reducible rfl)
                try simp only [Act.put]
                refine' wpAnyH_take (i := 22) (v := _) rfl (by kernel_rfl) (by kernel_rfl) (by kernel_rfl) (fun _ _ _ h => h) (Or.inl ⟨by kernel_rfl, ?hyb22⟩) (by assumption) ?restb22
                case hyb22 => intro W hSw; (try dsimp only at hSw); first | (go_simp; done) | (go_simp; with_reducible rfl)
                try simp only [Act.put, List.getElem_toArray, List.getElem_cons_succ, List.getElem_cons_zero, List.setIfInBounds_toArray, List.set_cons_succ, List.set_cons_zero]
                refine' wpAnyH_take (i := 23) (v := _) rfl (by kernel_rfl) (by kernel_rfl) (by kernel_rfl) (fun _ _ _ h => h) (Or.inl ⟨by kernel_rfl, ?hyb23⟩) (by assumption) ?restb23
                case hyb23 => intro W hSw; (try dsimp only at hSw); first | (go_simp; done) | (go_simp; with_reducible rfl)
                try simp only [Act.put]
                refine' wpAnyH_take (i := 24) (v := _) rfl (by kernel_rfl) (by kernel_rfl) (by kernel_rfl) (fun _ _ _ h => h) (Or.inl ⟨by kernel_rfl, ?hyb24⟩) (by assumption) ?restb24
                case hyb24 => intro W hSw; (try dsimp only at hSw); first | (go_simp; done) | (go_simp; with_reducible rfl)
                try simp only [Act.put]
                refine' wpAnyH_take (i := 25) (v := _) rfl (by kernel_rfl) (by kernel_rfl) (by kernel_rfl) (fun _ _ _ h => h) (Or.inl ⟨by kernel_rfl, ?hyb25⟩) (by assumption) ?restb25
                case hyb25 => intro W hSw; (try dsimp only at hSw); first | (go_simp; done) | (go_simp; with_reducible rfl)
                try simp only [Act.put]
                refine' wpAnyH_take (i := 26) (v := _) rfl (by kernel_rfl) (by kernel_rfl) (by kernel_rfl) (fun _ _ _ h => h) (Or.inl ⟨by kernel_rfl, ?hyb26⟩) (by assumption) ?restb26
                case hyb26 => intro W hSw; (try dsimp only at hSw); first | (go_simp; done) | (go_simp; with_reducible rfl)
                try simp only [Act.put]
                refine' wpAnyH_take (i := 27) (v := _) rfl (by kernel_rfl) (by kernel_rfl) (by kernel_rfl) (fun _ _ _ h => h) (Or.inl ⟨by kernel_rfl, ?hyb27⟩) (by assumption) ?restb27
                case hyb27 => intro W hSw; (try dsimp only at hSw); first | (go_simp; done) | (go_simp; with_reducible rfl)
                try simp only [Act.put]
                refine' wpAnyH_take (i := 28) (v := _) rfl (by kernel_rfl) (by kernel_rfl) (by kernel_rfl) (fun _ _ _ h => h) (Or.inl ⟨by kernel_rfl, ?hyb28⟩) (by assumption) ?restb28
                case hyb28 => intro W hSw; (try dsimp only at hSw); first | (go_simp; done) | (go_simp; with_reducible rfl)
                try simp only [Act.put]
                refine' wpAnyH_take (i := 29) (v := _) rfl (by kernel_rfl) (by kernel_rfl) (by kernel_rfl) (fun _ _ _ h => h) (Or.inl ⟨by kernel_rfl, ?hyb29⟩) (by assumption) ?restb29
                case hyb29 => intro W hSw; (try dsimp only at hSw); first | (go_simp; done) | (go_simp; with_reducible rfl)
                try simp only [Act.put]
                refine' wpAnyH_take (i := 30) (v := _) rfl (by kernel_rfl) (by kernel_rfl) (by kernel_rfl) (fun _ _ _ h => h) (Or.inl ⟨by kernel_rfl, ?hyb30⟩) (by assumption) ?restb30
                case hyb30 => intro W hSw; (try dsimp only at hSw); first | (go_simp; done) | (go_simp; with_reducible rfl)
                try simp only [Act.put, List.getElem_toArray, List.getElem_cons_succ, List.getElem_cons_zero, List.setIfInBounds_toArray, List.set_cons_succ, List.set_cons_zero]
                refine' wpAnyH_take (i := 31) (v := _) rfl (by kernel_rfl) (by kernel_rfl) (by kernel_rfl) (fun _ _ _ h => h) (Or.inl ⟨by kernel_rfl, ?hyb31⟩) (by assumption) ?restb31
                case hyb31 => intro W hSw; (try dsimp only at hSw); first | (go_simp; done) | (go_simp; with_reducible rfl)
                try simp only [Act.put]
                refine' wpAnyH_take (i := 32) (v := _) rfl (by kernel_rfl) (by kernel_rfl) (by kernel_rfl) (fun _ _ _ h => h) (Or.inl ⟨by kernel_rfl, ?hyb32⟩) (by assumption) ?restb32
                case hyb32 => intro W hSw; (try dsimp only at hSw); first | (go_simp; done) | (go_simp; with_reducible rfl)
                try simp only [Act.put]
                refine' wpAnyH_take (i := 33) (v := _) rfl (by kernel_rfl) (by kernel_rfl) (by kernel_rfl) (fun _ _ _ h => h) (Or.inl ⟨by kernel_rfl, ?hyb33⟩) (by assumption) ?restb33
                case hyb33 => intro W hSw; (try dsimp only at hSw); first | (go_simp; done) | (go_simp; with_reducible rfl)
                try simp only [Act.put]
                refine' wpAnyH_take (i := 34) (v := _) rfl (by kernel_rfl) (by kernel_rfl) (by kernel_rfl) (fun _ _ _ h => h) (Or.inl ⟨by kernel_rfl, ?hyb34⟩) (by assumption) ?restb34
                case hyb34 => intro W hSw; (try dsimp only at hSw); first | (go_simp; done) | (go_simp; with_reducible rfl)
                try simp only [Act.put]
                refine' wpAnyH_take (i := 35) (v := _) rfl (by kernel_rfl) (by kernel_rfl) (by kernel_rfl) (fun _ _ _ h => h) (Or.inl ⟨by kernel_rfl, ?hyb35⟩) (by assumption) ?restb35
                case hyb35 => intro W hSw; (try dsimp only at hSw); first | (go_simp; done) | (go_simp; with_reducible rfl)
                try simp only [Act.put]
                refine' wpAnyH_take (i := 36) (v := _) rfl (by kernel_rfl) (by kernel_rfl) (by kernel_rfl) (fun _ _ _ h => h) (Or.inl ⟨by kernel_rfl, ?hyb36⟩) (by assumption) ?restb36
                case hyb36 => intro W hSw; (try dsimp only at hSw); first | (go_simp; done) | (go_simp; with_reducible rfl)
                try simp only [Act.put]
                refine' wpAnyH_take (i := 37) (v := _) rfl (by kernel_rfl) (by kernel_rfl) (by kernel_rfl) (fun _ _ _ h => h) (Or.inl ⟨by kernel_rfl, ?hyb37⟩) (by assumption) ?restb37
                case hyb37 => intro W hSw; (try dsimp only at hSw); first | (go_simp; done) | (go_simp; with_reducible rfl)
                try simp only [Act.put]
                refine' wpAnyH_take (i := 38) (v := _) rfl (by kernel_rfl) (by kernel_rfl) (by kernel_rfl) (fun _ _ _ h => h) (Or.inl ⟨by kernel_rfl, ?hyb38⟩) (by assumption) ?restb38
                case hyb38 => intro W hSw; (try dsimp only at hSw); first | (go_simp; done) | (go_simp; with_reducible rfl)
                try simp only [Act.put, List.getElem_toArray, List.getElem_cons_succ, List.getElem_cons_zero, List.setIfInBounds_toArray, List.set_cons_succ, List.set_cons_zero]
                refine' wpAnyH_take (i := 39) (v := _) rfl (by kernel_rfl) (by kernel_rfl) (by kernel_rfl) (fun _ _ _ h => h) (Or.inl ⟨by kernel_rfl, ?hyb39⟩) (by assumption) ?restb39
                case hyb39 => intro W hSw; (try dsimp only at hSw); first | (go_simp; done) | (go_simp; with_reducible rfl)
                try simp only [Act.put]
                refine' wpAnyH_take (i := 40) (v := _) rfl (by kernel_rfl) (by kernel_rfl) (by kernel_rfl) (fun _ _ _ h => h) (Or.inl ⟨by kernel_rfl, ?hyb40⟩) (by assumption) ?restb40
                case hyb40 => intro W hSw; (try dsimp only at hSw); first | (go_simp; done) | (go_simp; with_reducible rfl)
                try simp only [Act.put]
                refine' wpAnyH_take (i := 41) (v := _) rfl (by kernel_rfl) (by kernel_rfl) (by kernel_rfl) (fun _ _ _ h => h) (Or.inl ⟨by kernel_rfl, ?hyb41⟩) (by assumption) ?restb41
                case hyb41 => intro W hSw; (try dsimp only at hSw); first | (go_simp; done) | (go_simp; with_reducible rfl)
                try simp only [Act.put]
                refine' wpAnyH_take (i := 42) (v := _) rfl (by kernel_rfl) (by kernel_rfl) (by kernel_rfl) (fun _ _ _ h => h) (Or.inl ⟨by kernel_rfl, ?hyb42⟩) (by assumption) ?restb42
                case hyb42 => intro W hSw; (try dsimp only at hSw); first | (go_simp; done) | (go_simp; with_reducible rfl)
                try simp only [Act.put]
                refine' wpAnyH_take (i := 43) (v := _) rfl (by kernel_rfl) (by kernel_rfl) (by kernel_rfl) (fun _ _ _ h => h) (Or.inl ⟨by kernel_rfl, ?hyb43⟩) (by assumption) ?restb43
                case hyb43 => intro W hSw; (try dsimp only at hSw); first | (go_simp; done) | (go_simp; with_reducible rfl)
                try simp only [Act.put]
                refine' wpAnyH_take (i := 44) (v := _) rfl (by kernel_rfl) (by kernel_rfl) (by kernel_rfl) (fun _ _ _ h => h) (Or.inl ⟨by kernel_rfl, ?hyb44⟩) (by assumption) ?restb44
                case hyb44 => intro W hSw; (try dsimp only at hSw); first | (go_simp; done) | (go_simp; with_reducible rfl)
                try simp only [Act.put]
                refine' wpAnyH_take (i := 45) (v := _) rfl (by kernel_rfl) (by kernel_rfl) (by kernel_rfl) (fun _ _ _ h => h) (Or.inl ⟨by kernel_rfl, ?hyb45⟩) (by assumption) ?restb45
                case hyb45 => intro W hSw; (try dsimp only at hSw); first | (go_simp; done) | (go_simp; with_reducible rfl)
                try simp only [Act.put]
                refine' wpAnyH_take (i := 46) (v := _) rfl (by kernel_rfl) (by kernel_rfl) (by kernel_rfl) (fun _ _ _ h => h) (Or.inl ⟨by kernel_rfl, ?hyb46⟩) (by assumption) ?restb46
                case hyb46 => intro W hSw; (try dsimp only at hSw); first | (go_simp; done) | (go_simp; with_reducible rfl)
                try simp only [Act.put, List.getElem_toArray, List.getElem_cons_succ, List.getElem_cons_zero, List.setIfInBounds_toArray, List.set_cons_succ, List.set_cons_zero]
                refine' wpAnyH_take (i := 47) (v := _) rfl (by kernel_rfl) (by kernel_rfl) (by kernel_rfl) (fun _ _ _ h => h) (Or.inl ⟨by kernel_rfl, ?hyb47⟩) (by assumption) ?restb47
                case hyb47 => intro W hSw; (try dsimp only at hSw); first | (go_simp; done) | (go_simp; with_reducible rfl)
                try simp only [Act.put]
                refine' wpAnyH_take (i := 48) (v := _) rfl (by kernel_rfl) (by kernel_rfl) (by kernel_rfl) (fun _ _ _ h => h) (Or.inl ⟨by kernel_rfl, ?hyb48⟩) (by assumption) ?restb48
                case hyb48 => intro W hSw; (try dsimp only at hSw); first | (go_simp; done) | (go_simp; with_reducible rfl)
                try simp only [Act.put]
                refine' wpAnyH_take (i := 49) (v := _) rfl (by kernel_rfl) (by kernel_rfl) (by kernel_rfl) (fun _ _ _ h => h) (Or.inl ⟨by kernel_rfl, ?hyb49⟩) (by assumption) ?restb49
                case hyb49 => intro W hSw; (try dsimp only at hSw); first | (go_simp; done) | (go_simp; with_reducible rfl)
                try simp only [Act.put]
                refine' wpAnyH_take (i := 50) (v := _) rfl (by kernel_rfl) (by kernel_rfl) (by kernel_rfl) (fun _ _ _ h => h) (Or.inl ⟨by kernel_rfl, ?hyb50⟩) (by assumption) ?restb50
                case hyb50 => intro W hSw; (try dsimp only at hSw); first | (go_simp; done) | (go_simp; with_reducible rfl)
                try simp only [Act.put]
                refine' wpAnyH_take (i := 51) (v := _) rfl (by kernel_rfl) (by kernel_rfl) (by kernel_rfl) (fun _ _ _ h => h) (Or.inl ⟨by kernel_rfl, ?hyb51⟩) (by assumption) ?restb51
                case hyb51 => intro W hSw; (try dsimp only at hSw); first | (go_simp; done) | (go_simp; with_reducible rfl)
                try simp only [Act.put]
                refine' wpAnyH_take (i := 52) (v := _) rfl (by kernel_rfl) (by kernel_rfl) (by kernel_rfl) (fun _ _ _ h => h) (Or.inl ⟨by kernel_rfl, ?hyb52⟩) (by assumption) ?restb52
                case hyb52 => intro W hSw; (try dsimp only at hSw); first | (go_simp; done) | (go_simp; with_reducible rfl)
                try simp only [Act.put]
                refine' wpAnyH_take (i := 53) (v := _) rfl (by kernel_rfl) (by kernel_rfl) (by kernel_rfl) (fun _ _ _ h => h) (Or.inl ⟨by kernel_rfl, ?hyb53⟩) (by assumption) ?restb53
                case hyb53 => intro W hSw; (try dsimp only at hSw); first | (go_simp; done) | (go_simp; with_reducible rfl)
                try simp only [Act.put]
                refine' wpAnyH_take (i := 54) (v := _) rfl (by kernel_rfl) (by kernel_rfl) (by kernel_rfl) (fun _ _ _ h => h) (Or.inl ⟨by kernel_rfl, ?hyb54⟩) (by assumption) ?restb54
                case hyb54 => intro W hSw; (try dsimp only at hSw); first | (go_simp; done) | (go_simp; with_reducible rfl)
                try simp only [Act.put, List.setIfInBounds_toArray]
                refine wpAnyH_done (by kernel_rfl) ?_ _
                simp only [List.getElem_toArray, List.getElem_cons_succ, List.getElem_cons_zero, List.setIfInBounds_toArray, List.set_cons_succ, List.set_cons_zero]
                go_wp2_with fail
                go_meet
                case rel => exact ⟨rfl, HBd⟩
            case rest =>
              obtain ⟨e190, HBc⟩ := hcut
              subst e190
              obtain ⟨wp, hwp⟩ : ∃ wp : World, wp = wc := ⟨_, rfl⟩
              rw [← hwp] at HBc ⊢
              clear hwp
              have HWP := Lib.hid (below_on HW4.out HBc.out)
              have HBP := Lib.hid (below_on HBr.out HWP.out)
              have HOP := Lib.hid (ownsRow_on HO.out HWP.out (Nat.le_refl _))
              have hz5 : w.heap.size ≤ wb.heap.size := HBE.out.size
              have hz9 : wb.heap.size ≤ wp.heap.size := HBP.out.size
              obtain ⟨lb, lf, x, ea, hlb, _, hc⟩ := (HN'.out.below (below_on HBE.out HBP.out)).at_ hk1
              subst ea
              obtain ⟨m, hm4, hmod⟩ := mod_lt x 4 (by omega) (by omega)
              have hmod : (IntKind.u64.wrap x).tmod 4 = (m : Int) := hmod
              have i4 : (m : Int) < 4 := by omega
              have i5 : (0 : Int) ≤ (m : Int) := by omega
              have zb : lb < wp.heap.size := by omega
              have hlab := lab_at wp m hm4
              have HMM := Lib.hid (show ∀ s ∈ ws ++ [(labB m).toList], s.length ≤ maxLen from fun s hs => by
                rcases List.mem_append.1 hs with h | h
                · exact HWS.out s h
                · obtain rfl := List.mem_singleton.1 h
                  rw [len_toList]
                  exact lab_small m)
              have HRE := Lib.hid (show Below wb.heap.size wb ((wp.alloc (.cells #[.string ⟨#[119]⟩, .string ⟨#[120]⟩, .string ⟨#[121]⟩, .string ⟨#[122]⟩] 9)).alloc (.cells #[.string (labB m)] 9)) from (HBP.out.alloc hz9 _).alloc (by simp; omega) _)
              clear hm4 hlb nn1 nn2 j1 j2 j3 j4 j5 j6 j7 j8
              go_wp2_with (first
                | (at_builtin
                   refine wpList_append_strs _ rfl (.tmp 191) (.tmp 201) _ rfl wb.heap.size 9 Tryz.underlying34 info9 _ k ws rfl ((HOP.out.alloc _).alloc _) _ _ 1 1 [(labB m).toList] rfl (strs_one_at (wp.alloc (.cells #[.string ⟨#[119]⟩, .string ⟨#[120]⟩, .string ⟨#[121]⟩, .string ⟨#[122]⟩] 9)) _ (labB m) (by simp) (lab_small m)) (by omega) (by simp; omega) ?_
                   intro v3 w9 own3 gr3 at3
                   have HO3 := Lib.hid own3
                   have HB3' := Lib.hid (HRE.out.grown gr3 (by simp; omega) (fun j hj => (HOP.out.lt j hj).1))
                   clear own3 gr3 at3)
                | fail)
              go_roundw
              case rel => exact ⟨k + 1, _, ws ++ [(labB m).toList], by omega, by omega, by go_num, rfl, HO3, HMM, HB3'⟩
              case measure => simp [intOf]; omega
        · have d1 : decide ((k : Int) < 20) = false := decide_eq_false (by omega)
          have i1 : (k : Int) < (n' : Int) := by omega
          have HE := Lib.hid (below_on HBE.out HBr.out)
          clear hk2
          go_wp2_with fail
          go_ret
          exact ⟨rfl, HE.out⟩
      · have HE := Lib.hid (below_on HBE.out HBr.out)
        have d1 : decide ((k : Int) < (n' : Int)) = false := decide_eq_false (by omega)
        go_wp2_with fail
        go_ret
        exact ⟨rfl, HE.out⟩
end Go.Proofs.YtiofpeckcfdilaaGreatDoor
