/- Law: MirrorProject. (Printed by gen/gen12p.py.) -/
import Derived.Test.YtiofpeckcfdilaaGreatDoorMiAll
import Derived.Test.YtiofpeckcfdilaaGreatDoorPjAlls
import Derived.Test.YtiofpeckcfdilaaGreatDoorPjMades
import Derived.Test.YtiofpeckcfdilaaGreatDoorPjSpecs
import Derived.Test.YtiofpeckcfdilaaGreatDoorTuSames
import Derived.Deep.RegionHeld3
import Derived.Deep.CutRange
import Derived.Test.YtiofpeckcfdilaaGreatDoorTuSeat
import Derived.Test.YtiofpeckcfdilaaGreatDoorCards
import Derived.Test.YtiofpeckcfdilaaGreatDoorTie
import Derived.SevenTiedAt
import Derived.LaidOnce
import Derived.Lay
import Derived.ChangeOld
import Derived.ShutString
namespace Go.Proofs.YtiofpeckcfdilaaGreatDoor
open Go.RowKit

theorem AllFaces.symm {ts us : List TurnL} (h : AllFaces ts us) : AllFaces us ts := by
  refine ⟨h.1.symm, fun j u hu => ?_⟩
  have hj := (List.getElem?_eq_some_iff.1 hu).1
  have ht := List.getElem?_eq_getElem (l := ts) (i := j) (by have := h.1; omega)
  obtain ⟨u', hu', f1, f2, f3⟩ := h.2 j _ ht
  obtain rfl : u' = u := by rw [hu] at hu'; exact (Option.some.inj hu').symm
  exact ⟨_, ht, f1.symm, f2.symm, fun hk e => f3 (fun e0 => hk (f2.1 e0)) e.symm⟩
/-- Two types that face each other are each other's mirrors. -/
theorem faces_mir {ts us : List TurnL} (h : AllFaces ts us) (hv : locB ts = true) (hv' : locB us = true) {x : Str} (hx : ∀ t ∈ us, t.kind ≠ 0 → t.peer = x) : mirL x ts = us := by
  refine List.ext_getElem? fun j => ?_
  rw [mir_at]
  rcases ht : ts[j]? with _ | t
  · rw [List.getElem?_eq_none_iff] at ht
    rw [List.getElem?_eq_none (by rw [h.1]; exact ht)]
    rfl
  · obtain ⟨u, hu, f1, f2, f3⟩ := h.2 j t ht
    rw [hu, Option.map_some]
    congr 1
    have t1 := turnB_arms ((locB_one hv).2.2 t (List.mem_of_getElem? ht))
    have u1 := turnB_arms ((locB_one hv').2.2 u (List.mem_of_getElem? hu))
    have u2 := hx u (List.mem_of_getElem? hu)
    obtain ⟨k, s, l⟩ := t
    obtain ⟨k', s', l'⟩ := u
    dsimp only at f1 f2 f3 t1 u1 u2
    subst f1
    unfold mirT
    dsimp only
    rcases t1 with ⟨e, _, e3⟩ | ⟨e | e, _, _⟩
    · subst e e3
      have e0 := f2.1 rfl
      subst e0
      rcases u1 with ⟨_, e2, _⟩ | ⟨e, _, _⟩
      · subst e2; rfl
      · omega
    · subst e
      have hn : k' ≠ 0 := fun q => by have := f2.2 q; omega
      have hne := f3 (by decide)
      have hk : k' = 2 := by rcases u1 with ⟨e, _, _⟩ | ⟨e, _, _⟩ <;> omega
      subst hk
      rw [if_pos rfl, u2 hn]
    · subst e
      have hn : k' ≠ 0 := fun q => by have := f2.2 q; omega
      have hne := f3 (by decide)
      have hk : k' = 1 := by rcases u1 with ⟨e, _, _⟩ | ⟨e, _, _⟩ <;> omega
      subst hk
      rw [if_neg (by decide), if_pos rfl, u2 hn]
theorem rol_other {s : Str} {i : Nat} (hi : i < 2) (h : s ∈ rolesL 2) (hne : s ≠ (rolS i).toList) : s = (rolS (1 - i)).toList := by
  rw [show rolesL 2 = [(rolS 0).toList, (rolS 1).toList] by rw [rolS_list, rolS_list]; rfl] at h
  have hi2 : i = 0 ∨ i = 1 := by omega
  rcases hi2 with rfl | rfl
  · rcases List.mem_cons.1 h with e | h
    · exact absurd e hne
    · exact List.mem_singleton.1 h
  · rcases List.mem_cons.1 h with e | h
    · exact e
    · exact absurd (List.mem_singleton.1 h) hne
/-- What is read in rows of turns and arms doesn't lie in the box of a local type. -/
theorem lbox_cell {W : World} {g : Nat} {nm : ByteArray} {a : Option Addr} {n c : Nat} (h : LBox W g nm a n c) : W.cell? ⟨g, 0, none⟩ = some (.string nm) ∧ W.cell? ⟨g, 1, none⟩ = some (.slice a n c) ∧ ∀ o, 2 ≤ o → W.cell? ⟨g, o, none⟩ = none := by
  refine ⟨h.cells.1, h.cells.2, fun o ho => ?_⟩
  unfold LBox at h
  rw [cell_of_row _ _ _ _ _ _ h]
  simp
  omega
theorem Arms.aside {W W' : World} {g : Nat} {nm : ByteArray} {a : Option Addr} {n c bound m : Nat} {ad : Option Addr} {l : List ArmL} (h : Arms W bound ad m l) (hb : LBox W g nm a n c) (hk : ∀ b, b ≠ g → W'.heap[b]? = W.heap[b]?) : Arms W' bound ad m l :=
  ⟨h.1, h.2.1, fun hn => by
    obtain ⟨b, off, e, hlt, hc⟩ := h.2.2 hn
    obtain ⟨k0, k1, k2⟩ := lbox_cell hb
    have hne : b ≠ g := fun q => by
      subst q
      obtain ⟨s, u, ⟨c0, c1, _, _⟩, _⟩ := hc 0 _ (List.getElem?_eq_getElem (by rw [h.1]; exact hn))
      rw [Nat.zero_mul, Nat.add_zero] at c0 c1
      have h3 : off = 0 ∨ off = 1 ∨ 2 ≤ off := by omega
      rcases h3 with rfl | rfl | h3
      · rw [show (0 + 1 : Nat) = 1 from rfl, k1] at c1; cases c1
      · rw [k1] at c0; cases c0
      · rw [k2 _ h3] at c0; cases c0
    refine ⟨b, off, e, hlt, fun j x hj => ?_⟩
    obtain ⟨s, u, ⟨c0, c1, c2, c3⟩, h1⟩ := hc j x hj
    have hq : ∀ o, W'.cell? ⟨b, o, none⟩ = W.cell? ⟨b, o, none⟩ := fun o => World.cell?_of_block (hk b hne)
    exact ⟨s, u, ⟨(hq _).trans c0, (hq _).trans c1, (hq _).trans c2, (hq _).trans c3⟩, h1⟩⟩
theorem Turns.aside {W W' : World} {g : Nat} {nm : ByteArray} {a : Option Addr} {n c bound m : Nat} {ad : Option Addr} {ts : List TurnL} (h : Turns W bound ad m ts) (hb : LBox W g nm a n c) (hk : ∀ b, b ≠ g → W'.heap[b]? = W.heap[b]?) : Turns W' bound ad m ts :=
  ⟨h.1, h.2.1, fun hn => by
    obtain ⟨b, off, e, hlt, hc⟩ := h.2.2 hn
    obtain ⟨k0, k1, k2⟩ := lbox_cell hb
    have hne : b ≠ g := fun q => by
      subst q
      obtain ⟨s, aa, an, ac, ⟨c0, _, _⟩, _⟩ := hc 0 _ (List.getElem?_eq_getElem (by rw [h.1]; exact hn))
      rw [Nat.zero_mul, Nat.add_zero] at c0
      have h3 : off = 0 ∨ off = 1 ∨ 2 ≤ off := by omega
      rcases h3 with rfl | rfl | h3
      · rw [k0] at c0; cases c0
      · rw [k1] at c0; cases c0
      · rw [k2 _ h3] at c0; cases c0
    refine ⟨b, off, e, hlt, fun j x hj => ?_⟩
    obtain ⟨s, aa, an, ac, ⟨c0, c1, c2⟩, h1, h2, h3⟩ := hc j x hj
    have hq : ∀ o, W'.cell? ⟨b, o, none⟩ = W.cell? ⟨b, o, none⟩ := fun o => World.cell?_of_block (hk b hne)
    exact ⟨s, aa, an, ac, ⟨(hq _).trans c0, (hq _).trans c1, (hq _).trans c2⟩, h1, h2, h3.aside hb hk⟩⟩
theorem LBox.fillM {W : World} {g : Nat} {nm nm' : ByteArray} {a a' : Option Addr} {n c n' c' : Nat} (h : LBox W g nm a n c) : LBox ((W.setCell ⟨g, 0, none⟩ (.string nm')).setCell ⟨g, 1, none⟩ (.slice a' n' c')) g nm' a' n' c' := by
  unfold LBox at h
  refine LBox.set (a := a) (n := n) (c := c) ?_
  unfold LBox
  obtain ⟨hlt, hk⟩ := Array.getElem?_eq_some_iff.1 h
  show (W.heap.modify g _)[g]? = _
  rw [Array.getElem?_eq_getElem (by rw [Array.size_modify]; exact hlt), Array.getElem_modify_self, hk]
  rfl
theorem bel_drewP {B : Nat} {w W : World} (h : Below B w W) : Below B w W.drew := ⟨h.os, h.tape, h.output, h.size, h.block⟩
theorem same_self {ts : List TurnL} (h : locB ts = true) : sameL ts ts = true := by
  unfold sameL
  rw [h]
  exact sameTs_iff.2 rfl
set_option maxHeartbeats 16000000 in
set_option maxRecDepth 20000 in
theorem mirrorProject_walk (a : Option Addr) (n c : Nat) (l : List Int) (y : Bool) (w : World) (h : Nums w w.heap.size a n l) (hlim : n * 8 ≤ 140737488351232) :
    Calls Tryz.prog 5 #[.slice a n c, .bool y] w fun e w' => e = .returned (.bool true) ∧ Below w.heap.size w w' := by
  have HN := Lib.hid h
  have HF := Lib.hid (miFirst_any w)
  have hn0 := h.1
  have HLN := Lib.hid hn0
  clear h hn0
  go_enter Tryz.func5, Tryz.ntmps5
  go_upto_region 4 with (first
    | (go_at_call 7; (with_reducible refine HF.out.mono ?_)
       rintro e w2 ⟨rfl, hb1⟩
       have HB2 := Lib.hid hb1
       clear hb1)
    | (at_builtin
       refine wpList_append_plus rfl (.tmp 14) (.tmp 15) rfl w2.heap.size w.heap.size (.slice (some ⟨w2.heap.size, 0, none⟩) 1 1) a n c [0] l rfl rfl (IInts.one (W := w2) (cs := #[.int .i64 0]) (base := w2.heap.size) (g := w2.heap.size) 0 rfl rfl (Nat.le_refl _)) ((HN.out.below HB2.out).alloc HB2.out.size _) (by show (1 + n) * 8 ≤ _; omega) (by simp) ?_
       intro v3 w3 hown hgr
       obtain ⟨pa, pc, hv, _, _, _, hnu⟩ := hown.sees
       obtain ⟨pn, hpn⟩ : ∃ pn, pn = ([0] ++ l : List Int).length := ⟨_, rfl⟩
       rw [← hpn] at hv hnu
       subst hv
       have hpl : pn * 8 ≤ 140737488355328 := by rw [hpn, List.length_append, HLN.out]; show (1 + n) * 8 ≤ _; omega
       clear hpn
       have HNU := Lib.hid (show Nums w3 w3.heap.size pa pn (0 :: l) from hnu)
       have HB3 := Lib.hid ((HB2.out.alloc HB2.out.size (.cells #[.int .i64 0] 3)).grown hgr (by have := HB2.out.size; simp; omega) (fun j e => by cases e; exact HB2.out.size))
       clear hown hgr hnu)
    | (go_at_call 10; (with_reducible refine (newX_any pa pn pc 0 l w3 w3.heap.size HNU.out hpl).mono ?_)
       rintro e w4 ⟨g, rfl, hd4, hg4, hb4⟩
       have HD4 := Lib.hid hd4
       have HB4 := Lib.hid (below_on HB3.out hb4)
       have hg4 : w3.heap.size ≤ g := hg4
       clear hd4 hb4)
    | (go_at_call 22; (with_reducible refine (prot0T_any g ⟨#[112]⟩ none 0 0 w4 HD4.out (TyIn.zero _ _ _)).mono ?_)
       rintro e w5 ⟨⟨ra, rc, sa, sn, sc, ps, rfl, hm, hr, hl, hok, h2, h9⟩, hb5⟩
       have HB5 := Lib.hid (HB4.out.trans (hb5.below (by have := HB3.out.size; omega) HB4.out.size))
       obtain ⟨hpin, hmade⟩ := made_in (by omega) (by omega) hm hr hl hok h2 h9
       have HPI := Lib.hid hpin
       have HMD := Lib.hid hmade
       clear hm hr hl hok h2 h9 hb5 hpin hmade)
    | fail)
  have HG5 := Lib.hid (GIn.begin (rc := rc) (sc := sc) HB5.out HPI.out)
  generalize hg5 : w5.heap.size = g5 at HG5 ⊢
  generalize hw6 : w5.alloc (.cells #[.string ⟨#[112]⟩, .slice ra 2 rc, .slice sa sn sc] 37) = w6 at HG5 ⊢
  clear hg5 hw6 HPI HB5 HB4 HB3 HNU HB2 HF HN hpl
  obtain ⟨pc0, pc1, pc2⟩ := HG5.out.box.cells
  have z2 : (0 : Nat) < 2 := by omega
  have o2 : (1 : Nat) < 2 := by omega
  obtain ⟨ts, hts⟩ := duo_role HMD.out.ok (hasS_made z2) (two_in HMD.out.ok z2)
  obtain ⟨us, hus, hfc⟩ := duo_role2 HMD.out.ok (hasS_made z2) (hasS_made o2) (two_in HMD.out.ok z2) (two_in HMD.out.ok o2) rol_ne hts
  obtain ⟨ns, hro⟩ := roleP_spec hts
  obtain ⟨ms, hro'⟩ := roleP_spec hus
  have hv0 := role_valid HMD.out.ok (hasS_made z2) hro
  have hv1 := role_valid HMD.out.ok (hasS_made o2) hro'
  have t0 := role_own_trim HMD.out.ok (hasS_made z2) hro
  have t1 := role_own_trim HMD.out.ok (hasS_made o2) hro'
  have hp0 : ∀ t ∈ ts, t.kind ≠ 0 → t.peer = (rolS 1).toList := fun t ht hk => by
    obtain ⟨k1, k2⟩ := role_peers HMD.out.ok (hasS_made z2) hro ht hk
    exact rol_other (i := 0) (by omega) k2 k1
  have hp1 : ∀ t ∈ us, t.kind ≠ 0 → t.peer = (rolS 0).toList := fun t ht hk => by
    obtain ⟨k1, k2⟩ := role_peers HMD.out.ok (hasS_made o2) hro' ht hk
    exact rol_other (i := 1) (by omega) k2 k1
  have HV0 := Lib.hid hv0
  have HV1 := Lib.hid hv1
  have HE0 := Lib.hid (mirE_one hv0 hp0 (rolS_may 0) (fun e => rol_ne e.symm))
  have HE1 := Lib.hid (mirE_one hv1 hp1 (rolS_may 1) rol_ne)
  have HQ0 := Lib.hid (show mirQ ts (rolS 0).toList = us by unfold mirQ; rw [if_pos HE0.out, t0, faces_mir hfc hv0 hv1 hp1])
  have HQ1 := Lib.hid (show mirQ us (rolS 1).toList = ts by unfold mirQ; rw [if_pos HE1.out, t1, faces_mir hfc.symm hv1 hv0 hp0])
  have HS0 := Lib.hid (same_self hv0)
  have HS1 := Lib.hid (same_self hv1)
  have CA := Lib.hid (allTwo_any (rc := rc) (sc := sc) HG5.out.pin HMD.out.ok hts hus hfc.1)
  have HUL := Lib.hid hfc.1
  clear hts hus hfc hro hro' z2 o2 hv0 hv1 t0 t1 hp0 hp1
  go_upto_region 5 with (first
    | (go_at_call 23; (with_reducible refine CA.out.mono ?_)
       rintro e w7 ⟨b, off, lc, x0, a0, nt, c0, x1, a1, c1, rfl, h2, hb7⟩
       have HT7 := Lib.hid h2
       have HG7 := Lib.hid (HG5.out.on hb7)
       clear h2 hb7)
    | fail)
  clear pc0 pc1 pc2 HG5 CA
  obtain ⟨qc0, qc1, qc2⟩ := HG7.out.box.cells
  obtain ⟨rb0, ro0, hra, hrb0, hrc0⟩ := HG7.out.roles (i := 0) (by omega)
  obtain ⟨rb1, ro1, hra1, _, hrc1⟩ := HG7.out.roles (i := 1) (by omega)
  subst hra
  obtain ⟨e1, e2, _⟩ := Addr.mk.inj (Option.some.inj hra1)
  subst e1 e2
  have HRC := Lib.hid (And.intro hrb0 (And.intro hrc0 hrc1))
  clear hra1 hrb0 hrc0 hrc1 qc0 qc1 qc2
  cases y
  · have hz7 := HT7.out.one
    have CO := Lib.hid (fun (W : World) (hW : Below w7.heap.size w7 W) => of_any x0 (rolS 0) a0 nt c0 ts W _ (Nat.le_refl _) (HT7.out.one.on hW) (rolS_small 0))
    unfold OfRet mirN at CO
    rw [HE0.out, HQ0.out, if_pos rfl] at CO
    have HK := Lib.hid (fun (W : World) (hW : Below w7.heap.size w7 W) => show (W.cell? ⟨b, off, none⟩ = some (.string x0) ∧ W.cell? ⟨b, off + 1, none⟩ = some (.slice a0 nt c0) ∧ W.cell? ⟨b, off + 2, none⟩ = some (.string x1) ∧ W.cell? ⟨b, off + 2 + 1, none⟩ = some (.slice a1 nt c1)) ∧ W.cell? ⟨g5, 1, none⟩ = some (.slice (some ⟨rb0, ro0, none⟩) 2 rc) ∧ W.cell? ⟨rb0, ro0, none⟩ = some (.string (rolS 0)) from
      ⟨(HT7.out.on hW).cells, (HG7.out.on hW).box.cells.2.1, (hW.cell (p := ⟨rb0, ro0, none⟩) HRC.out.1).trans HRC.out.2.1⟩)
    have H0 := Lib.hid (bel_drewP (Below.refl w7.heap.size w7))
    have HA := Lib.hid (bel_drewP (tu1 w7 (.cells #[.string ⟨#[]⟩, .slice none 0 0] 24)))
    have HAX := Lib.hid (show LBox (w7.alloc (.cells #[.string ⟨#[]⟩, .slice none 0 0] 24)).drew w7.heap.size ⟨#[]⟩ none 0 0 from LBox.new w7 ⟨#[]⟩ none 0 0)
    clear hz7
    go_upto_region 10 with fail
    go_cut [10, 11] (fun s10 s11 wx => ∃ (g10 : Nat) (za : Option Addr) (zn zc : Nat), s10 = .pointer (some ⟨g10, 0, none⟩) ∧ s11 = .int .i64 0 ∧ Hid (LBox wx g10 x0 za zn zc) ∧ Hid (Turns wx wx.heap.size za zn us) ∧ Hid (Below w7.heap.size w7 wx))
    case first =>
      go_region_held3 (fun W => (W.cell? ⟨b, off, none⟩ = some (.string x0) ∧ W.cell? ⟨b, off + 1, none⟩ = some (.slice a0 nt c0) ∧ W.cell? ⟨b, off + 2, none⟩ = some (.string x1) ∧ W.cell? ⟨b, off + 2 + 1, none⟩ = some (.slice a1 nt c1)) ∧ W.cell? ⟨g5, 1, none⟩ = some (.slice (some ⟨rb0, ro0, none⟩) 2 rc) ∧ W.cell? ⟨rb0, ro0, none⟩ = some (.string (rolS 0)))
        (first | exact HK.out _ H0.out | exact HK.out _ HA.out | exact HK.out _ H8.out | exact HK.out _ (below_on H8.out (tu1 w8 _)) | exact HK.out _ ((H8.out.setCell (by simp) _).setCell (by simp) _))
        (first
        | (go_at_call 11; (with_reducible refine (CO.out _ H0.out).mono ?_)
           rintro e w8 ⟨⟨za, zn, zc, rfl, ht8⟩, hb8⟩
           have H8 := Lib.hid (below_on H0.out hb8)
           have HT8 := Lib.hid ht8
           clear hb8 ht8)
        | (go_at_call 11; (with_reducible refine (CO.out _ HA.out).mono ?_)
           rintro e w8 ⟨⟨za, zn, zc, rfl, ht8⟩, hb8⟩
           have H8 := Lib.hid (below_on HA.out hb8)
           have HX8 := Lib.hid (HAX.out.on hb8)
           have HT8 := Lib.hid ht8
           obtain ⟨_, _⟩ := HX8.out.cells
           have f0 := HX8.out.thaw 0
           have f1 := HX8.out.thaw 1
           clear hb8 ht8)
        | fail)
      all_goals (go_wp2_with fail; go_meet)
      case rel => exact ⟨_, za, zn, zc, rfl, rfl, Lib.hid (LBox.new w8 x0 za zn zc), Lib.hid (HT8.out.on (tu1 w8 _)), Lib.hid (below_on H8.out (tu1 w8 _))⟩
      case rel => exact ⟨_, za, zn, zc, rfl, rfl, Lib.hid HX8.out.fillM, Lib.hid ((HT8.out.aside HX8.out (fun b hb => (heap_setCell_ne hb).trans (heap_setCell_ne hb))).more (by simp)), Lib.hid ((H8.out.setCell (by simp) _).setCell (by simp) _)⟩
    case rest =>
      obtain ⟨g10, za, zn, zc, e10, e11, HX10, HT10, HB10⟩ := hcut
      subst e10 e11
      have HTc := Lib.hid (HT7.out.on HB10.out)
      have CS := Lib.hid (fun (W : World) (hW : Below wc.heap.size wc W) => (ownSame_any x0 x1 za a1 zn zc nt c1 us us W W.heap.size (Nat.le_refl _) (HT10.out.on hW) (HTc.out.two.on hW)).mono fun e w2 h => (⟨by rw [h.1, HS1.out], below_on hW h.2⟩ : e = .returned (.bool true) ∧ Below wc.heap.size wc w2))
      have HKc := Lib.hid (fun (W : World) (hW : Below wc.heap.size wc W) => show (W.cell? ⟨b, off, none⟩ = some (.string x0) ∧ W.cell? ⟨b, off + 1, none⟩ = some (.slice a0 nt c0) ∧ W.cell? ⟨b, off + 2, none⟩ = some (.string x1) ∧ W.cell? ⟨b, off + 2 + 1, none⟩ = some (.slice a1 nt c1)) ∧ W.cell? ⟨g10, 0, none⟩ = some (.string x0) ∧ W.cell? ⟨g10, 1, none⟩ = some (.slice za zn zc) from
        ⟨(HTc.out.on hW).cells, (HX10.out.on hW).cells⟩)
      have HC0 := Lib.hid (bel_drewP (Below.refl wc.heap.size wc))
      have HBE := Lib.hid (below_on HG7.out.bel HB10.out)
      have nx : (x0.toList == x0.toList) = true := by simp
      have hw1 : IntKind.i64.wrap (1 - 0) = 1 := by decide
      have hw2 : IntKind.i64.wrap 1 = 1 := by decide
      clear HK H0 HA HAX CO HB10
      go_upto_region 11 with fail
      go_region_held3 (fun W => (W.cell? ⟨b, off, none⟩ = some (.string x0) ∧ W.cell? ⟨b, off + 1, none⟩ = some (.slice a0 nt c0) ∧ W.cell? ⟨b, off + 2, none⟩ = some (.string x1) ∧ W.cell? ⟨b, off + 2 + 1, none⟩ = some (.slice a1 nt c1)) ∧ W.cell? ⟨g10, 0, none⟩ = some (.string x0) ∧ W.cell? ⟨g10, 1, none⟩ = some (.slice za zn zc))
        (first | exact HKc.out _ HC0.out | exact HKc.out _ HC1.out)
        (first
        | (go_at_call 24; (with_reducible refine (CS.out _ HC0.out).mono ?_)
           rintro e v1 ⟨rfl, h1⟩
           have HC1 := Lib.hid h1
           clear h1)
        | fail)
      all_goals
        go_wp2_with fail
        go_ret
        exact ⟨rfl, below_on HBE.out HC1.out⟩
  · have hz7 := HT7.out.two
    have CO := Lib.hid (fun (W : World) (hW : Below w7.heap.size w7 W) => of_any x1 (rolS 1) a1 nt c1 us W _ (Nat.le_refl _) (HT7.out.two.on hW) (rolS_small 1))
    unfold OfRet mirN at CO
    rw [HE1.out, HQ1.out, if_pos rfl] at CO
    have HK := Lib.hid (fun (W : World) (hW : Below w7.heap.size w7 W) => show (W.cell? ⟨b, off, none⟩ = some (.string x0) ∧ W.cell? ⟨b, off + 1, none⟩ = some (.slice a0 nt c0) ∧ W.cell? ⟨b, off + 2, none⟩ = some (.string x1) ∧ W.cell? ⟨b, off + 2 + 1, none⟩ = some (.slice a1 nt c1)) ∧ W.cell? ⟨g5, 1, none⟩ = some (.slice (some ⟨rb0, ro0, none⟩) 2 rc) ∧ W.cell? ⟨rb0, ro0 + 1, none⟩ = some (.string (rolS 1)) from
      ⟨(HT7.out.on hW).cells, (HG7.out.on hW).box.cells.2.1, (hW.cell (p := ⟨rb0, ro0 + 1, none⟩) HRC.out.1).trans HRC.out.2.2⟩)
    have H0 := Lib.hid (bel_drewP (Below.refl w7.heap.size w7))
    have HA := Lib.hid (bel_drewP (tu1 w7 (.cells #[.string ⟨#[]⟩, .slice none 0 0] 24)))
    have HAX := Lib.hid (show LBox (w7.alloc (.cells #[.string ⟨#[]⟩, .slice none 0 0] 24)).drew w7.heap.size ⟨#[]⟩ none 0 0 from LBox.new w7 ⟨#[]⟩ none 0 0)
    clear hz7
    go_upto_region 10 with fail
    go_cut [10, 11] (fun s10 s11 wx => ∃ (g10 : Nat) (za : Option Addr) (zn zc : Nat), s10 = .pointer (some ⟨g10, 0, none⟩) ∧ s11 = .int .i64 0 ∧ Hid (LBox wx g10 x1 za zn zc) ∧ Hid (Turns wx wx.heap.size za zn ts) ∧ Hid (Below w7.heap.size w7 wx))
    case first =>
      go_region_held3 (fun W => (W.cell? ⟨b, off, none⟩ = some (.string x0) ∧ W.cell? ⟨b, off + 1, none⟩ = some (.slice a0 nt c0) ∧ W.cell? ⟨b, off + 2, none⟩ = some (.string x1) ∧ W.cell? ⟨b, off + 2 + 1, none⟩ = some (.slice a1 nt c1)) ∧ W.cell? ⟨g5, 1, none⟩ = some (.slice (some ⟨rb0, ro0, none⟩) 2 rc) ∧ W.cell? ⟨rb0, ro0 + 1, none⟩ = some (.string (rolS 1)))
        (first | exact HK.out _ H0.out | exact HK.out _ HA.out | exact HK.out _ H8.out | exact HK.out _ (below_on H8.out (tu1 w8 _)) | exact HK.out _ ((H8.out.setCell (by simp) _).setCell (by simp) _))
        (first
        | (go_at_call 11; (with_reducible refine (CO.out _ H0.out).mono ?_)
           rintro e w8 ⟨⟨za, zn, zc, rfl, ht8⟩, hb8⟩
           have H8 := Lib.hid (below_on H0.out hb8)
           have HT8 := Lib.hid ht8
           clear hb8 ht8)
        | (go_at_call 11; (with_reducible refine (CO.out _ HA.out).mono ?_)
           rintro e w8 ⟨⟨za, zn, zc, rfl, ht8⟩, hb8⟩
           have H8 := Lib.hid (below_on HA.out hb8)
           have HX8 := Lib.hid (HAX.out.on hb8)
           have HT8 := Lib.hid ht8
           obtain ⟨_, _⟩ := HX8.out.cells
           have f0 := HX8.out.thaw 0
           have f1 := HX8.out.thaw 1
           clear hb8 ht8)
        | fail)
      all_goals (go_wp2_with fail; go_meet)
      case rel => exact ⟨_, za, zn, zc, rfl, rfl, Lib.hid (LBox.new w8 x1 za zn zc), Lib.hid (HT8.out.on (tu1 w8 _)), Lib.hid (below_on H8.out (tu1 w8 _))⟩
      case rel => exact ⟨_, za, zn, zc, rfl, rfl, Lib.hid HX8.out.fillM, Lib.hid ((HT8.out.aside HX8.out (fun b hb => (heap_setCell_ne hb).trans (heap_setCell_ne hb))).more (by simp)), Lib.hid ((H8.out.setCell (by simp) _).setCell (by simp) _)⟩
    case rest =>
      obtain ⟨g10, za, zn, zc, e10, e11, HX10, HT10, HB10⟩ := hcut
      subst e10 e11
      have HTc := Lib.hid (HT7.out.on HB10.out)
      have CS := Lib.hid (fun (W : World) (hW : Below wc.heap.size wc W) => (ownSame_any x1 x0 za a0 zn zc nt c0 ts ts W W.heap.size (Nat.le_refl _) (HT10.out.on hW) (HTc.out.one.on hW)).mono fun e w2 h => (⟨by rw [h.1, HS0.out], below_on hW h.2⟩ : e = .returned (.bool true) ∧ Below wc.heap.size wc w2))
      have HKc := Lib.hid (fun (W : World) (hW : Below wc.heap.size wc W) => show (W.cell? ⟨b, off, none⟩ = some (.string x0) ∧ W.cell? ⟨b, off + 1, none⟩ = some (.slice a0 nt c0) ∧ W.cell? ⟨b, off + 2, none⟩ = some (.string x1) ∧ W.cell? ⟨b, off + 2 + 1, none⟩ = some (.slice a1 nt c1)) ∧ W.cell? ⟨g10, 0, none⟩ = some (.string x1) ∧ W.cell? ⟨g10, 1, none⟩ = some (.slice za zn zc) from
        ⟨(HTc.out.on hW).cells, (HX10.out.on hW).cells⟩)
      have HC0 := Lib.hid (bel_drewP (Below.refl wc.heap.size wc))
      have HBE := Lib.hid (below_on HG7.out.bel HB10.out)
      have nx : (x1.toList == x1.toList) = true := by simp
      have hw1 : IntKind.i64.wrap (1 - 1) = 0 := by decide
      have hw2 : IntKind.i64.wrap 0 = 0 := by decide
      clear HK H0 HA HAX CO HB10
      go_upto_region 11 with fail
      go_region_held3 (fun W => (W.cell? ⟨b, off, none⟩ = some (.string x0) ∧ W.cell? ⟨b, off + 1, none⟩ = some (.slice a0 nt c0) ∧ W.cell? ⟨b, off + 2, none⟩ = some (.string x1) ∧ W.cell? ⟨b, off + 2 + 1, none⟩ = some (.slice a1 nt c1)) ∧ W.cell? ⟨g10, 0, none⟩ = some (.string x1) ∧ W.cell? ⟨g10, 1, none⟩ = some (.slice za zn zc))
        (first | exact HKc.out _ HC0.out | exact HKc.out _ HC1.out)
        (first
        | (go_at_call 24; (with_reducible refine (CS.out _ HC0.out).mono ?_)
           rintro e v1 ⟨rfl, h1⟩
           have HC1 := Lib.hid h1
           clear h1)
        | fail)
      all_goals
        go_wp2_with fail
        go_ret
        exact ⟨rfl, below_on HBE.out HC1.out⟩
end Go.Proofs.YtiofpeckcfdilaaGreatDoor

/- The statement MirrorProject holds for every argument, with no condition; the listed tables are tied to the program's text. -/
namespace Go.Proofs.YtiofpeckcfdilaaGreatDoor.mirrorProject
open Go Go.ChangeShapes Go.WideShapes Go.ChangeAt Go.RowKit
open Go.ChangeMaps (open_string shut_string)

theorem door_met (os : Os) (args : Array Value) : laidMetH Tryz.prog Rows.mirrorProjectRow.laid ((World.laidAll Tryz.prog os Rows.mirrorProjectRow.laid).forCall (fun _ _ => 0) ⟨#[], args, []⟩).memory := by
  rw [MakeChecks.laidMetH_plain _ _ _ (by kernel_rfl)]
  exact laidMet_laidAll _ (by kernel_rfl) (by kernel_rfl)
set_option maxRecDepth 100000 in
theorem lifted (os : Os) (started : os.Started) (H : Type) (enc : TypeId × Value → H) :
    ReturnsInHanded {} Tryz.checked os 5 .any (fun w args => (Rows.mirrorProjectSpec.pre enc Tryz.prog Tryz.f5 [] false w args ∧ laidMetH Tryz.prog Rows.mirrorProjectRow.laid w) ∧ sizedMet enc Tryz.prog Tryz.f5 (OpenSpec.ofChange Rows.mirrorProjectSpec) false w args)
      (Rows.mirrorProjectSpec.post enc Tryz.prog Tryz.f5 false true false false) := by
  refine returnsInHanded_of_change_and (C := Tryz.checked) (X := fun w _ => laidMetH Tryz.prog Rows.mirrorProjectRow.laid w) (fun _ _ _ hh h => h.of_heap hh) seatOwn started (by kernel_rfl) Tryz.func5
    (ChangeSpec.witness_shaped (enc := enc) (C := Tryz.checked) (os := os) (X := fun w _ => laidMetH Tryz.prog Rows.mirrorProjectRow.laid w) false (World.laidAll Tryz.prog os Rows.mirrorProjectRow.laid) #[.slice none 0 0, .bool false] 8 (World.laidAll_os _ _ _)
      (World.shaped_of_ZipB (by kernel_rfl) (by kernel_rfl)) (by kernel_rfl) (by kernel_rfl) (by kernel_rfl) (door_met os _)) ?_
  intro W base args ds gs before hval0 hW _ hsz0 hX0 _
  have hval : ∀ (j : Nat) t v, Tryz.f5.params[j]? = some t → args[j]? = some v → Value.okWide Tryz.prog W .any base t v := hval0
  have hsz : (DataW.weightsEach Tryz.prog (Tryz.f5.params.toList ++ Rows.mirrorProjectSpec.plain.varTypes Tryz.prog) (ds ++ gs)).all (· ≤ reachBytes) = true := hsz0
  have hW' := hW
  obtain ⟨p, q, hA0, hV, rfl, hfz, hnd⟩ := hW
  have hA : DataW.TrodAll enc Tryz.prog W 0 (fun _ => true) true Tryz.f5.params.toList args.toList ds p := hA0
  rw [Tryz.params5] at hA hval hsz
  obtain ⟨v0, vs0, d0, ds0, p0, q0, hargs, rfl, rfl, h0, r0⟩ := trodAll_cons hA
  obtain ⟨v1, vs1, d1, ds1, p1, q1, rfl, rfl, rfl, h1, r1⟩ := trodAll_cons r0
  obtain ⟨rfl, rfl, rfl⟩ := trodAll_nil r1
  obtain rfl : args = #[v0, v1] := by cases args; simp_all
  obtain ⟨rfl, rfl⟩ := trodVars_none hV
  have k0 := h0
  have lt0 := args_below k0
  obtain ⟨fu0, hf0⟩ := h0
  obtain ⟨ia0, ilen0, icap0, rfl⟩ := okWide_slice Tryz.underlying25 (hval 0 25 v0 rfl rfl)
  obtain ⟨a0, n0, c0, l0, hv0, hn0, hi0, hc0, hm0, hz0⟩ := open_ints hf0 (fun elems spare e => by
    have := sized_slice hsz (j := 0) (t := 25) (e := 3) rfl (congrArg some e) Tryz.underlying25
    rwa [seatBytes2] at this)
  obtain ⟨ea0, en0, ec0⟩ := Value.slice.inj hv0
  subst ea0 en0 ec0
  have k1 := h1
  have lt1 := args_below k1
  obtain ⟨a1, rfl, rfl, rfl⟩ := open_bool Tryz.underlying4 (hval 1 4 v1 rfl rfl) h1
  clear hA0 hval0 hsz0
  refine (mirrorProject_walk ia0 ilen0 icap0 l0 a1 W hn0 hz0 ).mono fun e W' ⟨he, bel⟩ => ?_
  subst he
  exact ⟨_, rfl, _, _, _, [], _, [], hW', trodAll_mk1 (shut_bool Tryz.underlying4 _), (trodAll_cons_mk (Below.trod seatLaidOut (by kernel_rfl) (of_decide_eq_true (by kernel_rfl)) k0 bel lt0) (trodAll_cons_mk (Below.trod seatLaidOut (by kernel_rfl) (of_decide_eq_true (by kernel_rfl)) k1 bel lt1) trodAll_mk0)), rfl, bel.frame _, fun h => by cases h⟩

theorem over : Rows.MirrorProjectSaid :=
  OpenClaim.holds_of_wide 5 Tryz.f5 rfl rfl rfl rfl rfl rfl rfl ⟨rfl, rfl, rfl, rfl, rfl⟩ rfl rfl rfl rfl rfl (by kernel_rfl) Tryz.func5 (by kernel_rfl)
    (of_decide_eq_true (by kernel_rfl)) (by unfold Func.isWrapper; first | (rw [if_pos (by decide +kernel)]; kernel_rfl) | (rw [if_neg (by decide +kernel)]; exact ⟨rfl, rfl⟩))
    (fun os started H enc _ => lifted os started H enc)

theorem proved : Rows.MirrorProjectCardSaid :=
  Claim7.holds_tied_plain_at .later [] [.data, .data, .data] true _ false
    over (fun _ h => by cases h) (by kernel_rfl) (fun _ h => by cases h) mirrorProject_row_tie rfl ⟨rfl, rfl⟩ (by kernel_rfl) rfl
    (fun f fn hf hfn => by
      obtain rfl : f = 5 := Option.some.inj ((show Tryz.prog.funcNamed Rows.mirrorProjectRow.func = some 5 by kernel_rfl).symm.trans hf) |>.symm
      obtain rfl : fn = Tryz.f5 := (Option.some.inj (Tryz.func5.symm.trans hfn)).symm
      exact ⟨by kernel_rfl, fun j t ht => by
        rw [Tryz.params5] at ht
        have hm : t ∈ [25, 4] := by simpa using Array.mem_of_getElem? ht
        have hall : ([25, 4].all fun u => !Tryz.prog.wantsStandIn u) = true := by kernel_rfl
        exact (show Tryz.prog.wantsStandIn t = false by simpa using List.all_eq_true.1 hall t hm)⟩)
    (by kernel_rfl)
#print axioms proved
end Go.Proofs.YtiofpeckcfdilaaGreatDoor.mirrorProject
