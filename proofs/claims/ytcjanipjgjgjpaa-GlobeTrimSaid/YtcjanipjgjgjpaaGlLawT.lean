/- Law: GlobeTrim. -/
import Derived.Test.YtcjanipjgjgjpaaGlProtB
import Derived.Test.YtcjanipjgjgjpaaGlSameB
import Derived.Test.YtcjanipjgjgjpaaGlTrimB
import Derived.Deep.RegionHeld3
import Derived.Deep.CutRange
namespace Go.Proofs.Ytcjanipjgjgjpaa
open Go.RowKit

theorem PIn.trimOk {W : World} {nm : ByteArray} {ra : Option Addr} {rn rc : Nat} {rs : List Str} {a : Option Addr} {n c : Nat} {ps : List PointL} (h : PIn W nm ra rn rs a n ps) (hv : protB nm.toList rs ps = true) :
    Calls Try.prog 11 #[.agg #[.string nm, .slice ra rn rc, .slice a n c]] W fun e w' => (∃ xa xn xc ta tn tc, e = .returned (.agg #[.string nm, .slice xa xn xc, .slice ta tn tc]) ∧ PIn w' nm xa xn rs ta tn (trimP ps)) ∧ Below W.heap.size W w' :=
  (gTrim_any nm h.name ra rn rc rs a n c ps W _ (Nat.le_refl _) h.roles h.pts).mono fun e w' k => by
    obtain ⟨⟨xa, xn, xc, ta, tn, tc, e1, e2⟩, hb⟩ := k
    have e3 : nameQ nm rs ps = nm := by unfold nameQ; rw [hv]; rfl
    have e4 : rolesQ nm.toList rs ps = rs := by unfold rolesQ; rw [hv]; rfl
    have e5 : trimQ nm.toList rs ps = trimP ps := by unfold trimQ; rw [hv]; rfl
    rw [e3] at e1 e2
    rw [e4, e5] at e2
    exact ⟨⟨xa, xn, xc, ta, tn, tc, e1, e2⟩, hb⟩
theorem strs_one_at7 (w : World) (g : Nat) (s : ByteArray) (hg : g = w.heap.size) (hs : s.size ≤ maxLen) : Strs (w.alloc (.cells #[.string s] 9)) (w.heap.size + 1) (some ⟨g, 0, none⟩) 1 [s.toList] := by
  subst hg
  exact strs_one w s hs
theorem lab_small7 (m : Nat) : (labB m).size ≤ maxLen := by simp [labB, maxLen, ByteArray.size]
theorem lab_at7 (w : World) (m : Nat) (hm : m < 4) : (w.alloc (.cells #[.string ⟨#[119]⟩, .string ⟨#[120]⟩, .string ⟨#[121]⟩, .string ⟨#[122]⟩] 9)).cell? ⟨w.heap.size, m, none⟩ = some (.string (labB m)) := by
  have := labObj_at w m
  rw [Nat.mod_eq_of_lt hm] at this
  exact this
theorem walk_pairP {nm : Str} {rs : List Str} {ps : List PointL} (h : protB nm rs ps = true) {ls : List Str} {p : Nat} (e : walkP ps ls = some p) :
    ∃ q, q < (reachP ps).length ∧ (reachP ps)[q]? = some p ∧ p < ps.length ∧ walkP (trimP ps) ls = some q ∧ ∀ t u, ps[p]? = some t → (trimP ps)[q]? = some u → u.src = t.src := by
  have hv := prot_loc h
  have hp := walkP_in hv e
  have hb := idx_back hp
  have hl := reachP_lt hv hp
  refine ⟨(reachP ps).idxOf p, List.idxOf_lt_length_iff.2 hp, hb, hl, by rw [walkP_trim hv, e]; rfl, fun t u ht hu => ?_⟩
  rw [trimP_at hb] at hu
  obtain rfl := Option.some.inj hu
  unfold pointOf
  rw [ht]
  rfl
set_option maxHeartbeats 16000000 in
set_option maxRecDepth 20000 in
theorem globeTrim_walk (a : Option Addr) (n c : Nat) (l : List Int) (a' : Option Addr) (n' c' : Nat) (l' : List Int) (w : World) (h : Nums w w.heap.size a n l) (hlim : n * 8 ≤ 140737488351232) (h' : Nums w w.heap.size a' n' l') (_hlim' : n' * 8 ≤ 140737488351232) :
    Calls Try.prog 3 #[.slice a n c, .slice a' n' c'] w fun e w' => e = .returned (.bool true) ∧ Below w.heap.size w w' := by
  have HN := Lib.hid h
  have HN' := Lib.hid h'
  have HF := Lib.hid (glFirst_any w)
  have hn0 := h.1
  have HLN := Lib.hid hn0
  clear h h' hn0
  go_enter Try.func3, Try.ntmps3
  go_upto_region 4 with (first
    | (go_at_call 8; (with_reducible refine HF.out.mono ?_)
       rintro e w1 ⟨rfl, hb1⟩
       have HB1 := Lib.hid hb1
       clear hb1)
    | (go_at_call 10; (with_reducible refine (given_any _).mono ?_)
       rintro e w2 ⟨xa, xb, rfl, _, hb2⟩
       have HB2 := Lib.hid (below_on HB1.out hb2)
       clear hb2)
    | (at_builtin
       refine wpList_append_plus rfl (.tmp 18) (.tmp 19) rfl w2.heap.size w.heap.size (.slice (some ⟨w2.heap.size, 0, none⟩) 1 1) a n c [3] l rfl rfl (IInts.one (W := w2) (cs := #[.int .i64 3]) (base := w2.heap.size) (g := w2.heap.size) 3 rfl rfl (Nat.le_refl _)) ((HN.out.below HB2.out).alloc HB2.out.size _) (by show (1 + n) * 8 ≤ _; omega) (by simp) ?_
       intro v3 w3 hown hgr
       obtain ⟨pa, pc, hv, _, _, _, hnu⟩ := hown.sees
       obtain ⟨pn, hpn⟩ : ∃ pn, pn = ([3] ++ l : List Int).length := ⟨_, rfl⟩
       rw [← hpn] at hv hnu
       subst hv
       have hpl : pn * 8 ≤ 140737488355328 := by rw [hpn, List.length_append, HLN.out]; show (1 + n) * 8 ≤ _; omega
       clear hpn
       have HNU := Lib.hid (show Nums w3 w3.heap.size pa pn (3 :: l) from hnu)
       have HB3 := Lib.hid ((HB2.out.alloc HB2.out.size (.cells #[.int .i64 3] 3)).grown hgr (by have := HB2.out.size; simp; omega) (fun j e => by cases e; exact HB2.out.size))
       clear hown hgr hnu)
    | (go_at_call 9; (with_reducible refine (law3_any xa xb pa pn pc l w3 HNU.out hpl).mono ?_)
       rintro e w4 ⟨⟨many, ⟨hm2, hm4⟩, ra, rc, sa, sn, sc, ps, rfl, hm, hr, hl, hok, h2, h9⟩, hb4⟩
       have HB4 := Lib.hid (below_on HB3.out hb4)
       obtain ⟨hpin, hmade⟩ := made_in hm2 hm4 hm hr hl hok h2 h9
       have HPI := Lib.hid hpin
       have HMD := Lib.hid hmade
       clear hm hr hl hok h2 h9 hb4 hpin hmade)
    | fail)
  have HG5 := Lib.hid (GIn.begin (rc := rc) (sc := sc) HB4.out HPI.out)
  generalize hg5 : w4.heap.size = g5 at HG5 ⊢
  generalize hw5 : w4.alloc (.cells #[.string ⟨#[112]⟩, .slice ra many rc, .slice sa sn sc] 27) = w5 at HG5 ⊢
  clear hg5 hw5 HPI HB4 HB3 HNU HB2 HB1 HF HN hpl
  have hok := HMD.out.ok
  rw [← prot_one] at hok
  have HOK := Lib.hid hok
  obtain ⟨pc0, pc1, pc2⟩ := HG5.out.box.cells
  have CT := Lib.hid ((HG5.out.pin.trimOk (rc := rc) (c := sc) hok))
  clear hok
  go_upto_region 5 with (first
    | (go_at_call 11; (with_reducible refine CT.out.mono ?_)
       rintro e w6 ⟨⟨ya, yn, yc, ta, tn, tc, rfl, ht6⟩, hb6⟩
       have HT6 := Lib.hid ht6
       have HG6 := Lib.hid (HG5.out.on hb6)
       clear ht6 hb6)
    | fail)
  have HB7 := Lib.hid (tu1 w6 (.cells #[.string ⟨#[112]⟩, .slice ya yn yc, .slice ta tn tc] 27))
  have HX7 := Lib.hid (PBox.new w6 ⟨#[112]⟩ ya yn yc ta tn tc)
  have HG7 := Lib.hid (HG6.out.on HB7.out)
  have HT7 := Lib.hid (HT6.out.on HB7.out)
  generalize hg7 : w6.heap.size = g7 at HX7 ⊢
  generalize hw7 : w6.alloc (.cells #[.string ⟨#[112]⟩, .slice ya yn yc, .slice ta tn tc] 27) = w7 at HX7 HG7 HT7 HB7 ⊢
  clear hw7 hg7 HG6 HT6 HB7 CT pc0 pc1 pc2 HG5
  have hok2 := trimP_valid HOK.out
  have HOK2 := Lib.hid hok2
  have htt := trimP_trim HOK.out
  obtain ⟨T, hT⟩ : ∃ T, T = trimP ps := ⟨_, rfl⟩
  rw [← hT] at HT7 hok2 HOK2 htt
  have HTE := Lib.hid hT
  have CT2 := Lib.hid (HT7.out.trimOk (rc := yc) (c := tc) hok2)
  rw [htt] at CT2
  obtain ⟨tc0, tc1, tc2⟩ := HX7.out.cells
  clear hok2 htt hT
  go_upto_region 6 with (first
    | (go_at_call 11; (with_reducible refine CT2.out.mono ?_)
       rintro e w8 ⟨⟨za, zn, zc, ua, un, uc, rfl, ht8⟩, hb8⟩
       have HU8 := Lib.hid ht8
       have HG8 := Lib.hid (HG7.out.on hb8)
       have HX8 := Lib.hid (HX7.out.on hb8)
       have HT8 := Lib.hid (HT7.out.on hb8)
       clear ht8 hb8)
    | fail)
  have HB9 := Lib.hid (tu1 w8 (.cells #[.string ⟨#[112]⟩, .slice za zn zc, .slice ua un uc] 27))
  have HA9 := Lib.hid (PBox.new w8 ⟨#[112]⟩ za zn zc ua un uc)
  have HG9 := Lib.hid (HG8.out.on HB9.out)
  have HX9 := Lib.hid (HX8.out.on HB9.out)
  have HT9 := Lib.hid (HT8.out.on HB9.out)
  have HU9 := Lib.hid (HU8.out.on HB9.out)
  generalize hg9 : w8.heap.size = g9 at HA9 ⊢
  generalize hw9 : w8.alloc (.cells #[.string ⟨#[112]⟩, .slice za zn zc, .slice ua un uc] 27) = w9 at HA9 HG9 HX9 HT9 HU9 HB9 ⊢
  clear hw9 hg9 HB9 HG8 HX8 HT8 HU8 HG7 HX7 HT7 CT2 tc0 tc1 tc2
  have hloc := prot_loc HOK.out
  have htn : tn = (reachP ps).length := by rw [← HT9.out.pts.1, HTE.out, trimP_len]
  have HRN := Lib.hid htn
  have nn : ((tn : Int) != (tn : Int)) = false := by simp
  have HLOC := Lib.hid hloc
  have hsame : sameQ (⟨#[112]⟩ : ByteArray).toList (rolesL many) ps (⟨#[112]⟩ : ByteArray).toList (rolesL many) T = true := by
    unfold sameQ trimQ
    rw [HOK.out, HOK2.out, decide_eq_true rfl, if_pos rfl, if_pos rfl, samePs_iff.2 (by rw [HTE.out, trimP_trim HOK.out])]
    rfl
  have C1 := Lib.hid (fun (W : World) (hW : Below w9.heap.size w9 W) => (PIn.may (rc := rc) (c := sc) (HG9.out.pin.on hW)).mono fun e w2 h => (⟨by rw [h.1, HOK.out], below_on hW h.2⟩ : e = .returned (.bool true) ∧ Below w9.heap.size w9 w2))
  have C2 := Lib.hid (fun (W : World) (hW : Below w9.heap.size w9 W) => (PIn.may (rc := yc) (c := tc) (HT9.out.on hW)).mono fun e w2 h => (⟨by rw [h.1, HOK2.out], below_on hW h.2⟩ : e = .returned (.bool true) ∧ Below w9.heap.size w9 w2))
  have C3 := Lib.hid (fun (W : World) (hW : Below w9.heap.size w9 W) => (samePts_any ua ta un tn uc tc _ _ W W.heap.size (HU9.out.on hW).pts (HT9.out.on hW).pts).mono fun e w2 h => (⟨by rw [h.1, samePs_iff.2 rfl], by obtain ⟨q, hq⟩ := h.2; rw [hq]; exact bel_drewN hW q⟩ : e = .returned (.bool true) ∧ Below w9.heap.size w9 w2))
  have C4 := Lib.hid (fun (W : World) (hW : Below w9.heap.size w9 W) => (gSameOk_any ⟨#[112]⟩ ⟨#[112]⟩ (small1 112) (small1 112) ra ya many rc yn yc (rolesL many) (rolesL many) sa ta sn sc tn tc ps T W W.heap.size (Nat.le_refl _) (HG9.out.pin.on hW).roles (HT9.out.on hW).roles (HG9.out.pin.on hW).pts (HT9.out.on hW).pts HOK.out HOK2.out rfl).mono fun e w2 h => (⟨by rw [h.1, hsame], below_on hW h.2⟩ : e = .returned (.bool true) ∧ Below w9.heap.size w9 w2))
  have C7 := Lib.hid (fun (W : World) (hW : Below w9.heap.size w9 W) => (PIn.reach (rc := rc) (c := sc) (HG9.out.pin.on hW)).mono fun e w2 h => (⟨by
    obtain ⟨v, e1, e2⟩ := h.1
    unfold reachQ at e2
    rw [HOK.out, if_pos rfl] at e2
    obtain ⟨xa, xc, rfl, _, _, _, hnu⟩ := e2.sees
    rw [rowI_len, ← HRN.out] at e1 hnu
    exact ⟨xa, xc, e1, hnu⟩, below_on hW h.2⟩ : (∃ xa xc, e = .returned (.slice xa tn xc) ∧ Nums w2 w2.heap.size xa tn (rowI (reachP ps))) ∧ Below w9.heap.size w9 w2))
  have HK := Lib.hid (fun (W : World) (hW : Below w9.heap.size w9 W) => And.intro (HG9.out.on hW).box.cells (And.intro (HX9.out.on hW).cells (HA9.out.on hW).cells))
  have H0 := Lib.hid (show Below w9.heap.size w9 w9.drew from bel_drewN (Below.refl _ _) 1)
  clear htn hloc hsame
  go_region_held3 (fun W => (W.cell? ⟨g5, 0, none⟩ = some (.string ⟨#[112]⟩) ∧ W.cell? ⟨g5, 1, none⟩ = some (.slice ra many rc) ∧ W.cell? ⟨g5, 2, none⟩ = some (.slice sa sn sc)) ∧ (W.cell? ⟨g7, 0, none⟩ = some (.string ⟨#[112]⟩) ∧ W.cell? ⟨g7, 1, none⟩ = some (.slice ya yn yc) ∧ W.cell? ⟨g7, 2, none⟩ = some (.slice ta tn tc)) ∧ W.cell? ⟨g9, 0, none⟩ = some (.string ⟨#[112]⟩) ∧ W.cell? ⟨g9, 1, none⟩ = some (.slice za zn zc) ∧ W.cell? ⟨g9, 2, none⟩ = some (.slice ua un uc))
    (first | exact HK.out _ H0.out | exact HK.out _ H1.out | exact HK.out _ H2.out | exact HK.out _ H3.out | exact HK.out _ H4.out | exact HK.out _ H5.out)
    (first
    | (go_at_call 12; (with_reducible refine (C1.out _ H0.out).mono ?_)
       rintro e v1 ⟨rfl, h1⟩
       have H1 := Lib.hid h1
       clear h1)
    | (go_at_call 12; (with_reducible refine (C2.out _ H1.out).mono ?_)
       rintro e v2 ⟨rfl, h2⟩
       have H2 := Lib.hid h2
       clear h2)
    | (go_at_call 13; (with_reducible refine (C3.out _ H2.out).mono ?_)
       rintro e v3 ⟨rfl, h3⟩
       have H3 := Lib.hid h3
       clear h3)
    | (go_at_call 14; (with_reducible refine (C4.out _ H3.out).mono ?_)
       rintro e v4 ⟨rfl, h4⟩
       have H4 := Lib.hid h4
       clear h4)
    | (go_at_call 15; (with_reducible refine (C7.out _ H4.out).mono ?_)
       rintro e v5 ⟨⟨xa5, xc5, rfl, _⟩, h5⟩
       have H5 := Lib.hid h5
       clear h5)
    | fail)
  have HGW := Lib.hid (HG9.out.on H5.out)
  have HXW := Lib.hid (HX9.out.on H5.out)
  obtain ⟨_, _, _⟩ := HGW.out.box.cells
  go_upto_region 9 with (first
    | (go_at_call 15; (with_reducible refine (C7.out _ H5.out).mono ?_)
       rintro e v8 ⟨⟨ka, kc, rfl, hnu⟩, h8⟩
       have H8 := Lib.hid h8
       have HNU := Lib.hid hnu
       clear h8 hnu)
    | fail)
  have hrn1 : tn ≤ 1000 := by have := reach_few HLOC.out; have := HRN.out; unfold reachP at this; have := (locB_one HLOC.out).2.1; omega
  have CW1 := Lib.hid (fun (v : Value) (k : Nat) (ws : List Str) (W : World) (hk : k ≤ 20) (hw : W.ownsRow v8.heap.size 9 1 v k (ws.map encStr)) (hm : ∀ s ∈ ws, s.length ≤ maxLen) (hW : Below w9.heap.size w9 W) => show Calls Try.prog 16 #[.agg #[.string ⟨#[112]⟩, .slice ra many rc, .slice sa sn sc], v] W fun e w' => e = .returned (walkV (walkP ps ws)) ∧ Below W.heap.size W w' from by
    obtain ⟨oa, oc, rfl, hss, _, _⟩ := Strs.of_own hw (by omega) hm
    have := PIn.walk (rc := rc) (c := sc) (HG9.out.pin.on hW) oc hss
    unfold walkQ at this
    rw [HOK.out, if_pos rfl] at this
    exact this)
  have CW2 := Lib.hid (fun (v : Value) (k : Nat) (ws : List Str) (W : World) (hk : k ≤ 20) (hw : W.ownsRow v8.heap.size 9 1 v k (ws.map encStr)) (hm : ∀ s ∈ ws, s.length ≤ maxLen) (hW : Below w9.heap.size w9 W) => show Calls Try.prog 16 #[.agg #[.string ⟨#[112]⟩, .slice ya yn yc, .slice ta tn tc], v] W fun e w' => e = .returned (walkV (walkP T ws)) ∧ Below W.heap.size W w' from by
    obtain ⟨oa, oc, rfl, hss, _, _⟩ := Strs.of_own hw (by omega) hm
    have := PIn.walk (rc := yc) (c := tc) (HT9.out.on hW) oc hss
    unfold walkQ at this
    rw [HOK2.out, if_pos rfl] at this
    exact this)
  go_wp2_with fail
  go_loopw [9, 10] (fun sl i wr => ∃ (k : Nat) (v : Value) (ws : List Str), k ≤ 20 ∧ k ≤ n' ∧ i = .int .i64 k ∧ v = sl ∧ Hid (wr.ownsRow v8.heap.size 9 1 v k (ws.map encStr)) ∧ Hid (∀ s ∈ ws, s.length ≤ maxLen) ∧ Hid (Below v8.heap.size v8 wr)) (fun _ i _ => n' - (intOf i).toNat)
  case atStart => exact ⟨0, _, [], Nat.zero_le _, Nat.zero_le _, rfl, rfl, Lib.hid (World.ownsRow_nil _ _ _ _), Lib.hid (fun s hs => by cases hs), Lib.hid (Below.refl _ _)⟩
  case round =>
    obtain ⟨k, v0, ws, hk20, hk, rfl, rfl, HO, HM, HBr⟩ := hrel
    by_cases hk1 : k < n'
    · by_cases hk2 : k < 20
      · have HB9r := Lib.hid (below_on H8.out HBr.out)
        have hz6 : w.heap.size ≤ w9.heap.size := HG9.out.bel.size
        have hz8 : w9.heap.size ≤ wr.heap.size := HB9r.out.size
        have hz9 : v8.heap.size ≤ wr.heap.size := HBr.out.size
        obtain ⟨b, off, x, rfl, hb, _, hc⟩ := (HN'.out.below (HG9.out.bel.trans (HB9r.out.mono hz6))).at_ hk1
        obtain ⟨m, hm4, hmod⟩ := mod_lt x 4 (by omega) (by omega)
        have hmod : (IntKind.u64.wrap x).tmod 4 = (m : Int) := hmod
        have i1 : (k : Int) < (n' : Int) := by omega
        have i2 : (0 : Int) ≤ (k : Int) := by omega
        have i3 : (k : Int) < 20 := by omega
        have i4 : (m : Int) < 4 := by omega
        have i5 : (0 : Int) ≤ (m : Int) := by omega
        have zb : b < wr.heap.size := by omega
        have hlab := lab_at7 wr m hm4
        have HMM := Lib.hid (show ∀ s ∈ ws ++ [(labB m).toList], s.length ≤ maxLen from fun s hs => by
          rcases List.mem_append.1 hs with h | h
          · exact HM.out s h
          · obtain rfl := List.mem_singleton.1 h
            rw [len_toList]
            exact lab_small7 m)
        have D1 := Lib.hid (fun (v : Value) (W : World) (hw : W.ownsRow v8.heap.size 9 1 v (k + 1) ((ws ++ [(labB m).toList]).map encStr)) (hW : Below w9.heap.size w9 W) => CW1.out v (k + 1) (ws ++ [(labB m).toList]) W (by omega) hw HMM.out hW)
        have D2 := Lib.hid (fun (v : Value) (W : World) (hw : W.ownsRow v8.heap.size 9 1 v (k + 1) ((ws ++ [(labB m).toList]).map encStr)) (hW : Below w9.heap.size w9 W) => CW2.out v (k + 1) (ws ++ [(labB m).toList]) W (by omega) hw HMM.out hW)
        have HRE := Lib.hid (show Below v8.heap.size v8 ((wr.alloc (.cells #[.string ⟨#[119]⟩, .string ⟨#[120]⟩, .string ⟨#[121]⟩, .string ⟨#[122]⟩] 9)).alloc (.cells #[.string (labB m)] 9)) from (HBr.out.alloc hz9 _).alloc (by simp; omega) _)
        rcases hres : walkP ps (ws ++ [(labB m).toList]) with _ | p
        · rw [hres] at D1
          rw [HTE.out, walkP_trim HLOC.out, hres] at D2
          dsimp only [Option.map] at D2
          dsimp only [walkV] at D1 D2
          clear hm4 hres hb
          go_wp2_with (first
            | (at_builtin
               refine wpList_append_strs _ rfl (.tmp 69) (.tmp 79) _ rfl v8.heap.size 9 Try.underlying24 info9 _ k ws rfl ((HO.out.alloc _).alloc _) _ _ 1 1 [(labB m).toList] rfl (strs_one_at7 (wr.alloc (.cells #[.string ⟨#[119]⟩, .string ⟨#[120]⟩, .string ⟨#[121]⟩, .string ⟨#[122]⟩] 9)) _ (labB m) (by simp) (lab_small7 m)) (by omega) (by simp; omega) ?_
               intro v3 w3 own3 gr3 at3
               have HO3 := Lib.hid own3
               have HB3 := Lib.hid (HRE.out.grown gr3 (by simp; omega) (fun j hj => (HO.out.lt j hj).1))
               obtain ⟨_, _, _⟩ := (HG9.out.on (below_on H8.out HB3.out)).box.cells
               clear own3 gr3 at3)
            | (go_at_call 16; (with_reducible refine (D1.out _ _ HO3.out (below_on H8.out HB3.out)).mono ?_)
               rintro e w4 ⟨rfl, hb4⟩
               have HO4 := Lib.hid (ownsRow_on HO3.out hb4 (Nat.le_refl _))
               have HB4 := Lib.hid (below_on HB3.out hb4)
               obtain ⟨_, _, _⟩ := (HX9.out.on (below_on H8.out HB4.out)).cells
               clear hb4)
            | (go_at_call 16; (with_reducible refine (D2.out _ _ HO4.out (below_on H8.out HB4.out)).mono ?_)
               rintro e w5 ⟨rfl, hb5⟩
               have HO5 := Lib.hid (ownsRow_on HO4.out hb5 (Nat.le_refl _))
               have HB5 := Lib.hid (below_on HB4.out hb5)
               clear hb5)
            | fail)
          go_quiet (fail)
          go_wp2_with fail
          go_roundw
          case rel => exact ⟨k + 1, _, ws ++ [(labB m).toList], by omega, by omega, by go_num, rfl, Lib.hid HO5.out, HMM, Lib.hid (bel_drewN HB5.out nq)⟩
          case measure => simp [intOf]; omega
        · obtain ⟨q, hq, hqp, hpl, hw2, htu⟩ := walk_pairP HOK.out hres
          rw [hres] at D1
          rw [← HTE.out] at hw2
          rw [hw2] at D2
          dsimp only [walkV] at D1 D2
          rw [← HRN.out] at hq
          rw [HMD.out.len] at hpl
          rw [← HTE.out] at htu
          have HPAIR := Lib.hid (fun (W : World) (hW : Below w9.heap.size w9 W) => show ∃ (tb tz ub uo : Nat) (s s' : ByteArray), (sa = some ⟨tb, tz, none⟩ ∧ ta = some ⟨ub, uo, none⟩) ∧ s'.toList = s.toList ∧
              W.cell? ⟨tb, tz + p * 3, none⟩ = some (.string s) ∧ W.cell? ⟨ub, uo + q * 3, none⟩ = some (.string s') from by
            obtain ⟨tb, tz, s, _, _, _, _, _, e1, _, t1, ⟨c1, _, _⟩, _, _, _⟩ := (HG9.out.on hW).pin.pts.at_ hpl
            obtain ⟨ub, uo, s', _, _, _, _, _, e2, _, t2, ⟨c3, _, _⟩, _, _, _⟩ := (HT9.out.on hW).pts.at_ hq
            exact ⟨tb, tz, ub, uo, s, s', ⟨e1, e2⟩, htu _ _ t1 t2, c1, c3⟩)
          obtain ⟨rb, ro, rx, rfl, _, hrx, hrc⟩ := (HNU.out.below HBr.out).at_ hq
          obtain ⟨rp, rfl, hrp⟩ := rowI_at hrx
          obtain rfl : rp = p := by rw [hqp] at hrp; exact (Option.some.inj hrp).symm
          have HRC := Lib.hid (fun (W : World) (hW : Below v8.heap.size v8 W) => show W.cell? ⟨rb, ro + q, none⟩ = some (.int .i64 (rp : Int)) from by
            obtain ⟨rb2, ro2, rx2, e1, _, hrx2, hrc2⟩ := (HNU.out.below hW).at_ hq
            obtain ⟨e3, e4, _⟩ := Addr.mk.inj (Option.some.inj e1)
            subst e3 e4
            rw [hrx] at hrx2
            obtain rfl := Option.some.inj hrx2
            exact hrc2)
          have j1 : decide ((tn : Int) ≤ (q : Int)) = false := decide_eq_false (by omega)
          have j6 : decide (tn ≤ q) = false := decide_eq_false (by omega)
          have j7 : ¬ (tn ≤ q) := by omega
          have j2 : (q : Int) < (tn : Int) := by omega
          have j3 : (0 : Int) ≤ (q : Int) := by omega
          have j4 : (rp : Int) < (sn : Int) := by omega
          have j5 : (0 : Int) ≤ (rp : Int) := by omega
          have n1 : ((rp : Int) != (rp : Int)) = false := by simp
          clear hm4 hres hb hrx hrc hrp hqp htu hw2 hpl hq
          go_wp2_with (first
            | (at_builtin
               refine wpList_append_strs _ rfl (.tmp 69) (.tmp 79) _ rfl v8.heap.size 9 Try.underlying24 info9 _ k ws rfl ((HO.out.alloc _).alloc _) _ _ 1 1 [(labB m).toList] rfl (strs_one_at7 (wr.alloc (.cells #[.string ⟨#[119]⟩, .string ⟨#[120]⟩, .string ⟨#[121]⟩, .string ⟨#[122]⟩] 9)) _ (labB m) (by simp) (lab_small7 m)) (by omega) (by simp; omega) ?_
               intro v3 w3 own3 gr3 at3
               have HO3 := Lib.hid own3
               have HB3 := Lib.hid (HRE.out.grown gr3 (by simp; omega) (fun j hj => (HO.out.lt j hj).1))
               obtain ⟨_, _, _⟩ := (HG9.out.on (below_on H8.out HB3.out)).box.cells
               clear own3 gr3 at3)
            | (go_at_call 16; (with_reducible refine (D1.out _ _ HO3.out (below_on H8.out HB3.out)).mono ?_)
               rintro e w4 ⟨rfl, hb4⟩
               have HO4 := Lib.hid (ownsRow_on HO3.out hb4 (Nat.le_refl _))
               have HB4 := Lib.hid (below_on HB3.out hb4)
               obtain ⟨_, _, _⟩ := (HX9.out.on (below_on H8.out HB4.out)).cells
               clear hb4)
            | (go_at_call 16; (with_reducible refine (D2.out _ _ HO4.out (below_on H8.out HB4.out)).mono ?_)
               rintro e w5 ⟨rfl, hb5⟩
               have HO5 := Lib.hid (ownsRow_on HO4.out hb5 (Nat.le_refl _))
               have HB5 := Lib.hid (below_on HB4.out hb5)
               clear hb5)
            | fail)
          have hB65 := below_on H8.out HB5.out
          obtain ⟨_, _, _⟩ := (HG9.out.on hB65).box.cells
          obtain ⟨_, _, _⟩ := (HX9.out.on hB65).cells
          obtain ⟨tb, tz, ub, uo, s, s', ⟨rfl, rfl⟩, hss, _, _⟩ := HPAIR.out _ hB65
          have hrc := HRC.out _ HB5.out
          have n4 : (s.toList == s'.toList) = true := by rw [hss]; simp
          have n3 : (s.toList != s'.toList) = false := by rw [bne, n4]; rfl
          clear hB65 hss
          go_quiet (fail)
          go_wp2_with fail
          go_roundw
          case rel => exact ⟨k + 1, _, ws ++ [(labB m).toList], by omega, by omega, by go_num, rfl, Lib.hid HO5.out, HMM, Lib.hid (bel_drewN HB5.out nq)⟩
          case measure => simp [intOf]; omega
      · have d1 : decide ((k : Int) < 20) = false := decide_eq_false (by omega)
        have i1 : (k : Int) < (n' : Int) := by omega
        have HE := Lib.hid (below_on HG9.out.bel (below_on H8.out HBr.out))
        clear hk2
        go_wp2_with fail
        go_ret
        exact ⟨rfl, HE.out⟩
    · have HE := Lib.hid (below_on HG9.out.bel (below_on H8.out HBr.out))
      have d1 : decide ((k : Int) < (n' : Int)) = false := decide_eq_false (by omega)
      go_wp2_with fail
      go_ret
      exact ⟨rfl, HE.out⟩
end Go.Proofs.Ytcjanipjgjgjpaa
