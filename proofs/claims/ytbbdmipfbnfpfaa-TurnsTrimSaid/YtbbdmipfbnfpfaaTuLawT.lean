/- Law: TurnsTrim. -/
import Derived.Test.YtbbdmipfbnfpfaaTuLawP
import Derived.Test.YtbbdmipfbnfpfaaTuLaws
import Derived.Test.YtbbdmipfbnfpfaaTuOwnW
import Derived.Test.YtbbdmipfbnfpfaaTuSameL
import Derived.Deep.RegionHeld3
namespace Go.Proofs.Ytbbdmipfbnfpfaa
open Go.RowKit

theorem trimL_trim {ts : List TurnL} (h : locB ts = true) : trimL (trimT ts) = trimT ts := by unfold trimL; rw [trim_valid h, trim_trim h]; rfl
theorem sameL_trim {ts : List TurnL} (h : locB ts = true) : sameL ts (trimT ts) = true := by
  unfold sameL
  rw [h, trim_valid h, trimL_trim h]
  unfold trimL
  rw [h]
  exact sameTs_iff.2 rfl
theorem strs_one_at (w : World) (g : Nat) (s : ByteArray) (hg : g = w.heap.size) (hs : s.size ≤ maxLen) : Strs (w.alloc (.cells #[.string s] 9)) (w.heap.size + 1) (some ⟨g, 0, none⟩) 1 [s.toList] := by
  subst hg
  exact strs_one w s hs
theorem lab_small (m : Nat) : (labB m).size ≤ maxLen := by simp [labB, maxLen, ByteArray.size]
theorem lab_at (w : World) (m : Nat) (hm : m < 4) : (w.alloc (.cells #[.string ⟨#[119]⟩, .string ⟨#[120]⟩, .string ⟨#[121]⟩, .string ⟨#[122]⟩] 9)).cell? ⟨w.heap.size, m, none⟩ = some (.string (labB m)) := by
  have := labObj_at w m
  rw [Nat.mod_eq_of_lt hm] at this
  exact this
theorem walk_pair {ts : List TurnL} (h : locB ts = true) {ls : List Str} {p : Nat} (e : walkT ts 0 ls = some p) :
    ∃ q, q < (reachT ts).length ∧ (reachT ts)[q]? = some p ∧ p < ts.length ∧ walkL (trimT ts) ls = some q ∧ ∀ t u, ts[p]? = some t → (trimT ts)[q]? = some u → u.kind = t.kind ∧ u.peer = t.peer := by
  obtain ⟨r, hr⟩ := reach_zero ts
  have hp := walk_in h ls 0 p (by rw [hr]; simp) e
  have hb := idx_back hp
  have hl := reach_lt h p hp
  refine ⟨(reachT ts).idxOf p, List.idxOf_lt_length_iff.2 hp, hb, hl, ?_, fun t u ht hu => ?_⟩
  · unfold walkL
    rw [trim_valid h, if_pos rfl, walk_trim h, e]
    rfl
  · obtain ⟨l, h1, _⟩ := (trim_sims h).turn p hp t ht
    rw [h1] at hu
    obtain rfl := Option.some.inj hu
    exact ⟨rfl, rfl⟩
theorem walk_miss {ts : List TurnL} (h : locB ts = true) {ls : List Str} (e : walkT ts 0 ls = none) : walkL (trimT ts) ls = none := by
  unfold walkL
  rw [trim_valid h, if_pos rfl, walk_trim h, e]
  rfl
theorem reachL_trim {ts : List TurnL} (h : locB ts = true) : (rowI (reachL (trimT ts))).length = (reachT ts).length := by
  rw [rowI_len, reachL_eq (trim_valid h), reach_trim h, List.length_range]
set_option maxHeartbeats 16000000 in
set_option maxRecDepth 20000 in
theorem turnsTrim_walk (a : Option Addr) (n c : Nat) (l : List Int) (a' : Option Addr) (n' c' : Nat) (l' : List Int) (w : World) (h : Nums w w.heap.size a n l) (hlim : n * 8 ≤ 140737488351232) (h' : Nums w w.heap.size a' n' l') (_hlim' : n' * 8 ≤ 140737488351232) :
    Calls Try.prog 3 #[.slice a n c, .slice a' n' c'] w fun e w' => e = .returned (.bool true) ∧ Below w.heap.size w w' := by
  have HN := Lib.hid h
  have HN' := Lib.hid h'
  have HF := Lib.hid (tuFirst_any w)
  clear h h'
  go_enter Try.func3, Try.ntmps3
  go_upto_region 4 with (first
    | (go_at_call 7; (with_reducible refine HF.out.mono ?_)
       rintro e w1 ⟨rfl, hb1⟩
       have HB1 := Lib.hid hb1
       clear hb1)
    | (go_at_call 9; (with_reducible refine (new_any a n c l w1 w.heap.size (HN.out.below HB1.out) hlim).mono ?_)
       rintro e w2 ⟨g, rfl, hd2, hg2, hb2⟩
       have HD2 := Lib.hid hd2
       have HB2 := Lib.hid hb2
       clear hd2 hb2)
    | (go_at_call 8; (with_reducible refine (made_local HD2.out).mono ?_)
       rintro e w3 ⟨⟨sa, sn, sc, ts, rfl, hm3, hln, hloc, hfew⟩, hb3⟩
       have HT3 := Lib.hid (hm3.sees (by omega))
       have HLOC := Lib.hid hloc
       have HLN := Lib.hid hln
       have HB3 := Lib.hid (below_on HB1.out (HB2.out.trans (hb3.below hg2 HB2.out.size)))
       clear hm3 hloc hb3 hln)
    | fail)
  have HL4 := Lib.hid (LBox.new w3 ⟨#[116]⟩ sa sn sc)
  have HBX := Lib.hid (tu1 w3 (.cells #[.string ⟨#[116]⟩, .slice sa sn sc] 26))
  generalize hw4 : w3.alloc (.cells #[.string ⟨#[116]⟩, .slice sa sn sc] 26) = w4 at HL4 HBX ⊢
  clear hw4
  have HT4 := Lib.hid (HT3.out.on HBX.out)
  have HB4 := Lib.hid (below_on HB3.out HBX.out)
  have CT := Lib.hid (ownTrim_any ⟨#[116]⟩ sa sn sc ts w4 _ (Nat.le_refl _) HT4.out)
  have hnm : ∀ us : List TurnL, locB us = true → trimName us ⟨#[116]⟩ = ⟨#[116]⟩ := fun us hu => by unfold trimName; rw [hu]; rfl
  rw [hnm _ HLOC.out, show trimL ts = trimT ts by unfold trimL; rw [HLOC.out]; rfl] at CT
  obtain ⟨tc0, tc1⟩ := HL4.out.cells
  go_upto_region 5 with (first
    | (go_at_call 10; (with_reducible refine CT.out.mono ?_)
       rintro e w5 ⟨⟨ra, rn, rc, rfl, ht5⟩, hb5⟩
       have HR5 := Lib.hid ht5
       have HB45 := Lib.hid hb5
       clear ht5 hb5)
    | fail)
  have HX6 := Lib.hid (LBox.new w5 ⟨#[116]⟩ ra rn rc)
  have HBY := Lib.hid (tu1 w5 (.cells #[.string ⟨#[116]⟩, .slice ra rn rc] 26))
  obtain ⟨g4, hg4⟩ : ∃ g4, g4 = w3.heap.size := ⟨_, rfl⟩
  rw [← hg4] at HL4
  rw [← hg4]
  obtain ⟨g6, hg6⟩ : ∃ g6, g6 = w5.heap.size := ⟨_, rfl⟩
  rw [← hg6] at HX6
  rw [← hg6]
  generalize hw6 : w5.alloc (.cells #[.string ⟨#[116]⟩, .slice ra rn rc] 26) = w6 at HX6 HBY ⊢
  clear hw6 tc0 tc1 hg4 hg6 hnm
  have HL6 := Lib.hid ((HL4.out.on HB45.out).on HBY.out)
  have HB6 := Lib.hid (below_on (below_on HB4.out HB45.out) HBY.out)
  have HT6 := Lib.hid ((HT4.out.on HB45.out).on HBY.out)
  have HU6 := Lib.hid (HR5.out.on HBY.out)
  have hrn : rn = (reachT ts).length := by rw [← HU6.out.1, trim_len]
  have HRN := Lib.hid hrn
  have nn : ((rn : Int) != (rn : Int)) = false := by simp
  have hval2 := trim_valid HLOC.out
  have C1 := Lib.hid (fun (W : World) (hW : Below w6.heap.size w6 W) => (ownMay_any ⟨#[116]⟩ sa sn sc ts W W.heap.size (Nat.le_refl _) (HT6.out.on hW)).mono fun e w2 h => (⟨by rw [h.1, HLOC.out], below_on hW h.2⟩ : e = .returned (.bool true) ∧ Below w6.heap.size w6 w2))
  have C2 := Lib.hid (fun (W : World) (hW : Below w6.heap.size w6 W) => (ownMay_any ⟨#[116]⟩ ra rn rc _ W W.heap.size (Nat.le_refl _) (HU6.out.on hW)).mono fun e w2 h => (⟨by rw [h.1, hval2], below_on hW h.2⟩ : e = .returned (.bool true) ∧ Below w6.heap.size w6 w2))
  have C3 := Lib.hid (fun (W : World) (hW : Below w6.heap.size w6 W) => (ownTrim_any ⟨#[116]⟩ ra rn rc _ W W.heap.size (Nat.le_refl _) (HU6.out.on hW)).mono fun e w2 h => (⟨by
    obtain ⟨xa, xn, xc, e1, e2⟩ := h.1
    rw [trimL_trim HLOC.out] at e2
    refine ⟨xa, xn, xc, ?_, e2⟩
    rw [e1]
    unfold trimName
    rw [hval2]
    rfl, below_on hW h.2⟩ : (∃ xa xn xc, e = .returned (.agg #[.string ⟨#[116]⟩, .slice xa xn xc]) ∧ Turns w2 w2.heap.size xa xn (trimT ts)) ∧ Below w6.heap.size w6 w2))
  have C4 := Lib.hid (fun (xa : Option Addr) (xn xc : Nat) (W : World) (hx : Turns W W.heap.size xa xn (trimT ts)) (hW : Below w6.heap.size w6 W) => (lawSame_any ⟨#[116]⟩ ⟨#[116]⟩ xa ra xn xc rn rc _ _ W W.heap.size (Nat.le_refl _) hx (HU6.out.on hW)).mono fun e w2 h => (⟨by rw [h.1, sameTs_iff.2 rfl, beq_self_eq_true]; rfl, below_on hW h.2⟩ : e = .returned (.bool true) ∧ Below w6.heap.size w6 w2))
  have C5 := Lib.hid (fun (W : World) (hW : Below w6.heap.size w6 W) => (ownSame_any ⟨#[116]⟩ ⟨#[116]⟩ sa ra sn sc rn rc _ _ W W.heap.size (Nat.le_refl _) (HT6.out.on hW) (HU6.out.on hW)).mono fun e w2 h => (⟨by rw [h.1, sameL_trim HLOC.out], below_on hW h.2⟩ : e = .returned (.bool true) ∧ Below w6.heap.size w6 w2))
  have C6 := Lib.hid (fun (W : World) (hW : Below w6.heap.size w6 W) => (ownReach_any ⟨#[116]⟩ ra rn rc _ W W.heap.size (Nat.le_refl _) (HU6.out.on hW)).mono fun e w2 h => (⟨by
    obtain ⟨v, e1, e2⟩ := h.1
    obtain ⟨xa, xc, rfl, _⟩ := e2.sees
    rw [reachL_trim HLOC.out, ← HRN.out] at e1
    exact ⟨xa, xc, e1⟩, below_on hW h.2⟩ : (∃ xa xc, e = .returned (.slice xa rn xc)) ∧ Below w6.heap.size w6 w2))
  have C7 := Lib.hid (fun (W : World) (hW : Below w6.heap.size w6 W) => (ownReach_any ⟨#[116]⟩ sa sn sc _ W W.heap.size (Nat.le_refl _) (HT6.out.on hW)).mono fun e w2 h => (⟨by
    obtain ⟨v, e1, e2⟩ := h.1
    rw [reachL_eq HLOC.out] at e2
    obtain ⟨xa, xc, rfl, _, _, _, hnu⟩ := e2.sees
    rw [rowI_len, ← HRN.out] at e1 hnu
    exact ⟨xa, xc, e1, hnu⟩, below_on hW h.2⟩ : (∃ xa xc, e = .returned (.slice xa rn xc) ∧ Nums w2 w2.heap.size xa rn (rowI (reachT ts))) ∧ Below w6.heap.size w6 w2))
  have HK := Lib.hid (fun (W : World) (hW : Below w6.heap.size w6 W) => show W.cell? ⟨g4, 0, none⟩ = some (.string ⟨#[116]⟩) ∧ W.cell? ⟨g4, 1, none⟩ = some (.slice sa sn sc) ∧ W.cell? ⟨g6, 0, none⟩ = some (.string ⟨#[116]⟩) ∧ W.cell? ⟨g6, 1, none⟩ = some (.slice ra rn rc) from
    ⟨((HL6.out.on hW).cells).1, ((HL6.out.on hW).cells).2, ((HX6.out.on hW).cells).1, ((HX6.out.on hW).cells).2⟩)
  have H0 := Lib.hid (show Below w6.heap.size w6 w6.drew from bel_drewN (Below.refl _ _) 1)
  clear hrn hval2
  go_region_held3 (fun W => W.cell? ⟨g4, 0, none⟩ = some (.string ⟨#[116]⟩) ∧ W.cell? ⟨g4, 1, none⟩ = some (.slice sa sn sc) ∧ W.cell? ⟨g6, 0, none⟩ = some (.string ⟨#[116]⟩) ∧ W.cell? ⟨g6, 1, none⟩ = some (.slice ra rn rc))
    (first | exact HK.out _ H0.out | exact HK.out _ H1.out | exact HK.out _ H2.out | exact HK.out _ H3.out | exact HK.out _ H4.out | exact HK.out _ H5.out | exact HK.out _ H6.out | exact HK.out _ H7.out)
    (first
    | (go_at_call 11; (with_reducible refine (C1.out _ H0.out).mono ?_)
       rintro e v1 ⟨rfl, h1⟩
       have H1 := Lib.hid h1
       clear h1)
    | (go_at_call 11; (with_reducible refine (C2.out _ H1.out).mono ?_)
       rintro e v2 ⟨rfl, h2⟩
       have H2 := Lib.hid h2
       clear h2)
    | (go_at_call 10; (with_reducible refine (C3.out _ H2.out).mono ?_)
       rintro e v3 ⟨⟨xa, xn, xc, rfl, hx3⟩, h3⟩
       have H3 := Lib.hid h3
       have HX3 := Lib.hid hx3
       clear h3 hx3)
    | (go_at_call 12; (with_reducible refine (C4.out _ _ _ _ HX3.out H3.out).mono ?_)
       rintro e v4 ⟨rfl, h4⟩
       have H4 := Lib.hid h4
       clear h4)
    | (go_at_call 13; (with_reducible refine (C5.out _ H4.out).mono ?_)
       rintro e v5 ⟨rfl, h5⟩
       have H5 := Lib.hid h5
       clear h5)
    | (go_at_call 14; (with_reducible refine (C6.out _ H5.out).mono ?_)
       rintro e v6 ⟨⟨ya, yc, rfl⟩, h6⟩
       have H6 := Lib.hid h6
       clear h6)
    | (go_at_call 14; (with_reducible refine (C7.out _ H6.out).mono ?_)
       rintro e v7 ⟨⟨za, zc, rfl, _⟩, h7⟩
       have H7 := Lib.hid h7
       clear h7)
    | fail)
  have HLW := Lib.hid (HL6.out.on H7.out)
  have HXW := Lib.hid (HX6.out.on H7.out)
  go_upto_region 8 with (first
    | (go_at_call 14; (with_reducible refine (C7.out _ H7.out).mono ?_)
       rintro e v8 ⟨⟨ka, kc, rfl, hnu⟩, h8⟩
       have H8 := Lib.hid h8
       have HNU := Lib.hid hnu
       clear h8 hnu)
    | fail)
  have hrn1 : rn ≤ 1000 := by have := reach_few HLOC.out; have := HRN.out; have := (locB_one HLOC.out).2.1; omega
  have CW1 := Lib.hid (fun (v : Value) (k : Nat) (ws : List Str) (W : World) (hk : k ≤ 20) (hw : W.ownsRow v8.heap.size 9 1 v k (ws.map encStr)) (hm : ∀ s ∈ ws, s.length ≤ maxLen) (hW : Below w6.heap.size w6 W) => show Calls Try.prog 15 #[.agg #[.string ⟨#[116]⟩, .slice sa sn sc], v] W fun e w' => e = .returned (walkV (walkL ts ws)) ∧ Below W.heap.size W w' from by
    obtain ⟨oa, oc, rfl, hss, _, _⟩ := Strs.of_own hw (by omega) hm
    exact ownWalk_any ⟨#[116]⟩ sa sn sc ts oa k oc ws W _ (Nat.le_refl _) (HT6.out.on hW) hss)
  have CW2 := Lib.hid (fun (v : Value) (k : Nat) (ws : List Str) (W : World) (hk : k ≤ 20) (hw : W.ownsRow v8.heap.size 9 1 v k (ws.map encStr)) (hm : ∀ s ∈ ws, s.length ≤ maxLen) (hW : Below w6.heap.size w6 W) => show Calls Try.prog 15 #[.agg #[.string ⟨#[116]⟩, .slice ra rn rc], v] W fun e w' => e = .returned (walkV (walkL (trimT ts) ws)) ∧ Below W.heap.size W w' from by
    obtain ⟨oa, oc, rfl, hss, _, _⟩ := Strs.of_own hw (by omega) hm
    exact ownWalk_any ⟨#[116]⟩ ra rn rc _ oa k oc ws W _ (Nat.le_refl _) (HU6.out.on hW) hss)
  go_wp2_with fail
  go_loopw [8, 9] (fun sl i wr => ∃ (k : Nat) (v : Value) (ws : List Str), k ≤ 20 ∧ k ≤ n' ∧ i = .int .i64 k ∧ v = sl ∧ Hid (wr.ownsRow v8.heap.size 9 1 v k (ws.map encStr)) ∧ Hid (∀ s ∈ ws, s.length ≤ maxLen) ∧ Hid (Below v8.heap.size v8 wr)) (fun _ i _ => n' - (intOf i).toNat)
  case atStart => exact ⟨0, _, [], Nat.zero_le _, Nat.zero_le _, rfl, rfl, Lib.hid (World.ownsRow_nil _ _ _ _), Lib.hid (fun s hs => by cases hs), Lib.hid (Below.refl _ _)⟩
  case round =>
    obtain ⟨k, v0, ws, hk20, hk, rfl, rfl, HO, HM, HBr⟩ := hrel
    by_cases hk1 : k < n'
    · by_cases hk2 : k < 20
      · have HB6r := Lib.hid (below_on H8.out HBr.out)
        have hz6 : w.heap.size ≤ w6.heap.size := HB6.out.size
        have hz8 : w6.heap.size ≤ wr.heap.size := HB6r.out.size
        have hz9 : v8.heap.size ≤ wr.heap.size := HBr.out.size
        obtain ⟨b, off, x, rfl, hb, _, hc⟩ := (HN'.out.below (HB6.out.trans (HB6r.out.mono hz6))).at_ hk1
        obtain ⟨m, hm4, hmod⟩ := mod_lt x 4 (by omega) (by omega)
        have hmod : (IntKind.u64.wrap x).tmod 4 = (m : Int) := hmod
        have i1 : (k : Int) < (n' : Int) := by omega
        have i2 : (0 : Int) ≤ (k : Int) := by omega
        have i3 : (k : Int) < 20 := by omega
        have i4 : (m : Int) < 4 := by omega
        have i5 : (0 : Int) ≤ (m : Int) := by omega
        have zb : b < wr.heap.size := by omega
        have hlab := lab_at wr m hm4
        have HMM := Lib.hid (show ∀ s ∈ ws ++ [(labB m).toList], s.length ≤ maxLen from fun s hs => by
          rcases List.mem_append.1 hs with h | h
          · exact HM.out s h
          · obtain rfl := List.mem_singleton.1 h
            rw [len_toList]
            exact lab_small m)
        have D1 := Lib.hid (fun (v : Value) (W : World) (hw : W.ownsRow v8.heap.size 9 1 v (k + 1) ((ws ++ [(labB m).toList]).map encStr)) (hW : Below w6.heap.size w6 W) => CW1.out v (k + 1) (ws ++ [(labB m).toList]) W (by omega) hw HMM.out hW)
        have D2 := Lib.hid (fun (v : Value) (W : World) (hw : W.ownsRow v8.heap.size 9 1 v (k + 1) ((ws ++ [(labB m).toList]).map encStr)) (hW : Below w6.heap.size w6 W) => CW2.out v (k + 1) (ws ++ [(labB m).toList]) W (by omega) hw HMM.out hW)
        have HRE := Lib.hid (show Below v8.heap.size v8 ((wr.alloc (.cells #[.string ⟨#[119]⟩, .string ⟨#[120]⟩, .string ⟨#[121]⟩, .string ⟨#[122]⟩] 9)).alloc (.cells #[.string (labB m)] 9)) from (HBr.out.alloc hz9 _).alloc (by simp; omega) _)
        have hwl : walkL ts (ws ++ [(labB m).toList]) = walkT ts 0 (ws ++ [(labB m).toList]) := by unfold walkL; rw [HLOC.out]; rfl
        rcases hres : walkT ts 0 (ws ++ [(labB m).toList]) with _ | p
        · rw [hwl, hres] at D1
          rw [walk_miss HLOC.out hres] at D2
          dsimp only [walkV] at D1 D2
          clear hm4 hwl hres hb
          go_wp2_with (first
            | (at_builtin
               refine wpList_append_strs _ rfl (.tmp 72) (.tmp 82) _ rfl v8.heap.size 9 Try.underlying34 info9 _ k ws rfl ((HO.out.alloc _).alloc _) _ _ 1 1 [(labB m).toList] rfl (strs_one_at (wr.alloc (.cells #[.string ⟨#[119]⟩, .string ⟨#[120]⟩, .string ⟨#[121]⟩, .string ⟨#[122]⟩] 9)) _ (labB m) (by simp) (lab_small m)) (by omega) (by simp; omega) ?_
               intro v3 w3 own3 gr3 at3
               have HO3 := Lib.hid own3
               have HB3 := Lib.hid (HRE.out.grown gr3 (by simp; omega) (fun j hj => (HO.out.lt j hj).1))
               obtain ⟨_, _⟩ := (HL6.out.on (below_on H8.out HB3.out)).cells
               clear own3 gr3 at3)
            | (go_at_call 15; (with_reducible refine (D1.out _ _ HO3.out (below_on H8.out HB3.out)).mono ?_)
               rintro e w4 ⟨rfl, hb4⟩
               have HO4 := Lib.hid (ownsRow_on HO3.out hb4 (Nat.le_refl _))
               have HB4 := Lib.hid (below_on HB3.out hb4)
               obtain ⟨_, _⟩ := (HX6.out.on (below_on H8.out HB4.out)).cells
               clear hb4)
            | (go_at_call 15; (with_reducible refine (D2.out _ _ HO4.out (below_on H8.out HB4.out)).mono ?_)
               rintro e w5 ⟨rfl, hb5⟩
               have HO5 := Lib.hid (ownsRow_on HO4.out hb5 (Nat.le_refl _))
               have HB5 := Lib.hid (below_on HB4.out hb5)
               clear hb5)
            | fail)
          go_quiet (fail)
          go_wp2_with fail
          go_roundw
          case rel => exact ⟨k + 1, _, ws ++ [(labB m).toList], by omega, by omega, by go_num, rfl, Lib.hid HO5.out, HMM, Lib.hid (bel_drewN HB5.out nq)⟩
          case measure => simp [intOf]; omega
        · obtain ⟨q, hq, hqp, hpl, hw2, htu⟩ := walk_pair HLOC.out hres
          rw [hwl, hres] at D1
          rw [hw2] at D2
          dsimp only [walkV] at D1 D2
          rw [← HRN.out] at hq
          rw [HLN.out] at hpl
          have HPAIR := Lib.hid (fun (W : World) (hW : Below w6.heap.size w6 W) => show ∃ (tb to ub uo rb ro : Nat) (kd : Int) (s s' : ByteArray), (sa = some ⟨tb, to, none⟩ ∧ ra = some ⟨ub, uo, none⟩) ∧ s'.toList = s.toList ∧
              (W.cell? ⟨tb, to + p * 3, none⟩ = some (.int .i64 kd) ∧ W.cell? ⟨tb, to + p * 3 + 1, none⟩ = some (.string s)) ∧ (W.cell? ⟨ub, uo + q * 3, none⟩ = some (.int .i64 kd) ∧ W.cell? ⟨ub, uo + q * 3 + 1, none⟩ = some (.string s')) from by
            obtain ⟨tb, to, kd, s, _, _, _, _, e1, _, t1, ⟨c1, c2, _⟩, _, _⟩ := (HT6.out.on hW).at_ hpl
            obtain ⟨ub, uo, kd', s', _, _, _, _, e2, _, t2, ⟨c3, c4, _⟩, _, _⟩ := (HU6.out.on hW).at_ hq
            obtain ⟨q1, q2⟩ := htu _ _ t1 t2
            dsimp only at q1 q2
            subst q1
            exact ⟨tb, to, ub, uo, 0, 0, _, s, s', ⟨e1, e2⟩, q2, ⟨c1, c2⟩, ⟨c3, c4⟩⟩)
          obtain ⟨rb, ro, rx, rfl, _, hrx, hrc⟩ := (HNU.out.below HBr.out).at_ hq
          obtain ⟨rp, rfl, hrp⟩ := rowI_at hrx
          obtain rfl : rp = p := by rw [hqp] at hrp; exact (Option.some.inj hrp).symm
          have HRC := Lib.hid (fun (W : World) (hW : Below v8.heap.size v8 W) => show W.cell? ⟨rb, ro + q, none⟩ = some (.int .i64 (rp : Int)) from by
            obtain ⟨rb2, ro2, rx2, e1, _, hrx2, hrc2⟩ := (HNU.out.below hW).at_ hq
            obtain ⟨e3, e4, _⟩ := Addr.mk.inj (Option.some.inj e1)
            subst e3 e4
            rw [hrx] at hrx2
            obtain rfl := Option.some.inj hrx2
            exact hrc2)
          have j1 : decide ((rn : Int) ≤ (q : Int)) = false := decide_eq_false (by omega)
          have j6 : decide (rn ≤ q) = false := decide_eq_false (by omega)
          have j7 : ¬ (rn ≤ q) := by omega
          have j2 : (q : Int) < (rn : Int) := by omega
          have j3 : (0 : Int) ≤ (q : Int) := by omega
          have j4 : (rp : Int) < (sn : Int) := by omega
          have j5 : (0 : Int) ≤ (rp : Int) := by omega
          have n1 : ((rp : Int) != (rp : Int)) = false := by simp
          clear hm4 hwl hres hb hrx hrc hrp hqp htu hw2 hpl hq
          go_wp2_with (first
            | (at_builtin
               refine wpList_append_strs _ rfl (.tmp 72) (.tmp 82) _ rfl v8.heap.size 9 Try.underlying34 info9 _ k ws rfl ((HO.out.alloc _).alloc _) _ _ 1 1 [(labB m).toList] rfl (strs_one_at (wr.alloc (.cells #[.string ⟨#[119]⟩, .string ⟨#[120]⟩, .string ⟨#[121]⟩, .string ⟨#[122]⟩] 9)) _ (labB m) (by simp) (lab_small m)) (by omega) (by simp; omega) ?_
               intro v3 w3 own3 gr3 at3
               have HO3 := Lib.hid own3
               have HB3 := Lib.hid (HRE.out.grown gr3 (by simp; omega) (fun j hj => (HO.out.lt j hj).1))
               obtain ⟨_, _⟩ := (HL6.out.on (below_on H8.out HB3.out)).cells
               clear own3 gr3 at3)
            | (go_at_call 15; (with_reducible refine (D1.out _ _ HO3.out (below_on H8.out HB3.out)).mono ?_)
               rintro e w4 ⟨rfl, hb4⟩
               have HO4 := Lib.hid (ownsRow_on HO3.out hb4 (Nat.le_refl _))
               have HB4 := Lib.hid (below_on HB3.out hb4)
               obtain ⟨_, _⟩ := (HX6.out.on (below_on H8.out HB4.out)).cells
               clear hb4)
            | (go_at_call 15; (with_reducible refine (D2.out _ _ HO4.out (below_on H8.out HB4.out)).mono ?_)
               rintro e w5 ⟨rfl, hb5⟩
               have HO5 := Lib.hid (ownsRow_on HO4.out hb5 (Nat.le_refl _))
               have HB5 := Lib.hid (below_on HB4.out hb5)
               clear hb5)
            | fail)
          have hB65 := below_on H8.out HB5.out
          obtain ⟨_, _⟩ := (HL6.out.on hB65).cells
          obtain ⟨_, _⟩ := (HX6.out.on hB65).cells
          obtain ⟨tb, to, ub, uo, _, _, kd, s, s', ⟨rfl, rfl⟩, hss, ⟨_, _⟩, ⟨_, _⟩⟩ := HPAIR.out _ hB65
          have hrc := HRC.out _ HB5.out
          have n2 : (kd != kd) = false := by simp
          have n4 : (s.toList == s'.toList) = true := by rw [hss]; simp
          have n3 : (s.toList != s'.toList) = false := by rw [bne, n4]; rfl
          clear hB65 hss
          go_quiet (fail)
          go_wp2_with fail
          go_roundw
          case rel => exact ⟨k + 1, _, ws ++ [(labB m).toList], by omega, by omega, by go_num, rfl, Lib.hid HO5.out, HMM, Lib.hid (bel_drewN HB5.out nq)⟩
          case measure => simp [intOf]; omega
      · have d1 : decide ((k : Int) < 20) = false := decide_eq_false (by omega)
        have i1 : (k : Int) < (n' : Int) := by omega
        have HE := Lib.hid (below_on HB6.out (below_on H8.out HBr.out))
        clear hk2
        go_wp2_with fail
        go_ret
        exact ⟨rfl, HE.out⟩
    · have HE := Lib.hid (below_on HB6.out (below_on H8.out HBr.out))
      have d1 : decide ((k : Int) < (n' : Int)) = false := decide_eq_false (by omega)
      go_wp2_with fail
      go_ret
      exact ⟨rfl, HE.out⟩
end Go.Proofs.Ytbbdmipfbnfpfaa
