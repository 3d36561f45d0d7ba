/- Law: TurnsWrong. -/
import Derived.Test.YtbbdmipfbnfpfaaTuWrongs
import Derived.Deep.RegionLaw
namespace Go.Proofs.Ytbbdmipfbnfpfaa
open Go.RowKit

theorem kind_wrap (j : Nat) (h : j < 5) : wrap64 (3 + (j : Int)) = 3 + (j : Int) := by unfold wrap64; omega
theorem three_le (j : Nat) : (3 : Int) ≤ 3 + (j : Int) := by omega
theorem five_wrap (j : Nat) (h : j < 5) : wrap64 (j : Int) = (j : Int) := by unfold wrap64; omega
set_option maxHeartbeats 16000000 in
set_option maxRecDepth 20000 in
theorem turnsWrong_walk (a : Option Addr) (n c : Nat) (l : List Int) (y z : Int) (w : World) (h : Nums w w.heap.size a n l) (hlim : n * 8 ≤ 140737488351232) :
    Calls Try.prog 5 #[.slice a n c, .int .i64 y, .int .i64 z] w fun e w' => e = .returned (.bool true) ∧ Below w.heap.size w w' := by
  have HN := Lib.hid h
  have HF := Lib.hid (tuFirst_any w)
  clear h
  go_enter Try.func5, Try.ntmps5
  go_upto_region 4 with (first
    | (go_at_call 7; (with_reducible refine HF.out.mono ?_)
       rintro e w1 ⟨rfl, hb1⟩
       have HB1 := Lib.hid hb1
       clear hb1)
    | (go_at_call 9; (with_reducible refine (new_any a n c l w1 w.heap.size (HN.out.below HB1.out) hlim).mono ?_)
       rintro e w2 ⟨g, rfl, hd2, hg2, hb2⟩
       have HD2 := Lib.hid hd2
       have HB2 := Lib.hid hb2
       clear hd2 hb2)
    | (go_at_call 8; (with_reducible refine (made_local HD2.out).mono ?_)
       rintro e w3 ⟨⟨sa, sn, sc, ts, rfl, hm3, hln, hloc, hfew⟩, hb3⟩
       have HM3 := Lib.hid hm3
       have HLOC := Lib.hid hloc
       have HLN := Lib.hid hln
       have HB3 := Lib.hid (below_on HB1.out (HB2.out.trans (hb3.below hg2 HB2.out.size)))
       clear hm3 hloc hb3 hln)
    | fail)
  have HBX := Lib.hid (tu1 w3 (.cells #[.string ⟨#[116]⟩, .slice sa sn sc] 26))
  have hl0 : 0 < ts.length := (locB_one HLOC.out).1
  have hb0 : 0 < w2.heap.size := by have := (Array.getElem?_eq_some_iff.1 HD2.out.choose_spec.choose_spec.choose_spec.choose_spec.choose_spec.1).1; omega
  obtain ⟨g, rfl, hgb, hgl⟩ := HM3.out.towns.spot hl0
  have HL4 := Lib.hid (LBox.new w3 ⟨#[116]⟩ (some ⟨g, 0, none⟩) sn sc)
  have HM4 := Lib.hid (HM3.out.kept HBX.out hb0)
  have hwb : w.heap.size ≤ w2.heap.size := by have := HB1.out.size; have := HB2.out.size; omega
  obtain ⟨g4, hg4⟩ : ∃ g4, g4 = w3.heap.size := ⟨_, rfl⟩
  rw [← hg4] at HL4 hgl HM4
  rw [← hg4]
  have HB4 := Lib.hid (below_on HB3.out HBX.out)
  generalize hw4 : w3.alloc (.cells #[.string ⟨#[116]⟩, .slice (some ⟨g, 0, none⟩) sn sc] 26) = w4 at HL4 HM4 HB4 ⊢
  clear hw4 HBX hg4
  have hsn : 1 ≤ sn ∧ sn ≤ 6 := by have := HLN.out; omega
  obtain ⟨k, hk, hmod⟩ := mod_lt z sn (by omega) (by omega)
  obtain ⟨j, hj, hmod5⟩ := mod_lt z 5 (by omega) (by omega)
  obtain ⟨m, hm, hmod8⟩ := mod_lt y 8 (by omega) (by omega)
  have hmod5 : (IntKind.u64.wrap z).tmod 5 = (j : Int) := hmod5
  have hmod8 : (IntKind.u64.wrap y).tmod 8 = (m : Int) := hmod8
  have hwn : IntKind.u64.wrap (sn : Int) = (sn : Int) := IntWalk.u64_in _ (by omega)
  have hne : ((sn : Int) == 0) = false := by rw [beq_eq_false_iff_ne]; omega
  have i1 : (k : Int) < (sn : Int) := Int.ofNat_lt.2 hk
  have i2 : (0 : Int) ≤ (k : Int) := Int.natCast_nonneg k
  obtain ⟨t, ht⟩ : ∃ t, ts[k]? = some t := ⟨_, List.getElem?_eq_getElem (by have := HLN.out; omega)⟩
  have HT := Lib.hid ht
  have hkw := kind_wrap j hj
  have hjw := five_wrap j hj
  obtain ⟨b, off, kd, s, aa, an, ac, al, eba, _, htt, ⟨q0, q1, q2⟩, _, _⟩ := ((HM4.out.towns.row (by omega)).1).at_ hk
  obtain ⟨e1, e2, _⟩ := Addr.mk.inj (Option.some.inj eba)
  subst e1 e2
  rw [Nat.zero_add] at q0 q1 q2
  clear eba htt
  obtain ⟨_, _⟩ := HL4.out.cells
  have hgne : g4 ≠ g := by omega
  have HSET := Lib.hid (fun (i : Nat) (u : Value) (t' : TurnL) (hi : i < 3) (hst : TOwn (w4.setCell ⟨g, k * 3 + i, none⟩ u) w2.heap.size (.slice (some ⟨g, 0, none⟩) sn sc) (ts.set k t')) (hb : turnB ts.length t' = false) => show Wrong w (w4.setCell ⟨g, k * 3 + i, none⟩ u) g4 (some ⟨g, 0, none⟩) sn sc from
    ⟨(heap_setCell_ne hgne).trans HL4.out, ⟨_, (hst.row (by rw [List.length_set]; omega)).1, locB_set (by have := HLN.out; omega) hb⟩, HB4.out.setCell (show w.heap.size ≤ g by omega) _⟩)
  have HBAD := Lib.hid (show Bad w w4 w2.heap.size g4 g sn sc k ts t (.slice aa an ac) from ⟨HM4.out, HLN.out, by omega, HT.out, q2, HL4.out, HB4.out, hwb, hb0⟩)
  have hwg : w.heap.size ≤ g4 := by omega
  clear ht hl0 hb0
  have hm8 : m = 0 ∨ m = 1 ∨ m = 2 ∨ m = 3 ∨ m = 4 ∨ m = 5 ∨ m = 6 ∨ m = 7 := by omega
  clear hm hk hj hgb hgl hwb
  rcases hm8 with rfl | rfl | rfl | rfl | rfl | rfl | rfl | rfl
  · have hst := HM4.out.towns.kinded HLN.out HT.out (3 + (j : Int))
    have hfz := hst.2
    have HW := Lib.hid (HSET.out 0 _ _ (Nat.zero_lt_succ _) hst.1 (turnB_kind _ _ _ _ (three_le j)))
    clear hst
    go_upto_region 22 with fail
    generalize hwz : w4.setCell ⟨g, k * 3, none⟩ (.int .i64 (3 + (j : Int))) = wz at HW ⊢
    clear hwz q0 q1 q2
    have H0 := HW
    obtain ⟨_, _⟩ := H0.out.box.cells
    have hfe := fun xa xc W => field_turns ⟨#[]⟩ xa 0 xc W
    go_wp2_with (first
      | (go_at_call 15; (with_reducible refine (wrong_walk H0.out).mono ?_)
         rintro e x1 ⟨rfl, h1⟩
         have H1 := Lib.hid h1
         obtain ⟨_, _⟩ := h1.box.cells
         clear h1)
      | (go_at_call 11; (with_reducible refine (wrong_may H1.out).mono ?_)
         rintro e x2 ⟨rfl, h2⟩
         have H2 := Lib.hid h2
         obtain ⟨_, _⟩ := h2.box.cells
         clear h2)
      | (go_at_call 14; (with_reducible refine (wrong_reach H2.out).mono ?_)
         rintro e x3 ⟨⟨ya, yc, rfl⟩, h3⟩
         have H3 := Lib.hid h3
         obtain ⟨_, _⟩ := h3.box.cells
         clear h3)
      | (go_at_call 10; (with_reducible refine (wrong_trim H3.out).mono ?_)
         rintro e x4 ⟨⟨za, zc, rfl⟩, h4⟩
         have H4 := Lib.hid h4
         obtain ⟨_, _⟩ := h4.box.cells
         clear h4)
      | (go_at_call 18; (with_reducible refine (wrong_peers H4.out).mono ?_)
         rintro e x5 ⟨⟨ua, uc, rfl⟩, h5⟩
         have H5 := Lib.hid h5
         obtain ⟨_, _⟩ := h5.box.cells
         clear h5)
      | (go_at_call 13; (with_reducible refine (wrong_same H5.out).mono ?_)
         rintro e x6 ⟨rfl, h6⟩
         have H6 := Lib.hid h6
         clear h6)
      | fail)
    go_ret
    exact ⟨rfl, H6.out.bel⟩
  · have hst := HM4.out.towns.peered HLN.out HT.out ⟨#[101, 110, 100]⟩ (by decide)
    have hfz := hst.2
    have HW := Lib.hid (HSET.out 1 _ _ (Nat.one_lt_succ_succ _) hst.1 (by rw [ByteArray.toList_eq]; exact turnB_peer _ _ _))
    clear hst
    go_upto_region 22 with fail
    generalize hwz : w4.setCell ⟨g, k * 3 + 1, none⟩ (.string ⟨#[101, 110, 100]⟩) = wz at HW ⊢
    clear hwz q0 q1 q2
    have H0 := HW
    obtain ⟨_, _⟩ := H0.out.box.cells
    have hfe := fun xa xc W => field_turns ⟨#[]⟩ xa 0 xc W
    go_wp2_with (first
      | (go_at_call 15; (with_reducible refine (wrong_walk H0.out).mono ?_)
         rintro e x1 ⟨rfl, h1⟩
         have H1 := Lib.hid h1
         obtain ⟨_, _⟩ := h1.box.cells
         clear h1)
      | (go_at_call 11; (with_reducible refine (wrong_may H1.out).mono ?_)
         rintro e x2 ⟨rfl, h2⟩
         have H2 := Lib.hid h2
         obtain ⟨_, _⟩ := h2.box.cells
         clear h2)
      | (go_at_call 14; (with_reducible refine (wrong_reach H2.out).mono ?_)
         rintro e x3 ⟨⟨ya, yc, rfl⟩, h3⟩
         have H3 := Lib.hid h3
         obtain ⟨_, _⟩ := h3.box.cells
         clear h3)
      | (go_at_call 10; (with_reducible refine (wrong_trim H3.out).mono ?_)
         rintro e x4 ⟨⟨za, zc, rfl⟩, h4⟩
         have H4 := Lib.hid h4
         obtain ⟨_, _⟩ := h4.box.cells
         clear h4)
      | (go_at_call 18; (with_reducible refine (wrong_peers H4.out).mono ?_)
         rintro e x5 ⟨⟨ua, uc, rfl⟩, h5⟩
         have H5 := Lib.hid h5
         obtain ⟨_, _⟩ := h5.box.cells
         clear h5)
      | (go_at_call 13; (with_reducible refine (wrong_same H5.out).mono ?_)
         rintro e x6 ⟨rfl, h6⟩
         have H6 := Lib.hid h6
         clear h6)
      | fail)
    go_ret
    exact ⟨rfl, H6.out.bel⟩
  · have HBD := Lib.hid (HBAD.out.on (bel_drewN (Below.refl _ _) 1 : Below w4.heap.size w4 w4.drew))
    go_upto_region 13 with fail
    go_region_law (first
      | (refine step_append_bad (by rfl) (.tmp 55) (.tmp 60) (by rfl) HBD.out (by rfl) (by rfl) (by rfl) (ARow.one (W := w4.drew) ⟨⟨#[119]⟩, 0, ⟨#[]⟩, (sn : Int)⟩ rfl rfl (ok_arm _ _ _ _ (by decide) (by decide))) (by omega) (by simp) (bad_far sn t.kind t.peer t.arms) ?_
         intro aa' an' ac' w5 hw5 hf5 hc5 hb5
         obtain ⟨_, _⟩ := hb5.cells
         have HW := Lib.hid hw5
         clear hw5 hb5 q0 q1 q2)
      | fail)
    all_goals (
      generalize hwz : w5.setCell ⟨g, k * 3 + 2, none⟩ (.slice aa' an' ac') = wz at HW ⊢
      clear hwz hf5 hc5
      have H0 := HW
      obtain ⟨_, _⟩ := H0.out.box.cells
      have hfe := fun xa xc W => field_turns ⟨#[]⟩ xa 0 xc W
      go_wp2_with (first
        | (go_at_call 15; (with_reducible refine (wrong_walk H0.out).mono ?_)
           rintro e x1 ⟨rfl, h1⟩
           have H1 := Lib.hid h1
           obtain ⟨_, _⟩ := h1.box.cells
           clear h1)
        | (go_at_call 11; (with_reducible refine (wrong_may H1.out).mono ?_)
           rintro e x2 ⟨rfl, h2⟩
           have H2 := Lib.hid h2
           obtain ⟨_, _⟩ := h2.box.cells
           clear h2)
        | (go_at_call 14; (with_reducible refine (wrong_reach H2.out).mono ?_)
           rintro e x3 ⟨⟨ya, yc, rfl⟩, h3⟩
           have H3 := Lib.hid h3
           obtain ⟨_, _⟩ := h3.box.cells
           clear h3)
        | (go_at_call 10; (with_reducible refine (wrong_trim H3.out).mono ?_)
           rintro e x4 ⟨⟨za, zc, rfl⟩, h4⟩
           have H4 := Lib.hid h4
           obtain ⟨_, _⟩ := h4.box.cells
           clear h4)
        | (go_at_call 18; (with_reducible refine (wrong_peers H4.out).mono ?_)
           rintro e x5 ⟨⟨ua, uc, rfl⟩, h5⟩
           have H5 := Lib.hid h5
           obtain ⟨_, _⟩ := h5.box.cells
           clear h5)
        | (go_at_call 13; (with_reducible refine (wrong_same H5.out).mono ?_)
           rintro e x6 ⟨rfl, h6⟩
           have H6 := Lib.hid h6
           clear h6)
        | fail)
      go_ret
      exact ⟨rfl, H6.out.bel⟩)
  · go_upto_region 22 with (first
      | (at_builtin
         refine wpList_append_bad rfl (.tmp 70) (.tmp 73) rfl HBAD.out rfl rfl rfl (ARow.one (W := w4) ⟨⟨#[119]⟩, 5, ⟨#[]⟩, 0⟩ rfl rfl (ok_arm _ _ _ _ (by decide) (by decide))) (by omega) (by simp) (bad_open sn t.kind t.peer t.arms) ?_
         intro aa' an' ac' w5 hw5 hf5 hc5 hb5
         obtain ⟨_, _⟩ := hb5.cells
         have HW := Lib.hid hw5
         clear hw5 hb5 q0 q1 q2)
      | fail)
    generalize hwz : w5.setCell ⟨g, k * 3 + 2, none⟩ (.slice aa' an' ac') = wz at HW ⊢
    clear hwz hf5 hc5
    have H0 := HW
    obtain ⟨_, _⟩ := H0.out.box.cells
    have hfe := fun xa xc W => field_turns ⟨#[]⟩ xa 0 xc W
    go_wp2_with (first
      | (go_at_call 15; (with_reducible refine (wrong_walk H0.out).mono ?_)
         rintro e x1 ⟨rfl, h1⟩
         have H1 := Lib.hid h1
         obtain ⟨_, _⟩ := h1.box.cells
         clear h1)
      | (go_at_call 11; (with_reducible refine (wrong_may H1.out).mono ?_)
         rintro e x2 ⟨rfl, h2⟩
         have H2 := Lib.hid h2
         obtain ⟨_, _⟩ := h2.box.cells
         clear h2)
      | (go_at_call 14; (with_reducible refine (wrong_reach H2.out).mono ?_)
         rintro e x3 ⟨⟨ya, yc, rfl⟩, h3⟩
         have H3 := Lib.hid h3
         obtain ⟨_, _⟩ := h3.box.cells
         clear h3)
      | (go_at_call 10; (with_reducible refine (wrong_trim H3.out).mono ?_)
         rintro e x4 ⟨⟨za, zc, rfl⟩, h4⟩
         have H4 := Lib.hid h4
         obtain ⟨_, _⟩ := h4.box.cells
         clear h4)
      | (go_at_call 18; (with_reducible refine (wrong_peers H4.out).mono ?_)
         rintro e x5 ⟨⟨ua, uc, rfl⟩, h5⟩
         have H5 := Lib.hid h5
         obtain ⟨_, _⟩ := h5.box.cells
         clear h5)
      | (go_at_call 13; (with_reducible refine (wrong_same H5.out).mono ?_)
         rintro e x6 ⟨rfl, h6⟩
         have H6 := Lib.hid h6
         clear h6)
      | fail)
    go_ret
    exact ⟨rfl, H6.out.bel⟩
  · go_upto_region 22 with (first
      | (at_builtin
         refine wpList_append_bad rfl (.tmp 83) (.tmp 86) rfl HBAD.out rfl rfl rfl (ARow.two (W := w4) ⟨⟨#[118]⟩, 0, ⟨#[]⟩, 0⟩ ⟨⟨#[118]⟩, 0, ⟨#[]⟩, 0⟩ rfl rfl (ok_arm _ _ _ _ (by decide) (by decide)) (ok_arm _ _ _ _ (by decide) (by decide))) (by omega) (by simp) (bad_two sn t.kind t.peer t.arms) ?_
         intro aa' an' ac' w5 hw5 hf5 hc5 hb5
         obtain ⟨_, _⟩ := hb5.cells
         have HW := Lib.hid hw5
         clear hw5 hb5 q0 q1 q2)
      | fail)
    generalize hwz : w5.setCell ⟨g, k * 3 + 2, none⟩ (.slice aa' an' ac') = wz at HW ⊢
    clear hwz hf5 hc5
    have H0 := HW
    obtain ⟨_, _⟩ := H0.out.box.cells
    have hfe := fun xa xc W => field_turns ⟨#[]⟩ xa 0 xc W
    go_wp2_with (first
      | (go_at_call 15; (with_reducible refine (wrong_walk H0.out).mono ?_)
         rintro e x1 ⟨rfl, h1⟩
         have H1 := Lib.hid h1
         obtain ⟨_, _⟩ := h1.box.cells
         clear h1)
      | (go_at_call 11; (with_reducible refine (wrong_may H1.out).mono ?_)
         rintro e x2 ⟨rfl, h2⟩
         have H2 := Lib.hid h2
         obtain ⟨_, _⟩ := h2.box.cells
         clear h2)
      | (go_at_call 14; (with_reducible refine (wrong_reach H2.out).mono ?_)
         rintro e x3 ⟨⟨ya, yc, rfl⟩, h3⟩
         have H3 := Lib.hid h3
         obtain ⟨_, _⟩ := h3.box.cells
         clear h3)
      | (go_at_call 10; (with_reducible refine (wrong_trim H3.out).mono ?_)
         rintro e x4 ⟨⟨za, zc, rfl⟩, h4⟩
         have H4 := Lib.hid h4
         obtain ⟨_, _⟩ := h4.box.cells
         clear h4)
      | (go_at_call 18; (with_reducible refine (wrong_peers H4.out).mono ?_)
         rintro e x5 ⟨⟨ua, uc, rfl⟩, h5⟩
         have H5 := Lib.hid h5
         obtain ⟨_, _⟩ := h5.box.cells
         clear h5)
      | (go_at_call 13; (with_reducible refine (wrong_same H5.out).mono ?_)
         rintro e x6 ⟨rfl, h6⟩
         have H6 := Lib.hid h6
         clear h6)
      | fail)
    go_ret
    exact ⟨rfl, H6.out.bel⟩
  · go_upto_region 22 with (first
      | (at_builtin
         refine wpList_append_bad rfl (.tmp 96) (.tmp 99) rfl HBAD.out rfl rfl rfl (ARow.one (W := w4) ⟨⟨#[118]⟩, 1, ⟨#[116]⟩, 0⟩ rfl rfl (ok_arm _ _ _ _ (by decide) (by decide))) (by omega) (by simp) (bad_named sn t.kind t.peer t.arms) ?_
         intro aa' an' ac' w5 hw5 hf5 hc5 hb5
         obtain ⟨_, _⟩ := hb5.cells
         have HW := Lib.hid hw5
         clear hw5 hb5 q0 q1 q2)
      | fail)
    generalize hwz : w5.setCell ⟨g, k * 3 + 2, none⟩ (.slice aa' an' ac') = wz at HW ⊢
    clear hwz hf5 hc5
    have H0 := HW
    obtain ⟨_, _⟩ := H0.out.box.cells
    have hfe := fun xa xc W => field_turns ⟨#[]⟩ xa 0 xc W
    go_wp2_with (first
      | (go_at_call 15; (with_reducible refine (wrong_walk H0.out).mono ?_)
         rintro e x1 ⟨rfl, h1⟩
         have H1 := Lib.hid h1
         obtain ⟨_, _⟩ := h1.box.cells
         clear h1)
      | (go_at_call 11; (with_reducible refine (wrong_may H1.out).mono ?_)
         rintro e x2 ⟨rfl, h2⟩
         have H2 := Lib.hid h2
         obtain ⟨_, _⟩ := h2.box.cells
         clear h2)
      | (go_at_call 14; (with_reducible refine (wrong_reach H2.out).mono ?_)
         rintro e x3 ⟨⟨ya, yc, rfl⟩, h3⟩
         have H3 := Lib.hid h3
         obtain ⟨_, _⟩ := h3.box.cells
         clear h3)
      | (go_at_call 10; (with_reducible refine (wrong_trim H3.out).mono ?_)
         rintro e x4 ⟨⟨za, zc, rfl⟩, h4⟩
         have H4 := Lib.hid h4
         obtain ⟨_, _⟩ := h4.box.cells
         clear h4)
      | (go_at_call 18; (with_reducible refine (wrong_peers H4.out).mono ?_)
         rintro e x5 ⟨⟨ua, uc, rfl⟩, h5⟩
         have H5 := Lib.hid h5
         obtain ⟨_, _⟩ := h5.box.cells
         clear h5)
      | (go_at_call 13; (with_reducible refine (wrong_same H5.out).mono ?_)
         rintro e x6 ⟨rfl, h6⟩
         have H6 := Lib.hid h6
         clear h6)
      | fail)
    go_ret
    exact ⟨rfl, H6.out.bel⟩
  · go_upto_region 22 with (first
      | (at_builtin
         refine wpList_append_bad rfl (.tmp 109) (.tmp 111) rfl HBAD.out rfl rfl rfl (ARow.one (W := w4) ⟨⟨#[86]⟩, 0, ⟨#[]⟩, 0⟩ rfl rfl (ok_arm _ _ _ _ (by decide) (by decide))) (by omega) (by simp) (bad_big sn t.kind t.peer t.arms) ?_
         intro aa' an' ac' w5 hw5 hf5 hc5 hb5
         obtain ⟨_, _⟩ := hb5.cells
         have HW := Lib.hid hw5
         clear hw5 hb5 q0 q1 q2)
      | fail)
    generalize hwz : w5.setCell ⟨g, k * 3 + 2, none⟩ (.slice aa' an' ac') = wz at HW ⊢
    clear hwz hf5 hc5
    have H0 := HW
    obtain ⟨_, _⟩ := H0.out.box.cells
    have hfe := fun xa xc W => field_turns ⟨#[]⟩ xa 0 xc W
    go_wp2_with (first
      | (go_at_call 15; (with_reducible refine (wrong_walk H0.out).mono ?_)
         rintro e x1 ⟨rfl, h1⟩
         have H1 := Lib.hid h1
         obtain ⟨_, _⟩ := h1.box.cells
         clear h1)
      | (go_at_call 11; (with_reducible refine (wrong_may H1.out).mono ?_)
         rintro e x2 ⟨rfl, h2⟩
         have H2 := Lib.hid h2
         obtain ⟨_, _⟩ := h2.box.cells
         clear h2)
      | (go_at_call 14; (with_reducible refine (wrong_reach H2.out).mono ?_)
         rintro e x3 ⟨⟨ya, yc, rfl⟩, h3⟩
         have H3 := Lib.hid h3
         obtain ⟨_, _⟩ := h3.box.cells
         clear h3)
      | (go_at_call 10; (with_reducible refine (wrong_trim H3.out).mono ?_)
         rintro e x4 ⟨⟨za, zc, rfl⟩, h4⟩
         have H4 := Lib.hid h4
         obtain ⟨_, _⟩ := h4.box.cells
         clear h4)
      | (go_at_call 18; (with_reducible refine (wrong_peers H4.out).mono ?_)
         rintro e x5 ⟨⟨ua, uc, rfl⟩, h5⟩
         have H5 := Lib.hid h5
         obtain ⟨_, _⟩ := h5.box.cells
         clear h5)
      | (go_at_call 13; (with_reducible refine (wrong_same H5.out).mono ?_)
         rintro e x6 ⟨rfl, h6⟩
         have H6 := Lib.hid h6
         clear h6)
      | fail)
    go_ret
    exact ⟨rfl, H6.out.bel⟩
  · have hmk : (Instr.makeSlice 24 (.int .i64 41) (.int .i64 41)).run Try.prog w4 = .ok (.slice (some ⟨w4.heap.size, 0, none⟩) 41 41) (w4.alloc (.cells (madeCells #[.int .i64 0, .string ⟨#[]⟩, .slice none 0 0] 123) 40)) := made_turns 41 (by omega) w4
    have hfz := HL4.out.thaw 1
    have hlt4 := HL4.out.lt
    have HW := Lib.hid (Wrong.made HL4.out HB4.out hwg rfl)
    go_upto_region 22 with fail
    generalize hwz : (w4.setCell ⟨g4, 1, none⟩ (.slice (some ⟨w4.heap.size, 0, none⟩) 41 41)).alloc (.cells (madeCells #[.int .i64 0, .string ⟨#[]⟩, .slice none 0 0] 123) 40) = wz at HW ⊢
    clear hwz q0 q1 q2
    have H0 := HW
    obtain ⟨_, _⟩ := H0.out.box.cells
    have hfe := fun xa xc W => field_turns ⟨#[]⟩ xa 0 xc W
    go_wp2_with (first
      | (go_at_call 15; (with_reducible refine (wrong_walk H0.out).mono ?_)
         rintro e x1 ⟨rfl, h1⟩
         have H1 := Lib.hid h1
         obtain ⟨_, _⟩ := h1.box.cells
         clear h1)
      | (go_at_call 11; (with_reducible refine (wrong_may H1.out).mono ?_)
         rintro e x2 ⟨rfl, h2⟩
         have H2 := Lib.hid h2
         obtain ⟨_, _⟩ := h2.box.cells
         clear h2)
      | (go_at_call 14; (with_reducible refine (wrong_reach H2.out).mono ?_)
         rintro e x3 ⟨⟨ya, yc, rfl⟩, h3⟩
         have H3 := Lib.hid h3
         obtain ⟨_, _⟩ := h3.box.cells
         clear h3)
      | (go_at_call 10; (with_reducible refine (wrong_trim H3.out).mono ?_)
         rintro e x4 ⟨⟨za, zc, rfl⟩, h4⟩
         have H4 := Lib.hid h4
         obtain ⟨_, _⟩ := h4.box.cells
         clear h4)
      | (go_at_call 18; (with_reducible refine (wrong_peers H4.out).mono ?_)
         rintro e x5 ⟨⟨ua, uc, rfl⟩, h5⟩
         have H5 := Lib.hid h5
         obtain ⟨_, _⟩ := h5.box.cells
         clear h5)
      | (go_at_call 13; (with_reducible refine (wrong_same H5.out).mono ?_)
         rintro e x6 ⟨rfl, h6⟩
         have H6 := Lib.hid h6
         clear h6)
      | fail)
    go_ret
    exact ⟨rfl, H6.out.bel⟩
end Go.Proofs.Ytbbdmipfbnfpfaa
