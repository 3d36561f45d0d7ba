/- The law TermTrees returns true, whatever its arguments. -/
import Derived.Test.YthchilnibblbgaaTmStep
import Derived.Test.YthchilnibblbgaaTmMore
namespace Go.Proofs.Ythchilnibblbgaa
open Go.RowKit

theorem trm_hid (t : Trm) : ∃ k nm x tx l r, t = ⟨k, (nm : ByteArray).toList, x, (tx : ByteArray).toList, l, r⟩ ∧ encT t = .agg #[.int .i64 k, .string nm, .int .i64 x, .string tx, .int .i64 l, .int .i64 r] :=
  ⟨t.kind, lxS t.name, t.num, lxS t.text, t.l, t.r, by rw [lxS_toList, lxS_toList], rfl⟩

theorem trm_cells2 (k : Int) (nm : ByteArray) (x : Int) (tx : ByteArray) (l r : Int) : (#[.int .i64 k, .string nm, .int .i64 x, .string tx, .int .i64 l, .int .i64 r] : Array Value) = (encTrm ⟨k, nm.toList, x, tx.toList, l, r⟩).toArray := by
  have e1 : lxS nm.toList = nm := toList_inj (by rw [lxS_toList])
  have e2 : lxS tx.toList = tx := toList_inj (by rw [lxS_toList])
  simp only [encTrm, e1, e2]
set_option maxHeartbeats 8000000 in
set_option maxRecDepth 20000 in
theorem termTrees_walk (a : Option Addr) (n c : Nat) (L : List Trm) (root : Int) (t : Trm) (w : World) (hT : n ≤ 1000 → Trms w w.heap.size a n L) (ht : t.name.length ≤ maxLen ∧ t.text.length ≤ maxLen) :
    Calls Try.prog 12 #[.slice a n c, .int .i64 root, encT t] w fun e w' => e = .returned (.bool true) ∧ Below w.heap.size w w' := by
  obtain ⟨k, nm, x, tx, l, r, hte, he⟩ := trm_hid t
  rw [he]
  have HB0 := Lib.hid ((Below.refl w.heap.size w).alloc (Nat.le_refl _) (.cells #[.int .i64 k, .string nm, .int .i64 x, .string tx, .int .i64 l, .int .i64 r] 38))
  clear he
  by_cases hn : 100 < n
  · have d1 : decide ((100 : Int) < (n : Int)) = true := decide_eq_true (by omega)
    clear hT ht hte
    go_enter Try.func12, Try.ntmps12
    go_wp2_with (first | (go_at_call 13; (with_reducible refine (first_any _).mono ?_); rintro e w1 ⟨rfl, hb1⟩; have HB := Lib.hid (below_on HB0.out hb1); clear hb1) | fail)
    go_ret
    exact ⟨rfl, HB.out⟩
  have d1 : decide ((100 : Int) < (n : Int)) = false := decide_eq_false (by omega)
  have h := hT (by omega)
  have HL := Lib.hid h
  have hl := h.1
  clear hT h
  cases hm : mayF L root
  · have HM := Lib.hid hm
    have HVN := Lib.hid (varsF_none hm)
    clear hm ht hte hl
    go_enter Try.func12, Try.ntmps12
    go_wp2_with (first
      | (go_at_call 13; (with_reducible refine (first_any _).mono ?_); rintro e w1 ⟨rfl, hb1⟩; have HB := Lib.hid (below_on HB0.out hb1); clear hb1)
      | (go_at_call 15; (with_reducible refine (termMay_any a n c L root _ _ (Nat.le_refl _) (HL.out.on HB.out)).mono ?_)
         rintro e w1 ⟨he, hb1⟩
         rw [HM.out] at he
         subst he
         have HB := Lib.hid (below_on HB.out hb1)
         clear hb1)
      | (go_at_call 25; (with_reducible refine (termVars_any a n c L root _ _ (Nat.le_refl _) (HL.out.on HB.out)).mono ?_)
         rintro e w1 ⟨⟨va, vn, vc, rfl, hvs, _⟩, hb1⟩
         rw [HVN.out] at hvs
         obtain rfl : 0 = vn := hvs.1
         have HB := Lib.hid (below_on HB.out hb1)
         clear hb1 hvs)
      | fail)
    go_ret
    exact ⟨rfl, HB.out⟩
  obtain ⟨e0, hg⟩ := (mayF_iff L root).1 hm
  have HM := Lib.hid hm
  have HG := Lib.hid hg
  have HTE := Lib.hid hte
  have HT := Lib.hid ht
  have HN := Lib.hid hl
  clear hm hg hte ht hl
  go_enter Try.func12, Try.ntmps12
  go_upto_region 5 with (first
    | (go_at_call 13; (with_reducible refine (first_any _).mono ?_); rintro e w1 ⟨rfl, hb1⟩; have HB := Lib.hid (below_on HB0.out hb1); have HX := Lib.hid ((BoxT.new w k nm x tx l r).on hb1); clear hb1)
    | (go_at_call 15; (with_reducible refine (termMay_any a n c L root _ _ (Nat.le_refl _) (HL.out.on HB.out)).mono ?_)
       rintro e w2 ⟨he, hb1⟩
       rw [HM.out] at he
       subst he
       have HB := Lib.hid (below_on HB.out hb1)
       have HX := Lib.hid (HX.out.on hb1)
       clear hb1)
    | fail)
  go_cut [7] (fun s7 wx => ∃ a7 c7, s7 = .slice a7 (n + 1) c7 ∧ Hid (Trms wx wx.heap.size a7 (n + 1) (L ++ [t])) ∧ Hid (Below w.heap.size w wx))
  case first =>
    obtain ⟨_, x0, x1, x2, x3, x4, x5⟩ := HX.out
    have hz := HB.out.size
    have hlw : Trms w2 w2.heap.size a n L := HL.out.on HB.out
    have HLW := Lib.hid (show Trms w2.drew w2.drew.heap.size a n L from hlw)
    clear hlw
    go_region_law (first
      | (refine step_append_trms (W := w2.drew) (by rfl) (.const (.slice none 0 0)) (.tmp 35) (by rfl) _ (.slice none 0 0) [] a n c L w2.heap.size (by rfl) (by rfl) (TOwn.zero _ _) HLW.out (Nat.le_refl _) (by have := HN.out; simp; omega) ?_
         intro v3 w3 ho hb
         have HO := Lib.hid ho
         have HB3 := Lib.hid hb
         obtain ⟨_, x0, x1, x2, x3, x4, x5⟩ := HX.out.on (W' := w3) ⟨hb.os, hb.tape, hb.output, hb.size, hb.block⟩
         clear ho hb)
      | (refine step_append_trms (by rfl) (.const (.slice none 0 0)) (.tmp 35) (by rfl) _ (.slice none 0 0) [] a n c L w2.heap.size (by rfl) (by rfl) (TOwn.zero _ _) (HLW.out.below (next_alloc _ _)) (Nat.le_refl _) (by have := HN.out; simp; omega) ?_
         intro v3 w3 ho hb
         have HO := Lib.hid ho
         have HM1 := Lib.hid ((Trms.one (W := w2.drew) ⟨k, nm.toList, x, tx.toList, l, r⟩ rfl (trm_cells2 _ _ _ _ _ _) (HTE.out ▸ HT.out)).on hb)
         have HB3 := Lib.hid ((next_alloc w2.drew _).trans (hb.mono (by simp)))
         have HZ3 := Lib.hid hb.size
         clear ho hb)
      | (refine step_append_trms (by rfl) (.tmp 36) (.tmp 38) (by rfl) _ v3 ([] ++ L) _ 1 1 [⟨k, nm.toList, x, tx.toList, l, r⟩] _ (by rfl) (by rfl) (HO.out.alloc _) (Trms.one ⟨k, nm.toList, x, tx.toList, l, r⟩ rfl (trm_cells2 _ _ _ _ _ _) (HTE.out ▸ HT.out)) (by have := HB3.out.size; simp at this ⊢; omega) (by have := HN.out; simp; omega) ?_
         intro v4 w4 ho hb
         have HO4 := Lib.hid ho
         have HB4 := Lib.hid (HB3.out.trans ((next_alloc w3 _).mono HB3.out.size |>.trans hb))
         clear ho hb)
      | (refine step_append_trms (by rfl) (.tmp 36) (.tmp 38) (by rfl) _ v3 ([] ++ L) _ 1 1 [⟨k, nm.toList, x, tx.toList, l, r⟩] _ (by rfl) (by rfl) HO.out HM1.out HZ3.out (by have := HN.out; simp; omega) ?_
         intro v4 w4 ho hb
         have HO4 := Lib.hid ho
         have HB4 := Lib.hid (HB3.out.trans (hb.mono (by have := HZ3.out; simp)))
         clear ho hb)
      | fail)
    all_goals
      go_wp2_with fail
      go_meet
      obtain ⟨a7, c7, hv7, ht7⟩ := HO4.out.ends HN.out (by omega) HL.out.2.2.1 (HTE.out ▸ HT.out)
      exact ⟨a7, c7, hv7, Lib.hid (by rw [HTE.out]; exact ht7), Lib.hid (below_on HB.out ⟨HB4.out.os, HB4.out.tape, HB4.out.output, HB4.out.size, HB4.out.block⟩)⟩
  case rest =>
    obtain ⟨a7, c7, rfl, HM7, HBc⟩ := hcut
    obtain ⟨r0, hr0⟩ : ∃ r0 : Nat, root = (r0 : Int) := ⟨e0.at_, HG.out.2.1.symm⟩
    subst hr0
    go_upto_region 6 with fail
    go_cut [8] (fun s8 wx => ∃ a8 c8, s8 = .slice a8 (n + 1) c8 ∧ Hid (Trms wx wx.heap.size a8 (n + 1) (L ++ [⟨6, [], 0, [], (r0 : Int), (r0 : Int)⟩])) ∧ Hid (Below wc.heap.size wc wx))
    case first =>
      have HLW := Lib.hid (HL.out.on HBc.out)
      go_wp2_with (first
        | (at_builtin
           refine wpList_append_trms rfl (.const (.slice none 0 0)) (.tmp 40) rfl wc.heap.size (.slice none 0 0) [] a n c L wc.heap.size rfl rfl (TOwn.zero _ _) HLW.out (Nat.le_refl _) (by have := HN.out; simp; omega) wc (Below.refl _ _) ?_
           intro v3 w3 ho hb
           have HO := Lib.hid ho
           have HB3 := Lib.hid hb
           clear ho hb)
        | (go_at_call 21; (with_reducible refine (two_any _ _ _ _).mono ?_)
           rintro e w4 ⟨rfl, hb⟩
           have HO := Lib.hid (HO.out.kept hb)
           have HB3 := Lib.hid (HB3.out.trans (hb.mono HB3.out.size))
           clear hb)
        | (at_builtin
           refine wpList_append_trms rfl (.tmp 41) (.tmp 45) rfl wc.heap.size v3 ([] ++ L) _ 1 1 [⟨6, [], 0, [], (r0 : Int), (r0 : Int)⟩] _ rfl rfl (HO.out.alloc _) (Trms.one ⟨6, [], 0, [], (r0 : Int), (r0 : Int)⟩ rfl rfl ⟨Nat.zero_le _, Nat.zero_le _⟩) (by have := HB3.out.size; simp; omega) (by have := HN.out; simp; omega) wc (HB3.out.alloc HB3.out.size _) ?_
           intro v5 w5 ho hb
           have HO5 := Lib.hid ho
           have HB5 := Lib.hid hb
           clear ho hb)
        | fail)
      go_meet
      obtain ⟨a8, c8, hv8, ht8⟩ := HO5.out.ends HN.out (by omega) HL.out.2.2.1 ⟨Nat.zero_le _, Nat.zero_le _⟩
      exact ⟨a8, c8, hv8, Lib.hid ht8, Lib.hid HB5.out⟩
    case rest =>
      obtain ⟨a8, c8, rfl, HM8, HBd⟩ := hcut
      have HM7b := Lib.hid (HM7.out.on HBd.out)
      have HBc2 := Lib.hid (below_on HBc.out HBd.out)
      go_upto_region 7 with fail
      go_cut [9] (fun s9 wx => ∃ a9 c9, s9 = .slice a9 (n + 1) c9 ∧ Hid (Trms wx wx.heap.size a9 (n + 1) (L ++ [⟨16, [], 0, [], (r0 : Int), -1⟩])) ∧ Hid (Below wc.heap.size wc wx))
      case first =>
        have HLW := Lib.hid (HL.out.on HBc2.out)
        go_wp2_with (first
          | (at_builtin
             refine wpList_append_trms rfl (.const (.slice none 0 0)) (.tmp 47) rfl wc.heap.size (.slice none 0 0) [] a n c L wc.heap.size rfl rfl (TOwn.zero _ _) HLW.out (Nat.le_refl _) (by have := HN.out; simp; omega) wc (Below.refl _ _) ?_
             intro v3 w3 ho hb
             have HO := Lib.hid ho
             have HB3 := Lib.hid hb
             clear ho hb)
          | (at_builtin
             refine wpList_append_trms rfl (.tmp 48) (.tmp 51) rfl wc.heap.size v3 ([] ++ L) _ 1 1 [⟨16, [], 0, [], (r0 : Int), -1⟩] _ rfl rfl (HO.out.alloc _) (Trms.one ⟨16, [], 0, [], (r0 : Int), -1⟩ rfl rfl ⟨Nat.zero_le _, Nat.zero_le _⟩) (by have := HB3.out.size; simp; omega) (by have := HN.out; simp; omega) wc (HB3.out.alloc HB3.out.size _) ?_
             intro v5 w5 ho hb
             have HO5 := Lib.hid ho
             have HB5 := Lib.hid hb
             clear ho hb)
          | fail)
        go_meet
        obtain ⟨a9, c9, hv9, ht9⟩ := HO5.out.ends HN.out (by omega) HL.out.2.2.1 ⟨Nat.zero_le _, Nat.zero_le _⟩
        exact ⟨a9, c9, hv9, Lib.hid ht9, Lib.hid HB5.out⟩
      case rest =>
        obtain ⟨a9, c9, rfl, HM9, HBe⟩ := hcut
        have H7 := Lib.hid (HM7b.out.on HBe.out)
        have H8 := Lib.hid (HM8.out.on HBe.out)
        have HBw := Lib.hid (below_on HBc2.out HBe.out)
        have H0 := Lib.hid (HL.out.on HBw.out)
        have hl160 : (L ++ [t]).length ≤ 160 := by have := HN.out; simp; omega
        have HG7 := HG.out.append (M := [t]) hl160
        have HMY := Lib.hid (mayF_of HG7)
        have HEV := Lib.hid ((evalF_good (env := []) HG7).trans (evalF_good (env := []) HG.out).symm)
        have HVA := Lib.hid ((varsF_good HG7).trans (varsF_good HG.out).symm)
        have HTW := Lib.hid (show mayF (L ++ [⟨6, [], 0, [], (r0 : Int), (r0 : Int)⟩]) (n : Int) = false by have := twice_no L r0 6 rfl; rw [HN.out] at this; exact this)
        have HON := Lib.hid (mayF_of (HG.out.append (M := [⟨16, [], 0, [], (r0 : Int), -1⟩]) (by have := HN.out; simp; omega)))
        have ho : mayF (L ++ [⟨16, [], 0, [], (r0 : Int), -1⟩]) (n : Int) = true ∨ (mayF (L ++ [⟨16, [], 0, [], (r0 : Int), -1⟩]) (n : Int) = false ∧ 24 ≤ n) := by
          by_cases h24 : n < 24
          · left; have := once_yes HG.out (by have := HN.out; omega); rw [HN.out] at this; exact this
          · cases mayF (L ++ [⟨16, [], 0, [], (r0 : Int), -1⟩]) (n : Int)
            · exact .inr ⟨rfl, by omega⟩
            · exact .inl rfl
        obtain ⟨R, hR⟩ : ∃ R, evalF L (r0 : Int) [] = R := ⟨_, rfl⟩
        rw [hR] at HEV
        have HER := Lib.hid hR
        clear hR hl160 HG7
        obtain ⟨⟨vk, vn, vt, vl⟩, er⟩ := R
        have HSV := Lib.hid (sameV_self ⟨vk, vn, vt, vl⟩)
        have HBX := Lib.hid (Below.refl wc.heap.size wc)
        rcases ho with ho | ⟨ho, h24⟩
        · have HOM := Lib.hid ho
          clear ho
          go_wp2_with (first
            | (go_at_call 17; (with_reducible refine (termEval_any a n c L (r0 : Int) none 0 0 [] _ _ (Nat.le_refl _) (H0.out.on HBX.out) (Binds.zero _ _ _)).mono ?_)
               rintro e wv ⟨⟨s1, a1, n1, c1, he, hv, hf⟩, hb⟩
               rw [HER.out] at he hv
               subst he
               have HBX := Lib.hid (below_on (below_on HBX.out hb) (next_alloc wv (.cells #[.int .i64 vk, .int .i64 vn, .string s1, .slice a1 n1 c1] 33)))
               have HN1 := Lib.hid (hv.2.on (next_alloc wv (.cells #[.int .i64 vk, .int .i64 vn, .string s1, .slice a1 n1 c1] 33)))
               have HS1 := Lib.hid hv.1
               have HX1 := Lib.hid (BoxV.new wv (.int .i64 vk) (.int .i64 vn) (.string s1) (.slice a1 n1 c1))
               clear hv hf hb)
            | (go_at_call 17; (with_reducible refine (termEval_any a7 (n + 1) c7 (L ++ [t]) (r0 : Int) none 0 0 [] _ _ (Nat.le_refl _) (H7.out.on HBX.out) (Binds.zero _ _ _)).mono ?_)
               rintro e wu ⟨⟨s2, a2, n2, c2, he, hv, hf⟩, hb⟩
               rw [HEV.out] at he hv
               subst he
               have HBX := Lib.hid (below_on (below_on HBX.out hb) (next_alloc wu (.cells #[.int .i64 vk, .int .i64 vn, .string s2, .slice a2 n2 c2] 33)))
               have HN1 := Lib.hid ((HN1.out.on hb).on (next_alloc wu (.cells #[.int .i64 vk, .int .i64 vn, .string s2, .slice a2 n2 c2] 33)))
               have HX1 := Lib.hid ((HX1.out.on hb).on (next_alloc wu (.cells #[.int .i64 vk, .int .i64 vn, .string s2, .slice a2 n2 c2] 33)))
               have HN2 := Lib.hid (hv.2.on (next_alloc wu (.cells #[.int .i64 vk, .int .i64 vn, .string s2, .slice a2 n2 c2] 33)))
               have HS2 := Lib.hid hv.1
               have HX2 := Lib.hid (BoxV.new wu (.int .i64 vk) (.int .i64 vn) (.string s2) (.slice a2 n2 c2))
               clear hv hf hb)
            | (go_at_call 15; (with_reducible refine (termMay_any a7 (n + 1) c7 (L ++ [t]) (r0 : Int) _ _ (Nat.le_refl _) (H7.out.on HBX.out)).mono ?_)
               rintro e w5 ⟨he, hb⟩
               rw [HMY.out] at he
               subst he
               have HBX := Lib.hid (below_on HBX.out hb)
               have HN1 := Lib.hid (HN1.out.on hb)
               have HX1 := Lib.hid (HX1.out.on hb)
               have HN2 := Lib.hid (HN2.out.on hb)
               have HX2 := Lib.hid (HX2.out.on hb)
               obtain ⟨⟨x0, x1, x2, x3⟩, _⟩ := HX1.out.cells
               obtain ⟨⟨y0, y1, y2, y3⟩, _⟩ := HX2.out.cells
               clear hb)
            | (go_at_call 18; (with_reducible refine (dataSame_any vk vn s1 a1 n1 c1 vl vk vn s2 a2 n2 c2 vl _ _ (Nat.le_refl _) HN1.out HN2.out).mono ?_)
               rintro e w6 ⟨he, hb⟩
               rw [HS1.out, HS2.out, HSV.out] at he
               subst he
               have HBX := Lib.hid (below_on HBX.out hb)
               clear hb)
            | (go_at_call 15; (with_reducible refine (termMay_any a8 (n + 1) c8 (L ++ [⟨6, [], 0, [], (r0 : Int), (r0 : Int)⟩]) (n : Int) _ _ (Nat.le_refl _) (H8.out.on HBX.out)).mono ?_)
               rintro e w7 ⟨he, hb⟩
               rw [HTW.out] at he
               subst he
               have HBX := Lib.hid (below_on HBX.out hb)
               clear hb)
            | (go_at_call 15; (with_reducible refine (termMay_any a9 (n + 1) c9 (L ++ [⟨16, [], 0, [], (r0 : Int), -1⟩]) (n : Int) _ _ (Nat.le_refl _) (HM9.out.on HBX.out)).mono ?_)
               rintro e w8 ⟨he, hb⟩
               rw [HOM.out] at he
               subst he
               have HBX := Lib.hid (below_on HBX.out hb)
               clear hb)
            | (go_at_call 15; (with_reducible refine (termMay_any a9 (n + 1) c9 (L ++ [⟨16, [], 0, [], (r0 : Int), -1⟩]) (r0 : Int) _ _ (Nat.le_refl _) (HM9.out.on HBX.out)).mono ?_)
               rintro e w9 ⟨he, hb⟩
               rw [HON.out] at he
               subst he
               have HBX := Lib.hid (below_on HBX.out hb)
               clear hb)
            | (go_at_call 25; (with_reducible refine (termVars_any a7 (n + 1) c7 (L ++ [t]) (r0 : Int) _ _ (Nat.le_refl _) (H7.out.on HBX.out)).mono ?_)
               rintro e wa ⟨⟨p1, p2, p3, rfl, hs, _⟩, hb⟩
               rw [HVA.out] at hs
               have HBX := Lib.hid (below_on HBX.out hb)
               have HP := Lib.hid hs
               clear hs hb)
            | (go_at_call 25; (with_reducible refine (termVars_any a n c L (r0 : Int) _ _ (Nat.le_refl _) (H0.out.on HBX.out)).mono ?_)
               rintro e wb ⟨⟨q1, q2, q3, rfl, hs, _⟩, hb⟩
               have HBX := Lib.hid (below_on HBX.out hb)
               have HP := Lib.hid (HP.out.on hb)
               have HQ := Lib.hid hs
               clear hs hb)
            | (go_at_call 24; (with_reducible refine (same_any p1 q1 p2 q2 p3 q3 _ _ _ _ HP.out HQ.out).mono ?_)
               rintro e wz ⟨he, ⟨qq, rfl⟩⟩
               rw [decide_eq_true rfl] at he
               subst he)
            | fail)
          go_ret
          exact ⟨rfl, below_drewN (below_on HBw.out HBX.out) _⟩
        · have HOM := Lib.hid ho
          have d24 : decide ((24 : Int) ≤ (n : Int)) = true := decide_eq_true (by omega)
          clear ho
          go_wp2_with (first
            | (go_at_call 17; (with_reducible refine (termEval_any a n c L (r0 : Int) none 0 0 [] _ _ (Nat.le_refl _) (H0.out.on HBX.out) (Binds.zero _ _ _)).mono ?_)
               rintro e wv ⟨⟨s1, a1, n1, c1, he, hv, hf⟩, hb⟩
               rw [HER.out] at he hv
               subst he
               have HBX := Lib.hid (below_on (below_on HBX.out hb) (next_alloc wv (.cells #[.int .i64 vk, .int .i64 vn, .string s1, .slice a1 n1 c1] 33)))
               have HN1 := Lib.hid (hv.2.on (next_alloc wv (.cells #[.int .i64 vk, .int .i64 vn, .string s1, .slice a1 n1 c1] 33)))
               have HS1 := Lib.hid hv.1
               have HX1 := Lib.hid (BoxV.new wv (.int .i64 vk) (.int .i64 vn) (.string s1) (.slice a1 n1 c1))
               clear hv hf hb)
            | (go_at_call 17; (with_reducible refine (termEval_any a7 (n + 1) c7 (L ++ [t]) (r0 : Int) none 0 0 [] _ _ (Nat.le_refl _) (H7.out.on HBX.out) (Binds.zero _ _ _)).mono ?_)
               rintro e wu ⟨⟨s2, a2, n2, c2, he, hv, hf⟩, hb⟩
               rw [HEV.out] at he hv
               subst he
               have HBX := Lib.hid (below_on (below_on HBX.out hb) (next_alloc wu (.cells #[.int .i64 vk, .int .i64 vn, .string s2, .slice a2 n2 c2] 33)))
               have HN1 := Lib.hid ((HN1.out.on hb).on (next_alloc wu (.cells #[.int .i64 vk, .int .i64 vn, .string s2, .slice a2 n2 c2] 33)))
               have HX1 := Lib.hid ((HX1.out.on hb).on (next_alloc wu (.cells #[.int .i64 vk, .int .i64 vn, .string s2, .slice a2 n2 c2] 33)))
               have HN2 := Lib.hid (hv.2.on (next_alloc wu (.cells #[.int .i64 vk, .int .i64 vn, .string s2, .slice a2 n2 c2] 33)))
               have HS2 := Lib.hid hv.1
               have HX2 := Lib.hid (BoxV.new wu (.int .i64 vk) (.int .i64 vn) (.string s2) (.slice a2 n2 c2))
               clear hv hf hb)
            | (go_at_call 15; (with_reducible refine (termMay_any a7 (n + 1) c7 (L ++ [t]) (r0 : Int) _ _ (Nat.le_refl _) (H7.out.on HBX.out)).mono ?_)
               rintro e w5 ⟨he, hb⟩
               rw [HMY.out] at he
               subst he
               have HBX := Lib.hid (below_on HBX.out hb)
               have HN1 := Lib.hid (HN1.out.on hb)
               have HX1 := Lib.hid (HX1.out.on hb)
               have HN2 := Lib.hid (HN2.out.on hb)
               have HX2 := Lib.hid (HX2.out.on hb)
               obtain ⟨⟨x0, x1, x2, x3⟩, _⟩ := HX1.out.cells
               obtain ⟨⟨y0, y1, y2, y3⟩, _⟩ := HX2.out.cells
               clear hb)
            | (go_at_call 18; (with_reducible refine (dataSame_any vk vn s1 a1 n1 c1 vl vk vn s2 a2 n2 c2 vl _ _ (Nat.le_refl _) HN1.out HN2.out).mono ?_)
               rintro e w6 ⟨he, hb⟩
               rw [HS1.out, HS2.out, HSV.out] at he
               subst he
               have HBX := Lib.hid (below_on HBX.out hb)
               clear hb)
            | (go_at_call 15; (with_reducible refine (termMay_any a8 (n + 1) c8 (L ++ [⟨6, [], 0, [], (r0 : Int), (r0 : Int)⟩]) (n : Int) _ _ (Nat.le_refl _) (H8.out.on HBX.out)).mono ?_)
               rintro e w7 ⟨he, hb⟩
               rw [HTW.out] at he
               subst he
               have HBX := Lib.hid (below_on HBX.out hb)
               clear hb)
            | (go_at_call 15; (with_reducible refine (termMay_any a9 (n + 1) c9 (L ++ [⟨16, [], 0, [], (r0 : Int), -1⟩]) (n : Int) _ _ (Nat.le_refl _) (HM9.out.on HBX.out)).mono ?_)
               rintro e w8 ⟨he, hb⟩
               rw [HOM.out] at he
               subst he
               have HBX := Lib.hid (below_on HBX.out hb)
               clear hb)
            | (go_at_call 15; (with_reducible refine (termMay_any a9 (n + 1) c9 (L ++ [⟨16, [], 0, [], (r0 : Int), -1⟩]) (r0 : Int) _ _ (Nat.le_refl _) (HM9.out.on HBX.out)).mono ?_)
               rintro e w9 ⟨he, hb⟩
               rw [HON.out] at he
               subst he
               have HBX := Lib.hid (below_on HBX.out hb)
               clear hb)
            | (go_at_call 25; (with_reducible refine (termVars_any a7 (n + 1) c7 (L ++ [t]) (r0 : Int) _ _ (Nat.le_refl _) (H7.out.on HBX.out)).mono ?_)
               rintro e wa ⟨⟨p1, p2, p3, rfl, hs, _⟩, hb⟩
               rw [HVA.out] at hs
               have HBX := Lib.hid (below_on HBX.out hb)
               have HP := Lib.hid hs
               clear hs hb)
            | (go_at_call 25; (with_reducible refine (termVars_any a n c L (r0 : Int) _ _ (Nat.le_refl _) (H0.out.on HBX.out)).mono ?_)
               rintro e wb ⟨⟨q1, q2, q3, rfl, hs, _⟩, hb⟩
               have HBX := Lib.hid (below_on HBX.out hb)
               have HP := Lib.hid (HP.out.on hb)
               have HQ := Lib.hid hs
               clear hs hb)
            | (go_at_call 24; (with_reducible refine (same_any p1 q1 p2 q2 p3 q3 _ _ _ _ HP.out HQ.out).mono ?_)
               rintro e wz ⟨he, ⟨qq, rfl⟩⟩
               rw [decide_eq_true rfl] at he
               subst he)
            | fail)
          go_ret
          exact ⟨rfl, below_drewN (below_on HBw.out HBX.out) _⟩
end Go.Proofs.Ythchilnibblbgaa
