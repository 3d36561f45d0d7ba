/- The law TermPuts returns true, whatever its arguments. -/
import Derived.Test.YthchilnibblbgaaTmBind
import Derived.Test.YthchilnibblbgaaTmTrees
import Derived.Test.YthchilnibblbgaaTmSome
import Derived.Test.YthchilnibblbgaaTmSteps
namespace Go.Proofs.Ythchilnibblbgaa
open Go.RowKit

theorem putT_take {nm : Str} {m : Int} {L : List Trm} {k : Nat} {t : Trm} (h : L[k]? = some t) : (L.take (k + 1)).map (putT nm m) = (L.take k).map (putT nm m) ++ [putT nm m t] := by
  obtain ⟨h1, e⟩ := List.getElem?_eq_some_iff.1 h
  rw [List.take_succ_eq_append_getElem h1, e, List.map_append]
  rfl
theorem puts_val {L : List Trm} {root : Int} {e : Exp} (h : Good L root e) (nm : Str) (m : Int) (env : List (Str × Val)) : evalF (L.map (putT nm m)) root env = evalF L root ((nm, intV m) :: env) := by
  rw [evalF_good (putE_good nm m h), evalF_good h, putE_eval]
theorem puts_vars {L : List Trm} {root : Int} {e : Exp} (h : Good L root e) (nm : Str) (m : Int) : hasS (varsF (L.map (putT nm m)) root) nm = false := by
  unfold hasS
  rw [Bool.eq_false_iff]
  intro hc
  exact putE_names nm m e ((mem_vars (putE_good nm m h) nm).1 (List.contains_iff_mem.1 hc))
theorem putT_short {nm : Str} {m : Int} {L : List Trm} (h : ∀ t ∈ L, t.name.length ≤ maxLen ∧ t.text.length ≤ maxLen) : ∀ t ∈ L.map (putT nm m), t.name.length ≤ maxLen ∧ t.text.length ≤ maxLen := fun t ht => by
  obtain ⟨u, hu, rfl⟩ := List.mem_map.1 ht
  unfold putT
  split
  · exact ⟨Nat.zero_le _, Nat.zero_le _⟩
  · exact h u hu

set_option maxHeartbeats 16000000 in
set_option maxRecDepth 20000 in
theorem termPuts_walk (a : Option Addr) (n c : Nat) (L : List Trm) (root : Int) (nm : ByteArray) (m : Int) (ea : Option Addr) (en ec : Nat) (env : List (Str × Val)) (w : World)
    (hT : n ≤ 1000 → Trms w w.heap.size a n L) (hE : BindsL w w.heap.size ea en env) (hnm : nm.size ≤ maxLen) :
    Calls Try.prog 8 #[.slice a n c, .int .i64 root, .string nm, .int .i64 m, .slice ea en ec] w fun e w' => e = .returned (.bool true) ∧ Below w.heap.size w w' := by
  by_cases hn : 200 < n
  · have d1 : decide ((200 : Int) < (n : Int)) = true := decide_eq_true (by omega)
    clear hT hE
    go_enter Try.func8, Try.ntmps8
    go_wp2_with (first | (go_at_call 13; (with_reducible refine (first_any _).mono ?_); rintro e w1 ⟨rfl, hb1⟩; have HB := Lib.hid hb1; clear hb1) | fail)
    go_ret
    exact ⟨rfl, HB.out⟩
  have d1 : decide ((200 : Int) < (n : Int)) = false := decide_eq_false (by omega)
  have hl := hT (by omega)
  have HL := Lib.hid hl
  have HE := Lib.hid hE
  have HNM := Lib.hid hnm
  clear hT hE hnm
  obtain ⟨b1, hb1⟩ : ∃ b, someE env = b := ⟨_, rfl⟩
  obtain ⟨b2, hb2⟩ : ∃ b, mayF L root = b := ⟨_, rfl⟩
  obtain ⟨b3, hb3⟩ : ∃ b, may nm.toList = b := ⟨_, rfl⟩
  have HS1 := Lib.hid hb1
  have HS2 := Lib.hid hb2
  have HS3 := Lib.hid hb3
  have hen : b1 = true → en ≤ 40 := fun h => by rw [h] at hb1; have := (someE_iff.1 hb1).1; have := HE.out.1; omega
  clear hb1 hb2 hb3 hl
  cases b1
  case false =>
    clear hen
    go_enter Try.func8, Try.ntmps8
    go_wp2_with (first
      | (go_at_call 13; (with_reducible refine (first_any _).mono ?_); rintro e w1 ⟨rfl, hb1⟩; have HB := Lib.hid hb1; clear hb1)
      | (go_at_call 14; (with_reducible refine (some_any ea en ec env _ _ (HE.out.below HB.out)).mono ?_); rintro e w2 ⟨he, rfl⟩; rw [HS1.out] at he; subst he)
      | fail)
    go_ret
    exact ⟨rfl, HB.out⟩
  have hen := hen rfl
  cases b2
  case false =>
    go_enter Try.func8, Try.ntmps8
    go_wp2_with (first
      | (go_at_call 13; (with_reducible refine (first_any _).mono ?_); rintro e w1 ⟨rfl, hb1⟩; have HB := Lib.hid hb1; clear hb1)
      | (go_at_call 14; (with_reducible refine (some_any ea en ec env _ _ (HE.out.below HB.out)).mono ?_); rintro e w2 ⟨he, rfl⟩; rw [HS1.out] at he; subst he)
      | (go_at_call 15; (with_reducible refine (termMay_any a n c L root _ _ (Nat.le_refl _) (HL.out.on HB.out)).mono ?_)
         rintro e w3 ⟨he, hb⟩
         rw [HS2.out] at he
         subst he
         have HB := Lib.hid (below_on HB.out hb)
         clear hb)
      | fail)
    go_ret
    exact ⟨rfl, HB.out⟩
  cases b3
  case false =>
    go_enter Try.func8, Try.ntmps8
    go_wp2_with (first
      | (go_at_call 13; (with_reducible refine (first_any _).mono ?_); rintro e w1 ⟨rfl, hb1⟩; have HB := Lib.hid hb1; clear hb1)
      | (go_at_call 14; (with_reducible refine (some_any ea en ec env _ _ (HE.out.below HB.out)).mono ?_); rintro e w2 ⟨he, rfl⟩; rw [HS1.out] at he; subst he)
      | (go_at_call 15; (with_reducible refine (termMay_any a n c L root _ _ (Nat.le_refl _) (HL.out.on HB.out)).mono ?_)
         rintro e w3 ⟨he, hb⟩
         rw [HS2.out] at he
         subst he
         have HB := Lib.hid (below_on HB.out hb)
         clear hb)
      | (go_at_call 29; (with_reducible refine (may_any nm _ HNM.out).mono ?_); rintro e w4 ⟨he, rfl⟩; rw [HS3.out] at he; subst he)
      | fail)
    go_ret
    exact ⟨rfl, HB.out⟩
  have HN := Lib.hid HL.out.1
  have HN1 := Lib.hid HE.out.1
  have HE0 := Lib.hid (HE.out.short (by omega))
  obtain ⟨e0, hg⟩ := (mayF_iff L root).1 HS2.out
  have HG := Lib.hid hg
  clear hg
  go_enter Try.func8, Try.ntmps8
  go_wp2_with (first
    | (go_at_call 13; (with_reducible refine (first_any _).mono ?_); rintro e w1 ⟨rfl, hb1⟩; have HB := Lib.hid hb1; clear hb1)
    | (go_at_call 14; (with_reducible refine (some_any ea en ec env _ _ (HE.out.below HB.out)).mono ?_); rintro e w2 ⟨he, rfl⟩; rw [HS1.out] at he; subst he)
    | (go_at_call 15; (with_reducible refine (termMay_any a n c L root _ _ (Nat.le_refl _) (HL.out.on HB.out)).mono ?_)
       rintro e w3 ⟨he, hb⟩
       rw [HS2.out] at he
       subst he
       have HB := Lib.hid (below_on HB.out hb)
       have HL2 := Lib.hid (HL.out.on HB.out)
       have HE2 := Lib.hid (HE0.out.on HB.out)
       clear hb)
    | (go_at_call 29; (with_reducible refine (may_any nm _ HNM.out).mono ?_); rintro e w4 ⟨he, rfl⟩; rw [HS3.out] at he; subst he)
    | fail)
  go_loopw [11, 12] (fun s i wr => ∃ (j : Nat) (v : Value), j ≤ n ∧ i = .int .i64 j ∧ v = s ∧ Hid (TOwn wr w3.heap.size v ((L.take j).map (putT nm.toList m))) ∧ Hid (Below w3.heap.size w3 wr)) (fun _ i _ => n - (intOf i).toNat)
  case atStart => exact ⟨0, _, Nat.zero_le _, rfl, rfl, Lib.hid (by rw [List.take_zero]; exact TOwn.zero _ _), Lib.hid (Below.refl _ _)⟩
  case round =>
    obtain ⟨j, v, hj, rfl, hv, HO, HBr⟩ := hrel
    subst hv
    have hzr := HBr.out.size
    by_cases hlt : j < n
    · obtain ⟨b, off, k, un, x, ux, l, r, ha, hbb, hget, hus, hxs, p0, p1, p2, p3, p4, p5⟩ := HL2.out.part hlt
      subst ha
      have HAT := Lib.hid (putT_take (nm := nm.toList) (m := m) hget)
      have q0 := (HBr.out.cell (p := ⟨b, off + j * 6, none⟩) hbb).trans p0
      have q1 := (HBr.out.cell (p := ⟨b, off + j * 6 + 1, none⟩) hbb).trans p1
      have q2 := (HBr.out.cell (p := ⟨b, off + j * 6 + 2, none⟩) hbb).trans p2
      have q3 := (HBr.out.cell (p := ⟨b, off + j * 6 + 3, none⟩) hbb).trans p3
      have q4 := (HBr.out.cell (p := ⟨b, off + j * 6 + 4, none⟩) hbb).trans p4
      have q5 := (HBr.out.cell (p := ⟨b, off + j * 6 + 5, none⟩) hbb).trans p5
      have hlen : ((L.take j).map (putT nm.toList m)).length ≤ 200 := by rw [List.length_map, List.length_take]; omega
      have HTS := Lib.hid (show (⟨k, un.toList, x, ux.toList, l, r⟩ : Trm).name.length ≤ maxLen ∧ (⟨k, un.toList, x, ux.toList, l, r⟩ : Trm).text.length ≤ maxLen from ⟨by rw [lxLen]; exact hus, by rw [lxLen]; exact hxs⟩)
      have HKB := Lib.hid ((next_alloc wr (.cells #[.int .i64 k, .string un, .int .i64 x, .string ux, .int .i64 l, .int .i64 r] 38)))
      have hbk : (k == 0 && un.toList == nm.toList) = false ∨ ((k == 0) = true ∧ (un.toList == nm.toList) = true) := by
        cases k == 0 <;> cases un.toList == nm.toList <;> simp
      clear p0 p1 p2 p3 p4 p5 hget hus hxs
      rcases hbk with hbk | ⟨hk, hu⟩
      · have HPT := Lib.hid (HAT.out.trans (show _ ++ [putT nm.toList m ⟨k, un.toList, x, ux.toList, l, r⟩] = (L.take j).map (putT nm.toList m) ++ [⟨k, un.toList, x, ux.toList, l, r⟩] by
          unfold putT
          rw [if_neg (c := (⟨k, un.toList, x, ux.toList, l, r⟩ : Trm).kind = 0 ∧ _) (fun h => by
            have h1 : (k == 0) = true := beq_iff_eq.2 h.1
            have h2 : (un.toList == nm.toList) = true := beq_iff_eq.2 h.2
            rw [h1, h2] at hbk
            cases hbk)]))
        cases hk : (k == 0)
        · clear hbk
          go_wp2_with (first
            | (at_builtin
               refine wpList_append_trms rfl (.tmp 60) (.tmp 62) rfl w3.heap.size v _ _ 1 1 [⟨k, un.toList, x, ux.toList, l, r⟩] _ rfl rfl (HO.out.kept (HKB.out.alloc (by simp) _)) (Trms.one _ (by simp) (trm_cells2 _ _ _ _ _ _) HTS.out) (by simp; omega) (by omega) wr ((HKB.out.alloc (by simp) _).mono hzr) ?_
               intro v4 w4 ho hb
               have HO4 := Lib.hid ho
               have HB4 := Lib.hid (HBr.out.trans hb)
               clear ho hb)
            | fail)
          go_roundw
          case rel => exact ⟨j + 1, _, by omega, by go_num, rfl, Lib.hid (by rw [HPT.out]; exact HO4.out), HB4⟩
          case measure => simp [intOf]; omega
        · have hu : (un.toList == nm.toList) = false := by rw [hk] at hbk; exact hbk
          clear hbk
          go_wp2_with (first
            | (at_builtin
               refine wpList_append_trms rfl (.tmp 60) (.tmp 62) rfl w3.heap.size v _ _ 1 1 [⟨k, un.toList, x, ux.toList, l, r⟩] _ rfl rfl (HO.out.kept (HKB.out.alloc (by simp) _)) (Trms.one _ (by simp) (trm_cells2 _ _ _ _ _ _) HTS.out) (by simp; omega) (by omega) wr ((HKB.out.alloc (by simp) _).mono hzr) ?_
               intro v4 w4 ho hb
               have HO4 := Lib.hid ho
               have HB4 := Lib.hid (HBr.out.trans hb)
               clear ho hb)
            | fail)
          go_roundw
          case rel => exact ⟨j + 1, _, by omega, by go_num, rfl, Lib.hid (by rw [HPT.out]; exact HO4.out), HB4⟩
          case measure => simp [intOf]; omega
      · have HPT := Lib.hid (HAT.out.trans (show _ ++ [putT nm.toList m ⟨k, un.toList, x, ux.toList, l, r⟩] = (L.take j).map (putT nm.toList m) ++ [⟨1, [], m, [], -1, -1⟩] by
          unfold putT
          rw [if_pos (c := (⟨k, un.toList, x, ux.toList, l, r⟩ : Trm).kind = 0 ∧ _) ⟨beq_iff_eq.1 hk, beq_iff_eq.1 hu⟩]))
        have HX := Lib.hid (BoxU.new wr (.int .i64 k) (.string un) (.int .i64 x) (.string ux) (.int .i64 l) (.int .i64 r))
        go_wp2_with (first
          | (go_at_call 30; (with_reducible refine (num_any _ _).mono ?_)
             rintro e w5 ⟨rfl, hb⟩
             have HK5 := Lib.hid (below_on HKB.out hb)
             obtain ⟨⟨x0, x1, x2, x3, x4, x5⟩, f0, f1, f2, f3, f4, f5⟩ := (HX.out.on hb).cells
             clear hb)
          | (at_builtin
             refine wpList_append_trms rfl (.tmp 60) (.tmp 62) rfl w3.heap.size v _ _ 1 1 [⟨1, [], m, [], -1, -1⟩] _ rfl rfl (HO.out.kept (((((((HK5.out.setCell (Nat.le_refl _) _).setCell (Nat.le_refl _) _).setCell (Nat.le_refl _) _).setCell (Nat.le_refl _) _).setCell (Nat.le_refl _) _).setCell (Nat.le_refl _) _).alloc (by have := HK5.out.size; simp; omega) _)) (Trms.one _ (by simp) rfl ⟨Nat.zero_le _, Nat.zero_le _⟩) (by have := HK5.out.size; simp; omega) (by omega) wr ((((((((HK5.out.setCell (Nat.le_refl _) _).setCell (Nat.le_refl _) _).setCell (Nat.le_refl _) _).setCell (Nat.le_refl _) _).setCell (Nat.le_refl _) _).setCell (Nat.le_refl _) _).alloc (by have := HK5.out.size; simp; omega) _).mono hzr) ?_
             intro v4 w4 ho hb
             have HO4 := Lib.hid ho
             have HB4 := Lib.hid (HBr.out.trans hb)
             clear ho hb)
          | fail)
        go_roundw
        case rel => exact ⟨j + 1, _, by omega, by go_num, rfl, Lib.hid (by rw [HPT.out]; exact HO4.out), HB4⟩
        case measure => simp [intOf]; omega
    · have hown : TOwn wr w3.heap.size v (L.map (putT nm.toList m)) := by
        have h := HO.out
        rw [List.take_of_length_le (by have := HN.out; omega)] at h
        exact h
      obtain ⟨pa, pc, hpv, hpt⟩ := hown.sees (by have := HN.out; rw [List.length_map]; omega) (putT_short HL.out.2.2.1)
      have hml : (L.map (putT nm.toList m)).length = n := by rw [List.length_map]; exact HN.out
      rw [hml] at hpv hpt
      subst hpv
      have HP := Lib.hid hpt
      have HMY := Lib.hid (mayF_of (putE_good nm.toList m HG.out))
      have HHS := Lib.hid (puts_vars HG.out nm.toList m)
      have HVAL := Lib.hid (puts_val HG.out nm.toList m env)
      have HL3 := Lib.hid (HL2.out.on HBr.out)
      have HE3 := Lib.hid (HE2.out.on HBr.out)
      obtain ⟨PL, hPL⟩ : ∃ PL, L.map (putT nm.toList m) = PL := ⟨_, rfl⟩
      rw [hPL] at HP HMY HHS HVAL
      obtain ⟨R, hR⟩ : ∃ R, evalF L root ((nm.toList, intV m) :: env) = R := ⟨_, rfl⟩
      rw [hR] at HVAL
      have HER := Lib.hid hR
      obtain ⟨V, hV⟩ : ∃ V, varsF PL root = V := ⟨_, rfl⟩
      rw [hV] at HHS
      have HVR := Lib.hid hV
      clear hR hV hPL hml hpt hown
      obtain ⟨⟨vk, vn2, vt, vl⟩, er⟩ := R
      have HSV := Lib.hid (sameV_self ⟨vk, vn2, vt, vl⟩)
      have HBX := Lib.hid (Below.refl wr.heap.size wr)
      have HBW := Lib.hid (HB.out.trans (HBr.out.mono HB.out.size))
      have hle := HN1.out
      have HRE := Lib.hid (BRow.of_binds (HE3.out.below (next_alloc wr (.cells #[.string nm, .int .i64 1, .int .i64 m, .string ⟨#[]⟩, .slice none 0 0] 43))))
      have HOB := Lib.hid (BOwn.one (W := wr) (cs := #[.string nm, .int .i64 1, .int .i64 m, .string ⟨#[]⟩, .slice none 0 0]) (base := wr.heap.size) (bound := wr.heap.size) (g := wr.heap.size) ⟨nm, 1, m, ⟨#[]⟩, none, 0, 0⟩ (nm.toList, intV m) rfl rfl (Nat.le_refl _) (Nat.le_refl _) ⟨rfl, rfl, rfl, empty_toList, Nums.zero _ _ _⟩)
      go_wp2_with (first
        | (at_builtin
           refine wpList_append_binds rfl (.tmp 71) (.tmp 72) rfl wr.heap.size wr.heap.size _ [(nm.toList, intV m)] ea en ec env rfl rfl HOB.out HRE.out (by simp) (Nat.le_refl _) (by simp; omega) ?_
           intro v4 w4 ho hb
           obtain ⟨ba, bc, hbv, hbs⟩ := ho.sees (by simp; omega) (by have := hb.size; simp at this; omega)
           obtain ⟨bl, hbl⟩ : ∃ bl, ([(nm.toList, intV m)] ++ env).length = bl := ⟨_, rfl⟩
           rw [hbl] at hbv hbs
           subst hbv
           have HBB := Lib.hid hbs
           have HBX := Lib.hid ((next_alloc wr _).trans hb)
           clear ho hb hbs hbl)
        | (go_at_call 17; (with_reducible refine (termEval_any a n c L root ba bl bc ([(nm.toList, intV m)] ++ env) _ _ (Nat.le_refl _) (HL3.out.on HBX.out) HBB.out).mono ?_)
           rintro e wv ⟨⟨s1, a1, n1, c1, he, hv, hf⟩, hb⟩
           rw [show evalF L root ([(nm.toList, intV m)] ++ env) = _ from HER.out] at he hv
           subst he
           have HBX := Lib.hid (below_on (below_on HBX.out hb) (next_alloc wv (.cells #[.int .i64 vk, .int .i64 vn2, .string s1, .slice a1 n1 c1] 33)))
           have HN1 := Lib.hid (hv.2.on (next_alloc wv (.cells #[.int .i64 vk, .int .i64 vn2, .string s1, .slice a1 n1 c1] 33)))
           have HS1 := Lib.hid hv.1
           have HX1 := Lib.hid (BoxV.new wv (.int .i64 vk) (.int .i64 vn2) (.string s1) (.slice a1 n1 c1))
           clear hv hf hb)
        | (go_at_call 17; (with_reducible refine (termEval_any pa n pc PL root ea en ec env _ _ (Nat.le_refl _) (HP.out.on HBX.out) (HE3.out.on HBX.out)).mono ?_)
           rintro e wu ⟨⟨s2, a2, n2, c2, he, hv, hf⟩, hb⟩
           rw [HVAL.out] at he hv
           subst he
           have HBX := Lib.hid (below_on (below_on HBX.out hb) (next_alloc wu (.cells #[.int .i64 vk, .int .i64 vn2, .string s2, .slice a2 n2 c2] 33)))
           have HN1 := Lib.hid ((HN1.out.on hb).on (next_alloc wu (.cells #[.int .i64 vk, .int .i64 vn2, .string s2, .slice a2 n2 c2] 33)))
           have HX1 := Lib.hid ((HX1.out.on hb).on (next_alloc wu (.cells #[.int .i64 vk, .int .i64 vn2, .string s2, .slice a2 n2 c2] 33)))
           have HN2 := Lib.hid (hv.2.on (next_alloc wu (.cells #[.int .i64 vk, .int .i64 vn2, .string s2, .slice a2 n2 c2] 33)))
           have HS2 := Lib.hid hv.1
           have HX2 := Lib.hid (BoxV.new wu (.int .i64 vk) (.int .i64 vn2) (.string s2) (.slice a2 n2 c2))
           clear hv hf hb)
        | (go_at_call 15; (with_reducible refine (termMay_any pa n pc PL root _ _ (Nat.le_refl _) (HP.out.on HBX.out)).mono ?_)
           rintro e w5 ⟨he, hb⟩
           rw [HMY.out] at he
           subst he
           have HBX := Lib.hid (below_on HBX.out hb)
           have HN1 := Lib.hid (HN1.out.on hb)
           have HX1 := Lib.hid (HX1.out.on hb)
           have HN2 := Lib.hid (HN2.out.on hb)
           have HX2 := Lib.hid (HX2.out.on hb)
           obtain ⟨⟨x0, x1, x2, x3⟩, _⟩ := HX1.out.cells
           obtain ⟨⟨y0, y1, y2, y3⟩, _⟩ := HX2.out.cells
           clear hb)
        | (go_at_call 18; (with_reducible refine (dataSame_any vk vn2 s1 a1 n1 c1 vl vk vn2 s2 a2 n2 c2 vl _ _ (Nat.le_refl _) HN1.out HN2.out).mono ?_)
           rintro e w6 ⟨he, hb⟩
           rw [HS1.out, HS2.out, HSV.out] at he
           subst he
           have HBX := Lib.hid (below_on HBX.out hb)
           clear hb)
        | (go_at_call 25; (with_reducible refine (termVars_any pa n pc PL root _ _ (Nat.le_refl _) (HP.out.on HBX.out)).mono ?_)
           rintro e wa ⟨⟨p1, p2, p3, rfl, hs, _⟩, hb⟩
           rw [HVR.out] at hs
           have HBX := Lib.hid (below_on HBX.out hb)
           have HPS := Lib.hid hs
           clear hs hb)
        | (go_at_call 28; (with_reducible refine (has_any p1 p2 p3 V nm _ _ HPS.out).mono ?_)
           rintro e wb ⟨he, rfl⟩
           rw [HHS.out] at he
           subst he)
        | fail)
      go_ret
      exact ⟨rfl, below_on HBW.out HBX.out⟩
end Go.Proofs.Ythchilnibblbgaa
