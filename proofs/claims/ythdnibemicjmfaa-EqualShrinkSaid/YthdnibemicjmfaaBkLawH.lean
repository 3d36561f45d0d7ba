/- Law: EqualShrink. (Printed by gen/gen10.py.) -/
import Derived.Test.YthdnibemicjmfaaBkMake
import Derived.Test.YthdnibemicjmfaaBkShr
import Derived.Deep.RegionHeld3
import Derived.Deep.DeepCutAuto
import Derived.Deep.CutBlock
import Derived.Test.YthdnibemicjmfaaBkRefS
namespace Go.Proofs.Ythdnibemicjmfaa
open Go.RowKit Go.Sort

theorem least_ex (P : Nat → Prop) : ∀ n, P n → ∃ m, P m ∧ ∀ k, P k → m ≤ k := by
  intro n
  induction n using Nat.strongRecOn with
  | ind n ih =>
    intro hn
    by_cases h : ∃ k, k < n ∧ P k
    · obtain ⟨k, hk, hp⟩ := h
      exact ih k hk hp
    · exact ⟨n, hn, fun k hp => Nat.le_of_not_lt fun hlt => h ⟨k, hlt, hp⟩⟩
theorem isCl_ex {ns : List NodeL} (hc : Closed ns) : ∃ cl, IsCl ns cl := by
  have h : ∀ i : Nat, ∃ m, i < ns.length → Eqv ns m i ∧ ∀ k, Eqv ns k i → m ≤ k := fun i => by
    by_cases hi : i < ns.length
    · obtain ⟨m, h1, h2⟩ := least_ex (fun k => Eqv ns k i) i (eqv_refl hc hi)
      exact ⟨m, fun _ => ⟨h1, h2⟩⟩
    · exact ⟨0, fun h => absurd h hi⟩
  refine ⟨(List.range ns.length).map fun i => Classical.choose (h i), by simp, fun i hi => ?_⟩
  have e : ((List.range ns.length).map fun i => Classical.choose (h i)).getD i 0 = Classical.choose (h i) := by
    rw [List.getD_eq_getElem?_getD, List.getElem?_map, List.getElem?_range hi]
    rfl
  rw [e]
  exact Classical.choose_spec (h i) hi
theorem arms_few10 {ns : List NodeL} (h : NodesOk ns) {x : Nat} {a : NodeL} (ha : ns[x]? = some a) : a.arms.length ≤ 6 := by
  rcases nodeB_arms (h.2 x a ha) with h0 | h1
  · rw [h0]; exact Nat.zero_le _
  · unfold edgesB at h1
    simp only [Bool.and_eq_true, decide_eq_true_eq] at h1
    exact h1.2
theorem shrQ_ok {b : BookL} {cl : List Nat} (h : bookB b = true) : shrQ b cl = shrB cl b := by unfold shrQ; rw [if_pos h]
theorem rank_le (cl : List Nat) (n : Nat) : rankP cl n ≤ n := by
  unfold rankP keepP
  have := List.length_filter_le (isRep cl) (List.range n)
  rwa [List.length_range] at this
set_option maxHeartbeats 32000000 in
set_option maxRecDepth 40000 in
theorem equalShrink_walk (a : Option Addr) (n c : Nat) (l : List Int) (a' : Option Addr) (n' c' : Nat) (l' : List Int) (w : World) (h : Nums w w.heap.size a n l) (hlim : n * 8 ≤ 140737488351232) (h' : Nums w w.heap.size a' n' l') (_hlim' : n' * 8 ≤ 140737488351232) :
    Calls Try.prog 6 #[.slice a n c, .slice a' n' c'] w fun e w' => e = .returned (.bool true) ∧ Below w.heap.size w w' := by
  have HN := Lib.hid h
  have HF := Lib.hid (first10_any w)
  have HLP := Lib.hid loop10_any
  have hn0 := h.1
  have HLN := Lib.hid hn0
  have HN' := Lib.hid h'
  clear h hn0 h'
  go_enter Try.func6, Try.ntmps6
  go_upto_region 4 with (first
    | (go_at_call 8; (with_reducible refine HF.out.mono ?_)
       rintro e w1 ⟨rfl, hb1⟩
       have HB1 := Lib.hid hb1
       clear hb1)
    | (go_at_call 19; (with_reducible refine (HLP.out w1).mono ?_)
       rintro e w2 ⟨⟨pa, pn, pc, qa, qn, qc, ua, un, uc, rfl, _⟩, hb2⟩
       have HB2 := Lib.hid (below_on HB1.out hb2)
       clear hb2)
    | (at_builtin
       refine wpList_append_plus10 rfl (.tmp 19) (.tmp 20) rfl w2.heap.size w.heap.size (.slice (some ⟨w2.heap.size, 0, none⟩) 1 1) a n c [5] l rfl rfl (IInts.one (W := w2) (cs := #[.int .i64 5]) (base := w2.heap.size) (g := w2.heap.size) 5 rfl rfl (Nat.le_refl _)) ((HN.out.below HB2.out).alloc HB2.out.size _) (by show (1 + n) * 8 ≤ _; omega) (by simp) ?_
       intro v3 w3 hown hgr
       obtain ⟨ma, mc, hv, _, _, _, hnu⟩ := hown.sees
       obtain ⟨mn, hmn⟩ : ∃ mn, mn = ([5] ++ l : List Int).length := ⟨_, rfl⟩
       rw [← hmn] at hv hnu
       subst hv
       have hml : mn * 8 ≤ 140737488355328 := by rw [hmn, List.length_append, HLN.out]; show (1 + n) * 8 ≤ _; omega
       have hm0 : 0 < mn := by rw [hmn]; simp
       clear hmn
       have HNU := Lib.hid hnu
       have HB3 := Lib.hid ((HB2.out.alloc HB2.out.size (.cells #[.int .i64 5] 3)).grown hgr (by have := HB2.out.size; simp; omega) (fun j e => by cases e; exact HB2.out.size))
       clear hown hgr hnu)
    | (go_at_call 10; (with_reducible refine (made10_pos pa pn pc qa qn qc ua un uc ma mn mc _ w3 w3.heap.size (Nat.le_refl _) HNU.out hm0 hml).mono ?_)
       rintro e w4 ⟨⟨na, nn, nc, sa, sc, ra, rc, b, rfl, hin, hok, h1, h8⟩, hb4⟩
       have HB4 := Lib.hid (below_on HB3.out hb4)
       have HIN := Lib.hid hin
       have HOK := Lib.hid (And.intro hok (And.intro h1 h8))
       clear hin hok hb4 h1 h8)
    | fail)
  have HG := Lib.hid (show LB10 w (w4.alloc (.cells #[.slice na nn nc, .slice sa 2 sc, .slice ra 2 rc] 26)) w4.heap.size na nn nc sa sc ra rc b from
    ⟨heap_alloc_new w4 _, HIN.out.on (tu1 w4 _), HOK.out.1, HOK.out.2.1, HOK.out.2.2, below_on HB4.out (tu1 w4 _)⟩)
  generalize hg5 : w4.heap.size = g5 at HG ⊢
  generalize hw5 : w4.alloc (.cells #[.slice na nn nc, .slice sa 2 sc, .slice ra 2 rc] 26) = w5 at HG ⊢
  clear hg5 hw5 HIN HOK HB4 HB3 HNU HB2 HB1 HF HLP HN hml hm0
  obtain ⟨gc0, gc1, gc2⟩ := HG.out.cells
  have hn1 := HG.out.one
  have hn8 := HG.out.few
  obtain ⟨hok, _⟩ := bookB_ok HG.out.ok
  have HOK := Lib.hid hok
  clear hok
  obtain ⟨cl, hcl⟩ := isCl_ex HOK.out.closed
  have HIS := Lib.hid hcl
  have CS := Lib.hid (shrink_any na nn nc sa 2 sc ra 2 rc b cl w5 _ (Nat.le_refl _) (by omega) HG.out.bk ⟨fun _ => hcl, fun e => by rw [HG.out.ok] at e; cases e⟩)
  go_upto_region 5 with (first
    | (go_at_call 17; (with_reducible refine CS.out.mono ?_)
       rintro e w6 ⟨⟨ma, mn, mc, ta, tn, tc, ua, un, uc, rfl, hin⟩, hb6⟩
       have HB6 := Lib.hid hb6
       clear hb6)
    | fail)
  rw [shrQ_ok HG.out.ok] at hin
  have hlen := HG.out.len
  have hs0 : (shrB cl b).nodes.length = rankP cl b.nodes.length := shrN_len
  have hm0 : (shrB cl b).nodes.length = mn := hin.nodes.1
  have hmn : mn ≤ nn := by have := rank_le cl b.nodes.length; omega
  have hm1 : 1 ≤ mn := by
    have h1 : idxC cl 0 < (shrB cl b).nodes.length := idxC_lt hcl (by omega)
    omega
  have ht : tn = 2 := hin.names.1.symm.trans HG.out.bk.names.1
  have hu : un = 2 := hin.roots.1.symm.trans ((List.length_map ..).trans HG.out.bk.roots.1)
  subst ht hu
  have HSN := Lib.hid (show (shrB cl b).names = b.names from rfl)
  have HHOM := Lib.hid (show Hom b.nodes (shrB cl b).nodes (idxC cl) from shr_hom hcl)
  have HLT := Lib.hid (show ∀ i, i < nn → idxC cl i < mn from fun i hi => by
    have h1 : idxC cl i < (shrB cl b).nodes.length := idxC_lt hcl (by omega)
    omega)
  have HRT := Lib.hid (show ∀ (j : Nat) (x : Int), b.roots[j]? = some x → ∃ p : Nat, p < nn ∧ x = (p : Int) ∧ (shrB cl b).roots[j]? = some ((idxC cl p : Nat) : Int) from fun j x hx => by
    obtain ⟨_, _, _, h4⟩ := bookB_ok HG.out.ok
    obtain ⟨h5, h6⟩ := h4 x (List.mem_of_getElem? hx)
    obtain ⟨p, rfl⟩ := Int.eq_ofNat_of_zero_le h5
    rw [Int.toNat_natCast] at h6
    refine ⟨p, by omega, rfl, ?_⟩
    show (b.roots.map fun r => (idxC cl r.toNat : Int))[j]? = _
    rw [List.getElem?_map, hx]
    rfl)
  have hsok : bookB (shrB cl b) = true := shrB_ok hcl HG.out.ok
  have HAL := Lib.hid (show ∀ x y, Eqv (shrB cl b).nodes x y → x = y from fun x y e => shr_alone hcl HOK.out e)
  generalize shrB cl b = s at hin hs0 hm0 HSN HHOM HRT hsok HAL
  obtain ⟨hoks, _⟩ := bookB_ok hsok
  have hids : IsCl s.nodes (idsP mn) := by
    have h1 := isCl_ids hoks.closed HAL.out
    rwa [hm0] at h1
  have HID := Lib.hid hids
  have HIB := Lib.hid (show shrB (idsP mn) s = s by rw [← hm0]; exact shrB_ids hsok)
  have HL0 := Lib.hid (show LB10 w (w6.alloc (.cells #[.slice ma mn mc, .slice ta 2 tc, .slice ua 2 uc] 26)) w6.heap.size ma mn mc ta tc ua uc s from
    ⟨heap_alloc_new w6 _, hin.on (tu1 w6 _), hsok, hm1, Nat.le_trans hmn hn8, below_on (below_on HG.out.bel HB6.out) (tu1 w6 _)⟩)
  have HGb := Lib.hid (HG.out.on (below_on HB6.out (tu1 w6 (.cells #[.slice ma mn mc, .slice ta 2 tc, .slice ua 2 uc] 26))))
  have HOKs := Lib.hid hoks
  clear hids hin hs0 hm0 hsok hoks hlen hcl CS
  generalize hg7 : w6.heap.size = g7 at HL0 ⊢
  generalize hw7 : w6.alloc (.cells #[.slice ma mn mc, .slice ta 2 tc, .slice ua 2 uc] 26) = w7 at HL0 HGb ⊢
  clear hg7 hw7 HB6 HG gc0 gc1 gc2
  obtain ⟨gd0, gd1, gd2⟩ := HL0.out.cells
  go_wp2_with (first
    | (go_at_call 14; (with_reducible refine HL0.out.classes.mono ?_)
       rintro e w8 ⟨⟨ca, cn, cc, cl2, rfl, hn8, hc8⟩, hb8⟩
       have hcl2 := (hc8.1 HL0.out.ok).only HID.out
       subst hcl2
       have hcn : cn = mn := by have h1 := hn8.1; rw [rowI_len] at h1; rw [← h1]; unfold idsP; exact List.length_range
       subst hcn
       have HN8 := Lib.hid hn8
       have HG8 := Lib.hid (HGb.out.on hb8)
       have HL8 := Lib.hid (HL0.out.on hb8)
       clear hn8 hc8 hb8)
    | fail)
  clear gd0 gd1 gd2 HGb HL0
  go_loopw [8] (fun i wx => ∃ k : Nat, k ≤ cn ∧ i = .int .i64 k ∧ Hid (Below w8.heap.size w8 wx)) (fun i _ => cn - (intOf i).toNat)
  case atStart => exact ⟨0, Nat.zero_le _, rfl, Lib.hid (Below.refl _ _)⟩
  case round =>
    obtain ⟨k, hk, rfl, HBx⟩ := hrel
    obtain ⟨wq, hwq⟩ : ∃ wq : World, wq = wr := ⟨_, rfl⟩
    subst hwq
    by_cases hkn : k < cn
    · obtain ⟨cb, co, rfl, _, hcc⟩ := cls_at (HN8.out.below HBx.out) hkn
      rw [idsP_at hkn] at hcc
      have i1 : (k : Int) < (cn : Int) := by omega
      have i2 : (0 : Int) ≤ (k : Int) := by omega
      have n1 : ((k : Int) != (k : Int)) = false := by simp
      have d1 : decide ((k : Int) < (cn : Int)) = true := decide_eq_true i1
      go_wp2_with fail
      go_roundw
      case rel => exact ⟨k + 1, by omega, by go_num, HBx⟩
      case measure => simp [intOf]; omega
    · have d1 : decide ((k : Int) < (cn : Int)) = false := decide_eq_false (by omega)
      have HGq := Lib.hid (HG8.out.on HBx.out)
      have HLq := Lib.hid (HL8.out.on HBx.out)
      go_upto_region 11 with fail
      clear d1 hkn hk HBx HN8
      go_cut [73] (fun s wx => s = .bool false ∧ Hid (Below wq.heap.size wq wx))
      case first =>
        have HXd := Lib.hid (show Below wq.heap.size wq (wq.drewN 1) from bel_drewN (Below.refl _ _) 1)
        generalize hwd : wq.drewN 1 = wd at HXd
        have hwd2 : wq.drew = wd := hwd
        clear hwd
        have HS3 := Lib.hid (fun (W : World) (hW : Below wq.heap.size wq W) => show (W.cell? ⟨g5, 0, none⟩ = some (.slice na nn nc) ∧ W.cell? ⟨g5, 1, none⟩ = some (.slice sa 2 sc) ∧ W.cell? ⟨g5, 2, none⟩ = some (.slice ra 2 rc)) ∧ (W.cell? ⟨g7, 0, none⟩ = some (.slice ma cn mc) ∧ W.cell? ⟨g7, 1, none⟩ = some (.slice ta 2 tc) ∧ W.cell? ⟨g7, 2, none⟩ = some (.slice ua 2 uc)) from ⟨(HGq.out.on hW).cells, (HLq.out.on hW).cells⟩)
        have g1 : decide ((nn : Int) < (cn : Int)) = false := decide_eq_false (by omega)
        have g3 : decide (nn < cn) = false := decide_eq_false (by omega)
        have g2 : ((cn : Int) != (cn : Int)) = false := by simp
        have hHD := HS3.out _ HXd.out
        refine wp_region_held_drew (S := fun W => (W.cell? ⟨g5, 0, none⟩ = some (.slice na nn nc) ∧ W.cell? ⟨g5, 1, none⟩ = some (.slice sa 2 sc) ∧ W.cell? ⟨g5, 2, none⟩ = some (.slice ra 2 rc)) ∧ (W.cell? ⟨g7, 0, none⟩ = some (.slice ma cn mc) ∧ W.cell? ⟨g7, 1, none⟩ = some (.slice ta 2 tc) ∧ W.cell? ⟨g7, 2, none⟩ = some (.slice ua 2 uc))) (by kernel_rfl) (by rw [hwd2]; exact hHD) (fun hHeld => ?_)
        rw [hwd2]
        rw [hwd2] at hHeld
        clear hHD
        try simp only [Act.put, List.setIfInBounds_toArray]
        refine' wpAnyH_take (i := 0) (v := _) rfl (by kernel_rfl) (by kernel_rfl) (by kernel_rfl) (fun _ _ _ h => h) (Or.inl ⟨by kernel_rfl, ?hye0⟩) (by assumption) ?reste0
        case hye0 =>
          intro W hSw
          (try dsimp only at hSw)
          first | (go_simp; done) | (go_simp; with_reducible rfl)
        try simp only [Act.put, List.setIfInBounds_toArray]
        refine wpAnyH_ready (rs := [1]) (by kernel_rfl) (by simp) ?_
        refine AllReadyH.cons (i := 1) (o := _) rfl (fun K hK => ?_) AllReadyH.nil
        go_simp
        go_at_call 20
        have hsm := bookMay_any ma cn mc ta 2 tc ua 2 uc s wd wd.heap.size (Nat.le_refl _) (HLq.out.on HXd.out).bk
        rw [(HLq.out).ok] at hsm
        with_reducible refine hsm.mono ?_
        rintro e w11 ⟨rfl, hb⟩
        have HX11 := Lib.hid (below_on HXd.out hb)
        clear hb hsm
        refine hK.out _ _ (HS3.out _ HX11.out) (fun hHeld => ?_)
        clear hK K
        try simp only [Act.put, List.setIfInBounds_toArray]
        refine' wpAnyH_take (i := 2) (v := _) rfl (by kernel_rfl) (by kernel_rfl) (by kernel_rfl) (fun _ _ _ h => h) (Or.inl ⟨by kernel_rfl, ?hye2⟩) (by assumption) ?reste2
        case hye2 =>
          intro W hSw
          (try dsimp only at hSw)
          first | (go_simp; done) | (go_simp; with_reducible rfl)
        try simp only [Act.put]
        refine' wpAnyH_take (i := 3) (v := _) rfl (by kernel_rfl) (by kernel_rfl) (by kernel_rfl) (fun _ _ _ h => h) (Or.inl ⟨by kernel_rfl, ?hye3⟩) (by assumption) ?reste3
        case hye3 =>
          intro W hSw
          (try dsimp only at hSw)
          first | (go_simp; done) | (go_simp; with_reducible rfl)
        try simp only [Act.put]
        refine' wpAnyH_take (i := 4) (v := _) rfl (by kernel_rfl) (by kernel_rfl) (by kernel_rfl) (fun _ _ _ h => h) (Or.inl ⟨by kernel_rfl, ?hye4⟩) (by assumption) ?reste4
        case hye4 =>
          intro W hSw
          (try dsimp only at hSw)
          first | (go_simp; done) | (go_simp; with_reducible rfl)
        try simp only [Act.put]
        refine' wpAnyH_take (i := 5) (v := _) rfl (by kernel_rfl) (by kernel_rfl) (by kernel_rfl) (fun _ _ _ h => h) (Or.inl ⟨by kernel_rfl, ?hye5⟩) (by assumption) ?reste5
        case hye5 =>
          intro W hSw
          (try dsimp only at hSw)
          first | (go_simp; done) | (go_simp; with_reducible rfl)
        try simp only [Act.put]
        refine' wpAnyH_take (i := 6) (v := _) rfl (by kernel_rfl) (by kernel_rfl) (by kernel_rfl) (fun _ _ _ h => h) (Or.inl ⟨by kernel_rfl, ?hye6⟩) (by assumption) ?reste6
        case hye6 =>
          intro W hSw
          (try dsimp only at hSw)
          first | (go_simp; done) | (go_simp; with_reducible rfl)
        try simp only [Act.put]
        refine' wpAnyH_take (i := 7) (v := _) rfl (by kernel_rfl) (by kernel_rfl) (by kernel_rfl) (fun _ _ _ h => h) (Or.inl ⟨by kernel_rfl, ?hye7⟩) (by assumption) ?reste7
        case hye7 =>
          intro W hSw
          (try dsimp only at hSw)
          first | (go_simp; done) | (go_simp; with_reducible rfl)
        try simp only [Act.put]
        refine' wpAnyH_take (i := 8) (v := _) rfl (by kernel_rfl) (by kernel_rfl) (by kernel_rfl) (fun _ _ _ h => h) (Or.inl ⟨by kernel_rfl, ?hye8⟩) (by assumption) ?reste8
        case hye8 =>
          intro W hSw
          (try dsimp only at hSw)
          first | (go_simp; done) | (go_simp; with_reducible rfl)
        try simp only [Act.put]
        refine' wpAnyH_take (i := 9) (v := _) rfl (by kernel_rfl) (by kernel_rfl) (by kernel_rfl) (fun _ _ _ h => h) (Or.inl ⟨by kernel_rfl, ?hye9⟩) (by assumption) ?reste9
        case hye9 =>
          intro W hSw
          (try dsimp only at hSw)
          first | (go_simp; done) | (go_simp; with_reducible rfl)
        try simp only [Act.put]
        refine' wpAnyH_take (i := 10) (v := _) rfl (by kernel_rfl) (by kernel_rfl) (by kernel_rfl) (fun _ _ _ h => h) (Or.inl ⟨by kernel_rfl, ?hye10⟩) (by assumption) ?reste10
        case hye10 =>
          intro W hSw
          (try dsimp only at hSw)
          first | (go_simp; done) | (go_simp; with_reducible rfl)
        try simp only [Act.put, List.getElem_toArray, List.getElem_cons_succ, List.getElem_cons_zero, List.setIfInBounds_toArray, List.set_cons_succ, List.set_cons_zero]
        refine' wpAnyH_take (i := 11) (v := _) rfl (by kernel_rfl) (by kernel_rfl) (by kernel_rfl) (fun _ _ _ h => h) (Or.inl ⟨by kernel_rfl, ?hye11⟩) (by assumption) ?reste11
        case hye11 =>
          intro W hSw
          (try dsimp only at hSw)
          first | (go_simp; done) | (go_simp; with_reducible rfl)
        try simp only [Act.put]
        refine' wpAnyH_take (i := 12) (v := _) rfl (by kernel_rfl) (by kernel_rfl) (by kernel_rfl) (fun _ _ _ h => h) (Or.inl ⟨by kernel_rfl, ?hye12⟩) (by assumption) ?reste12
        case hye12 =>
          intro W hSw
          (try dsimp only at hSw)
          first | (go_simp; done) | (go_simp; with_reducible rfl)
        try simp only [Act.put]
        refine' wpAnyH_take (i := 13) (v := _) rfl (by kernel_rfl) (by kernel_rfl) (by kernel_rfl) (fun _ _ _ h => h) (Or.inl ⟨by kernel_rfl, ?hye13⟩) (by assumption) ?reste13
        case hye13 =>
          intro W hSw
          (try dsimp only at hSw)
          first | (go_simp; done) | (go_simp; with_reducible rfl)
        try simp only [Act.put]
        refine' wpAnyH_take (i := 14) (v := _) rfl (by kernel_rfl) (by kernel_rfl) (by kernel_rfl) (fun _ _ _ h => h) (Or.inl ⟨by kernel_rfl, ?hye14⟩) (by assumption) ?reste14
        case hye14 =>
          intro W hSw
          (try dsimp only at hSw)
          first | (go_simp; done) | (go_simp; with_reducible rfl)
        try simp only [Act.put]
        refine' wpAnyH_take (i := 15) (v := _) rfl (by kernel_rfl) (by kernel_rfl) (by kernel_rfl) (fun _ _ _ h => h) (Or.inl ⟨by kernel_rfl, ?hye15⟩) (by assumption) ?reste15
        case hye15 =>
          intro W hSw
          (try dsimp only at hSw)
          first | (go_simp; done) | (go_simp; with_reducible rfl)
        try simp only [Act.put]
        refine' wpAnyH_take (i := 16) (v := _) rfl (by kernel_rfl) (by kernel_rfl) (by kernel_rfl) (fun _ _ _ h => h) (Or.inl ⟨by kernel_rfl, ?hye16⟩) (by assumption) ?reste16
        case hye16 =>
          intro W hSw
          (try dsimp only at hSw)
          first | (go_simp; done) | (go_simp; with_reducible rfl)
        try simp only [Act.put]
        refine' wpAnyH_take (i := 17) (v := _) rfl (by kernel_rfl) (by kernel_rfl) (by kernel_rfl) (fun _ _ _ h => h) (Or.inl ⟨by kernel_rfl, ?hye17⟩) (by assumption) ?reste17
        case hye17 =>
          intro W hSw
          (try dsimp only at hSw)
          first | (go_simp; done) | (go_simp; with_reducible rfl)
        try simp only [Act.put]
        refine' wpAnyH_take (i := 18) (v := _) rfl (by kernel_rfl) (by kernel_rfl) (by kernel_rfl) (fun _ _ _ h => h) (Or.inl ⟨by kernel_rfl, ?hye18⟩) (by assumption) ?reste18
        case hye18 =>
          intro W hSw
          (try dsimp only at hSw)
          first | (go_simp; done) | (go_simp; with_reducible rfl)
        try simp only [Act.put]
        refine' wpAnyH_take (i := 19) (v := _) rfl (by kernel_rfl) (by kernel_rfl) (by kernel_rfl) (fun _ _ _ h => h) (Or.inl ⟨by kernel_rfl, ?hye19⟩) (by assumption) ?reste19
        case hye19 =>
          intro W hSw
          (try dsimp only at hSw)
          first | (go_simp; done) | (go_simp; with_reducible rfl)
        try simp only [Act.put]
        refine' wpAnyH_take (i := 20) (v := _) rfl (by kernel_rfl) (by kernel_rfl) (by kernel_rfl) (fun _ _ _ h => h) (Or.inl ⟨by kernel_rfl, ?hye20⟩) (by assumption) ?reste20
        case hye20 =>
          intro W hSw
          (try dsimp only at hSw)
          first | (go_simp; done) | (go_simp; with_reducible rfl)
        try simp only [Act.put, List.getElem_toArray, List.getElem_cons_succ, List.getElem_cons_zero, List.setIfInBounds_toArray, List.set_cons_succ, List.set_cons_zero]
        refine' wpAnyH_take (i := 21) (v := _) rfl (by kernel_rfl) (by kernel_rfl) (by kernel_rfl) (fun _ _ _ h => h) (Or.inl ⟨by kernel_rfl, ?hye21⟩) (by assumption) ?reste21
        case hye21 =>
          intro W hSw
          (try dsimp only at hSw)
          first | (go_simp; done) | (go_simp; with_reducible rfl)
        try simp only [Act.put]
        refine' wpAnyH_take (i := 23) (v := _) rfl (by kernel_rfl) (by kernel_rfl) (by kernel_rfl) (fun _ _ _ h => h) (Or.inl ⟨by kernel_rfl, ?hye23⟩) (by assumption) ?reste23
        case hye23 =>
          intro W hSw
          (try dsimp only at hSw)
          first | (go_simp; done) | (go_simp; with_reducible rfl)
        try simp only [Act.put, List.setIfInBounds_toArray]
        refine wpAnyH_ready (rs := [22]) (by kernel_rfl) (by simp) ?_
        refine AllReadyH.cons (i := 22) (o := _) rfl (fun K hK => ?_) AllReadyH.nil
        go_simp
        go_at_call 17
        have hsm := shrink_any ma cn mc ta 2 tc ua 2 uc s (idsP cn) w11 _ (Nat.le_refl _) (by omega) (HLq.out.on HX11.out).bk ⟨fun _ => HID.out, fun e => by rw [HLq.out.ok] at e; cases e⟩
        rw [shrQ_ok HLq.out.ok, HIB.out] at hsm
        with_reducible refine hsm.mono ?_
        rintro e w22 ⟨⟨pa, pn, pc, qa, qn, qc, ia, inn, ic, rfl, hin⟩, hb⟩
        have HX22 := Lib.hid (below_on HX11.out hb)
        have HIN22 := Lib.hid hin
        clear hb hsm hin
        refine hK.out _ _ (HS3.out _ HX22.out) (fun hHeld => ?_)
        clear hK K
        try simp only [Act.put, List.setIfInBounds_toArray]
        refine wpAnyH_ready (rs := [24]) (by kernel_rfl) (by simp) ?_
        refine AllReadyH.cons (i := 24) (o := _) rfl (fun K hK => ?_) AllReadyH.nil
        go_simp
        go_at_call 16
        have hsm := sameBook_eq pa pn pc qa qn qc ia inn ic ma cn mc ta 2 tc ua 2 uc s w22 _ (Nat.le_refl _) HIN22.out (HLq.out.on HX22.out).bk
        with_reducible refine hsm.mono ?_
        rintro e w24 ⟨rfl, hb⟩
        have HX24 := Lib.hid (below_on HX22.out hb)
        clear hb hsm
        refine hK.out _ _ (HS3.out _ HX24.out) (fun hHeld => ?_)
        clear hK K
        try simp only [Act.put, List.setIfInBounds_toArray]
        refine' wpAnyH_take (i := 25) (v := _) rfl (by kernel_rfl) (by kernel_rfl) (by kernel_rfl) (fun _ _ _ h => h) (Or.inl ⟨by kernel_rfl, ?hye25⟩) (by assumption) ?reste25
        case hye25 =>
          intro W hSw
          (try dsimp only at hSw)
          first | (go_simp; done) | (go_simp; with_reducible rfl)
        try simp only [Act.put]
        refine' wpAnyH_take (i := 26) (v := _) rfl (by kernel_rfl) (by kernel_rfl) (by kernel_rfl) (fun _ _ _ h => h) (Or.inl ⟨by kernel_rfl, ?hye26⟩) (by assumption) ?reste26
        case hye26 =>
          intro W hSw
          (try dsimp only at hSw)
          first | (go_simp; done) | (go_simp; with_reducible rfl)
        try simp only [Act.put]
        refine' wpAnyH_take (i := 27) (v := _) rfl (by kernel_rfl) (by kernel_rfl) (by kernel_rfl) (fun _ _ _ h => h) (Or.inl ⟨by kernel_rfl, ?hye27⟩) (by assumption) ?reste27
        case hye27 =>
          intro W hSw
          (try dsimp only at hSw)
          first | (go_simp; done) | (go_simp; with_reducible rfl)
        try simp only [Act.put]
        refine' wpAnyH_take (i := 28) (v := _) rfl (by kernel_rfl) (by kernel_rfl) (by kernel_rfl) (fun _ _ _ h => h) (Or.inl ⟨by kernel_rfl, ?hye28⟩) (by assumption) ?reste28
        case hye28 =>
          intro W hSw
          (try dsimp only at hSw)
          first | (go_simp; done) | (go_simp; with_reducible rfl)
        try simp only [Act.put]
        refine' wpAnyH_take (i := 29) (v := _) rfl (by kernel_rfl) (by kernel_rfl) (by kernel_rfl) (fun _ _ _ h => h) (Or.inl ⟨by kernel_rfl, ?hye29⟩) (by assumption) ?reste29
        case hye29 =>
          intro W hSw
          (try dsimp only at hSw)
          first | (go_simp; done) | (go_simp; with_reducible rfl)
        try simp only [Act.put]
        refine' wpAnyH_take (i := 30) (v := _) rfl (by kernel_rfl) (by kernel_rfl) (by kernel_rfl) (fun _ _ _ h => h) (Or.inl ⟨by kernel_rfl, ?hye30⟩) (by assumption) ?reste30
        case hye30 =>
          intro W hSw
          (try dsimp only at hSw)
          first | (go_simp; done) | (go_simp; with_reducible rfl)
        try simp only [Act.put]
        refine' wpAnyH_take (i := 31) (v := _) rfl (by kernel_rfl) (by kernel_rfl) (by kernel_rfl) (fun _ _ _ h => h) (Or.inl ⟨by kernel_rfl, ?hye31⟩) (by assumption) ?reste31
        case hye31 =>
          intro W hSw
          (try dsimp only at hSw)
          first | (go_simp; done) | (go_simp; with_reducible rfl)
        try simp only [Act.put, List.setIfInBounds_toArray]
        refine wpAnyH_ready (rs := [32]) (by kernel_rfl) (by simp) ?_
        refine AllReadyH.cons (i := 32) (o := _) rfl (fun K hK => ?_) AllReadyH.nil
        go_simp
        go_at_call 21
        have hsm := same_any ta sa 2 2 tc sc s.names b.names w24 _ (HLq.out.on HX24.out).bk.names (HGq.out.on HX24.out).bk.names
        rw [HSN.out, decide_eq_true rfl] at hsm
        with_reducible refine hsm.mono ?_
        rintro e w32 ⟨rfl, q32, hq32⟩
        have HX32 := Lib.hid (show Below wq.heap.size wq w32 from by rw [hq32]; exact bel_drewN HX24.out q32)
        clear hsm hq32
        refine hK.out _ _ (HS3.out _ HX32.out) (fun hHeld => ?_)
        clear hK K
        try simp only [Act.put, List.setIfInBounds_toArray]
        refine' wpAnyH_take (i := 33) (v := _) rfl (by kernel_rfl) (by kernel_rfl) (by kernel_rfl) (fun _ _ _ h => h) (Or.inl ⟨by kernel_rfl, ?hye33⟩) (by assumption) ?reste33
        case hye33 =>
          intro W hSw
          (try dsimp only at hSw)
          first | (go_simp; done) | (go_simp; with_reducible rfl)
        try simp only [Act.put]
        refine' wpAnyH_take (i := 34) (v := _) rfl (by kernel_rfl) (by kernel_rfl) (by kernel_rfl) (fun _ _ _ h => h) (Or.inl ⟨by kernel_rfl, ?hye34⟩) (by assumption) ?reste34
        case hye34 =>
          intro W hSw
          (try dsimp only at hSw)
          first | (go_simp; done) | (go_simp; with_reducible rfl)
        try simp only [Act.put, List.setIfInBounds_toArray]
        refine wpAnyH_done (by kernel_rfl) ?_ _
        simp only [List.getElem_toArray, List.getElem_cons_succ, List.getElem_cons_zero, List.setIfInBounds_toArray, List.set_cons_succ, List.set_cons_zero]
        go_wp2_with fail
        go_meet
        case rel => exact ⟨rfl, HX32⟩
      case rest =>
        obtain ⟨rfl, HXc⟩ := hcut
        obtain ⟨wc2, hwc2⟩ : ∃ wc2 : World, wc2 = wc := ⟨_, rfl⟩
        subst hwc2
        have HGc := Lib.hid (HGq.out.on HXc.out)
        have HLc := Lib.hid (HLq.out.on HXc.out)
        clear HGq HLq HXc HG8 HL8
        go_wp2_with fail
        go_loopw [9] (fun i wx => ∃ k : Nat, k ≤ 2 ∧ i = .int .i64 k ∧ Hid (Below wc2.heap.size wc2 wx)) (fun i _ => 2 - (intOf i).toNat)
        case atStart => exact ⟨0, Nat.zero_le _, rfl, Lib.hid (Below.refl _ _)⟩
        case round =>
          obtain ⟨r, hr, rfl, HBr⟩ := hrel
          obtain ⟨wy, hwy⟩ : ∃ wy : World, wy = wr := ⟨_, rfl⟩
          subst hwy
          obtain ⟨gc0, gc1, gc2⟩ := (HGc.out.on HBr.out).cells
          by_cases hr2 : r < 2
          · have d1 : decide ((r : Int) < 2) = true := decide_eq_true (by omega)
            have i1 : (r : Int) < 2 := by omega
            have i2 : (0 : Int) ≤ (r : Int) := by omega
            obtain ⟨gd0, gd1, gd2⟩ := (HLc.out.on HBr.out).cells
            obtain ⟨rb, ro, x, ex, _, hx, hcx⟩ := (HGc.out.on HBr.out).bk.roots.at_ hr2
            obtain ⟨tb, tt, y, ey, _, hy, hcy⟩ := (HLc.out.on HBr.out).bk.roots.at_ hr2
            subst ex ey
            obtain ⟨p, hp, rfl, hpy⟩ := HRT.out r x hx
            rw [hy] at hpy
            obtain rfl := Option.some.inj hpy
            obtain ⟨q, hq⟩ : ∃ q, q = idxC cl p := ⟨_, rfl⟩
            rw [← hq] at hcy
            have HQ := Lib.hid hq.symm
            have hqm : q < cn := by rw [hq]; exact HLT.out p hp
            clear hx hy hpy hq
            go_upto_region 16 with fail
            go_quiet (fail)
            have HBy := Lib.hid (bel_drewN HBr.out nq)
            generalize wy.drewN nq = wz at HBy ⊢
            clear gc0 gc1 gc2 gd0 gd1 gd2 hcx hcy d1 i1 i2
            go_wp2_with fail
            go_loopw [10, 11, 12] (fun sp sq si wx => ∃ u v k : Nat, k ≤ n' ∧ k ≤ 12 ∧ u < nn ∧ v < cn ∧ sp = .int .i64 u ∧ sq = .int .i64 v ∧ si = .int .i64 k ∧ Hid (idxC cl u = v) ∧ Hid (Below wc2.heap.size wc2 wx)) (fun _ _ i _ => 12 - (intOf i).toNat)
            case atStart => exact ⟨p, q, 0, Nat.zero_le _, Nat.zero_le _, hp, hqm, rfl, rfl, rfl, HQ, HBy⟩
            case round =>
              obtain ⟨u, v, k, hk, hk2, hu, hv, rfl, rfl, rfl, HEr, HBk⟩ := hrel
              obtain ⟨ws, hws⟩ : ∃ ws : World, ws = wr := ⟨_, rfl⟩
              subst hws
              clear hp hqm HQ
              have HGr := Lib.hid (HGc.out.on HBk.out)
              have HLr := Lib.hid (HLc.out.on HBk.out)
              by_cases hkn : k < n'
              · by_cases hk20 : k < 12
                · have d1 : decide ((k : Int) < (n' : Int)) = true := decide_eq_true (by omega)
                  have d2 : decide ((k : Int) < 12) = true := decide_eq_true (by omega)
                  have hBz := HGr.out.bel.size
                  obtain ⟨nb, no, kd, pe, va, an, ac, tl, ena, hnb, hux, ⟨xc0, xc1, xc2⟩, _, hta⟩ := HGr.out.bk.nodes.at_ hu
                  obtain ⟨mb, mo, ke, qe, xa, vn, vc, vl, enb, hmb, hvx, ⟨yc0, yc1, yc2⟩, _, hva⟩ := HLr.out.bk.nodes.at_ hv
                  subst ena enb
                  obtain ⟨t2, e2, hal, hon⟩ := HHOM.out u _ hux
                  rw [HEr.out, hvx] at e2
                  obtain rfl := Option.some.inj e2
                  have k1 : kd = ke := hal.1
                  subst k1
                  have k2 : pe = qe := toList_inj hal.2.1
                  subst k2
                  have k3 : vn = an := by rw [← hva.1, ← hta.1]; exact hal.len.symm
                  subst k3
                  have ha6 : vn ≤ 6 := by rw [← hta.1]; exact arms_few10 HOK.out hux
                  have HK := Lib.hid (fun (W : World) (hW : Below ws.heap.size ws W) => show (W.cell? ⟨g5, 0, none⟩ = some (.slice (some ⟨nb, no, none⟩) nn nc) ∧ W.cell? ⟨g7, 0, none⟩ = some (.slice (some ⟨mb, mo, none⟩) cn mc)) ∧ (W.cell? ⟨nb, no + u * 3, none⟩ = some (.int .i64 kd) ∧ W.cell? ⟨nb, no + u * 3 + 1, none⟩ = some (.string pe) ∧ W.cell? ⟨nb, no + u * 3 + 2, none⟩ = some (.slice va vn ac)) ∧ W.cell? ⟨mb, mo + v * 3, none⟩ = some (.int .i64 kd) ∧ W.cell? ⟨mb, mo + v * 3 + 1, none⟩ = some (.string pe) ∧ W.cell? ⟨mb, mo + v * 3 + 2, none⟩ = some (.slice xa vn vc) from
                    ⟨⟨(HGr.out.on hW).cells.1, (HLr.out.on hW).cells.1⟩, ⟨(hW.cell (p := ⟨nb, no + u * 3, none⟩) hnb).trans xc0, (hW.cell (p := ⟨nb, no + u * 3 + 1, none⟩) hnb).trans xc1, (hW.cell (p := ⟨nb, no + u * 3 + 2, none⟩) hnb).trans xc2⟩, (hW.cell (p := ⟨mb, mo + v * 3, none⟩) hmb).trans yc0, (hW.cell (p := ⟨mb, mo + v * 3 + 1, none⟩) hmb).trans yc1, (hW.cell (p := ⟨mb, mo + v * 3 + 2, none⟩) hmb).trans yc2⟩)
                  have HF := Lib.hid (And.intro hal (And.intro hon (And.intro hta (And.intro hva (And.intro hux hvx)))))
                  have HD := Lib.hid (Below.refl ws.heap.size ws)
                  have j1 : (u : Int) < (nn : Int) := by omega
                  have j2 : (0 : Int) ≤ (u : Int) := by omega
                  have j3 : (v : Int) < (cn : Int) := by omega
                  have j4 : (0 : Int) ≤ (v : Int) := by omega
                  clear hal hon hta hva hux hvx xc0 xc1 xc2 yc0 yc1 yc2 e2
                  go_upto_region 20 with fail
                  go_cut [13, 14] (fun s13 s14 wx => ∃ gx gy : Nat, s13 = .pointer (some ⟨gx, 0, none⟩) ∧ s14 = .pointer (some ⟨gy, 0, none⟩) ∧ Hid (wx.cell? ⟨gx, 0, none⟩ = some (.int .i64 kd) ∧ wx.cell? ⟨gx, 1, none⟩ = some (.string pe) ∧ wx.cell? ⟨gx, 2, none⟩ = some (.slice va vn ac)) ∧ Hid (wx.cell? ⟨gy, 0, none⟩ = some (.int .i64 kd) ∧ wx.cell? ⟨gy, 1, none⟩ = some (.string pe) ∧ wx.cell? ⟨gy, 2, none⟩ = some (.slice xa vn vc)) ∧ gx < wx.heap.size ∧ gy < wx.heap.size ∧ Hid (Below ws.heap.size ws wx))
                  case first =>
                    go_region_held3 (fun W => (W.cell? ⟨g5, 0, none⟩ = some (.slice (some ⟨nb, no, none⟩) nn nc) ∧ W.cell? ⟨g7, 0, none⟩ = some (.slice (some ⟨mb, mo, none⟩) cn mc)) ∧ (W.cell? ⟨nb, no + u * 3, none⟩ = some (.int .i64 kd) ∧ W.cell? ⟨nb, no + u * 3 + 1, none⟩ = some (.string pe) ∧ W.cell? ⟨nb, no + u * 3 + 2, none⟩ = some (.slice va vn ac)) ∧ W.cell? ⟨mb, mo + v * 3, none⟩ = some (.int .i64 kd) ∧ W.cell? ⟨mb, mo + v * 3 + 1, none⟩ = some (.string pe) ∧ W.cell? ⟨mb, mo + v * 3 + 2, none⟩ = some (.slice xa vn vc))
                      (first | exact HK.out _ HD.out | exact HK.out _ (bel_drew6 HD.out) | (refine HK.out _ ?_; ((repeat' (first | exact HD.out | with_reducible apply bel_drew6 | with_reducible apply Below.setCell | with_reducible apply Below.alloc)) <;> simp)))
                      (fail)
                    all_goals (go_wp2_with fail; go_meet)
                    case rel =>
                      have h := nod_pair ws kd kd pe pe va xa vn ac vn vc
                      exact ⟨_, _, rfl, rfl, Lib.hid h.1, Lib.hid h.2.1, h.2.2.1, h.2.2.2.1, Lib.hid h.2.2.2.2⟩
                    case rel =>
                      have h := nod_pair ws kd kd pe pe xa va vn vc vn ac
                      exact ⟨_, _, rfl, rfl, Lib.hid h.2.1, Lib.hid h.1, h.2.2.2.1, h.2.2.1, Lib.hid h.2.2.2.2⟩
                  case rest =>
                    obtain ⟨gx, gy, e13, e14, HXC, HYC, hgx, hgy, HBE⟩ := hcut
                    subst e13 e14
                    obtain ⟨we, hwe⟩ : ∃ we : World, we = wc := ⟨_, rfl⟩
                    subst hwe
                    have HBf := Lib.hid (below_on HBk.out HBE.out)
                    have HLX := Lib.hid (fun (W : World) (hW : Below we.heap.size we W) => show (W.cell? ⟨gx, 0, none⟩ = some (.int .i64 kd) ∧ W.cell? ⟨gx, 1, none⟩ = some (.string pe) ∧ W.cell? ⟨gx, 2, none⟩ = some (.slice va vn ac)) ∧ W.cell? ⟨gy, 0, none⟩ = some (.int .i64 kd) ∧ W.cell? ⟨gy, 1, none⟩ = some (.string pe) ∧ W.cell? ⟨gy, 2, none⟩ = some (.slice xa vn vc) from
                      ⟨⟨(hW.cell (p := ⟨gx, 0, none⟩) hgx).trans HXC.out.1, (hW.cell (p := ⟨gx, 1, none⟩) hgx).trans HXC.out.2.1, (hW.cell (p := ⟨gx, 2, none⟩) hgx).trans HXC.out.2.2⟩, (hW.cell (p := ⟨gy, 0, none⟩) hgy).trans HYC.out.1, (hW.cell (p := ⟨gy, 1, none⟩) hgy).trans HYC.out.2.1, (hW.cell (p := ⟨gy, 2, none⟩) hgy).trans HYC.out.2.2⟩)
                    obtain ⟨⟨x0, x1, x2⟩, y0, y1, y2⟩ := HLX.out we (Below.refl _ _)
                    have n1 : (kd != kd) = false := by simp
                    have n2 : (pe.toList != pe.toList) = false := by simp
                    have n3 : ((vn : Int) != (vn : Int)) = false := by simp
                    clear HXC HYC HK HD
                    go_upto_region 23 with fail
                    clear x0 x1 y0 y1 n1 n2 n3
                    by_cases han : vn = 0
                    · have d3 : ((vn : Int) == 0) = true := by subst han; rfl
                      go_wp2_with fail
                      go_roundw
                      case rel => exact ⟨r + 1, by omega, by go_num, HBf⟩
                      case measure => simp [intOf]; omega
                    · have d3 : ((vn : Int) == 0) = false := by rw [beq_eq_false_iff_ne]; omega
                      obtain ⟨kb, ko, lx, rfl, hkb, _, hkc⟩ := (HN'.out.below ((HGc.out.on HBf.out).bel)).at_ hkn
                      obtain ⟨m, hm, hmod⟩ := mod_lt lx vn (by omega) (by omega)
                      have hwa : IntKind.u64.wrap (vn : Int) = (vn : Int) := IntWalk.u64_in _ (by omega)
                      have hwm : IntKind.i64.wrap (m : Int) = (m : Int) := by simp [IntKind.wrap, IntKind.bits, IntKind.signed]; omega
                      have i1 : (k : Int) < (n' : Int) := by omega
                      have i2 : (0 : Int) ≤ (k : Int) := by omega
                      go_upto_region 24 with fail
                      go_quiet (fail)
                      have HBg := Lib.hid (bel_drewN (Below.refl we.heap.size we) nq)
                      generalize we.drewN nq = wg at HBg ⊢
                      clear x2 y2 hkc hmod hwa hwm i1 i2
                      obtain ⟨hal, hon, hta, hva, hux, hvx⟩ := HF.out
                      obtain ⟨lb, lo, sv, sk, txi, nxi, ea, hlb, hx6, ⟨z0, _, _, z3⟩, _⟩ := (hta.on (below_on HBE.out HBg.out)).at_ hm
                      obtain ⟨ob, oo, tv, dk, tyi, nyi, eb, hob, hy6, ⟨u0, _, _, u3⟩, _⟩ := (hva.on (below_on HBE.out HBg.out)).at_ hm
                      subst ea eb
                      obtain ⟨f, hf0, hfl0, hfs0⟩ := hal.at_ hx6
                      have hf : vl[m]? = some f := hf0
                      clear hf0
                      rw [hy6] at hf
                      obtain rfl := Option.some.inj hf
                      have hfl : tv = sv := toList_inj hfl0
                      clear hf hfl0 hfs0
                      subst hfl
                      obtain ⟨_, _, _, hx3, hx4⟩ := HOK.out.edge hux (List.mem_of_getElem? hx6)
                      obtain ⟨_, _, _, hy3, hy4⟩ := HOKs.out.edge hvx (List.mem_of_getElem? hy6)
                      obtain ⟨hE1, _⟩ := hon m _ _ hx6 hy6
                      dsimp only at hx3 hx4 hy3 hy4 hE1
                      obtain ⟨nx, rfl⟩ := Int.eq_ofNat_of_zero_le hx3
                      obtain ⟨ny, rfl⟩ := Int.eq_ofNat_of_zero_le hy3
                      rw [Int.toNat_natCast] at hx4 hy4
                      rw [Int.toNat_natCast, Int.toNat_natCast] at hE1
                      have hL := (HGc.out.on HBf.out).len
                      have hL2 := (HLc.out.on HBf.out).len
                      rw [hL] at hx4
                      rw [hL2] at hy4
                      have HE1 := Lib.hid hE1.symm
                      have HNX := Lib.hid (fun (W : World) (hb : Below wg.heap.size wg W) => show ((W.cell? ⟨gx, 2, none⟩ = some (.slice (some ⟨lb, lo, none⟩) vn ac) ∧ W.cell? ⟨gy, 2, none⟩ = some (.slice (some ⟨ob, oo, none⟩) vn vc)) ∧ W.cell? ⟨lb, lo + m * 4, none⟩ = some (.string tv) ∧ W.cell? ⟨ob, oo + m * 4, none⟩ = some (.string tv)) ∧ W.cell? ⟨lb, lo + m * 4 + 3, none⟩ = some (.int .i64 (nx : Int)) ∧ W.cell? ⟨ob, oo + m * 4 + 3, none⟩ = some (.int .i64 (ny : Int)) from
                        have hx := HLX.out W (below_on HBg.out hb)
                        ⟨⟨⟨hx.1.2.2, hx.2.2.2⟩, (hb.cell (p := ⟨lb, lo + m * 4, none⟩) hlb).trans z0, (hb.cell (p := ⟨ob, oo + m * 4, none⟩) hob).trans u0⟩, (hb.cell (p := ⟨lb, lo + m * 4 + 3, none⟩) hlb).trans z3, (hb.cell (p := ⟨ob, oo + m * 4 + 3, none⟩) hob).trans u3⟩)
                      have i3 : (m : Int) < (vn : Int) := by omega
                      have i4 : (0 : Int) ≤ (m : Int) := by omega
                      have n2 : (tv.toList != tv.toList) = false := by simp
                      clear hal hon hta hva hux hvx hx6 hy6 z0 z3 u0 u3 hE1 hx3 hy3 HF hL hL2
                      obtain ⟨⟨⟨x2, y2⟩, r1, r2⟩, r3, r4⟩ := HNX.out wg (Below.refl _ _)
                      go_upto_region 25 with fail
                      go_quiet (fail)
                      have HBh := Lib.hid (bel_drewN (Below.refl wg.heap.size wg) nq)
                      generalize wg.drewN nq = wh at HBh ⊢
                      clear x2 y2 r1 r2 r3 r4
                      obtain ⟨⟨⟨x2, y2⟩, r1, r2⟩, r3, r4⟩ := HNX.out wh HBh.out
                      go_upto_region 27 with fail
                      go_quiet (fail)
                      go_wp2_with fail
                      go_roundw
                      case rel => exact ⟨nx, ny, k + 1, by omega, by omega, hx4, hy4, rfl, rfl, by go_num, HE1, Lib.hid (below_on HBf.out (bel_drewN (below_on HBg.out HBh.out) _))⟩
                      case measure => simp [intOf]; omega
                · have d1 : decide ((k : Int) < (n' : Int)) = true := decide_eq_true (by omega)
                  have d2 : decide ((k : Int) < 12) = false := decide_eq_false (by omega)
                  go_wp2_with fail
                  go_roundw
                  case rel => exact ⟨r + 1, by omega, by go_num, HBk⟩
                  case measure => simp [intOf]; omega
              · have d1 : decide ((k : Int) < (n' : Int)) = false := decide_eq_false (by omega)
                go_wp2_with fail
                go_roundw
                case rel => exact ⟨r + 1, by omega, by go_num, HBk⟩
                case measure => simp [intOf]; omega
          · have d1 : decide ((r : Int) < 2) = false := decide_eq_false (by omega)
            go_wp2_with fail
            go_ret
            exact ⟨rfl, (HGc.out.on HBr.out).bel⟩
end Go.Proofs.Ythdnibemicjmfaa
