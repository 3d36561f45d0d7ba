/- Law: StageDiamond. (Printed by gen/gen13.py.) -/
import Derived.Test.YtgefhgcpnfbigaaStReachs
import Derived.ShutString
namespace Go.Proofs.Ytgefhgcpnfbigaa
open Go.RowKit Go.Sort

set_option maxHeartbeats 32000000 in
set_option maxRecDepth 20000 in
theorem stageDiamond_walk (a : Option Addr) (n c : Nat) (l : List Int) (a' : Option Addr) (n' c' : Nat) (l' : List Int) (x y : Int) (w : World) (h : Nums w w.heap.size a n l) (hlim : n * 8 ≤ 140737488351232) (h' : Nums w w.heap.size a' n' l') (_hlim' : n' * 8 ≤ 140737488351232) :
    Calls Try.prog 6 #[.slice a n c, .slice a' n' c', .int .i64 x, .int .i64 y] w fun e w' => e = .returned (.bool true) ∧ Below w.heap.size w w' := by
  have HF := Lib.hid (first13_any w)
  have HN := Lib.hid h
  have HN' := Lib.hid h'
  clear h h'
  go_enter Try.func6, Try.ntmps6
  go_upto_region 4 with (first
    | (go_at_call 20; (with_reducible refine HF.out.mono ?_)
       rintro e w1 ⟨rfl, hb1⟩
       have HB1 := Lib.hid hb1
       have CR := Lib.hid (reached_any a n c l a' n' c' l' w1 (HN.out.on13 hb1) hlim (HN'.out.on13 hb1))
       clear hb1)
    | (go_at_call 37; (with_reducible refine CR.out.mono ?_)
       rintro e w2 ⟨⟨na, nn, nc, sa, sc, ra, rc, gr, ta, tn, tc, tm, tk, tz, b, s, rfl, hin, hro, hst, hok⟩, hb2⟩
       have HA := Lib.hid (stageIn13 hin hro hst)
       have HOK := Lib.hid hok
       have HB2 := Lib.hid (below_on HB1.out hb2)
       clear hin hro hst hok hb2)
    | fail)
  have HG := Lib.hid (StFr.start HA.out nc sc rc tc tz)
  generalize w2.heap.size + 1 = g11 at HG ⊢
  generalize hg9 : w2.heap.size = g9 at HG ⊢
  clear hg9
  generalize (w2.alloc (.cells #[.slice na nn nc, .slice sa 2 sc, .slice ra 2 rc] 26)).alloc (.cells #[.slice ta tn tc, .slice tm tk tz] 38) = w3 at HG ⊢
  have CM := Lib.hid (stMoves_any na nn nc sa 2 sc ra 2 rc (some ⟨gr, 0, none⟩) 2 2 ta tn tc tm tk tz b abS s w3 (Nat.le_refl _) HG.out.arg)
  have HML := Lib.hid (moves_len13 HOK.out)
  obtain ⟨⟨b0, b1, b2⟩, s0, s1⟩ := HG.out.cells
  clear HA CR HF HN HN' HB1
  go_upto_region 7 with (first
    | (go_at_call 32; (with_reducible refine CM.out.mono ?_)
       rintro e w4 ⟨⟨v4, rfl, ho4⟩, hb4⟩
       obtain ⟨xa, xc, hv4, hm4, _, _⟩ := ho4.sees (by have := HML.out; omega)
       obtain ⟨mm, hmm⟩ : ∃ mm, mm = (movesS b abS s).length := ⟨_, rfl⟩
       rw [← hmm] at hv4 hm4
       have hmm30 : mm ≤ 30 := by rw [hmm]; exact HML.out
       have HMN := Lib.hid (show mm = 0 → movesS b abS s = [] from fun e => List.eq_nil_of_length_eq_zero (by rw [← hmm]; exact e))
       subst hv4
       have HM4 := Lib.hid hm4
       have HG4 := Lib.hid (HG.out.on hb4)
       clear ho4 hm4 hb4 hmm)
    | fail)
  clear b0 b1 b2 s0 s1 CM HML HG
  obtain ⟨⟨b0, b1, b2⟩, s0, s1⟩ := HG4.out.cells
  by_cases hm0 : mm = 0
  · have e0 : ((mm : Int) == 0) = true := by rw [hm0]; rfl
    have CMY := Lib.hid (stMay_any na nn nc sa 2 sc ra 2 rc (some ⟨gr, 0, none⟩) 2 2 ta tn tc tm tk tz b abS s w4 (Nat.le_refl _) HG4.out.arg)
    rw [stgOk_iff.2 HOK.out] at CMY
    clear hm0
    go_wp2_with (first
      | (go_at_call 29; (with_reducible refine CMY.out.mono ?_)
         rintro e w5 ⟨rfl, hb5⟩
         have HB5 := Lib.hid (below_on HB2.out (below_on HG4.out.below hb5))
         clear hb5)
      | fail)
    go_ret
    exact ⟨rfl, HB5.out⟩
  · have e0 : ((mm : Int) == 0) = false := by rw [beq_eq_false_iff_ne]; omega
    have hwn : IntKind.u64.wrap (mm : Int) = (mm : Int) := IntWalk.u64_in _ (by omega)
    obtain ⟨hpl, hmp⟩ := pick13_lt (show 1 ≤ mm by omega) (show mm ≤ 1000 by omega) x
    obtain ⟨p, hpe⟩ : ∃ p, p = pick13 mm x := ⟨_, rfl⟩
    rw [← hpe] at hpl hmp
    clear hpe
    have hwp : IntKind.i64.wrap (p : Int) = (p : Int) := IntWalk.i64_in _ ⟨by omega, by omega⟩
    have jp : (p : Int) < (mm : Int) := by omega
    have ip : (0 : Int) ≤ (p : Int) := by omega
    obtain ⟨hql, hmq⟩ := pick13_lt (show 1 ≤ mm by omega) (show mm ≤ 1000 by omega) y
    obtain ⟨q, hqe⟩ : ∃ q, q = pick13 mm y := ⟨_, rfl⟩
    rw [← hqe] at hql hmq
    clear hqe
    have hwq : IntKind.i64.wrap (q : Int) = (q : Int) := IntWalk.i64_in _ ⟨by omega, by omega⟩
    have jq : (q : Int) < (mm : Int) := by omega
    have iq : (0 : Int) ≤ (q : Int) := by omega
    obtain ⟨mb, mo, t, rfl, hmb, hmt, hmc, hms⟩ := HM4.out.at_ hpl
    obtain ⟨mb', mo', u, ea, _, hmu, hmd, hmv⟩ := HM4.out.at_ hql
    obtain ⟨rfl, rfl, _⟩ := Addr.mk.inj (Option.some.inj ea)
    obtain ⟨c0, c1, c2⟩ := MvR_cells hmc
    obtain ⟨d0, d1, d2⟩ := MvR_cells hmd
    obtain ⟨X, hXs, hXm, hXd, hXo⟩ := do_move13 HOK.out hmt
    obtain ⟨Y, hYs, hYm, hYd, hYo⟩ := do_move13 HOK.out hmu
    obtain ⟨pk, pr, ps⟩ := t
    obtain ⟨uk, ur, us⟩ := u
    dsimp only at c0 c1 c2 d0 d1 d2
    have HD1 := Lib.hid (show doS b abS s ⟨pk, pr, ps.toList⟩ = (afterS s X, 0) from hXd)
    have HD2 := Lib.hid (show doS b abS s ⟨uk, ur, us.toList⟩ = (afterS s Y, 0) from hYd)
    have HO1 := Lib.hid hXo
    have HO2 := Lib.hid hYo
    have HCR := Lib.hid (fun (hne : pr ≠ ur) => show doS b abS (afterS s X) ⟨uk, ur, us.toList⟩ = (afterS (afterS s X) Y, 0) ∧ doS b abS (afterS s Y) ⟨pk, pr, ps.toList⟩ = (afterS (afterS s Y) X, 0) ∧ afterS (afterS s X) Y = afterS (afterS s Y) X ∧ StgOk b abS (afterS (afterS s X) Y) from by
      have h1 : X.mv.role = pr := by rw [hXm]; rfl
      have h2 : Y.mv.role = ur := by rw [hYm]; rfl
      have hxy : X.mv.role ≠ Y.mv.role := by rw [h1, h2]; exact hne
      have hs1 := step_stays HOK.out hXs hYs hxy
      have hs2 := step_stays HOK.out hYs hXs (Ne.symm hxy)
      have e1 := do_step hXo hs1
      have e2 := do_step hYo hs2
      rw [hYm] at e1
      rw [hXm] at e2
      exact ⟨e1, e2, after_after HOK.out hXs hYs hxy, after_ok hXo hs1⟩)
    have HCC := Lib.hid (And.intro (And.intro c0 (And.intro c1 c2)) (And.intro d0 (And.intro d1 d2)))
    have hmb4 := hmb
    clear hmt hmc hms hmu hmd hmv ea hXs hXm hXd hXo hYs hYm hYd hYo c0 c1 c2 d0 d1 d2 b0 b1 b2 s0 s1
    go_upto_region 9 with fail
    have HS9 := Lib.hid (fun (W : World) (hW : Below w4.heap.size w4 W) => show (W.cell? ⟨mb, mo + p * 3, none⟩ = some (.int .i64 pk) ∧ W.cell? ⟨mb, mo + p * 3 + 1, none⟩ = some (.int .i64 pr) ∧ W.cell? ⟨mb, mo + p * 3 + 2, none⟩ = some (.string ps)) ∧ W.cell? ⟨mb, mo + q * 3, none⟩ = some (.int .i64 uk) ∧ W.cell? ⟨mb, mo + q * 3 + 1, none⟩ = some (.int .i64 ur) ∧ W.cell? ⟨mb, mo + q * 3 + 2, none⟩ = some (.string us) from
      ⟨⟨(hW.cell (p := ⟨mb, mo + p * 3, none⟩) hmb).trans HCC.out.1.1, (hW.cell (p := ⟨mb, mo + p * 3 + 1, none⟩) hmb).trans HCC.out.1.2.1, (hW.cell (p := ⟨mb, mo + p * 3 + 2, none⟩) hmb).trans HCC.out.1.2.2⟩,
        (hW.cell (p := ⟨mb, mo + q * 3, none⟩) hmb).trans HCC.out.2.1, (hW.cell (p := ⟨mb, mo + q * 3 + 1, none⟩) hmb).trans HCC.out.2.2.1, (hW.cell (p := ⟨mb, mo + q * 3 + 2, none⟩) hmb).trans HCC.out.2.2.2⟩)
    go_cut [14, 15] (fun v1 v2 wx => ∃ (g14 g15 : Nat), v1 = .pointer (some ⟨g14, 0, none⟩) ∧ v2 = .pointer (some ⟨g15, 0, none⟩) ∧ Hid (Below w4.heap.size w4 wx) ∧ Hid (MBx13 wx g14 pk pr ps) ∧ Hid (MBx13 wx g15 uk ur us))
    case first =>
      have HBd := Lib.hid (show Below w4.heap.size w4 w4.drew from bel_drewN (Below.refl _ _) 1)
      obtain ⟨wd, hwd⟩ : ∃ wd : World, wd = w4.drew := ⟨_, rfl⟩
      rw [← hwd] at HBd
      refine wp_region_held_drew (S := fun W => (W.cell? ⟨mb, mo + p * 3, none⟩ = some (.int .i64 pk) ∧ W.cell? ⟨mb, mo + p * 3 + 1, none⟩ = some (.int .i64 pr) ∧ W.cell? ⟨mb, mo + p * 3 + 2, none⟩ = some (.string ps)) ∧ W.cell? ⟨mb, mo + q * 3, none⟩ = some (.int .i64 uk) ∧ W.cell? ⟨mb, mo + q * 3 + 1, none⟩ = some (.int .i64 ur) ∧ W.cell? ⟨mb, mo + q * 3 + 2, none⟩ = some (.string us)) (by kernel_rfl) (by rw [← hwd]; exact HS9.out _ HBd.out) (fun hHeld => ?_)
      rw [← hwd]
      rw [← hwd] at hHeld
      clear hwd
      try simp only [Act.put, List.setIfInBounds_toArray]
      refine' wpAnyH_take (i := 0) (v := _) rfl (by kernel_rfl) (by kernel_rfl) (by kernel_rfl) (fun _ _ _ h => h) (Or.inl ⟨by kernel_rfl, ?hya0⟩) (by assumption) ?resta0
      case hya0 =>
        intro W hSw
        (try dsimp only at hSw)
        first | (go_simp; done) | (go_simp; with_reducible rfl)
      try simp only [Act.put]
      refine' wpAnyH_take (i := 1) (v := _) rfl (by kernel_rfl) (by kernel_rfl) (by kernel_rfl) (fun _ _ _ h => h) (Or.inl ⟨by kernel_rfl, ?hya1⟩) (by assumption) ?resta1
      case hya1 =>
        intro W hSw
        (try dsimp only at hSw)
        first | (go_simp; done) | (go_simp; with_reducible rfl)
      try simp only [Act.put, List.getElem_toArray, List.getElem_cons_succ, List.getElem_cons_zero, List.setIfInBounds_toArray, List.set_cons_succ, List.set_cons_zero]
      refine' wpAnyH_take (i := 2) (v := _) rfl (by kernel_rfl) (by kernel_rfl) (by kernel_rfl) (fun _ _ _ h => h) (Or.inl ⟨by kernel_rfl, ?hya2⟩) (by assumption) ?resta2
      case hya2 =>
        intro W hSw
        (try dsimp only at hSw)
        first | (go_simp; done) | (go_simp; with_reducible rfl)
      try simp only [Act.put]
      refine' wpAnyH_take (i := 3) (v := _) rfl (by kernel_rfl) (by kernel_rfl) (by kernel_rfl) (fun _ _ _ h => h) (Or.inl ⟨by kernel_rfl, ?hya3⟩) (by assumption) ?resta3
      case hya3 =>
        intro W hSw
        (try dsimp only at hSw)
        first | (go_simp; done) | (go_simp; with_reducible rfl)
      try simp only [Act.put]
      refine' wpAnyH_take (i := 4) (v := _) rfl (by kernel_rfl) (by kernel_rfl) (by kernel_rfl) (fun _ _ _ h => h) (Or.inl ⟨by kernel_rfl, ?hya4⟩) (by assumption) ?resta4
      case hya4 =>
        intro W hSw
        (try dsimp only at hSw)
        first | (go_simp; done) | (go_simp; with_reducible rfl)
      try simp only [Act.put, List.getElem_toArray, List.getElem_cons_succ, List.getElem_cons_zero, List.setIfInBounds_toArray, List.set_cons_succ, List.set_cons_zero]
      refine' wpAnyH_take (i := 5) (v := _) rfl (by kernel_rfl) (by kernel_rfl) (by kernel_rfl) (fun _ _ _ h => h) (Or.inl ⟨by kernel_rfl, ?hya5⟩) (by assumption) ?resta5
      case hya5 =>
        intro W hSw
        (try dsimp only at hSw)
        first | (go_simp; done) | (go_simp; with_reducible rfl)
      try simp only [Act.put]
      refine' wpAnyH_take (i := 6) (v := _) rfl (by kernel_rfl) (by kernel_rfl) (by kernel_rfl) (fun _ _ _ h => h) (Or.inl ⟨by kernel_rfl, ?hya6⟩) (by assumption) ?resta6
      case hya6 =>
        intro W hSw
        (try dsimp only at hSw)
        first | (go_simp; done) | (go_simp; with_reducible rfl)
      try simp only [Act.put]
      refine' wpAnyH_take (i := 7) (v := _) rfl (by kernel_rfl) (by kernel_rfl) (by kernel_rfl) (fun _ _ _ h => h) (Or.inl ⟨by kernel_rfl, ?hya7⟩) (by assumption) ?resta7
      case hya7 =>
        intro W hSw
        (try dsimp only at hSw)
        first | (go_simp; done) | (go_simp; with_reducible rfl)
      try simp only [Act.put, List.getElem_toArray, List.getElem_cons_succ, List.getElem_cons_zero, List.setIfInBounds_toArray, List.set_cons_succ, List.set_cons_zero]
      refine' wpAnyH_take (i := 8) (v := _) rfl (by kernel_rfl) (by kernel_rfl) (by kernel_rfl) (fun _ _ _ h => h) (Or.inl ⟨by kernel_rfl, ?hya8⟩) (by assumption) ?resta8
      case hya8 =>
        intro W hSw
        (try dsimp only at hSw)
        first | (go_simp; done) | (go_simp; with_reducible rfl)
      try simp only [Act.put]
      refine' wpAnyH_take (i := 9) (v := _) rfl (by kernel_rfl) (by kernel_rfl) (by kernel_rfl) (fun _ _ _ h => h) (Or.inl ⟨by kernel_rfl, ?hya9⟩) (by assumption) ?resta9
      case hya9 =>
        intro W hSw
        (try dsimp only at hSw)
        first | (go_simp; done) | (go_simp; with_reducible rfl)
      try simp only [Act.put]
      refine' wpAnyH_take (i := 10) (v := _) rfl (by kernel_rfl) (by kernel_rfl) (by kernel_rfl) (fun _ _ _ h => h) (Or.inl ⟨by kernel_rfl, ?hya10⟩) (by assumption) ?resta10
      case hya10 =>
        intro W hSw
        (try dsimp only at hSw)
        first | (go_simp; done) | (go_simp; with_reducible rfl)
      try simp only [Act.put, List.getElem_toArray, List.getElem_cons_succ, List.getElem_cons_zero, List.setIfInBounds_toArray, List.set_cons_succ, List.set_cons_zero]
      refine' wpAnyH_take (i := 11) (v := _) rfl (by kernel_rfl) (by kernel_rfl) (by kernel_rfl) (fun _ _ _ h => h) (Or.inl ⟨by kernel_rfl, ?hya11⟩) (by assumption) ?resta11
      case hya11 =>
        intro W hSw
        (try dsimp only at hSw)
        first | (go_simp; done) | (go_simp; with_reducible rfl)
      try simp only [Act.put]
      refine' wpAnyH_take (i := 12) (v := _) rfl (by kernel_rfl) (by kernel_rfl) (by kernel_rfl) (fun _ _ _ h => h) (Or.inl ⟨by kernel_rfl, ?hya12⟩) (by assumption) ?resta12
      case hya12 =>
        intro W hSw
        (try dsimp only at hSw)
        first | (go_simp; done) | (go_simp; with_reducible rfl)
      try simp only [Act.put]
      refine' wpAnyH_take (i := 13) (v := _) rfl (by kernel_rfl) (by kernel_rfl) (by kernel_rfl) (fun _ _ _ h => h) (Or.inl ⟨by kernel_rfl, ?hya13⟩) (by assumption) ?resta13
      case hya13 =>
        intro W hSw
        (try dsimp only at hSw)
        first | (go_simp; done) | (go_simp; with_reducible rfl)
      try simp only [Act.put, List.getElem_toArray, List.getElem_cons_succ, List.getElem_cons_zero, List.setIfInBounds_toArray, List.set_cons_succ, List.set_cons_zero]
      refine' wpAnyH_take (i := 14) (v := _) rfl (by kernel_rfl) (by kernel_rfl) (by kernel_rfl) (fun _ _ _ h => h) (Or.inl ⟨by kernel_rfl, ?hya14⟩) (by assumption) ?resta14
      case hya14 =>
        intro W hSw
        (try dsimp only at hSw)
        first | (go_simp; done) | (go_simp; with_reducible rfl)
      try simp only [Act.put]
      refine' wpAnyH_take (i := 15) (v := _) rfl (by kernel_rfl) (by kernel_rfl) (by kernel_rfl) (fun _ _ _ h => h) (Or.inl ⟨by kernel_rfl, ?hya15⟩) (by assumption) ?resta15
      case hya15 =>
        intro W hSw
        (try dsimp only at hSw)
        first | (go_simp; done) | (go_simp; with_reducible rfl)
      try simp only [Act.put]
      refine' wpAnyH_take (i := 16) (v := _) rfl (by kernel_rfl) (by kernel_rfl) (by kernel_rfl) (fun _ _ _ h => h) (Or.inl ⟨by kernel_rfl, ?hya16⟩) (by assumption) ?resta16
      case hya16 =>
        intro W hSw
        (try dsimp only at hSw)
        first | (go_simp; done) | (go_simp; with_reducible rfl)
      try simp only [Act.put, List.getElem_toArray, List.getElem_cons_succ, List.getElem_cons_zero, List.setIfInBounds_toArray, List.set_cons_succ, List.set_cons_zero]
      refine' wpAnyH_take (i := 17) (v := _) rfl (by kernel_rfl) (by kernel_rfl) (by kernel_rfl) (fun _ _ _ h => h) (Or.inl ⟨by kernel_rfl, ?hya17⟩) (by assumption) ?resta17
      case hya17 =>
        intro W hSw
        (try dsimp only at hSw)
        first | (go_simp; done) | (go_simp; with_reducible rfl)
      try simp only [Act.put]
      refine' wpAnyH_take (i := 18) (v := _) rfl (by kernel_rfl) (by kernel_rfl) (by kernel_rfl) (fun _ _ _ h => h) (Or.inl ⟨by kernel_rfl, ?hya18⟩) (by assumption) ?resta18
      case hya18 =>
        intro W hSw
        (try dsimp only at hSw)
        first | (go_simp; done) | (go_simp; with_reducible rfl)
      try simp only [Act.put]
      refine' wpAnyH_take (i := 19) (v := _) rfl (by kernel_rfl) (by kernel_rfl) (by kernel_rfl) (fun _ _ _ h => h) (Or.inl ⟨by kernel_rfl, ?hya19⟩) (by assumption) ?resta19
      case hya19 =>
        intro W hSw
        (try dsimp only at hSw)
        first | (go_simp; done) | (go_simp; with_reducible rfl)
      try simp only [Act.put, List.getElem_toArray, List.getElem_cons_succ, List.getElem_cons_zero, List.setIfInBounds_toArray, List.set_cons_succ, List.set_cons_zero]
      refine wpAnyH_ready (rs := [20, 21]) (by kernel_rfl) (by simp) ?_
      refine (AllReadyH.cons (i := 20) (o := _) rfl (fun K hK => ?bra20) (AllReadyH.cons (i := 21) (o := _) rfl (fun K hK => ?bra21) AllReadyH.nil))
      case bra20 =>
        go_simp
        obtain ⟨wa20, hwa20⟩ : ∃ W : World, W = wd.alloc (.cells #[.int .i64 0, .int .i64 0, .string ⟨#[]⟩] 40) := ⟨_, rfl⟩
        have htwa20 : Below wd.heap.size wd wa20 := by rw [hwa20]; exact tu1 wd _
        have HBwa20 := Lib.hid (HBd.out.trans ((htwa20).mono HBd.out.size))
        have HPwa20n := Lib.hid (show MBx13 wa20 wd.heap.size 0 0 ⟨#[]⟩ by rw [hwa20]; exact heap_alloc_new wd _)
        have hgewa20 : w4.heap.size ≤ wd.heap.size := HBd.out.size
        rw [← hwa20]
        clear hwa20 htwa20
        refine hK.out _ _ (HS9.out _ HBwa20.out) (fun hHeld => ?_)
        clear hK K
        try simp only [Act.put, List.getElem_toArray, List.getElem_cons_succ, List.getElem_cons_zero, List.setIfInBounds_toArray, List.set_cons_succ, List.set_cons_zero]
        refine wpAnyH_ready (rs := [21]) (by kernel_rfl) (by simp) ?_
        refine AllReadyH.cons (i := 21) (o := _) rfl (fun K hK => ?_) AllReadyH.nil
        go_simp
        obtain ⟨wax2021, hwax2021⟩ : ∃ W : World, W = wa20.alloc (.cells #[.int .i64 0, .int .i64 0, .string ⟨#[]⟩] 40) := ⟨_, rfl⟩
        have htwax2021 : Below wa20.heap.size wa20 wax2021 := by rw [hwax2021]; exact tu1 wa20 _
        have HBwax2021 := Lib.hid (HBwa20.out.trans ((htwax2021).mono HBwa20.out.size))
        have HPwax2021 := Lib.hid (HPwa20n.out.on13 htwax2021)
        have HQwax2021n := Lib.hid (show MBx13 wax2021 wa20.heap.size 0 0 ⟨#[]⟩ by rw [hwax2021]; exact heap_alloc_new wa20 _)
        have hgewax2021 : w4.heap.size ≤ wa20.heap.size := HBwa20.out.size
        rw [← hwax2021]
        clear hwax2021 htwax2021
        have hne : wd.heap.size ≠ wa20.heap.size := by have := HPwa20n.out.lt; omega
        refine hK.out _ _ (HS9.out _ HBwax2021.out) (fun hHeld => ?_)
        clear hK K
        try simp only [Act.put, List.getElem_toArray, List.getElem_cons_succ, List.getElem_cons_zero, List.setIfInBounds_toArray, List.set_cons_succ, List.set_cons_zero]
        refine wpAnyH_ready (rs := [22]) (by kernel_rfl) (by simp) ?_
        refine AllReadyH.cons (i := 22) (o := _) rfl (fun K hK => ?_) AllReadyH.nil
        obtain ⟨y0, y1, y2⟩ := HPwax2021.out.cells
        have f0 := HPwax2021.out.thaw 0
        have f1 := HPwax2021.out.thaw 1
        have f2 := HPwax2021.out.thaw 2
        go_simp
        obtain ⟨wax2022, hwax2022⟩ : ∃ V : World, V = ((wax2021.setCell ⟨wd.heap.size, 0, none⟩ (.int .i64 pk)).setCell ⟨wd.heap.size, 1, none⟩ (.int .i64 pr)).setCell ⟨wd.heap.size, 2, none⟩ (.string ps) := ⟨_, rfl⟩
        have hset : Beside wd.heap.size wax2021 wax2022 := by rw [hwax2022]; exact (((Beside.refl _ wax2021).setCell 0 _).setCell 1 _).setCell 2 _
        have HBwax2022 := Lib.hid (HBwax2021.out.trans (hset.below hgewa20 HBwax2021.out.size))
        have HPwax2022 := Lib.hid (show MBx13 wax2022 wd.heap.size pk pr ps by rw [hwax2022]; exact HPwax2021.out.fill _ _ _)
        have HQwax2022 := Lib.hid (show MBx13 wax2022 wa20.heap.size _ _ _ from (hset.block wa20.heap.size HQwax2021n.out.lt hne.symm).trans HQwax2021n.out)
        rw [← hwax2022]
        clear hwax2022 hset y0 y1 y2 f0 f1 f2
        refine hK.out _ _ (HS9.out _ HBwax2022.out) (fun hHeld => ?_)
        clear hK K
        try simp only [Act.put, List.getElem_toArray, List.getElem_cons_succ, List.getElem_cons_zero, List.setIfInBounds_toArray, List.set_cons_succ, List.set_cons_zero]
        refine wpAnyH_ready (rs := [23]) (by kernel_rfl) (by simp) ?_
        refine AllReadyH.cons (i := 23) (o := _) rfl (fun K hK => ?_) AllReadyH.nil
        obtain ⟨y0, y1, y2⟩ := HQwax2022.out.cells
        have f0 := HQwax2022.out.thaw 0
        have f1 := HQwax2022.out.thaw 1
        have f2 := HQwax2022.out.thaw 2
        go_simp
        obtain ⟨wax2023, hwax2023⟩ : ∃ V : World, V = ((wax2022.setCell ⟨wa20.heap.size, 0, none⟩ (.int .i64 uk)).setCell ⟨wa20.heap.size, 1, none⟩ (.int .i64 ur)).setCell ⟨wa20.heap.size, 2, none⟩ (.string us) := ⟨_, rfl⟩
        have hset : Beside wa20.heap.size wax2022 wax2023 := by rw [hwax2023]; exact (((Beside.refl _ wax2022).setCell 0 _).setCell 1 _).setCell 2 _
        have HBwax2023 := Lib.hid (HBwax2022.out.trans (hset.below hgewax2021 HBwax2022.out.size))
        have HQwax2023 := Lib.hid (show MBx13 wax2023 wa20.heap.size uk ur us by rw [hwax2023]; exact HQwax2022.out.fill _ _ _)
        have HPwax2023 := Lib.hid (show MBx13 wax2023 wd.heap.size _ _ _ from (hset.block wd.heap.size HPwax2022.out.lt hne).trans HPwax2022.out)
        rw [← hwax2023]
        clear hwax2023 hset y0 y1 y2 f0 f1 f2
        refine hK.out _ _ (HS9.out _ HBwax2023.out) (fun hHeld => ?_)
        clear hK K
        try simp only [Act.put, List.getElem_toArray, List.getElem_cons_succ, List.getElem_cons_zero, List.setIfInBounds_toArray, List.set_cons_succ, List.set_cons_zero]
        refine wpAnyH_done (by kernel_rfl) ?_ _
        try simp only [Act.put, List.getElem_toArray, List.getElem_cons_succ, List.getElem_cons_zero, List.setIfInBounds_toArray, List.set_cons_succ, List.set_cons_zero]
        go_wp2_with fail
        all_goals
          go_meet
          case rel => exact ⟨_, _, rfl, rfl, HBwax2023, HPwax2023, HQwax2023⟩
      case bra21 =>
        go_simp
        obtain ⟨wa21, hwa21⟩ : ∃ W : World, W = wd.alloc (.cells #[.int .i64 0, .int .i64 0, .string ⟨#[]⟩] 40) := ⟨_, rfl⟩
        have htwa21 : Below wd.heap.size wd wa21 := by rw [hwa21]; exact tu1 wd _
        have HBwa21 := Lib.hid (HBd.out.trans ((htwa21).mono HBd.out.size))
        have HQwa21n := Lib.hid (show MBx13 wa21 wd.heap.size 0 0 ⟨#[]⟩ by rw [hwa21]; exact heap_alloc_new wd _)
        have hgewa21 : w4.heap.size ≤ wd.heap.size := HBd.out.size
        rw [← hwa21]
        clear hwa21 htwa21
        refine hK.out _ _ (HS9.out _ HBwa21.out) (fun hHeld => ?_)
        clear hK K
        try simp only [Act.put, List.getElem_toArray, List.getElem_cons_succ, List.getElem_cons_zero, List.setIfInBounds_toArray, List.set_cons_succ, List.set_cons_zero]
        refine wpAnyH_ready (rs := [20]) (by kernel_rfl) (by simp) ?_
        refine AllReadyH.cons (i := 20) (o := _) rfl (fun K hK => ?_) AllReadyH.nil
        go_simp
        obtain ⟨wax2120, hwax2120⟩ : ∃ W : World, W = wa21.alloc (.cells #[.int .i64 0, .int .i64 0, .string ⟨#[]⟩] 40) := ⟨_, rfl⟩
        have htwax2120 : Below wa21.heap.size wa21 wax2120 := by rw [hwax2120]; exact tu1 wa21 _
        have HBwax2120 := Lib.hid (HBwa21.out.trans ((htwax2120).mono HBwa21.out.size))
        have HQwax2120 := Lib.hid (HQwa21n.out.on13 htwax2120)
        have HPwax2120n := Lib.hid (show MBx13 wax2120 wa21.heap.size 0 0 ⟨#[]⟩ by rw [hwax2120]; exact heap_alloc_new wa21 _)
        have hgewax2120 : w4.heap.size ≤ wa21.heap.size := HBwa21.out.size
        rw [← hwax2120]
        clear hwax2120 htwax2120
        have hne : wa21.heap.size ≠ wd.heap.size := by have := HQwa21n.out.lt; omega
        refine hK.out _ _ (HS9.out _ HBwax2120.out) (fun hHeld => ?_)
        clear hK K
        try simp only [Act.put, List.getElem_toArray, List.getElem_cons_succ, List.getElem_cons_zero, List.setIfInBounds_toArray, List.set_cons_succ, List.set_cons_zero]
        refine wpAnyH_ready (rs := [22]) (by kernel_rfl) (by simp) ?_
        refine AllReadyH.cons (i := 22) (o := _) rfl (fun K hK => ?_) AllReadyH.nil
        obtain ⟨y0, y1, y2⟩ := HPwax2120n.out.cells
        have f0 := HPwax2120n.out.thaw 0
        have f1 := HPwax2120n.out.thaw 1
        have f2 := HPwax2120n.out.thaw 2
        go_simp
        obtain ⟨wax2122, hwax2122⟩ : ∃ V : World, V = ((wax2120.setCell ⟨wa21.heap.size, 0, none⟩ (.int .i64 pk)).setCell ⟨wa21.heap.size, 1, none⟩ (.int .i64 pr)).setCell ⟨wa21.heap.size, 2, none⟩ (.string ps) := ⟨_, rfl⟩
        have hset : Beside wa21.heap.size wax2120 wax2122 := by rw [hwax2122]; exact (((Beside.refl _ wax2120).setCell 0 _).setCell 1 _).setCell 2 _
        have HBwax2122 := Lib.hid (HBwax2120.out.trans (hset.below hgewax2120 HBwax2120.out.size))
        have HPwax2122 := Lib.hid (show MBx13 wax2122 wa21.heap.size pk pr ps by rw [hwax2122]; exact HPwax2120n.out.fill _ _ _)
        have HQwax2122 := Lib.hid (show MBx13 wax2122 wd.heap.size _ _ _ from (hset.block wd.heap.size HQwax2120.out.lt hne.symm).trans HQwax2120.out)
        rw [← hwax2122]
        clear hwax2122 hset y0 y1 y2 f0 f1 f2
        refine hK.out _ _ (HS9.out _ HBwax2122.out) (fun hHeld => ?_)
        clear hK K
        try simp only [Act.put, List.getElem_toArray, List.getElem_cons_succ, List.getElem_cons_zero, List.setIfInBounds_toArray, List.set_cons_succ, List.set_cons_zero]
        refine wpAnyH_ready (rs := [23]) (by kernel_rfl) (by simp) ?_
        refine AllReadyH.cons (i := 23) (o := _) rfl (fun K hK => ?_) AllReadyH.nil
        obtain ⟨y0, y1, y2⟩ := HQwax2122.out.cells
        have f0 := HQwax2122.out.thaw 0
        have f1 := HQwax2122.out.thaw 1
        have f2 := HQwax2122.out.thaw 2
        go_simp
        obtain ⟨wax2123, hwax2123⟩ : ∃ V : World, V = ((wax2122.setCell ⟨wd.heap.size, 0, none⟩ (.int .i64 uk)).setCell ⟨wd.heap.size, 1, none⟩ (.int .i64 ur)).setCell ⟨wd.heap.size, 2, none⟩ (.string us) := ⟨_, rfl⟩
        have hset : Beside wd.heap.size wax2122 wax2123 := by rw [hwax2123]; exact (((Beside.refl _ wax2122).setCell 0 _).setCell 1 _).setCell 2 _
        have HBwax2123 := Lib.hid (HBwax2122.out.trans (hset.below hgewa21 HBwax2122.out.size))
        have HQwax2123 := Lib.hid (show MBx13 wax2123 wd.heap.size uk ur us by rw [hwax2123]; exact HQwax2122.out.fill _ _ _)
        have HPwax2123 := Lib.hid (show MBx13 wax2123 wa21.heap.size _ _ _ from (hset.block wa21.heap.size HPwax2122.out.lt hne).trans HPwax2122.out)
        rw [← hwax2123]
        clear hwax2123 hset y0 y1 y2 f0 f1 f2
        refine hK.out _ _ (HS9.out _ HBwax2123.out) (fun hHeld => ?_)
        clear hK K
        try simp only [Act.put, List.getElem_toArray, List.getElem_cons_succ, List.getElem_cons_zero, List.setIfInBounds_toArray, List.set_cons_succ, List.set_cons_zero]
        refine wpAnyH_done (by kernel_rfl) ?_ _
        try simp only [Act.put, List.getElem_toArray, List.getElem_cons_succ, List.getElem_cons_zero, List.setIfInBounds_toArray, List.set_cons_succ, List.set_cons_zero]
        go_wp2_with fail
        all_goals
          go_meet
          case rel => exact ⟨_, _, rfl, rfl, HBwax2123, HPwax2123, HQwax2123⟩
    case rest =>
      obtain ⟨g14, g15, e14, e15, HB5, HP5, HQ5⟩ := hcut
      subst e14 e15
      obtain ⟨w5, hw5⟩ : ∃ w5 : World, w5 = wc := ⟨_, rfl⟩
      subst hw5
      have HG5 := Lib.hid (HG4.out.on HB5.out)
      clear HS9 HCC HM4 HMN HB5 hmb4 hmb
      obtain ⟨p0, p1, p2⟩ := HP5.out.cells
      obtain ⟨q0, q1, q2⟩ := HQ5.out.cells
      by_cases hrr : pr = ur
      · have e1 : (pr == ur) = true := by rw [hrr]; simp
        clear hrr
        go_wp2_with fail
        go_ret
        exact ⟨rfl, below_on HB2.out HG5.out.below⟩
      · have e1 : (pr == ur) = false := by rw [beq_eq_false_iff_ne]; exact hrr
        obtain ⟨h3, h4, h5, h6⟩ := HCR.out hrr
        have HD3 := Lib.hid h3
        have HD4 := Lib.hid h4
        have HEQ := Lib.hid h5
        have HO3 := Lib.hid h6
        obtain ⟨⟨b0, b1, b2⟩, s0, s1⟩ := HG5.out.cells
        clear hrr h3 h4 h5 h6 HCR
        have C1 := Lib.hid (stDo_any na nn nc sa 2 sc ra 2 rc (some ⟨gr, 0, none⟩) 2 2 ta tn tc tm tk tz b abS s pk pr ps w5 (Nat.le_refl _) HG5.out.arg)
        go_wp2_with (first
          | (go_at_call 26; (with_reducible refine C1.out.mono ?_)
             rintro e v1 ⟨hst, hb⟩
             obtain ⟨a1, n1, c1, m1, k1, z1, rfl, hkp⟩ := hst.kp hb
             rw [HD1.out] at hkp ⊢
             have hbu := tu1 v1 (.cells #[.slice a1 n1 c1, .slice m1 k1 z1] 38)
             have hbb := below_on hb hbu
             have HX11 := Lib.hid (show SBox (v1.alloc (.cells #[.slice a1 n1 c1, .slice m1 k1 z1] 38)) v1.heap.size a1 n1 c1 m1 k1 z1 from heap_alloc_new v1 _)
             have HK11 := Lib.hid (hkp.on13 hbu)
             have HG1 := Lib.hid (HG5.out.on hbb)
             have HP1 := Lib.hid (HP5.out.on13 hbb)
             have HQ1 := Lib.hid (HQ5.out.on13 hbb)
             obtain ⟨⟨b10, b11, b12⟩, s10, s11⟩ := HG1.out.cells
             obtain ⟨q10, q11, q12⟩ := HQ1.out.cells
             have C2 := Lib.hid (stDo_any na nn nc sa 2 sc ra 2 rc (some ⟨gr, 0, none⟩) 2 2 ta tn tc tm tk tz b abS s uk ur us (v1.alloc (.cells #[.slice a1 n1 c1, .slice m1 k1 z1] 38)) (Nat.le_refl _) HG1.out.arg)
             clear hst hb hkp hbu hbb)
          | (go_at_call 26; (with_reducible refine C2.out.mono ?_)
             rintro e v2 ⟨hst, hb⟩
             obtain ⟨a2, n2, c2, m2, k2, z2, rfl, hkp⟩ := hst.kp hb
             rw [HD2.out] at hkp ⊢
             have hbu := tu1 v2 (.cells #[.slice a2 n2 c2, .slice m2 k2 z2] 38)
             have hbb := below_on hb hbu
             have HX22 := Lib.hid (show SBox (v2.alloc (.cells #[.slice a2 n2 c2, .slice m2 k2 z2] 38)) v2.heap.size a2 n2 c2 m2 k2 z2 from heap_alloc_new v2 _)
             have HK22 := Lib.hid (hkp.on13 hbu)
             have HG2 := Lib.hid (HG1.out.on hbb)
             have HP2 := Lib.hid (HP1.out.on13 hbb)
             have HQ2 := Lib.hid (HQ1.out.on13 hbb)
             have HX12 := Lib.hid (HX11.out.on13 hbb)
             have HK12 := Lib.hid (HK11.out.on13 hbb)
             obtain ⟨⟨b20, b21, b22⟩, _⟩ := HG2.out.cells
             obtain ⟨q20, q21, q22⟩ := HQ2.out.cells
             obtain ⟨x20, x21⟩ := HX12.out.cells
             have C3 := Lib.hid (stDo_any na nn nc sa 2 sc ra 2 rc (some ⟨gr, 0, none⟩) 2 2 a1 n1 c1 m1 k1 z1 b abS (afterS s X) uk ur us (v2.alloc (.cells #[.slice a2 n2 c2, .slice m2 k2 z2] 38)) (Nat.le_refl _) (stageIn13 HG2.out.arg.bk HG2.out.arg.rs HK12.out.now))
             clear hst hb hkp hbu hbb)
          | (go_at_call 26; (with_reducible refine C3.out.mono ?_)
             rintro e v3 ⟨hst, hb⟩
             obtain ⟨a3, n3, c3, m3, k3, z3, rfl, hkp⟩ := hst.kp hb
             rw [HD3.out] at hkp ⊢
             have hbu := tu1 v3 (.cells #[.slice a3 n3 c3, .slice m3 k3 z3] 38)
             have hbb := below_on hb hbu
             have HX33 := Lib.hid (show SBox (v3.alloc (.cells #[.slice a3 n3 c3, .slice m3 k3 z3] 38)) v3.heap.size a3 n3 c3 m3 k3 z3 from heap_alloc_new v3 _)
             have HK33 := Lib.hid (hkp.on13 hbu)
             have HG3 := Lib.hid (HG2.out.on hbb)
             have HP3 := Lib.hid (HP2.out.on13 hbb)
             have HX23 := Lib.hid (HX22.out.on13 hbb)
             have HK23 := Lib.hid (HK22.out.on13 hbb)
             obtain ⟨⟨b30, b31, b32⟩, _⟩ := HG3.out.cells
             obtain ⟨q30, q31, q32⟩ := HP3.out.cells
             obtain ⟨x30, x31⟩ := HX23.out.cells
             have C4 := Lib.hid (stDo_any na nn nc sa 2 sc ra 2 rc (some ⟨gr, 0, none⟩) 2 2 a2 n2 c2 m2 k2 z2 b abS (afterS s Y) pk pr ps (v3.alloc (.cells #[.slice a3 n3 c3, .slice m3 k3 z3] 38)) (Nat.le_refl _) (stageIn13 HG3.out.arg.bk HG3.out.arg.rs HK23.out.now))
             clear hst hb hkp hbu hbb)
          | (go_at_call 26; (with_reducible refine C4.out.mono ?_)
             rintro e v4 ⟨hst, hb⟩
             obtain ⟨a4, n4, c4, m4, k4, z4, rfl, hkp⟩ := hst.kp hb
             rw [HD4.out] at hkp ⊢
             have hbu := tu1 v4 (.cells #[.slice a4 n4 c4, .slice m4 k4 z4] 38)
             have hbb := below_on hb hbu
             have HX44 := Lib.hid (show SBox (v4.alloc (.cells #[.slice a4 n4 c4, .slice m4 k4 z4] 38)) v4.heap.size a4 n4 c4 m4 k4 z4 from heap_alloc_new v4 _)
             have HK44 := Lib.hid (hkp.on13 hbu)
             have HG6 := Lib.hid (HG3.out.on hbb)
             have HX34 := Lib.hid (HX33.out.on13 hbb)
             have HK34 := Lib.hid (HK33.out.on13 hbb)
             obtain ⟨x40, x41⟩ := HX34.out.cells
             obtain ⟨y40, y41⟩ := HX44.out.cells
             have C5 := Lib.hid (stSame_any a3 n3 c3 m3 k3 z3 a4 n4 c4 m4 k4 z4 (afterS (afterS s X) Y) (afterS (afterS s Y) X) (v4.alloc (.cells #[.slice a4 n4 c4, .slice m4 k4 z4] 38)) HK34.out.now HK44.out.now (afterS_small13 HO3.out) (by rw [← HEQ.out]; exact afterS_small13 HO3.out))
             rw [HEQ.out, sameS_refl] at C5
             clear hst hb hkp hbu hbb)
          | (go_at_call 36; (with_reducible refine C5.out.mono ?_)
             rintro e w9 ⟨rfl, hb9⟩
             have HB9 := Lib.hid (below_on HB2.out (HG6.out.on hb9).below)
             clear hb9)
          | fail)
        go_ret
        exact ⟨rfl, HB9.out⟩
end Go.Proofs.Ytgefhgcpnfbigaa

/- The statement StageDiamond holds for every argument, with no condition. -/
namespace Go.Proofs.Ytgefhgcpnfbigaa.stageDiamond
open Go Go.ChangeShapes Go.WideShapes Go.ChangeAt Go.RowKit
open Go.ChangeMaps (open_string shut_string)

set_option maxRecDepth 100000 in
theorem lifted (os : Os) (started : os.Started) (H : Type) (enc : TypeId × Value → H) :
    ReturnsInHanded {} Try.checked os 6 .any (Rows.stageDiamondSpec.pre6 enc Try.prog Try.f6 Rows.stageDiamondRow.domain false) (Rows.stageDiamondSpec.post enc Try.prog Try.f6 false true false false) := by
  refine returnsInHanded_of_change_sized (C := Try.checked) seatOwn started (by kernel_rfl) Try.func6
    (ChangeSpec.witness6 (enc := enc) (C := Try.checked) false ⟨#[], #[.slice none 0 0, .slice none 0 0, .int .i64 0, .int .i64 0], []⟩ 8 (by kernel_rfl) (by kernel_rfl) (by kernel_rfl) (by kernel_rfl)) ?_
  intro W base args ds gs before hval0 hW hcnd hsz0 _
  have hval : ∀ (j : Nat) t v, Try.f6.params[j]? = some t → args[j]? = some v → Value.okWide Try.prog W .any base t v := hval0
  have hsz : (DataW.weightsEach Try.prog (Try.f6.params.toList ++ Rows.stageDiamondSpec.plain.varTypes Try.prog) (ds ++ gs)).all (· ≤ reachBytes) = true := hsz0
  have hW' := hW
  obtain ⟨p, q, hA0, hV, rfl, hfz, hnd⟩ := hW
  have hA : DataW.TrodAll enc Try.prog W 0 (fun _ => true) true Try.f6.params.toList args.toList ds p := hA0
  rw [Try.params6] at hA hval hsz
  obtain ⟨v0, vs0, d0, ds0, p0, q0, hargs, rfl, rfl, h0, r0⟩ := trodAll_cons hA
  obtain ⟨v1, vs1, d1, ds1, p1, q1, rfl, rfl, rfl, h1, r1⟩ := trodAll_cons r0
  obtain ⟨v2, vs2, d2, ds2, p2, q2, rfl, rfl, rfl, h2, r2⟩ := trodAll_cons r1
  obtain ⟨v3, vs3, d3, ds3, p3, q3, rfl, rfl, rfl, h3, r3⟩ := trodAll_cons r2
  obtain ⟨rfl, rfl, rfl⟩ := trodAll_nil r3
  obtain rfl : args = #[v0, v1, v2, v3] := by cases args; simp_all
  obtain ⟨rfl, rfl⟩ := trodVars_none hV
  have k0 := h0
  have lt0 := args_below k0
  obtain ⟨fu0, hf0⟩ := h0
  obtain ⟨ia0, ilen0, icap0, rfl⟩ := okWide_slice Try.underlying24 (hval 0 24 v0 rfl rfl)
  obtain ⟨a0, n0, c0, l0, hv0, hn0, hi0, hc0, hm0, hz0⟩ := open_ints hf0 (fun elems spare e => by
    have := sized_slice hsz (j := 0) (t := 24) (e := 3) rfl (congrArg some e) Try.underlying24
    rwa [seatBytes2] at this)
  obtain ⟨ea0, en0, ec0⟩ := Value.slice.inj hv0
  subst ea0 en0 ec0
  have k1 := h1
  have lt1 := args_below k1
  obtain ⟨fu1, hf1⟩ := h1
  obtain ⟨ia1, ilen1, icap1, rfl⟩ := okWide_slice Try.underlying24 (hval 1 24 v1 rfl rfl)
  obtain ⟨a1, n1, c1, l1, hv1, hn1, hi1, hc1, hm1, hz1⟩ := open_ints hf1 (fun elems spare e => by
    have := sized_slice hsz (j := 1) (t := 24) (e := 3) rfl (congrArg some e) Try.underlying24
    rwa [seatBytes2] at this)
  obtain ⟨ea1, en1, ec1⟩ := Value.slice.inj hv1
  subst ea1 en1 ec1
  have k2 := h2
  have lt2 := args_below k2
  obtain ⟨a2, rfl, rfl, rfl, w2⟩ := open_int Try.underlying3 (hval 2 3 v2 rfl rfl) h2
  have k3 := h3
  have lt3 := args_below k3
  obtain ⟨a3, rfl, rfl, rfl, w3⟩ := open_int Try.underlying3 (hval 3 3 v3 rfl rfl) h3
  clear hA0 hval0 hsz0
  refine (stageDiamond_walk ia0 ilen0 icap0 l0 ia1 ilen1 icap1 l1 a2 a3 W hn0 hz0 hn1 hz1 ).mono fun e W' ⟨he, bel⟩ => ?_
  subst he
  exact ⟨_, rfl, _, _, _, [], _, [], hW', trodAll_mk1 (shut_bool Try.underlying4 _), (trodAll_cons_mk (Below.trod seatLaidOut (by kernel_rfl) (of_decide_eq_true (by kernel_rfl)) k0 bel lt0) (trodAll_cons_mk (Below.trod seatLaidOut (by kernel_rfl) (of_decide_eq_true (by kernel_rfl)) k1 bel lt1) (trodAll_cons_mk (Below.trod seatLaidOut (by kernel_rfl) (of_decide_eq_true (by kernel_rfl)) k2 bel lt2) (trodAll_cons_mk (Below.trod seatLaidOut (by kernel_rfl) (of_decide_eq_true (by kernel_rfl)) k3 bel lt3) trodAll_mk0)))), rfl, bel.frame _, fun h => by cases h⟩

theorem over : Rows.stageDiamondRow.holds Try.pinned (OpenSpec.ofChange Rows.stageDiamondSpec) :=
  OpenClaim.holds_of_wide 6 Try.f6 rfl rfl rfl rfl rfl rfl rfl ⟨rfl, rfl, rfl, rfl, rfl⟩ rfl rfl rfl rfl rfl (by kernel_rfl) Try.func6 (by kernel_rfl)
    (of_decide_eq_true (by kernel_rfl)) (by unfold Func.isWrapper; first | (rw [if_pos (by decide +kernel)]; kernel_rfl) | (rw [if_neg (by decide +kernel)]; exact ⟨rfl, rfl⟩))
    (fun os started H enc _ => lifted os started H enc)

theorem proved : Rows.StageDiamondSaid :=
  over
#print axioms proved
end Go.Proofs.Ytgefhgcpnfbigaa.stageDiamond
