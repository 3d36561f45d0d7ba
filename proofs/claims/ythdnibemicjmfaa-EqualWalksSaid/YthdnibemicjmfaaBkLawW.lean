/- Law: EqualWalks. (Printed by gen/gen10.py.) -/
import Derived.Test.YthdnibemicjmfaaBkMake
import Derived.Test.YthdnibemicjmfaaBkShr
import Derived.Deep.RegionHeld3
import Derived.Deep.DeepCutAuto
import Derived.Deep.CutBlock
namespace Go.Proofs.Ythdnibemicjmfaa
open Go.RowKit Go.Sort

theorem least_ex (P : Nat → Prop) : ∀ n, P n → ∃ m, P m ∧ ∀ k, P k → m ≤ k := by
  intro n
  induction n using Nat.strongRecOn with
  | ind n ih =>
    intro hn
    by_cases h : ∃ k, k < n ∧ P k
    · obtain ⟨k, hk, hp⟩ := h
      exact ih k hk hp
    · exact ⟨n, hn, fun k hp => Nat.le_of_not_lt fun hlt => h ⟨k, hlt, hp⟩⟩
theorem isCl_ex {ns : List NodeL} (hc : Closed ns) : ∃ cl, IsCl ns cl := by
  have h : ∀ i : Nat, ∃ m, i < ns.length → Eqv ns m i ∧ ∀ k, Eqv ns k i → m ≤ k := fun i => by
    by_cases hi : i < ns.length
    · obtain ⟨m, h1, h2⟩ := least_ex (fun k => Eqv ns k i) i (eqv_refl hc hi)
      exact ⟨m, fun _ => ⟨h1, h2⟩⟩
    · exact ⟨0, fun h => absurd h hi⟩
  refine ⟨(List.range ns.length).map fun i => Classical.choose (h i), by simp, fun i hi => ?_⟩
  have e : ((List.range ns.length).map fun i => Classical.choose (h i)).getD i 0 = Classical.choose (h i) := by
    rw [List.getD_eq_getElem?_getD, List.getElem?_map, List.getElem?_range hi]
    rfl
  rw [e]
  exact Classical.choose_spec (h i) hi
theorem arms_few10 {ns : List NodeL} (h : NodesOk ns) {x : Nat} {a : NodeL} (ha : ns[x]? = some a) : a.arms.length ≤ 6 := by
  rcases nodeB_arms (h.2 x a ha) with h0 | h1
  · rw [h0]; exact Nat.zero_le _
  · unfold edgesB at h1
    simp only [Bool.and_eq_true, decide_eq_true_eq] at h1
    exact h1.2
/-- Two boxes that hold nodes. -/
theorem nod_two (w : World) (k k' : Int) (s s' : ByteArray) (a a' : Option Addr) (n c n' c' : Nat) :
    let W := ((w.alloc (.cells #[.int .i64 k, .string s, .slice a n c] 41)).alloc (.cells #[.int .i64 k', .string s', .slice a' n' c'] 41)).drew
    (W.cell? ⟨w.heap.size, 0, none⟩ = some (.int .i64 k) ∧ W.cell? ⟨w.heap.size, 1, none⟩ = some (.string s) ∧ W.cell? ⟨w.heap.size, 2, none⟩ = some (.slice a n c)) ∧ (W.cell? ⟨w.heap.size + 1, 0, none⟩ = some (.int .i64 k') ∧ W.cell? ⟨w.heap.size + 1, 1, none⟩ = some (.string s') ∧ W.cell? ⟨w.heap.size + 1, 2, none⟩ = some (.slice a' n' c')) ∧ w.heap.size < W.heap.size ∧ w.heap.size + 1 < W.heap.size ∧ Below w.heap.size w W := by
  intro W
  have h1 : W.heap[w.heap.size]? = some (.cells #[.int .i64 k, .string s, .slice a n c] 41 (0, 0)) :=
    ((tu1 (w.alloc (.cells #[.int .i64 k, .string s, .slice a n c] 41)) (.cells #[.int .i64 k', .string s', .slice a' n' c'] 41)).block w.heap.size (by simp)).trans (heap_alloc_new w _)
  have h2 : W.heap[w.heap.size + 1]? = some (.cells #[.int .i64 k', .string s', .slice a' n' c'] 41 (0, 0)) := by
    have := heap_alloc_new (w.alloc (.cells #[.int .i64 k, .string s, .slice a n c] 41)) (.cells #[.int .i64 k', .string s', .slice a' n' c'] 41)
    rw [World.size_alloc] at this
    exact this
  have hb : Below w.heap.size w W := bel_drewN (below_on (tu1 w _) (tu1 _ _)) 1
  exact ⟨⟨by rw [cell_of_row _ _ _ _ _ _ h1]; rfl, by rw [cell_of_row _ _ _ _ _ _ h1]; rfl, by rw [cell_of_row _ _ _ _ _ _ h1]; rfl⟩, ⟨by rw [cell_of_row _ _ _ _ _ _ h2]; rfl, by rw [cell_of_row _ _ _ _ _ _ h2]; rfl, by rw [cell_of_row _ _ _ _ _ _ h2]; rfl⟩, (Array.getElem?_eq_some_iff.1 h1).1, (Array.getElem?_eq_some_iff.1 h2).1, hb⟩
theorem bel_drew10 {B : Nat} {w W : World} (h : Below B w W) : Below B w W.drew := bel_drewN h 1
set_option maxHeartbeats 32000000 in
set_option maxRecDepth 40000 in
theorem equalWalks_walk (a : Option Addr) (n c : Nat) (l : List Int) (x y : Int) (a' : Option Addr) (n' c' : Nat) (l' : List Int) (w : World) (h : Nums w w.heap.size a n l) (hlim : n * 8 ≤ 140737488351232) (h' : Nums w w.heap.size a' n' l') (_hlim' : n' * 8 ≤ 140737488351232) :
    Calls Try.prog 5 #[.slice a n c, .int .i64 x, .int .i64 y, .slice a' n' c'] w fun e w' => e = .returned (.bool true) ∧ Below w.heap.size w w' := by
  have HN := Lib.hid h
  have HF := Lib.hid (first10_any w)
  have HLP := Lib.hid loop10_any
  have hn0 := h.1
  have HLN := Lib.hid hn0
  have HN' := Lib.hid h'
  clear h hn0 h'
  go_enter Try.func5, Try.ntmps5
  go_upto_region 4 with (first
    | (go_at_call 8; (with_reducible refine HF.out.mono ?_)
       rintro e w1 ⟨rfl, hb1⟩
       have HB1 := Lib.hid hb1
       clear hb1)
    | (go_at_call 19; (with_reducible refine (HLP.out w1).mono ?_)
       rintro e w2 ⟨⟨pa, pn, pc, qa, qn, qc, ua, un, uc, rfl, _⟩, hb2⟩
       have HB2 := Lib.hid (below_on HB1.out hb2)
       clear hb2)
    | (at_builtin
       refine wpList_append_plus10 rfl (.tmp 19) (.tmp 20) rfl w2.heap.size w.heap.size (.slice (some ⟨w2.heap.size, 0, none⟩) 1 1) a n c [5] l rfl rfl (IInts.one (W := w2) (cs := #[.int .i64 5]) (base := w2.heap.size) (g := w2.heap.size) 5 rfl rfl (Nat.le_refl _)) ((HN.out.below HB2.out).alloc HB2.out.size _) (by show (1 + n) * 8 ≤ _; omega) (by simp) ?_
       intro v3 w3 hown hgr
       obtain ⟨ma, mc, hv, _, _, _, hnu⟩ := hown.sees
       obtain ⟨mn, hmn⟩ : ∃ mn, mn = ([5] ++ l : List Int).length := ⟨_, rfl⟩
       rw [← hmn] at hv hnu
       subst hv
       have hml : mn * 8 ≤ 140737488355328 := by rw [hmn, List.length_append, HLN.out]; show (1 + n) * 8 ≤ _; omega
       have hm0 : 0 < mn := by rw [hmn]; simp
       clear hmn
       have HNU := Lib.hid hnu
       have HB3 := Lib.hid ((HB2.out.alloc HB2.out.size (.cells #[.int .i64 5] 3)).grown hgr (by have := HB2.out.size; simp; omega) (fun j e => by cases e; exact HB2.out.size))
       clear hown hgr hnu)
    | (go_at_call 10; (with_reducible refine (made10_pos pa pn pc qa qn qc ua un uc ma mn mc _ w3 w3.heap.size (Nat.le_refl _) HNU.out hm0 hml).mono ?_)
       rintro e w4 ⟨⟨na, nn, nc, sa, sc, ra, rc, b, rfl, hin, hok, h1, h8⟩, hb4⟩
       have HB4 := Lib.hid (below_on HB3.out hb4)
       have HIN := Lib.hid hin
       have HOK := Lib.hid (And.intro hok (And.intro h1 h8))
       clear hin hok hb4 h1 h8)
    | fail)
  have HG := Lib.hid (show LB10 w (w4.alloc (.cells #[.slice na nn nc, .slice sa 2 sc, .slice ra 2 rc] 26)) w4.heap.size na nn nc sa sc ra rc b from
    ⟨heap_alloc_new w4 _, HIN.out.on (tu1 w4 _), HOK.out.1, HOK.out.2.1, HOK.out.2.2, below_on HB4.out (tu1 w4 _)⟩)
  generalize hg5 : w4.heap.size = g5 at HG ⊢
  generalize hw5 : w4.alloc (.cells #[.slice na nn nc, .slice sa 2 sc, .slice ra 2 rc] 26) = w5 at HG ⊢
  clear hg5 hw5 HIN HOK HB4 HB3 HNU HB2 HB1 HF HLP HN hml hm0
  obtain ⟨gc0, gc1, gc2⟩ := HG.out.cells
  have hn1 := HG.out.one
  have hn8 := HG.out.few
  obtain ⟨hok, _⟩ := bookB_ok HG.out.ok
  have HOK := Lib.hid hok
  clear hok
  obtain ⟨p, hp, hmx⟩ := mod_lt x nn (by omega) (by omega)
  obtain ⟨q, hq, hmy⟩ := mod_lt y nn (by omega) (by omega)
  have hne : ((nn : Int) == 0) = false := by rw [beq_eq_false_iff_ne]; omega
  have hwn : IntKind.u64.wrap (nn : Int) = (nn : Int) := IntWalk.u64_in _ (by omega)
  have hwp : IntKind.i64.wrap (p : Int) = (p : Int) := by simp [IntKind.wrap, IntKind.bits, IntKind.signed]; omega
  have hwq : IntKind.i64.wrap (q : Int) = (q : Int) := by simp [IntKind.wrap, IntKind.bits, IntKind.signed]; omega
  go_wp2
  go_quiet (fail)
  have HGa := Lib.hid (HG.out.on (bel_drewN (Below.refl _ _) nq))
  generalize w5.drewN nq = wa at HGa ⊢
  clear HG gc0 gc1 gc2
  obtain ⟨gc0, gc1, gc2⟩ := HGa.out.cells
  obtain ⟨cl, hcl⟩ := isCl_ex HOK.out.closed
  have HIS := Lib.hid hcl
  have hlc : cl.length = nn := by rw [hcl.1, HGa.out.len]
  have HST := Lib.hid (show ∀ i j : Nat, i < nn → j < nn → (Eqv b.nodes i j ↔ sameC cl (i : Int) (j : Int) = true) from fun i j hi hj => by
    have hL := HGa.out.len
    rw [sameC_at hlc hi hj, decide_eq_true_eq]
    exact (hcl.iff (by omega) (by omega)).symm)
  clear hcl hlc hmx hmy hwp hwq
  have hS0 := HST.out p q hp hq
  obtain ⟨A, hA⟩ : ∃ A, A = sameC cl (p : Int) (q : Int) := ⟨_, rfl⟩
  rw [← hA] at hS0
  have HA := Lib.hid hA.symm
  clear hA
  cases A
  · clear hS0
    go_wp2_with (first
      | (go_at_call 11
         have hsm := HGa.out.same HIS.out (p : Int) (q : Int)
         rw [HA.out] at hsm
         (with_reducible refine hsm.mono ?_)
         rintro e w6 ⟨rfl, hb⟩
         have HG6 := Lib.hid (HGa.out.on hb)
         clear hb hsm)
      | fail)
    go_ret
    exact ⟨rfl, HG6.out.bel⟩
  · have HE := Lib.hid (hS0.2 rfl)
    clear hS0
    go_wp2_with (first
      | (go_at_call 11
         have hsm := HGa.out.same HIS.out (p : Int) (q : Int)
         rw [HA.out] at hsm
         (with_reducible refine hsm.mono ?_)
         rintro e w6 ⟨rfl, hb⟩
         have HG6 := Lib.hid (HGa.out.on hb)
         clear hb hsm)
      | fail)
    clear gc0 gc1 gc2
    go_loopw [10, 11, 12] (fun sp sq si wx => ∃ u v k : Nat, k ≤ n' ∧ k ≤ 20 ∧ u < nn ∧ v < nn ∧ sp = .int .i64 u ∧ sq = .int .i64 v ∧ si = .int .i64 k ∧ Hid (Eqv b.nodes u v) ∧ Hid (LB10 w wx g5 na nn nc sa sc ra rc b)) (fun _ _ i _ => 20 - (intOf i).toNat)
    case atStart => exact ⟨p, q, 0, Nat.zero_le _, Nat.zero_le _, hp, hq, rfl, rfl, rfl, HE, HG6⟩
    case round =>
      obtain ⟨u, v, k, hk, hk2, hu, hv, rfl, rfl, rfl, HEr, HGr⟩ := hrel
      obtain ⟨ws, hws⟩ : ∃ ws : World, ws = wr := ⟨_, rfl⟩
      subst hws
      clear hp hq HE
      by_cases hkn : k < n'
      · by_cases hk20 : k < 20
        · have d1 : decide ((k : Int) < (n' : Int)) = true := decide_eq_true (by omega)
          have d2 : decide ((k : Int) < 20) = true := decide_eq_true (by omega)
          have hBz := HGr.out.bel.size
          obtain ⟨nb, no, kd, pe, ta, an, ac, tl, ena, hnb, hux, ⟨xc0, xc1, xc2⟩, _, hta⟩ := HGr.out.bk.nodes.at_ hu
          obtain ⟨nb2, no2, ke, qe, va, vn, vc, vl, enb, _, hvx, ⟨yc0, yc1, yc2⟩, _, hva⟩ := HGr.out.bk.nodes.at_ hv
          subst ena
          obtain ⟨f1, f2, _⟩ := Addr.mk.inj (Option.some.inj enb)
          subst f1 f2
          clear enb
          obtain ⟨t1, t2, e1, e2, hal, hon⟩ := eqv_bis _ _ _ HEr.out
          rw [hux] at e1
          rw [hvx] at e2
          obtain rfl := Option.some.inj e1
          obtain rfl := Option.some.inj e2
          have k1 : kd = ke := hal.1
          subst k1
          have k2 : pe = qe := toList_inj hal.2.1
          subst k2
          have k3 : vn = an := by rw [← hva.1, ← hta.1]; exact hal.len.symm
          subst k3
          have ha6 : vn ≤ 6 := by rw [← hta.1]; exact arms_few10 HOK.out hux
          have HK := Lib.hid (fun (W : World) (hW : Below ws.heap.size ws W) => show W.cell? ⟨g5, 0, none⟩ = some (.slice (some ⟨nb, no, none⟩) nn nc) ∧ (W.cell? ⟨nb, no + u * 3, none⟩ = some (.int .i64 kd) ∧ W.cell? ⟨nb, no + u * 3 + 1, none⟩ = some (.string pe) ∧ W.cell? ⟨nb, no + u * 3 + 2, none⟩ = some (.slice ta vn ac)) ∧ W.cell? ⟨nb, no + v * 3, none⟩ = some (.int .i64 kd) ∧ W.cell? ⟨nb, no + v * 3 + 1, none⟩ = some (.string pe) ∧ W.cell? ⟨nb, no + v * 3 + 2, none⟩ = some (.slice va vn vc) from
            ⟨(HGr.out.on hW).cells.1, ⟨(hW.cell (p := ⟨nb, no + u * 3, none⟩) hnb).trans xc0, (hW.cell (p := ⟨nb, no + u * 3 + 1, none⟩) hnb).trans xc1, (hW.cell (p := ⟨nb, no + u * 3 + 2, none⟩) hnb).trans xc2⟩, (hW.cell (p := ⟨nb, no + v * 3, none⟩) hnb).trans yc0, (hW.cell (p := ⟨nb, no + v * 3 + 1, none⟩) hnb).trans yc1, (hW.cell (p := ⟨nb, no + v * 3 + 2, none⟩) hnb).trans yc2⟩)
          have HF := Lib.hid (And.intro hal (And.intro hon (And.intro hta (And.intro hva (And.intro hux hvx)))))
          have HD := Lib.hid (Below.refl ws.heap.size ws)
          have j1 : (u : Int) < (nn : Int) := by omega
          have j2 : (0 : Int) ≤ (u : Int) := by omega
          have j3 : (v : Int) < (nn : Int) := by omega
          have j4 : (0 : Int) ≤ (v : Int) := by omega
          clear hal hon hta hva hux hvx xc0 xc1 xc2 yc0 yc1 yc2 e1 e2
          go_upto_region 10 with fail
          go_cut [13, 14] (fun s13 s14 wx => ∃ gx gy : Nat, s13 = .pointer (some ⟨gx, 0, none⟩) ∧ s14 = .pointer (some ⟨gy, 0, none⟩) ∧ Hid (wx.cell? ⟨gx, 0, none⟩ = some (.int .i64 kd) ∧ wx.cell? ⟨gx, 1, none⟩ = some (.string pe) ∧ wx.cell? ⟨gx, 2, none⟩ = some (.slice ta vn ac)) ∧ Hid (wx.cell? ⟨gy, 0, none⟩ = some (.int .i64 kd) ∧ wx.cell? ⟨gy, 1, none⟩ = some (.string pe) ∧ wx.cell? ⟨gy, 2, none⟩ = some (.slice va vn vc)) ∧ gx < wx.heap.size ∧ gy < wx.heap.size ∧ Hid (Below ws.heap.size ws wx))
          case first =>
            go_region_held3 (fun W => W.cell? ⟨g5, 0, none⟩ = some (.slice (some ⟨nb, no, none⟩) nn nc) ∧ (W.cell? ⟨nb, no + u * 3, none⟩ = some (.int .i64 kd) ∧ W.cell? ⟨nb, no + u * 3 + 1, none⟩ = some (.string pe) ∧ W.cell? ⟨nb, no + u * 3 + 2, none⟩ = some (.slice ta vn ac)) ∧ W.cell? ⟨nb, no + v * 3, none⟩ = some (.int .i64 kd) ∧ W.cell? ⟨nb, no + v * 3 + 1, none⟩ = some (.string pe) ∧ W.cell? ⟨nb, no + v * 3 + 2, none⟩ = some (.slice va vn vc))
              (first | exact HK.out _ HD.out | exact HK.out _ (bel_drew10 HD.out) | (refine HK.out _ ?_; ((repeat' (first | exact HD.out | with_reducible apply bel_drew10 | with_reducible apply Below.setCell | with_reducible apply Below.alloc)) <;> simp)))
              (fail)
            all_goals (go_wp2_with fail; go_meet)
            case rel =>
              have h := nod_two ws kd kd pe pe ta va vn ac vn vc
              exact ⟨_, _, rfl, rfl, Lib.hid h.1, Lib.hid h.2.1, h.2.2.1, h.2.2.2.1, Lib.hid h.2.2.2.2⟩
            case rel =>
              have h := nod_two ws kd kd pe pe va ta vn vc vn ac
              exact ⟨_, _, rfl, rfl, Lib.hid h.2.1, Lib.hid h.1, h.2.2.2.1, h.2.2.1, Lib.hid h.2.2.2.2⟩
          case rest =>
            obtain ⟨gx, gy, e13, e14, HXC, HYC, hgx, hgy, HBE⟩ := hcut
            subst e13 e14
            obtain ⟨we, hwe⟩ : ∃ we : World, we = wc := ⟨_, rfl⟩
            subst hwe
            have HGe := Lib.hid (HGr.out.on HBE.out)
            have HLX := Lib.hid (fun (W : World) (hW : Below we.heap.size we W) => show (W.cell? ⟨gx, 0, none⟩ = some (.int .i64 kd) ∧ W.cell? ⟨gx, 1, none⟩ = some (.string pe) ∧ W.cell? ⟨gx, 2, none⟩ = some (.slice ta vn ac)) ∧ W.cell? ⟨gy, 0, none⟩ = some (.int .i64 kd) ∧ W.cell? ⟨gy, 1, none⟩ = some (.string pe) ∧ W.cell? ⟨gy, 2, none⟩ = some (.slice va vn vc) from
              ⟨⟨(hW.cell (p := ⟨gx, 0, none⟩) hgx).trans HXC.out.1, (hW.cell (p := ⟨gx, 1, none⟩) hgx).trans HXC.out.2.1, (hW.cell (p := ⟨gx, 2, none⟩) hgx).trans HXC.out.2.2⟩, (hW.cell (p := ⟨gy, 0, none⟩) hgy).trans HYC.out.1, (hW.cell (p := ⟨gy, 1, none⟩) hgy).trans HYC.out.2.1, (hW.cell (p := ⟨gy, 2, none⟩) hgy).trans HYC.out.2.2⟩)
            obtain ⟨⟨x0, x1, x2⟩, y0, y1, y2⟩ := HLX.out we (Below.refl _ _)
            obtain ⟨gd0, gd1, gd2⟩ := HGe.out.cells
            have n1 : (kd != kd) = false := by simp
            have n2 : (pe.toList != pe.toList) = false := by simp
            have n3 : ((vn : Int) != (vn : Int)) = false := by simp
            have HUV := Lib.hid ((HST.out u v hu hv).1 HEr.out)
            clear HXC HYC HK HD
            go_upto_region 13 with (first
              | (go_at_call 11
                 have hsm := HGe.out.same HIS.out (u : Int) (v : Int)
                 rw [HUV.out] at hsm
                 (with_reducible refine hsm.mono ?_)
                 rintro e wf ⟨rfl, hb⟩
                 have HGf := Lib.hid (HGe.out.on hb)
                 have HBf := Lib.hid hb
                 clear hb hsm)
              | fail)
            clear x0 x1 x2 y0 y1 y2 gd0 gd1 gd2 n1 n2 n3
            obtain ⟨⟨_, _, x2⟩, _, _, y2⟩ := HLX.out wf HBf.out
            by_cases han : vn = 0
            · have d3 : ((vn : Int) == 0) = true := by subst han; rfl
              go_wp2_with fail
              go_ret
              exact ⟨rfl, HGf.out.bel⟩
            · have d3 : ((vn : Int) == 0) = false := by rw [beq_eq_false_iff_ne]; omega
              obtain ⟨kb, ko, lx, rfl, hkb, _, hkc⟩ := (HN'.out.below HGf.out.bel).at_ hkn
              obtain ⟨m, hm, hmod⟩ := mod_lt lx vn (by omega) (by omega)
              have hwa : IntKind.u64.wrap (vn : Int) = (vn : Int) := IntWalk.u64_in _ (by omega)
              have hwm : IntKind.i64.wrap (m : Int) = (m : Int) := by simp [IntKind.wrap, IntKind.bits, IntKind.signed]; omega
              have i1 : (k : Int) < (n' : Int) := by omega
              have i2 : (0 : Int) ≤ (k : Int) := by omega
              go_upto_region 15 with fail
              go_quiet (fail)
              have HGg := Lib.hid (HGf.out.on (bel_drewN (Below.refl _ _) nq))
              have HBg := Lib.hid (bel_drewN HBf.out nq)
              generalize wf.drewN nq = wg at HGg HBg ⊢
              clear x2 y2 hkc hmod hwa hwm HGf HBf
              obtain ⟨hal, hon, hta, hva, hux, hvx⟩ := HF.out
              obtain ⟨lb, lo, sv, sk, txi, nxi, ea, hlb, hx6, ⟨z0, z1, z2, z3⟩, _⟩ := (hta.on (below_on HBE.out HBg.out)).at_ hm
              obtain ⟨mb, mo, tv, dk, tyi, nyi, eb, hmb, hy6, ⟨u0, u1, u2, u3⟩, _⟩ := (hva.on (below_on HBE.out HBg.out)).at_ hm
              subst ea eb
              obtain ⟨f, hf0, hfl0, hfs0⟩ := hal.at_ hx6
              have hf : vl[m]? = some f := hf0
              clear hf0
              rw [hy6] at hf
              obtain rfl := Option.some.inj hf
              have hfl : tv = sv := toList_inj hfl0
              have hfs : dk = sk := hfs0
              clear hf hfl0 hfs0
              subst hfl hfs
              obtain ⟨_, _, ⟨hx1, hx2⟩, hx3, hx4⟩ := HOK.out.edge hux (List.mem_of_getElem? hx6)
              obtain ⟨_, _, ⟨hy1, hy2⟩, hy3, hy4⟩ := HOK.out.edge hvx (List.mem_of_getElem? hy6)
              obtain ⟨hE1, hE2⟩ := hon m _ _ hx6 hy6
              dsimp only at hx1 hx2 hx3 hx4 hy1 hy2 hy3 hy4 hE1 hE2
              obtain ⟨tx, rfl⟩ := Int.eq_ofNat_of_zero_le hx1
              obtain ⟨ty, rfl⟩ := Int.eq_ofNat_of_zero_le hy1
              obtain ⟨nx, rfl⟩ := Int.eq_ofNat_of_zero_le hx3
              obtain ⟨ny, rfl⟩ := Int.eq_ofNat_of_zero_le hy3
              rw [Int.toNat_natCast] at hx2 hx4 hy2 hy4
              rw [Int.toNat_natCast, Int.toNat_natCast] at hE1 hE2
              have hL := HGg.out.len
              rw [hL] at hx2 hx4 hy2 hy4
              have HE1 := Lib.hid hE1
              have HTT := Lib.hid (fun e : dk = 5 => (HST.out tx ty hx2 hy2).1 (hE2 e))
              have HS2 := Lib.hid (fun (W : World) (h : LB10 w W g5 (some ⟨nb, no, none⟩) nn nc sa sc ra rc b) (hb : Below wg.heap.size wg W) => show (W.cell? ⟨g5, 0, none⟩ = some (.slice (some ⟨nb, no, none⟩) nn nc) ∧ W.cell? ⟨g5, 1, none⟩ = some (.slice sa 2 sc) ∧ W.cell? ⟨g5, 2, none⟩ = some (.slice ra 2 rc)) ∧ (W.cell? ⟨gx, 2, none⟩ = some (.slice (some ⟨lb, lo, none⟩) vn ac) ∧ W.cell? ⟨gy, 2, none⟩ = some (.slice (some ⟨mb, mo, none⟩) vn vc)) ∧ (W.cell? ⟨lb, lo + m * 4, none⟩ = some (.string tv) ∧ W.cell? ⟨lb, lo + m * 4 + 1, none⟩ = some (.int .i64 dk) ∧ W.cell? ⟨lb, lo + m * 4 + 2, none⟩ = some (.int .i64 (tx : Int))) ∧ W.cell? ⟨mb, mo + m * 4, none⟩ = some (.string tv) ∧ W.cell? ⟨mb, mo + m * 4 + 1, none⟩ = some (.int .i64 dk) ∧ W.cell? ⟨mb, mo + m * 4 + 2, none⟩ = some (.int .i64 (ty : Int)) from
                have hx := HLX.out W (below_on HBg.out hb)
                ⟨h.cells, ⟨hx.1.2.2, hx.2.2.2⟩, ⟨(hb.cell (p := ⟨lb, lo + m * 4, none⟩) hlb).trans z0, (hb.cell (p := ⟨lb, lo + m * 4 + 1, none⟩) hlb).trans z1, (hb.cell (p := ⟨lb, lo + m * 4 + 2, none⟩) hlb).trans z2⟩, (hb.cell (p := ⟨mb, mo + m * 4, none⟩) hmb).trans u0, (hb.cell (p := ⟨mb, mo + m * 4 + 1, none⟩) hmb).trans u1, (hb.cell (p := ⟨mb, mo + m * 4 + 2, none⟩) hmb).trans u2⟩)
              have HNX := Lib.hid (fun (W : World) (hb : Below wg.heap.size wg W) => show (W.cell? ⟨gx, 2, none⟩ = some (.slice (some ⟨lb, lo, none⟩) vn ac) ∧ W.cell? ⟨gy, 2, none⟩ = some (.slice (some ⟨mb, mo, none⟩) vn vc)) ∧ W.cell? ⟨lb, lo + m * 4 + 3, none⟩ = some (.int .i64 (nx : Int)) ∧ W.cell? ⟨mb, mo + m * 4 + 3, none⟩ = some (.int .i64 (ny : Int)) from
                have hx := HLX.out W (below_on HBg.out hb)
                ⟨⟨hx.1.2.2, hx.2.2.2⟩, (hb.cell (p := ⟨lb, lo + m * 4 + 3, none⟩) hlb).trans z3, (hb.cell (p := ⟨mb, mo + m * 4 + 3, none⟩) hmb).trans u3⟩)
              have i3 : (m : Int) < (vn : Int) := by omega
              have i4 : (0 : Int) ≤ (m : Int) := by omega
              have n1 : (dk != dk) = false := by simp
              have n2 : (tv.toList != tv.toList) = false := by simp
              clear hal hon hta hva hux hvx hx6 hy6 z0 z1 z2 z3 u0 u1 u2 u3 hE1 hE2 hx1 hy1 hx3 hy3 HF hL i1 i2
              go_upto_region 16 with fail
              go_cut [165] (fun s wx => s = .bool false ∧ Hid (LB10 w wx g5 (some ⟨nb, no, none⟩) nn nc sa sc ra rc b) ∧ Hid (Below wg.heap.size wg wx))
              case first =>
                have HGd := Lib.hid (HGg.out.on (bel_drewN (Below.refl _ _) 1))
                have HXd := Lib.hid (show Below wg.heap.size wg (wg.drewN 1) from bel_drewN (Below.refl _ _) 1)
                generalize hwd : wg.drewN 1 = wd at HGd HXd
                have hwd2 : wg.drew = wd := hwd
                clear hwd
                by_cases h5 : dk = 5
                · have d5 : (dk == 5) = true := by rw [h5]; rfl
                  have hHD := HS2.out _ HGd.out HXd.out
                  refine wp_region_held_drew (S := fun W => (W.cell? ⟨g5, 0, none⟩ = some (.slice (some ⟨nb, no, none⟩) nn nc) ∧ W.cell? ⟨g5, 1, none⟩ = some (.slice sa 2 sc) ∧ W.cell? ⟨g5, 2, none⟩ = some (.slice ra 2 rc)) ∧ (W.cell? ⟨gx, 2, none⟩ = some (.slice (some ⟨lb, lo, none⟩) vn ac) ∧ W.cell? ⟨gy, 2, none⟩ = some (.slice (some ⟨mb, mo, none⟩) vn vc)) ∧ (W.cell? ⟨lb, lo + m * 4, none⟩ = some (.string tv) ∧ W.cell? ⟨lb, lo + m * 4 + 1, none⟩ = some (.int .i64 dk) ∧ W.cell? ⟨lb, lo + m * 4 + 2, none⟩ = some (.int .i64 (tx : Int))) ∧ W.cell? ⟨mb, mo + m * 4, none⟩ = some (.string tv) ∧ W.cell? ⟨mb, mo + m * 4 + 1, none⟩ = some (.int .i64 dk) ∧ W.cell? ⟨mb, mo + m * 4 + 2, none⟩ = some (.int .i64 (ty : Int))) (by kernel_rfl) (by rw [hwd2]; exact hHD) (fun hHeld => ?_)
                  rw [hwd2]
                  rw [hwd2] at hHeld
                  clear hHD
                  try simp only [Act.put, List.setIfInBounds_toArray]
                  refine' wpAnyH_take (i := 0) (v := _) rfl (by kernel_rfl) (by kernel_rfl) (by kernel_rfl) (fun _ _ _ h => h) (Or.inl ⟨by kernel_rfl, ?hyf50⟩) (by assumption) ?restf50
                  case hyf50 =>
                    intro W hSw
                    (try dsimp only at hSw)
                    first | (go_simp; done) | (go_simp; with_reducible rfl)
                  try simp only [Act.put]
                  refine' wpAnyH_take (i := 1) (v := _) rfl (by kernel_rfl) (by kernel_rfl) (by kernel_rfl) (fun _ _ _ h => h) (Or.inl ⟨by kernel_rfl, ?hyf51⟩) (by assumption) ?restf51
                  case hyf51 =>
                    intro W hSw
                    (try dsimp only at hSw)
                    first | (go_simp; done) | (go_simp; with_reducible rfl)
                  try simp only [Act.put]
                  refine' wpAnyH_take (i := 2) (v := _) rfl (by kernel_rfl) (by kernel_rfl) (by kernel_rfl) (fun _ _ _ h => h) (Or.inl ⟨by kernel_rfl, ?hyf52⟩) (by assumption) ?restf52
                  case hyf52 =>
                    intro W hSw
                    (try dsimp only at hSw)
                    first | (go_simp; done) | (go_simp; with_reducible rfl)
                  try simp only [Act.put]
                  refine' wpAnyH_take (i := 3) (v := _) rfl (by kernel_rfl) (by kernel_rfl) (by kernel_rfl) (fun _ _ _ h => h) (Or.inl ⟨by kernel_rfl, ?hyf53⟩) (by assumption) ?restf53
                  case hyf53 =>
                    intro W hSw
                    (try dsimp only at hSw)
                    first | (go_simp; done) | (go_simp; with_reducible rfl)
                  try simp only [Act.put]
                  refine' wpAnyH_take (i := 4) (v := _) rfl (by kernel_rfl) (by kernel_rfl) (by kernel_rfl) (fun _ _ _ h => h) (Or.inl ⟨by kernel_rfl, ?hyf54⟩) (by assumption) ?restf54
                  case hyf54 =>
                    intro W hSw
                    (try dsimp only at hSw)
                    first | (go_simp; done) | (go_simp; with_reducible rfl)
                  try simp only [Act.put]
                  refine' wpAnyH_take (i := 5) (v := _) rfl (by kernel_rfl) (by kernel_rfl) (by kernel_rfl) (fun _ _ _ h => h) (Or.inl ⟨by kernel_rfl, ?hyf55⟩) (by assumption) ?restf55
                  case hyf55 =>
                    intro W hSw
                    (try dsimp only at hSw)
                    first | (go_simp; done) | (go_simp; with_reducible rfl)
                  try simp only [Act.put]
                  refine' wpAnyH_take (i := 6) (v := _) rfl (by kernel_rfl) (by kernel_rfl) (by kernel_rfl) (fun _ _ _ h => h) (Or.inl ⟨by kernel_rfl, ?hyf56⟩) (by assumption) ?restf56
                  case hyf56 =>
                    intro W hSw
                    (try dsimp only at hSw)
                    first | (go_simp; done) | (go_simp; with_reducible rfl)
                  try simp only [Act.put, List.getElem_toArray, List.getElem_cons_succ, List.getElem_cons_zero, List.setIfInBounds_toArray, List.set_cons_succ, List.set_cons_zero]
                  refine' wpAnyH_take (i := 7) (v := _) rfl (by kernel_rfl) (by kernel_rfl) (by kernel_rfl) (fun _ _ _ h => h) (Or.inl ⟨by kernel_rfl, ?hyf57⟩) (by assumption) ?restf57
                  case hyf57 =>
                    intro W hSw
                    (try dsimp only at hSw)
                    first | (go_simp; done) | (go_simp; with_reducible rfl)
                  try simp only [Act.put]
                  refine' wpAnyH_take (i := 8) (v := _) rfl (by kernel_rfl) (by kernel_rfl) (by kernel_rfl) (fun _ _ _ h => h) (Or.inl ⟨by kernel_rfl, ?hyf58⟩) (by assumption) ?restf58
                  case hyf58 =>
                    intro W hSw
                    (try dsimp only at hSw)
                    first | (go_simp; done) | (go_simp; with_reducible rfl)
                  try simp only [Act.put]
                  refine' wpAnyH_take (i := 9) (v := _) rfl (by kernel_rfl) (by kernel_rfl) (by kernel_rfl) (fun _ _ _ h => h) (Or.inl ⟨by kernel_rfl, ?hyf59⟩) (by assumption) ?restf59
                  case hyf59 =>
                    intro W hSw
                    (try dsimp only at hSw)
                    first | (go_simp; done) | (go_simp; with_reducible rfl)
                  try simp only [Act.put]
                  refine' wpAnyH_take (i := 10) (v := _) rfl (by kernel_rfl) (by kernel_rfl) (by kernel_rfl) (fun _ _ _ h => h) (Or.inl ⟨by kernel_rfl, ?hyf510⟩) (by assumption) ?restf510
                  case hyf510 =>
                    intro W hSw
                    (try dsimp only at hSw)
                    first | (go_simp; done) | (go_simp; with_reducible rfl)
                  try simp only [Act.put]
                  refine' wpAnyH_take (i := 11) (v := _) rfl (by kernel_rfl) (by kernel_rfl) (by kernel_rfl) (fun _ _ _ h => h) (Or.inl ⟨by kernel_rfl, ?hyf511⟩) (by assumption) ?restf511
                  case hyf511 =>
                    intro W hSw
                    (try dsimp only at hSw)
                    first | (go_simp; done) | (go_simp; with_reducible rfl)
                  try simp only [Act.put]
                  refine' wpAnyH_take (i := 12) (v := _) rfl (by kernel_rfl) (by kernel_rfl) (by kernel_rfl) (fun _ _ _ h => h) (Or.inl ⟨by kernel_rfl, ?hyf512⟩) (by assumption) ?restf512
                  case hyf512 =>
                    intro W hSw
                    (try dsimp only at hSw)
                    first | (go_simp; done) | (go_simp; with_reducible rfl)
                  try simp only [Act.put]
                  refine' wpAnyH_take (i := 13) (v := _) rfl (by kernel_rfl) (by kernel_rfl) (by kernel_rfl) (fun _ _ _ h => h) (Or.inl ⟨by kernel_rfl, ?hyf513⟩) (by assumption) ?restf513
                  case hyf513 =>
                    intro W hSw
                    (try dsimp only at hSw)
                    first | (go_simp; done) | (go_simp; with_reducible rfl)
                  try simp only [Act.put]
                  refine' wpAnyH_take (i := 14) (v := _) rfl (by kernel_rfl) (by kernel_rfl) (by kernel_rfl) (fun _ _ _ h => h) (Or.inl ⟨by kernel_rfl, ?hyf514⟩) (by assumption) ?restf514
                  case hyf514 =>
                    intro W hSw
                    (try dsimp only at hSw)
                    first | (go_simp; done) | (go_simp; with_reducible rfl)
                  try simp only [Act.put, List.getElem_toArray, List.getElem_cons_succ, List.getElem_cons_zero, List.setIfInBounds_toArray, List.set_cons_succ, List.set_cons_zero]
                  refine' wpAnyH_take (i := 15) (v := _) rfl (by kernel_rfl) (by kernel_rfl) (by kernel_rfl) (fun _ _ _ h => h) (Or.inl ⟨by kernel_rfl, ?hyf515⟩) (by assumption) ?restf515
                  case hyf515 =>
                    intro W hSw
                    (try dsimp only at hSw)
                    first | (go_simp; done) | (go_simp; with_reducible rfl)
                  try simp only [Act.put]
                  refine' wpAnyH_take (i := 16) (v := _) rfl (by kernel_rfl) (by kernel_rfl) (by kernel_rfl) (fun _ _ _ h => h) (Or.inl ⟨by kernel_rfl, ?hyf516⟩) (by assumption) ?restf516
                  case hyf516 =>
                    intro W hSw
                    (try dsimp only at hSw)
                    first | (go_simp; done) | (go_simp; with_reducible rfl)
                  try simp only [Act.put]
                  refine' wpAnyH_take (i := 17) (v := _) rfl (by kernel_rfl) (by kernel_rfl) (by kernel_rfl) (fun _ _ _ h => h) (Or.inl ⟨by kernel_rfl, ?hyf517⟩) (by assumption) ?restf517
                  case hyf517 =>
                    intro W hSw
                    (try dsimp only at hSw)
                    first | (go_simp; done) | (go_simp; with_reducible rfl)
                  try simp only [Act.put]
                  refine' wpAnyH_take (i := 18) (v := _) rfl (by kernel_rfl) (by kernel_rfl) (by kernel_rfl) (fun _ _ _ h => h) (Or.inl ⟨by kernel_rfl, ?hyf518⟩) (by assumption) ?restf518
                  case hyf518 =>
                    intro W hSw
                    (try dsimp only at hSw)
                    first | (go_simp; done) | (go_simp; with_reducible rfl)
                  try simp only [Act.put]
                  refine' wpAnyH_take (i := 19) (v := _) rfl (by kernel_rfl) (by kernel_rfl) (by kernel_rfl) (fun _ _ _ h => h) (Or.inl ⟨by kernel_rfl, ?hyf519⟩) (by assumption) ?restf519
                  case hyf519 =>
                    intro W hSw
                    (try dsimp only at hSw)
                    first | (go_simp; done) | (go_simp; with_reducible rfl)
                  try simp only [Act.put]
                  refine' wpAnyH_take (i := 20) (v := _) rfl (by kernel_rfl) (by kernel_rfl) (by kernel_rfl) (fun _ _ _ h => h) (Or.inl ⟨by kernel_rfl, ?hyf520⟩) (by assumption) ?restf520
                  case hyf520 =>
                    intro W hSw
                    (try dsimp only at hSw)
                    first | (go_simp; done) | (go_simp; with_reducible rfl)
                  try simp only [Act.put]
                  refine' wpAnyH_take (i := 21) (v := _) rfl (by kernel_rfl) (by kernel_rfl) (by kernel_rfl) (fun _ _ _ h => h) (Or.inl ⟨by kernel_rfl, ?hyf521⟩) (by assumption) ?restf521
                  case hyf521 =>
                    intro W hSw
                    (try dsimp only at hSw)
                    first | (go_simp; done) | (go_simp; with_reducible rfl)
                  try simp only [Act.put]
                  refine' wpAnyH_take (i := 22) (v := _) rfl (by kernel_rfl) (by kernel_rfl) (by kernel_rfl) (fun _ _ _ h => h) (Or.inl ⟨by kernel_rfl, ?hyf522⟩) (by assumption) ?restf522
                  case hyf522 =>
                    intro W hSw
                    (try dsimp only at hSw)
                    first | (go_simp; done) | (go_simp; with_reducible rfl)
                  try simp only [Act.put, List.getElem_toArray, List.getElem_cons_succ, List.getElem_cons_zero, List.setIfInBounds_toArray, List.set_cons_succ, List.set_cons_zero]
                  refine' wpAnyH_take (i := 23) (v := _) rfl (by kernel_rfl) (by kernel_rfl) (by kernel_rfl) (fun _ _ _ h => h) (Or.inl ⟨by kernel_rfl, ?hyf523⟩) (by assumption) ?restf523
                  case hyf523 =>
                    intro W hSw
                    (try dsimp only at hSw)
                    first | (go_simp; done) | (go_simp; with_reducible rfl)
                  try simp only [Act.put]
                  refine' wpAnyH_take (i := 24) (v := _) rfl (by kernel_rfl) (by kernel_rfl) (by kernel_rfl) (fun _ _ _ h => h) (Or.inl ⟨by kernel_rfl, ?hyf524⟩) (by assumption) ?restf524
                  case hyf524 =>
                    intro W hSw
                    (try dsimp only at hSw)
                    first | (go_simp; done) | (go_simp; with_reducible rfl)
                  try simp only [Act.put]
                  refine' wpAnyH_take (i := 25) (v := _) rfl (by kernel_rfl) (by kernel_rfl) (by kernel_rfl) (fun _ _ _ h => h) (Or.inl ⟨by kernel_rfl, ?hyf525⟩) (by assumption) ?restf525
                  case hyf525 =>
                    intro W hSw
                    (try dsimp only at hSw)
                    first | (go_simp; done) | (go_simp; with_reducible rfl)
                  try simp only [Act.put]
                  refine' wpAnyH_take (i := 26) (v := _) rfl (by kernel_rfl) (by kernel_rfl) (by kernel_rfl) (fun _ _ _ h => h) (Or.inl ⟨by kernel_rfl, ?hyf526⟩) (by assumption) ?restf526
                  case hyf526 =>
                    intro W hSw
                    (try dsimp only at hSw)
                    first | (go_simp; done) | (go_simp; with_reducible rfl)
                  try simp only [Act.put]
                  refine' wpAnyH_take (i := 27) (v := _) rfl (by kernel_rfl) (by kernel_rfl) (by kernel_rfl) (fun _ _ _ h => h) (Or.inl ⟨by kernel_rfl, ?hyf527⟩) (by assumption) ?restf527
                  case hyf527 =>
                    intro W hSw
                    (try dsimp only at hSw)
                    first | (go_simp; done) | (go_simp; with_reducible rfl)
                  try simp only [Act.put]
                  refine' wpAnyH_take (i := 28) (v := _) rfl (by kernel_rfl) (by kernel_rfl) (by kernel_rfl) (fun _ _ _ h => h) (Or.inl ⟨by kernel_rfl, ?hyf528⟩) (by assumption) ?restf528
                  case hyf528 =>
                    intro W hSw
                    (try dsimp only at hSw)
                    first | (go_simp; done) | (go_simp; with_reducible rfl)
                  try simp only [Act.put]
                  refine' wpAnyH_take (i := 29) (v := _) rfl (by kernel_rfl) (by kernel_rfl) (by kernel_rfl) (fun _ _ _ h => h) (Or.inl ⟨by kernel_rfl, ?hyf529⟩) (by assumption) ?restf529
                  case hyf529 =>
                    intro W hSw
                    (try dsimp only at hSw)
                    first | (go_simp; done) | (go_simp; with_reducible rfl)
                  try simp only [Act.put]
                  refine' wpAnyH_take (i := 30) (v := _) rfl (by kernel_rfl) (by kernel_rfl) (by kernel_rfl) (fun _ _ _ h => h) (Or.inl ⟨by kernel_rfl, ?hyf530⟩) (by assumption) ?restf530
                  case hyf530 =>
                    intro W hSw
                    (try dsimp only at hSw)
                    first | (go_simp; done) | (go_simp; with_reducible rfl)
                  try simp only [Act.put, List.getElem_toArray, List.getElem_cons_succ, List.getElem_cons_zero, List.setIfInBounds_toArray, List.set_cons_succ, List.set_cons_zero]
                  refine' wpAnyH_take (i := 31) (v := _) rfl (by kernel_rfl) (by kernel_rfl) (by kernel_rfl) (fun _ _ _ h => h) (Or.inl ⟨by kernel_rfl, ?hyf531⟩) (by assumption) ?restf531
                  case hyf531 =>
                    intro W hSw
                    (try dsimp only at hSw)
                    first | (go_simp; done) | (go_simp; with_reducible rfl)
                  try simp only [Act.put]
                  refine' wpAnyH_take (i := 32) (v := _) rfl (by kernel_rfl) (by kernel_rfl) (by kernel_rfl) (fun _ _ _ h => h) (Or.inl ⟨by kernel_rfl, ?hyf532⟩) (by assumption) ?restf532
                  case hyf532 =>
                    intro W hSw
                    (try dsimp only at hSw)
                    first | (go_simp; done) | (go_simp; with_reducible rfl)
                  try simp only [Act.put]
                  refine' wpAnyH_take (i := 33) (v := _) rfl (by kernel_rfl) (by kernel_rfl) (by kernel_rfl) (fun _ _ _ h => h) (Or.inl ⟨by kernel_rfl, ?hyf533⟩) (by assumption) ?restf533
                  case hyf533 =>
                    intro W hSw
                    (try dsimp only at hSw)
                    first | (go_simp; done) | (go_simp; with_reducible rfl)
                  try simp only [Act.put]
                  refine' wpAnyH_take (i := 34) (v := _) rfl (by kernel_rfl) (by kernel_rfl) (by kernel_rfl) (fun _ _ _ h => h) (Or.inl ⟨by kernel_rfl, ?hyf534⟩) (by assumption) ?restf534
                  case hyf534 =>
                    intro W hSw
                    (try dsimp only at hSw)
                    first | (go_simp; done) | (go_simp; with_reducible rfl)
                  try simp only [Act.put]
                  refine' wpAnyH_take (i := 35) (v := _) rfl (by kernel_rfl) (by kernel_rfl) (by kernel_rfl) (fun _ _ _ h => h) (Or.inl ⟨by kernel_rfl, ?hyf535⟩) (by assumption) ?restf535
                  case hyf535 =>
                    intro W hSw
                    (try dsimp only at hSw)
                    first | (go_simp; done) | (go_simp; with_reducible rfl)
                  try simp only [Act.put]
                  refine' wpAnyH_take (i := 36) (v := _) rfl (by kernel_rfl) (by kernel_rfl) (by kernel_rfl) (fun _ _ _ h => h) (Or.inl ⟨by kernel_rfl, ?hyf536⟩) (by assumption) ?restf536
                  case hyf536 =>
                    intro W hSw
                    (try dsimp only at hSw)
                    first | (go_simp; done) | (go_simp; with_reducible rfl)
                  try simp only [Act.put]
                  refine' wpAnyH_take (i := 37) (v := _) rfl (by kernel_rfl) (by kernel_rfl) (by kernel_rfl) (fun _ _ _ h => h) (Or.inl ⟨by kernel_rfl, ?hyf537⟩) (by assumption) ?restf537
                  case hyf537 =>
                    intro W hSw
                    (try dsimp only at hSw)
                    first | (go_simp; done) | (go_simp; with_reducible rfl)
                  try simp only [Act.put]
                  refine' wpAnyH_take (i := 38) (v := _) rfl (by kernel_rfl) (by kernel_rfl) (by kernel_rfl) (fun _ _ _ h => h) (Or.inl ⟨by kernel_rfl, ?hyf538⟩) (by assumption) ?restf538
                  case hyf538 =>
                    intro W hSw
                    (try dsimp only at hSw)
                    first | (go_simp; done) | (go_simp; with_reducible rfl)
                  try simp only [Act.put, List.getElem_toArray, List.getElem_cons_succ, List.getElem_cons_zero, List.setIfInBounds_toArray, List.set_cons_succ, List.set_cons_zero]
                  refine' wpAnyH_take (i := 39) (v := _) rfl (by kernel_rfl) (by kernel_rfl) (by kernel_rfl) (fun _ _ _ h => h) (Or.inl ⟨by kernel_rfl, ?hyf539⟩) (by assumption) ?restf539
                  case hyf539 =>
                    intro W hSw
                    (try dsimp only at hSw)
                    first | (go_simp; done) | (go_simp; with_reducible rfl)
                  try simp only [Act.put]
                  refine' wpAnyH_take (i := 40) (v := _) rfl (by kernel_rfl) (by kernel_rfl) (by kernel_rfl) (fun _ _ _ h => h) (Or.inl ⟨by kernel_rfl, ?hyf540⟩) (by assumption) ?restf540
                  case hyf540 =>
                    intro W hSw
                    (try dsimp only at hSw)
                    first | (go_simp; done) | (go_simp; with_reducible rfl)
                  try simp only [Act.put]
                  refine' wpAnyH_take (i := 41) (v := _) rfl (by kernel_rfl) (by kernel_rfl) (by kernel_rfl) (fun _ _ _ h => h) (Or.inl ⟨by kernel_rfl, ?hyf541⟩) (by assumption) ?restf541
                  case hyf541 =>
                    intro W hSw
                    (try dsimp only at hSw)
                    first | (go_simp; done) | (go_simp; with_reducible rfl)
                  try simp only [Act.put]
                  refine' wpAnyH_take (i := 42) (v := _) rfl (by kernel_rfl) (by kernel_rfl) (by kernel_rfl) (fun _ _ _ h => h) (Or.inl ⟨by kernel_rfl, ?hyf542⟩) (by assumption) ?restf542
                  case hyf542 =>
                    intro W hSw
                    (try dsimp only at hSw)
                    first | (go_simp; done) | (go_simp; with_reducible rfl)
                  try simp only [Act.put]
                  refine' wpAnyH_take (i := 43) (v := _) rfl (by kernel_rfl) (by kernel_rfl) (by kernel_rfl) (fun _ _ _ h => h) (Or.inl ⟨by kernel_rfl, ?hyf543⟩) (by assumption) ?restf543
                  case hyf543 =>
                    intro W hSw
                    (try dsimp only at hSw)
                    first | (go_simp; done) | (go_simp; with_reducible rfl)
                  try simp only [Act.put]
                  refine' wpAnyH_take (i := 44) (v := _) rfl (by kernel_rfl) (by kernel_rfl) (by kernel_rfl) (fun _ _ _ h => h) (Or.inl ⟨by kernel_rfl, ?hyf544⟩) (by assumption) ?restf544
                  case hyf544 =>
                    intro W hSw
                    (try dsimp only at hSw)
                    first | (go_simp; done) | (go_simp; with_reducible rfl)
                  try simp only [Act.put]
                  refine' wpAnyH_take (i := 45) (v := _) rfl (by kernel_rfl) (by kernel_rfl) (by kernel_rfl) (fun _ _ _ h => h) (Or.inl ⟨by kernel_rfl, ?hyf545⟩) (by assumption) ?restf545
                  case hyf545 =>
                    intro W hSw
                    (try dsimp only at hSw)
                    first | (go_simp; done) | (go_simp; with_reducible rfl)
                  try simp only [Act.put]
                  refine' wpAnyH_take (i := 46) (v := _) rfl (by kernel_rfl) (by kernel_rfl) (by kernel_rfl) (fun _ _ _ h => h) (Or.inl ⟨by kernel_rfl, ?hyf546⟩) (by assumption) ?restf546
                  case hyf546 =>
                    intro W hSw
                    (try dsimp only at hSw)
                    first | (go_simp; done) | (go_simp; with_reducible rfl)
                  try simp only [Act.put, List.getElem_toArray, List.getElem_cons_succ, List.getElem_cons_zero, List.setIfInBounds_toArray, List.set_cons_succ, List.set_cons_zero]
                  refine' wpAnyH_take (i := 47) (v := _) rfl (by kernel_rfl) (by kernel_rfl) (by kernel_rfl) (fun _ _ _ h => h) (Or.inl ⟨by kernel_rfl, ?hyf547⟩) (by assumption) ?restf547
                  case hyf547 =>
                    intro W hSw
                    (try dsimp only at hSw)
                    first | (go_simp; done) | (go_simp; with_reducible rfl)
                  try simp only [Act.put]
                  refine' wpAnyH_take (i := 48) (v := _) rfl (by kernel_rfl) (by kernel_rfl) (by kernel_rfl) (fun _ _ _ h => h) (Or.inl ⟨by kernel_rfl, ?hyf548⟩) (by assumption) ?restf548
                  case hyf548 =>
                    intro W hSw
                    (try dsimp only at hSw)
                    first | (go_simp; done) | (go_simp; with_reducible rfl)
                  try simp only [Act.put]
                  refine' wpAnyH_take (i := 49) (v := _) rfl (by kernel_rfl) (by kernel_rfl) (by kernel_rfl) (fun _ _ _ h => h) (Or.inl ⟨by kernel_rfl, ?hyf549⟩) (by assumption) ?restf549
                  case hyf549 =>
                    intro W hSw
                    (try dsimp only at hSw)
                    first | (go_simp; done) | (go_simp; with_reducible rfl)
                  try simp only [Act.put]
                  refine' wpAnyH_take (i := 50) (v := _) rfl (by kernel_rfl) (by kernel_rfl) (by kernel_rfl) (fun _ _ _ h => h) (Or.inl ⟨by kernel_rfl, ?hyf550⟩) (by assumption) ?restf550
                  case hyf550 =>
                    intro W hSw
                    (try dsimp only at hSw)
                    first | (go_simp; done) | (go_simp; with_reducible rfl)
                  try simp only [Act.put]
                  refine' wpAnyH_take (i := 51) (v := _) rfl (by kernel_rfl) (by kernel_rfl) (by kernel_rfl) (fun _ _ _ h => h) (Or.inl ⟨by kernel_rfl, ?hyf551⟩) (by assumption) ?restf551
                  case hyf551 =>
                    intro W hSw
                    (try dsimp only at hSw)
                    first | (go_simp; done) | (go_simp; with_reducible rfl)
                  try simp only [Act.put]
                  refine' wpAnyH_take (i := 52) (v := _) rfl (by kernel_rfl) (by kernel_rfl) (by kernel_rfl) (fun _ _ _ h => h) (Or.inl ⟨by kernel_rfl, ?hyf552⟩) (by assumption) ?restf552
                  case hyf552 =>
                    intro W hSw
                    (try dsimp only at hSw)
                    first | (go_simp; done) | (go_simp; with_reducible rfl)
                  try simp only [Act.put]
                  refine' wpAnyH_take (i := 53) (v := _) rfl (by kernel_rfl) (by kernel_rfl) (by kernel_rfl) (fun _ _ _ h => h) (Or.inl ⟨by kernel_rfl, ?hyf553⟩) (by assumption) ?restf553
                  case hyf553 =>
                    intro W hSw
                    (try dsimp only at hSw)
                    first | (go_simp; done) | (go_simp; with_reducible rfl)
                  try simp only [Act.put]
                  refine' wpAnyH_take (i := 54) (v := _) rfl (by kernel_rfl) (by kernel_rfl) (by kernel_rfl) (fun _ _ _ h => h) (Or.inl ⟨by kernel_rfl, ?hyf554⟩) (by assumption) ?restf554
                  case hyf554 =>
                    intro W hSw
                    (try dsimp only at hSw)
                    first | (go_simp; done) | (go_simp; with_reducible rfl)
                  try simp only [Act.put, List.setIfInBounds_toArray]
                  refine wpAnyH_ready (rs := [55]) (by kernel_rfl) (by simp) ?_
                  refine AllReadyH.cons (i := 55) (o := _) rfl (fun K hK => ?_) AllReadyH.nil
                  go_simp
                  go_at_call 11
                  have hsm := HGd.out.same HIS.out (tx : Int) (ty : Int)
                  rw [HTT.out h5] at hsm
                  with_reducible refine hsm.mono ?_
                  rintro e wk ⟨rfl, hb⟩
                  have HGk := Lib.hid (HGd.out.on hb)
                  have HXk := Lib.hid (below_on HXd.out hb)
                  clear hb hsm
                  refine hK.out _ _ (HS2.out _ HGk.out HXk.out) (fun hHeld => ?_)
                  clear hK K
                  try simp only [Act.put, List.setIfInBounds_toArray]
                  refine' wpAnyH_take (i := 56) (v := _) rfl (by kernel_rfl) (by kernel_rfl) (by kernel_rfl) (fun _ _ _ h => h) (Or.inl ⟨by kernel_rfl, ?hyf556⟩) (by assumption) ?restf556
                  case hyf556 =>
                    intro W hSw
                    (try dsimp only at hSw)
                    first | (go_simp; done) | (go_simp; with_reducible rfl)
                  try simp only [Act.put]
                  refine' wpAnyH_take (i := 57) (v := _) rfl (by kernel_rfl) (by kernel_rfl) (by kernel_rfl) (fun _ _ _ h => h) (Or.inl ⟨by kernel_rfl, ?hyf557⟩) (by assumption) ?restf557
                  case hyf557 =>
                    intro W hSw
                    (try dsimp only at hSw)
                    first | (go_simp; done) | (go_simp; with_reducible rfl)
                  try simp only [Act.put]
                  refine' wpAnyH_take (i := 58) (v := _) rfl (by kernel_rfl) (by kernel_rfl) (by kernel_rfl) (fun _ _ _ h => h) (Or.inl ⟨by kernel_rfl, ?hyf558⟩) (by assumption) ?restf558
                  case hyf558 =>
                    intro W hSw
                    (try dsimp only at hSw)
                    first | (go_simp; done) | (go_simp; with_reducible rfl)
                  try simp only [Act.put, List.setIfInBounds_toArray]
                  refine wpAnyH_done (by kernel_rfl) ?_ _
                  simp only [List.getElem_toArray, List.getElem_cons_succ, List.getElem_cons_zero, List.setIfInBounds_toArray, List.set_cons_succ, List.set_cons_zero]
                  go_wp2_with fail
                  go_meet
                  case rel => exact ⟨rfl, HGk, HXk⟩
                · have d5 : (dk == 5) = false := by rw [beq_eq_false_iff_ne]; exact h5
                  have hHD := HS2.out _ HGd.out HXd.out
                  refine wp_region_held_drew (S := fun W => (W.cell? ⟨g5, 0, none⟩ = some (.slice (some ⟨nb, no, none⟩) nn nc) ∧ W.cell? ⟨g5, 1, none⟩ = some (.slice sa 2 sc) ∧ W.cell? ⟨g5, 2, none⟩ = some (.slice ra 2 rc)) ∧ (W.cell? ⟨gx, 2, none⟩ = some (.slice (some ⟨lb, lo, none⟩) vn ac) ∧ W.cell? ⟨gy, 2, none⟩ = some (.slice (some ⟨mb, mo, none⟩) vn vc)) ∧ (W.cell? ⟨lb, lo + m * 4, none⟩ = some (.string tv) ∧ W.cell? ⟨lb, lo + m * 4 + 1, none⟩ = some (.int .i64 dk) ∧ W.cell? ⟨lb, lo + m * 4 + 2, none⟩ = some (.int .i64 (tx : Int))) ∧ W.cell? ⟨mb, mo + m * 4, none⟩ = some (.string tv) ∧ W.cell? ⟨mb, mo + m * 4 + 1, none⟩ = some (.int .i64 dk) ∧ W.cell? ⟨mb, mo + m * 4 + 2, none⟩ = some (.int .i64 (ty : Int))) (by kernel_rfl) (by rw [hwd2]; exact hHD) (fun hHeld => ?_)
                  rw [hwd2]
                  rw [hwd2] at hHeld
                  clear hHD
                  try simp only [Act.put, List.setIfInBounds_toArray]
                  refine' wpAnyH_take (i := 0) (v := _) rfl (by kernel_rfl) (by kernel_rfl) (by kernel_rfl) (fun _ _ _ h => h) (Or.inl ⟨by kernel_rfl, ?hyf00⟩) (by assumption) ?restf00
                  case hyf00 =>
                    intro W hSw
                    (try dsimp only at hSw)
                    first | (go_simp; done) | (go_simp; with_reducible rfl)
                  try simp only [Act.put]
                  refine' wpAnyH_take (i := 1) (v := _) rfl (by kernel_rfl) (by kernel_rfl) (by kernel_rfl) (fun _ _ _ h => h) (Or.inl ⟨by kernel_rfl, ?hyf01⟩) (by assumption) ?restf01
                  case hyf01 =>
                    intro W hSw
                    (try dsimp only at hSw)
                    first | (go_simp; done) | (go_simp; with_reducible rfl)
                  try simp only [Act.put]
                  refine' wpAnyH_take (i := 2) (v := _) rfl (by kernel_rfl) (by kernel_rfl) (by kernel_rfl) (fun _ _ _ h => h) (Or.inl ⟨by kernel_rfl, ?hyf02⟩) (by assumption) ?restf02
                  case hyf02 =>
                    intro W hSw
                    (try dsimp only at hSw)
                    first | (go_simp; done) | (go_simp; with_reducible rfl)
                  try simp only [Act.put]
                  refine' wpAnyH_take (i := 3) (v := _) rfl (by kernel_rfl) (by kernel_rfl) (by kernel_rfl) (fun _ _ _ h => h) (Or.inl ⟨by kernel_rfl, ?hyf03⟩) (by assumption) ?restf03
                  case hyf03 =>
                    intro W hSw
                    (try dsimp only at hSw)
                    first | (go_simp; done) | (go_simp; with_reducible rfl)
                  try simp only [Act.put]
                  refine' wpAnyH_take (i := 4) (v := _) rfl (by kernel_rfl) (by kernel_rfl) (by kernel_rfl) (fun _ _ _ h => h) (Or.inl ⟨by kernel_rfl, ?hyf04⟩) (by assumption) ?restf04
                  case hyf04 =>
                    intro W hSw
                    (try dsimp only at hSw)
                    first | (go_simp; done) | (go_simp; with_reducible rfl)
                  try simp only [Act.put]
                  refine' wpAnyH_take (i := 5) (v := _) rfl (by kernel_rfl) (by kernel_rfl) (by kernel_rfl) (fun _ _ _ h => h) (Or.inl ⟨by kernel_rfl, ?hyf05⟩) (by assumption) ?restf05
                  case hyf05 =>
                    intro W hSw
                    (try dsimp only at hSw)
                    first | (go_simp; done) | (go_simp; with_reducible rfl)
                  try simp only [Act.put]
                  refine' wpAnyH_take (i := 6) (v := _) rfl (by kernel_rfl) (by kernel_rfl) (by kernel_rfl) (fun _ _ _ h => h) (Or.inl ⟨by kernel_rfl, ?hyf06⟩) (by assumption) ?restf06
                  case hyf06 =>
                    intro W hSw
                    (try dsimp only at hSw)
                    first | (go_simp; done) | (go_simp; with_reducible rfl)
                  try simp only [Act.put, List.getElem_toArray, List.getElem_cons_succ, List.getElem_cons_zero, List.setIfInBounds_toArray, List.set_cons_succ, List.set_cons_zero]
                  refine' wpAnyH_take (i := 7) (v := _) rfl (by kernel_rfl) (by kernel_rfl) (by kernel_rfl) (fun _ _ _ h => h) (Or.inl ⟨by kernel_rfl, ?hyf07⟩) (by assumption) ?restf07
                  case hyf07 =>
                    intro W hSw
                    (try dsimp only at hSw)
                    first | (go_simp; done) | (go_simp; with_reducible rfl)
                  try simp only [Act.put]
                  refine' wpAnyH_take (i := 8) (v := _) rfl (by kernel_rfl) (by kernel_rfl) (by kernel_rfl) (fun _ _ _ h => h) (Or.inl ⟨by kernel_rfl, ?hyf08⟩) (by assumption) ?restf08
                  case hyf08 =>
                    intro W hSw
                    (try dsimp only at hSw)
                    first | (go_simp; done) | (go_simp; with_reducible rfl)
                  try simp only [Act.put]
                  refine' wpAnyH_take (i := 9) (v := _) rfl (by kernel_rfl) (by kernel_rfl) (by kernel_rfl) (fun _ _ _ h => h) (Or.inl ⟨by kernel_rfl, ?hyf09⟩) (by assumption) ?restf09
                  case hyf09 =>
                    intro W hSw
                    (try dsimp only at hSw)
                    first | (go_simp; done) | (go_simp; with_reducible rfl)
                  try simp only [Act.put]
                  refine' wpAnyH_take (i := 10) (v := _) rfl (by kernel_rfl) (by kernel_rfl) (by kernel_rfl) (fun _ _ _ h => h) (Or.inl ⟨by kernel_rfl, ?hyf010⟩) (by assumption) ?restf010
                  case hyf010 =>
                    intro W hSw
                    (try dsimp only at hSw)
                    first | (go_simp; done) | (go_simp; with_reducible rfl)
                  try simp only [Act.put]
                  refine' wpAnyH_take (i := 11) (v := _) rfl (by kernel_rfl) (by kernel_rfl) (by kernel_rfl) (fun _ _ _ h => h) (Or.inl ⟨by kernel_rfl, ?hyf011⟩) (by assumption) ?restf011
                  case hyf011 =>
                    intro W hSw
                    (try dsimp only at hSw)
                    first | (go_simp; done) | (go_simp; with_reducible rfl)
                  try simp only [Act.put]
                  refine' wpAnyH_take (i := 12) (v := _) rfl (by kernel_rfl) (by kernel_rfl) (by kernel_rfl) (fun _ _ _ h => h) (Or.inl ⟨by kernel_rfl, ?hyf012⟩) (by assumption) ?restf012
                  case hyf012 =>
                    intro W hSw
                    (try dsimp only at hSw)
                    first | (go_simp; done) | (go_simp; with_reducible rfl)
                  try simp only [Act.put]
                  refine' wpAnyH_take (i := 13) (v := _) rfl (by kernel_rfl) (by kernel_rfl) (by kernel_rfl) (fun _ _ _ h => h) (Or.inl ⟨by kernel_rfl, ?hyf013⟩) (by assumption) ?restf013
                  case hyf013 =>
                    intro W hSw
                    (try dsimp only at hSw)
                    first | (go_simp; done) | (go_simp; with_reducible rfl)
                  try simp only [Act.put]
                  refine' wpAnyH_take (i := 14) (v := _) rfl (by kernel_rfl) (by kernel_rfl) (by kernel_rfl) (fun _ _ _ h => h) (Or.inl ⟨by kernel_rfl, ?hyf014⟩) (by assumption) ?restf014
                  case hyf014 =>
                    intro W hSw
                    (try dsimp only at hSw)
                    first | (go_simp; done) | (go_simp; with_reducible rfl)
                  try simp only [Act.put, List.getElem_toArray, List.getElem_cons_succ, List.getElem_cons_zero, List.setIfInBounds_toArray, List.set_cons_succ, List.set_cons_zero]
                  refine' wpAnyH_take (i := 15) (v := _) rfl (by kernel_rfl) (by kernel_rfl) (by kernel_rfl) (fun _ _ _ h => h) (Or.inl ⟨by kernel_rfl, ?hyf015⟩) (by assumption) ?restf015
                  case hyf015 =>
                    intro W hSw
                    (try dsimp only at hSw)
                    first | (go_simp; done) | (go_simp; with_reducible rfl)
                  try simp only [Act.put]
                  refine' wpAnyH_take (i := 16) (v := _) rfl (by kernel_rfl) (by kernel_rfl) (by kernel_rfl) (fun _ _ _ h => h) (Or.inl ⟨by kernel_rfl, ?hyf016⟩) (by assumption) ?restf016
                  case hyf016 =>
                    intro W hSw
                    (try dsimp only at hSw)
                    first | (go_simp; done) | (go_simp; with_reducible rfl)
                  try simp only [Act.put]
                  refine' wpAnyH_take (i := 17) (v := _) rfl (by kernel_rfl) (by kernel_rfl) (by kernel_rfl) (fun _ _ _ h => h) (Or.inl ⟨by kernel_rfl, ?hyf017⟩) (by assumption) ?restf017
                  case hyf017 =>
                    intro W hSw
                    (try dsimp only at hSw)
                    first | (go_simp; done) | (go_simp; with_reducible rfl)
                  try simp only [Act.put]
                  refine' wpAnyH_take (i := 18) (v := _) rfl (by kernel_rfl) (by kernel_rfl) (by kernel_rfl) (fun _ _ _ h => h) (Or.inl ⟨by kernel_rfl, ?hyf018⟩) (by assumption) ?restf018
                  case hyf018 =>
                    intro W hSw
                    (try dsimp only at hSw)
                    first | (go_simp; done) | (go_simp; with_reducible rfl)
                  try simp only [Act.put]
                  refine' wpAnyH_take (i := 19) (v := _) rfl (by kernel_rfl) (by kernel_rfl) (by kernel_rfl) (fun _ _ _ h => h) (Or.inl ⟨by kernel_rfl, ?hyf019⟩) (by assumption) ?restf019
                  case hyf019 =>
                    intro W hSw
                    (try dsimp only at hSw)
                    first | (go_simp; done) | (go_simp; with_reducible rfl)
                  try simp only [Act.put]
                  refine' wpAnyH_take (i := 20) (v := _) rfl (by kernel_rfl) (by kernel_rfl) (by kernel_rfl) (fun _ _ _ h => h) (Or.inl ⟨by kernel_rfl, ?hyf020⟩) (by assumption) ?restf020
                  case hyf020 =>
                    intro W hSw
                    (try dsimp only at hSw)
                    first | (go_simp; done) | (go_simp; with_reducible rfl)
                  try simp only [Act.put]
                  refine' wpAnyH_take (i := 21) (v := _) rfl (by kernel_rfl) (by kernel_rfl) (by kernel_rfl) (fun _ _ _ h => h) (Or.inl ⟨by kernel_rfl, ?hyf021⟩) (by assumption) ?restf021
                  case hyf021 =>
                    intro W hSw
                    (try dsimp only at hSw)
                    first | (go_simp; done) | (go_simp; with_reducible rfl)
                  try simp only [Act.put]
                  refine' wpAnyH_take (i := 22) (v := _) rfl (by kernel_rfl) (by kernel_rfl) (by kernel_rfl) (fun _ _ _ h => h) (Or.inl ⟨by kernel_rfl, ?hyf022⟩) (by assumption) ?restf022
                  case hyf022 =>
                    intro W hSw
                    (try dsimp only at hSw)
                    first | (go_simp; done) | (go_simp; with_reducible rfl)
                  try simp only [Act.put, List.getElem_toArray, List.getElem_cons_succ, List.getElem_cons_zero, List.setIfInBounds_toArray, List.set_cons_succ, List.set_cons_zero]
                  refine' wpAnyH_take (i := 23) (v := _) rfl (by kernel_rfl) (by kernel_rfl) (by kernel_rfl) (fun _ _ _ h => h) (Or.inl ⟨by kernel_rfl, ?hyf023⟩) (by assumption) ?restf023
                  case hyf023 =>
                    intro W hSw
                    (try dsimp only at hSw)
                    first | (go_simp; done) | (go_simp; with_reducible rfl)
                  try simp only [Act.put]
                  refine' wpAnyH_take (i := 24) (v := _) rfl (by kernel_rfl) (by kernel_rfl) (by kernel_rfl) (fun _ _ _ h => h) (Or.inl ⟨by kernel_rfl, ?hyf024⟩) (by assumption) ?restf024
                  case hyf024 =>
                    intro W hSw
                    (try dsimp only at hSw)
                    first | (go_simp; done) | (go_simp; with_reducible rfl)
                  try simp only [Act.put]
                  refine' wpAnyH_take (i := 25) (v := _) rfl (by kernel_rfl) (by kernel_rfl) (by kernel_rfl) (fun _ _ _ h => h) (Or.inl ⟨by kernel_rfl, ?hyf025⟩) (by assumption) ?restf025
                  case hyf025 =>
                    intro W hSw
                    (try dsimp only at hSw)
                    first | (go_simp; done) | (go_simp; with_reducible rfl)
                  try simp only [Act.put]
                  refine' wpAnyH_take (i := 26) (v := _) rfl (by kernel_rfl) (by kernel_rfl) (by kernel_rfl) (fun _ _ _ h => h) (Or.inl ⟨by kernel_rfl, ?hyf026⟩) (by assumption) ?restf026
                  case hyf026 =>
                    intro W hSw
                    (try dsimp only at hSw)
                    first | (go_simp; done) | (go_simp; with_reducible rfl)
                  try simp only [Act.put]
                  refine' wpAnyH_take (i := 27) (v := _) rfl (by kernel_rfl) (by kernel_rfl) (by kernel_rfl) (fun _ _ _ h => h) (Or.inl ⟨by kernel_rfl, ?hyf027⟩) (by assumption) ?restf027
                  case hyf027 =>
                    intro W hSw
                    (try dsimp only at hSw)
                    first | (go_simp; done) | (go_simp; with_reducible rfl)
                  try simp only [Act.put]
                  refine' wpAnyH_take (i := 28) (v := _) rfl (by kernel_rfl) (by kernel_rfl) (by kernel_rfl) (fun _ _ _ h => h) (Or.inl ⟨by kernel_rfl, ?hyf028⟩) (by assumption) ?restf028
                  case hyf028 =>
                    intro W hSw
                    (try dsimp only at hSw)
                    first | (go_simp; done) | (go_simp; with_reducible rfl)
                  try simp only [Act.put]
                  refine' wpAnyH_take (i := 29) (v := _) rfl (by kernel_rfl) (by kernel_rfl) (by kernel_rfl) (fun _ _ _ h => h) (Or.inl ⟨by kernel_rfl, ?hyf029⟩) (by assumption) ?restf029
                  case hyf029 =>
                    intro W hSw
                    (try dsimp only at hSw)
                    first | (go_simp; done) | (go_simp; with_reducible rfl)
                  try simp only [Act.put]
                  refine' wpAnyH_take (i := 30) (v := _) rfl (by kernel_rfl) (by kernel_rfl) (by kernel_rfl) (fun _ _ _ h => h) (Or.inl ⟨by kernel_rfl, ?hyf030⟩) (by assumption) ?restf030
                  case hyf030 =>
                    intro W hSw
                    (try dsimp only at hSw)
                    first | (go_simp; done) | (go_simp; with_reducible rfl)
                  try simp only [Act.put, List.getElem_toArray, List.getElem_cons_succ, List.getElem_cons_zero, List.setIfInBounds_toArray, List.set_cons_succ, List.set_cons_zero]
                  refine' wpAnyH_take (i := 31) (v := _) rfl (by kernel_rfl) (by kernel_rfl) (by kernel_rfl) (fun _ _ _ h => h) (Or.inl ⟨by kernel_rfl, ?hyf031⟩) (by assumption) ?restf031
                  case hyf031 =>
                    intro W hSw
                    (try dsimp only at hSw)
                    first | (go_simp; done) | (go_simp; with_reducible rfl)
                  try simp only [Act.put]
                  refine' wpAnyH_take (i := 32) (v := _) rfl (by kernel_rfl) (by kernel_rfl) (by kernel_rfl) (fun _ _ _ h => h) (Or.inl ⟨by kernel_rfl, ?hyf032⟩) (by assumption) ?restf032
                  case hyf032 =>
                    intro W hSw
                    (try dsimp only at hSw)
                    first | (go_simp; done) | (go_simp; with_reducible rfl)
                  try simp only [Act.put]
                  refine' wpAnyH_take (i := 33) (v := _) rfl (by kernel_rfl) (by kernel_rfl) (by kernel_rfl) (fun _ _ _ h => h) (Or.inl ⟨by kernel_rfl, ?hyf033⟩) (by assumption) ?restf033
                  case hyf033 =>
                    intro W hSw
                    (try dsimp only at hSw)
                    first | (go_simp; done) | (go_simp; with_reducible rfl)
                  try simp only [Act.put]
                  refine' wpAnyH_take (i := 34) (v := _) rfl (by kernel_rfl) (by kernel_rfl) (by kernel_rfl) (fun _ _ _ h => h) (Or.inl ⟨by kernel_rfl, ?hyf034⟩) (by assumption) ?restf034
                  case hyf034 =>
                    intro W hSw
                    (try dsimp only at hSw)
                    first | (go_simp; done) | (go_simp; with_reducible rfl)
                  try simp only [Act.put]
                  refine' wpAnyH_take (i := 35) (v := _) rfl (by kernel_rfl) (by kernel_rfl) (by kernel_rfl) (fun _ _ _ h => h) (Or.inl ⟨by kernel_rfl, ?hyf035⟩) (by assumption) ?restf035
                  case hyf035 =>
                    intro W hSw
                    (try dsimp only at hSw)
                    first | (go_simp; done) | (go_simp; with_reducible rfl)
                  try simp only [Act.put]
                  refine' wpAnyH_take (i := 36) (v := _) rfl (by kernel_rfl) (by kernel_rfl) (by kernel_rfl) (fun _ _ _ h => h) (Or.inl ⟨by kernel_rfl, ?hyf036⟩) (by assumption) ?restf036
                  case hyf036 =>
                    intro W hSw
                    (try dsimp only at hSw)
                    first | (go_simp; done) | (go_simp; with_reducible rfl)
                  try simp only [Act.put]
                  refine' wpAnyH_take (i := 37) (v := _) rfl (by kernel_rfl) (by kernel_rfl) (by kernel_rfl) (fun _ _ _ h => h) (Or.inl ⟨by kernel_rfl, ?hyf037⟩) (by assumption) ?restf037
                  case hyf037 =>
                    intro W hSw
                    (try dsimp only at hSw)
                    first | (go_simp; done) | (go_simp; with_reducible rfl)
                  try simp only [Act.put]
                  refine' wpAnyH_take (i := 38) (v := _) rfl (by kernel_rfl) (by kernel_rfl) (by kernel_rfl) (fun _ _ _ h => h) (Or.inl ⟨by kernel_rfl, ?hyf038⟩) (by assumption) ?restf038
                  case hyf038 =>
                    intro W hSw
                    (try dsimp only at hSw)
                    first | (go_simp; done) | (go_simp; with_reducible rfl)
                  try simp only [Act.put, List.getElem_toArray, List.getElem_cons_succ, List.getElem_cons_zero, List.setIfInBounds_toArray, List.set_cons_succ, List.set_cons_zero]
                  refine' wpAnyH_take (i := 39) (v := _) rfl (by kernel_rfl) (by kernel_rfl) (by kernel_rfl) (fun _ _ _ h => h) (Or.inl ⟨by kernel_rfl, ?hyf039⟩) (by assumption) ?restf039
                  case hyf039 =>
                    intro W hSw
                    (try dsimp only at hSw)
                    first | (go_simp; done) | (go_simp; with_reducible rfl)
                  try simp only [Act.put]
                  refine wpAnyH_take (i := 40) (v := undef) rfl (by kernel_rfl) (by kernel_rfl) (by kernel_rfl) (fun _ _ _ h => h) (Or.inr ⟨by kernel_rfl, rfl⟩) (by assumption) ?_
                  try simp only [Act.put]
                  refine wpAnyH_take (i := 41) (v := undef) rfl (by kernel_rfl) (by kernel_rfl) (by kernel_rfl) (fun _ _ _ h => h) (Or.inr ⟨by kernel_rfl, rfl⟩) (by assumption) ?_
                  try simp only [Act.put]
                  refine wpAnyH_take (i := 42) (v := undef) rfl (by kernel_rfl) (by kernel_rfl) (by kernel_rfl) (fun _ _ _ h => h) (Or.inr ⟨by kernel_rfl, rfl⟩) (by assumption) ?_
                  try simp only [Act.put]
                  refine wpAnyH_take (i := 43) (v := undef) rfl (by kernel_rfl) (by kernel_rfl) (by kernel_rfl) (fun _ _ _ h => h) (Or.inr ⟨by kernel_rfl, rfl⟩) (by assumption) ?_
                  try simp only [Act.put]
                  refine wpAnyH_take (i := 44) (v := undef) rfl (by kernel_rfl) (by kernel_rfl) (by kernel_rfl) (fun _ _ _ h => h) (Or.inr ⟨by kernel_rfl, rfl⟩) (by assumption) ?_
                  try simp only [Act.put]
                  refine wpAnyH_take (i := 45) (v := undef) rfl (by kernel_rfl) (by kernel_rfl) (by kernel_rfl) (fun _ _ _ h => h) (Or.inr ⟨by kernel_rfl, rfl⟩) (by assumption) ?_
                  try simp only [Act.put]
                  refine wpAnyH_take (i := 46) (v := undef) rfl (by kernel_rfl) (by kernel_rfl) (by kernel_rfl) (fun _ _ _ h => h) (Or.inr ⟨by kernel_rfl, rfl⟩) (by assumption) ?_
                  try simp only [Act.put, List.getElem_toArray, List.getElem_cons_succ, List.getElem_cons_zero, List.setIfInBounds_toArray, List.set_cons_succ, List.set_cons_zero]
                  refine wpAnyH_take (i := 47) (v := undef) rfl (by kernel_rfl) (by kernel_rfl) (by kernel_rfl) (fun _ _ _ h => h) (Or.inr ⟨by kernel_rfl, rfl⟩) (by assumption) ?_
                  try simp only [Act.put]
                  refine wpAnyH_take (i := 48) (v := undef) rfl (by kernel_rfl) (by kernel_rfl) (by kernel_rfl) (fun _ _ _ h => h) (Or.inr ⟨by kernel_rfl, rfl⟩) (by assumption) ?_
                  try simp only [Act.put]
                  refine wpAnyH_take (i := 49) (v := undef) rfl (by kernel_rfl) (by kernel_rfl) (by kernel_rfl) (fun _ _ _ h => h) (Or.inr ⟨by kernel_rfl, rfl⟩) (by assumption) ?_
                  try simp only [Act.put]
                  refine wpAnyH_take (i := 50) (v := undef) rfl (by kernel_rfl) (by kernel_rfl) (by kernel_rfl) (fun _ _ _ h => h) (Or.inr ⟨by kernel_rfl, rfl⟩) (by assumption) ?_
                  try simp only [Act.put]
                  refine wpAnyH_take (i := 51) (v := undef) rfl (by kernel_rfl) (by kernel_rfl) (by kernel_rfl) (fun _ _ _ h => h) (Or.inr ⟨by kernel_rfl, rfl⟩) (by assumption) ?_
                  try simp only [Act.put]
                  refine wpAnyH_take (i := 52) (v := undef) rfl (by kernel_rfl) (by kernel_rfl) (by kernel_rfl) (fun _ _ _ h => h) (Or.inr ⟨by kernel_rfl, rfl⟩) (by assumption) ?_
                  try simp only [Act.put]
                  refine wpAnyH_take (i := 53) (v := undef) rfl (by kernel_rfl) (by kernel_rfl) (by kernel_rfl) (fun _ _ _ h => h) (Or.inr ⟨by kernel_rfl, rfl⟩) (by assumption) ?_
                  try simp only [Act.put]
                  refine wpAnyH_take (i := 54) (v := undef) rfl (by kernel_rfl) (by kernel_rfl) (by kernel_rfl) (fun _ _ _ h => h) (Or.inr ⟨by kernel_rfl, rfl⟩) (by assumption) ?_
                  try simp only [Act.put, List.getElem_toArray, List.getElem_cons_succ, List.getElem_cons_zero, List.setIfInBounds_toArray, List.set_cons_succ, List.set_cons_zero]
                  refine wpAnyH_take (i := 55) (v := undef) rfl (by kernel_rfl) (by kernel_rfl) (by kernel_rfl) (fun _ _ _ h => h) (Or.inr ⟨by kernel_rfl, rfl⟩) (by assumption) ?_
                  try simp only [Act.put]
                  refine wpAnyH_take (i := 56) (v := undef) rfl (by kernel_rfl) (by kernel_rfl) (by kernel_rfl) (fun _ _ _ h => h) (Or.inr ⟨by kernel_rfl, rfl⟩) (by assumption) ?_
                  try simp only [Act.put]
                  refine' wpAnyH_take (i := 57) (v := _) rfl (by kernel_rfl) (by kernel_rfl) (by kernel_rfl) (fun _ _ _ h => h) (Or.inl ⟨by kernel_rfl, ?hyf057⟩) (by assumption) ?restf057
                  case hyf057 =>
                    intro W hSw
                    (try dsimp only at hSw)
                    first | (go_simp; done) | (go_simp; with_reducible rfl)
                  try simp only [Act.put]
                  refine' wpAnyH_take (i := 58) (v := _) rfl (by kernel_rfl) (by kernel_rfl) (by kernel_rfl) (fun _ _ _ h => h) (Or.inl ⟨by kernel_rfl, ?hyf058⟩) (by assumption) ?restf058
                  case hyf058 =>
                    intro W hSw
                    (try dsimp only at hSw)
                    first | (go_simp; done) | (go_simp; with_reducible rfl)
                  try simp only [Act.put, List.setIfInBounds_toArray]
                  refine wpAnyH_done (by kernel_rfl) ?_ _
                  simp only [List.getElem_toArray, List.getElem_cons_succ, List.getElem_cons_zero, List.setIfInBounds_toArray, List.set_cons_succ, List.set_cons_zero]
                  go_wp2_with fail
                  go_meet
                  case rel => exact ⟨rfl, HGd, HXd⟩
              case rest =>
                obtain ⟨rfl, HGh, HXh⟩ := hcut
                obtain ⟨⟨x2, y2⟩, r1, r2⟩ := HNX.out wc HXh.out
                go_upto_region 18 with fail
                go_quiet (fail)
                go_wp2_with fail
                go_roundw
                case rel => exact ⟨nx, ny, k + 1, by omega, by omega, hx4, hy4, rfl, rfl, by go_num, HE1, Lib.hid (HGh.out.on (bel_drewN (Below.refl _ _) _))⟩
                case measure => simp [intOf]; omega
        · have d1 : decide ((k : Int) < (n' : Int)) = true := decide_eq_true (by omega)
          have d2 : decide ((k : Int) < 20) = false := decide_eq_false (by omega)
          go_wp2_with fail
          go_ret
          exact ⟨rfl, HGr.out.bel⟩
      · have d1 : decide ((k : Int) < (n' : Int)) = false := decide_eq_false (by omega)
        go_wp2_with fail
        go_ret
        exact ⟨rfl, HGr.out.bel⟩
end Go.Proofs.Ythdnibemicjmfaa
