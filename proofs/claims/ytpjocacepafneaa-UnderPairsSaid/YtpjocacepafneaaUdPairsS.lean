/- Pairs that came in, opened. -/
import Derived.Test.YtpjocacepafneaaTuSeat
import Derived.Test.YtpjocacepafneaaUdAll
import Derived.Deep.RegionHeld3
import Derived.Deep.DeepCutAuto
import Derived.Deep.CutBlock
import Derived.ShutString
namespace Go.Proofs.Ytpjocacepafneaa
open Go.ChangeShapes Go.WideShapes Go.ChangeAt Go.RowKit Go.Deep

theorem pr_cells : Try.prog.cellsOf 51 = 2 := by kernel_rfl
theorem prList2 {α : Type _} : ∀ {l : List α}, l.length = 2 → ∃ a b, l = [a, b]
  | [a, b], _ => ⟨a, b, rfl⟩
  | [], h => by simp at h
  | [_], h => by simp at h
  | _ :: _ :: _ :: _, h => by simp at h
/-- The two cells of a pair. -/
theorem cells_pr {H : Type} {enc : TypeId × Value → H} {W : World} {fuel : Nat} {c0 c1 : Value} {x : DataW H × List MemPlace}
    (h : DataW.trod enc Try.prog W 0 (fun _ => true) true fuel 51 [c0, c1] = some x) : ∃ a b : Int, c0 = .int .i64 a ∧ c1 = .int .i64 b := by
  cases fuel with
  | zero => simp [DataW.trod] at h
  | succ n =>
    rw [DataW.trod_step] at h
    unfold DataW.trodStep at h
    simp only [Try.underlying51, pr_cells] at h
    rw [if_pos (show [c0, c1].length = 2 from rfl)] at h
    simp only [Option.map_eq_some_iff] at h
    obtain ⟨xs, hx, e1⟩ := h
    rw [show List.range 2 = [0, 1] from rfl, List.mapM_cons, List.mapM_cons, List.mapM_nil] at hx
    simp only [bind, Option.bind_eq_some_iff, pure, Option.some.injEq, seatCells2] at hx
    obtain ⟨y0, h0, _, ⟨y1, h1, _, rfl, rfl⟩, rfl⟩ := hx
    obtain ⟨a, ea, _, _⟩ := DataW.trod_int Try.underlying3 h0
    obtain ⟨b, eb, _, _⟩ := DataW.trod_int Try.underlying3 h1
    simp at ea eb
    exact ⟨a, b, ea, eb⟩
theorem open_prs {H : Type} {enc : TypeId × Value → H} {W : World} {fuel : Nat} {v : Value} {x : DataW H × List MemPlace}
    (hf : DataW.trod enc Try.prog W 0 (fun _ => true) true fuel 48 [v] = some x) :
    ∃ (a : Option Addr) (n c : Nat) (l : List (Int × Int)), v = .slice a n c ∧ Prs2 W W.heap.size a n l := by
  rcases open_slice Try.underlying48 hf with ⟨hcs, hx⟩ | ⟨a, len, cap, m, n, D, Pl, hcs, _, hl, hm, hmm, hx, hel⟩
  · injection hcs with hcs _
    subst hcs
    exact ⟨none, 0, 0, [], rfl, Prs2.zero _ _ _⟩
  · injection hcs with hcs _
    subst hcs
    simp only [if_true] at hmm
    have each : ∀ i, i < len → ∃ y : Int × Int, W.cell? (a.add (i * 2)) = some (.int .i64 y.1) ∧ W.cell? (a.add (i * 2 + 1)) = some (.int .i64 y.2) := by
      intro i hi
      obtain ⟨cs', h1, h2⟩ := hel i (by omega)
      rw [pr_cells] at h1
      obtain ⟨_, hlen, hcell⟩ := World.cells?_some h1
      obtain ⟨c0, c1, rfl⟩ := prList2 hlen
      obtain ⟨y, z, rfl, rfl⟩ := cells_pr h2
      have e0 := hcell 0 (by omega)
      have e1 := hcell 1 (by omega)
      rw [add_add] at e0 e1
      rw [Nat.add_zero] at e0
      exact ⟨(y, z), by simpa using e0, by simpa using e1⟩
    obtain ⟨f, hfn⟩ := choose_lt each
    refine ⟨some a, len, cap, (List.range len).map f, rfl, by simp, by unfold maxLen at hm; omega, fun hpos => ?_⟩
    obtain ⟨b, off, spot⟩ := a
    have hspot : spot = none := by
      have := (hfn 0 hpos).1
      simpa [Addr.add] using World.cell?_spot this
    subst hspot
    refine ⟨b, off, rfl, ?_, fun j t hj => ?_⟩
    · have := (hfn 0 hpos).1
      rw [add_plain] at this
      exact cell_lt2 this
    · rw [List.getElem?_map] at hj
      obtain ⟨i, hi, rfl⟩ := Option.map_eq_some_iff.1 hj
      have hj' : j < len := by
        rcases Nat.lt_or_ge j len with h | h
        · exact h
        · rw [List.getElem?_eq_none (by simpa using h)] at hi; cases hi
      rw [List.getElem?_range hj'] at hi
      injection hi with hi
      subst hi
      have h1 := (hfn j hj').1
      have h2 := (hfn j hj').2
      rw [add_plain] at h1 h2
      exact ⟨h1, by rw [Nat.add_assoc]; exact h2⟩
end Go.Proofs.Ytpjocacepafneaa

/- Law: UnderPairs. (Printed by gen/gen11.py.) -/
namespace Go.Proofs.Ytpjocacepafneaa
open Go.RowKit Go.Sort

theorem LB10.isU {w W : World} {g : Nat} {na sa ra : Option Addr} {nn nc sc rc : Nat} {b : BookL} (h : LB10 w W g na nn nc sa sc ra rc b) (x y : Int) :
    Calls Try.prog 26 #[bkV na nn nc sa 2 sc ra 2 rc, .int .i64 x, .int .i64 y] W fun e w' => e = .returned (.bool (isQ b (x, y))) ∧ Below W.heap.size W w' :=
  is_any na nn nc sa 2 sc ra 2 rc b x y W _ (Nat.le_refl _) h.bk
theorem isQ_refl {b : BookL} (hb : bookB b = true) {p : Nat} (hp : p < b.nodes.length) : isQ b ((p : Int), (p : Int)) = true := (isQ_iff hb).2 (und_refl (bookB_ok hb).1 (inBk_iff.2 ⟨by omega, by simpa using hp⟩))
theorem isQ_trans {b : BookL} (hb : bookB b = true) {x y z : Int} (h1 : isQ b (x, y) = true) (h2 : isQ b (y, z) = true) : isQ b (x, z) = true := (isQ_iff hb).2 (und_trans (bookB_ok hb).1 ((isQ_iff hb).1 h1) ((isQ_iff hb).1 h2))
theorem pairsQ_none {b : BookL} {p : Int × Int} (h : pairsQ b p = none) : isQ b p = false := by unfold isQ; rw [h]; rfl
theorem pairsQ_yes {b : BookL} {p : Int × Int} {l : List (Int × Int)} (h : pairsQ b p = some l) : isQ b p = true := by unfold isQ; rw [h]; rfl
theorem holdsQ_is {b : BookL} {l : List (Int × Int)} (h : holdsQ b l = true) : ∀ q ∈ l, isQ b q = true := fun q hq => by
  have hb : bookB b = true := by
    unfold holdsQ at h
    simp only [Bool.and_eq_true] at h
    exact h.1.1
  exact (isQ_iff hb).2 (holdsQ_und h q hq)
set_option maxHeartbeats 32000000 in
set_option maxRecDepth 40000 in
theorem underPairs_walk (a : Option Addr) (n c : Nat) (l : List Int) (x y : Int) (a' : Option Addr) (n' c' : Nat) (l' : List (Int × Int)) (w : World) (h : Nums w w.heap.size a n l) (hlim : n * 8 ≤ 140737488351232) (hps : Prs2 w w.heap.size a' n' l') :
    Calls Try.prog 7 #[.slice a n c, .int .i64 x, .int .i64 y, .slice a' n' c'] w fun e w' => e = .returned (.bool true) ∧ Below w.heap.size w w' := by
  have HN := Lib.hid h
  have HF := Lib.hid (first11_any w)
  have HLP := Lib.hid given11_any
  have hn0 := h.1
  have HLN := Lib.hid hn0
  clear h hn0
  go_enter Try.func7, Try.ntmps7
  go_upto_region 4 with (first
    | (go_at_call 22; (with_reducible refine HF.out.mono ?_)
       rintro e w1 ⟨rfl, hb1⟩
       have HB1 := Lib.hid hb1
       clear hb1)
    | (go_at_call 24; (with_reducible refine (HLP.out w1).mono ?_)
       rintro e w2 ⟨⟨pa, pn, pc, qa, qn, qc, ua, un, uc, rfl, _⟩, hb2⟩
       have HB2 := Lib.hid (below_on HB1.out hb2)
       clear hb2)
    | (at_builtin
       refine wpList_append_plus10 rfl (.tmp 19) (.tmp 20) rfl w2.heap.size w.heap.size (.slice (some ⟨w2.heap.size, 0, none⟩) 1 1) a n c [6] l rfl rfl (IInts.one (W := w2) (cs := #[.int .i64 6]) (base := w2.heap.size) (g := w2.heap.size) 6 rfl rfl (Nat.le_refl _)) ((HN.out.below HB2.out).alloc HB2.out.size _) (by show (1 + n) * 8 ≤ _; omega) (by simp) ?_
       intro v3 w3 hown hgr
       obtain ⟨ma, mc, hv, _, _, _, hnu⟩ := hown.sees
       obtain ⟨mn, hmn⟩ : ∃ mn, mn = ([6] ++ l : List Int).length := ⟨_, rfl⟩
       rw [← hmn] at hv hnu
       subst hv
       have hml : mn * 8 ≤ 140737488355328 := by rw [hmn, List.length_append, HLN.out]; show (1 + n) * 8 ≤ _; omega
       have hm0 : 0 < mn := by rw [hmn]; simp
       clear hmn
       have HNU := Lib.hid hnu
       have HB3 := Lib.hid ((HB2.out.alloc HB2.out.size (.cells #[.int .i64 6] 3)).grown hgr (by have := HB2.out.size; simp; omega) (fun j e => by cases e; exact HB2.out.size))
       clear hown hgr hnu)
    | (go_at_call 23; (with_reducible refine (made11_pos pa pn pc qa qn qc ua un uc ma mn mc _ w3 w3.heap.size (Nat.le_refl _) HNU.out hm0 hml).mono ?_)
       rintro e w4 ⟨⟨na, nn, nc, sa, sc, ra, rc, b, rfl, hin, hok, h1, h8⟩, hb4⟩
       have HB4 := Lib.hid (below_on HB3.out hb4)
       have HIN := Lib.hid hin
       have HOK := Lib.hid (And.intro hok (And.intro h1 h8))
       clear hin hok hb4 h1 h8)
    | fail)
  have HG := Lib.hid (show LB10 w (w4.alloc (.cells #[.slice na nn nc, .slice sa 2 sc, .slice ra 2 rc] 26)) w4.heap.size na nn nc sa sc ra rc b from
    ⟨heap_alloc_new w4 _, HIN.out.on (tu1 w4 _), HOK.out.1, HOK.out.2.1, HOK.out.2.2, below_on HB4.out (tu1 w4 _)⟩)
  generalize hg5 : w4.heap.size = g5 at HG ⊢
  generalize hw5 : w4.alloc (.cells #[.slice na nn nc, .slice sa 2 sc, .slice ra 2 rc] 26) = w5 at HG ⊢
  clear hg5 hw5 HIN HOK HB4 HB3 HNU HB2 HB1 HF HLP HN hml hm0
  obtain ⟨gc0, gc1, gc2⟩ := HG.out.cells
  have hn1 := HG.out.one
  have hn8 := HG.out.few
  have HBK := Lib.hid HG.out.ok
  obtain ⟨hok, _⟩ := bookB_ok HG.out.ok
  have HOK := Lib.hid hok
  have HNL := Lib.hid HG.out.len
  clear hok
  have HPS := Lib.hid hps
  have hn'z := hps.2.1
  clear hps
  obtain ⟨p, hpe⟩ : ∃ p, p = pickN nn x := ⟨_, rfl⟩
  have hp : p < nn := by rw [hpe]; exact (pickN_lt (by omega) (by omega) x).1
  have HPp := Lib.hid hpe.symm
  clear hpe
  obtain ⟨q, hqe⟩ : ∃ q, q = pickN nn y := ⟨_, rfl⟩
  have hq : q < nn := by rw [hqe]; exact (pickN_lt (by omega) (by omega) y).1
  have HPq := Lib.hid hqe.symm
  clear hqe
  have CPK := Lib.hid (fun x W => pick11_any na nn nc sa 2 sc ra 2 rc x W (by omega) (by omega))
  have HS := Lib.hid (fun (W : World) (h : LB10 w W g5 na nn nc sa sc ra rc b) => show (W.cell? ⟨g5, 0, none⟩ = some (.slice na nn nc) ∧ W.cell? ⟨g5, 1, none⟩ = some (.slice sa 2 sc) ∧ W.cell? ⟨g5, 2, none⟩ = some (.slice ra 2 rc)) from h.cells)
  have HGwd := Lib.hid (HG.out.on (bel_drewN (Below.refl _ _) 1))
  generalize hwd : w5.drewN 1 = wd at HGwd
  have hwd2 : w5.drew = wd := hwd
  have hHD := HS.out _ HGwd.out
  clear hwd HG gc0 gc1 gc2
  refine wp_region_held_drew (S := fun W => (W.cell? ⟨g5, 0, none⟩ = some (.slice na nn nc) ∧ W.cell? ⟨g5, 1, none⟩ = some (.slice sa 2 sc) ∧ W.cell? ⟨g5, 2, none⟩ = some (.slice ra 2 rc))) (by kernel_rfl) (by rw [hwd2]; exact hHD) (fun hHeld => ?_)
  rw [hwd2]
  rw [hwd2] at hHeld
  clear hHD
  try simp only [Act.put, List.setIfInBounds_toArray]
  refine' wpAnyH_take (i := 0) (v := _) rfl (by kernel_rfl) (by kernel_rfl) (by kernel_rfl) (fun _ _ _ h => h) (Or.inl ⟨by kernel_rfl, ?hypk0⟩) (by assumption) ?restpk0
  case hypk0 =>
    intro W hSw
    (try dsimp only at hSw)
    first | (go_simp; done) | (go_simp; with_reducible rfl)
  try simp only [Act.put]
  refine' wpAnyH_take (i := 1) (v := _) rfl (by kernel_rfl) (by kernel_rfl) (by kernel_rfl) (fun _ _ _ h => h) (Or.inl ⟨by kernel_rfl, ?hypk1⟩) (by assumption) ?restpk1
  case hypk1 =>
    intro W hSw
    (try dsimp only at hSw)
    first | (go_simp; done) | (go_simp; with_reducible rfl)
  try simp only [Act.put]
  refine' wpAnyH_take (i := 3) (v := _) rfl (by kernel_rfl) (by kernel_rfl) (by kernel_rfl) (fun _ _ _ h => h) (Or.inl ⟨by kernel_rfl, ?hypk3⟩) (by assumption) ?restpk3
  case hypk3 =>
    intro W hSw
    (try dsimp only at hSw)
    first | (go_simp; done) | (go_simp; with_reducible rfl)
  try simp only [Act.put]
  refine' wpAnyH_take (i := 4) (v := _) rfl (by kernel_rfl) (by kernel_rfl) (by kernel_rfl) (fun _ _ _ h => h) (Or.inl ⟨by kernel_rfl, ?hypk4⟩) (by assumption) ?restpk4
  case hypk4 =>
    intro W hSw
    (try dsimp only at hSw)
    first | (go_simp; done) | (go_simp; with_reducible rfl)
  try simp only [Act.put, List.setIfInBounds_toArray]
  refine wpAnyH_ready (rs := [2]) (by kernel_rfl) (by simp) ?_
  refine AllReadyH.cons (i := 2) (o := _) rfl (fun K hK => ?_) AllReadyH.nil
  go_simp
  go_at_call 25
  have hsm := CPK.out x wd
  rw [HPp.out] at hsm
  with_reducible refine hsm.mono ?_
  rintro e wp0 ⟨rfl, hb⟩
  have HGwp0 := Lib.hid (HGwd.out.on hb)
  clear hb hsm
  refine hK.out _ _ (HS.out _ HGwp0.out) (fun hHeld => ?_)
  clear hK K
  try simp only [Act.put, List.setIfInBounds_toArray]
  refine wpAnyH_ready (rs := [5]) (by kernel_rfl) (by simp) ?_
  refine AllReadyH.cons (i := 5) (o := _) rfl (fun K hK => ?_) AllReadyH.nil
  go_simp
  go_at_call 25
  have hsm := CPK.out y wp0
  rw [HPq.out] at hsm
  with_reducible refine hsm.mono ?_
  rintro e wp1 ⟨rfl, hb⟩
  have HGwp1 := Lib.hid (HGwp0.out.on hb)
  clear hb hsm
  refine hK.out _ _ (HS.out _ HGwp1.out) (fun hHeld => ?_)
  clear hK K
  try simp only [Act.put, List.setIfInBounds_toArray]
  refine' wpAnyH_take (i := 6) (v := _) rfl (by kernel_rfl) (by kernel_rfl) (by kernel_rfl) (fun _ _ _ h => h) (Or.inl ⟨by kernel_rfl, ?hypk6⟩) (by assumption) ?restpk6
  case hypk6 =>
    intro W hSw
    (try dsimp only at hSw)
    first | (go_simp; done) | (go_simp; with_reducible rfl)
  try simp only [Act.put]
  refine' wpAnyH_take (i := 7) (v := _) rfl (by kernel_rfl) (by kernel_rfl) (by kernel_rfl) (fun _ _ _ h => h) (Or.inl ⟨by kernel_rfl, ?hypk7⟩) (by assumption) ?restpk7
  case hypk7 =>
    intro W hSw
    (try dsimp only at hSw)
    first | (go_simp; done) | (go_simp; with_reducible rfl)
  try simp only [Act.put, List.setIfInBounds_toArray]
  refine wpAnyH_done (by kernel_rfl) ?_ _
  simp only [List.getElem_toArray, List.getElem_cons_succ, List.getElem_cons_zero, List.setIfInBounds_toArray, List.set_cons_succ, List.set_cons_zero]
  have CP := Lib.hid (pairs_any na nn nc sa 2 sc ra 2 rc b (p : Int) (q : Int) wp1 _ (Nat.le_refl _) HGwp1.out.bk)
  obtain ⟨R, hR⟩ : ∃ R, R = pairsQ b ((p : Int), (q : Int)) := ⟨_, rfl⟩
  rw [← hR] at CP
  have HR := Lib.hid hR.symm
  have heq := fun a b p q W => run_eqU_pair a b p q W
  clear hR CPK hwd2
  obtain ⟨b0, b1, b2⟩ := HGwp1.out.cells
  go_upto_region 6 with (first
    | (go_at_call 27; (with_reducible refine CP.out.mono ?_)
       rintro e w6 ⟨⟨oa, on, oc, he, _, hnz, hal⟩, hb6⟩
       subst he
       have HAL := Lib.hid hal
       have HNZ := Lib.hid hnz
       have HG6 := Lib.hid (HGwp1.out.on hb6)
       clear hb6 hal hnz)
    | fail)
  clear b0 b1 b2 CP
  have HOUT := Lib.hid (show ∃ out, Prs2 w6 w6.heap.size oa on out ∧ (∀ q ∈ out, isQ b q = true) from by
    cases hR : R with
    | none =>
      have h0 := HNZ.out hR
      subst h0
      exact ⟨[], Prs2.zero _ _ _, by simp⟩
    | some out => exact ⟨out, HAL.out out hR, (pairsQ_some (HR.out.trans hR)).2.1⟩)
  have CI := Lib.hid (HG6.out.isU (p : Int) (q : Int))
  obtain ⟨b0, b1, b2⟩ := HG6.out.cells
  go_cut [12, 73] (fun s s73 wx => s = .slice oa on oc ∧ s73 = .bool false ∧ Hid (LB10 w wx g5 na nn nc sa sc ra rc b) ∧ Hid (Below w6.heap.size w6 wx))
  case first =>
    clear HOUT
    cases R with
    | none =>
      have h0 := HNZ.out rfl
      subst h0
      have HIQ := Lib.hid (pairsQ_none HR.out)
      rw [HIQ.out] at CI
      have hnn : (none : Option (List (Int × Int))).isSome = false := rfl
      rw [hnn]
      clear HAL HNZ HR HIQ hnn
      go_wp2_with (first
        | (go_at_call 26; (with_reducible refine CI.out.mono ?_)
           rintro e w7 ⟨rfl, hb7⟩
           have HG7 := Lib.hid (HG6.out.on hb7)
           have HX7 := Lib.hid hb7
           clear hb7)
        | fail)
      go_meet
      case rel => exact ⟨rfl, rfl, HG7, HX7⟩
    | some out =>
      have HIQ := Lib.hid (pairsQ_yes HR.out)
      rw [HIQ.out] at CI
      have hnn : (some out).isSome = true := rfl
      rw [hnn]
      obtain ⟨hq0, _, hq1, hq2⟩ := pairsQ_some HR.out
      have HO6 := Lib.hid (HAL.out out rfl)
      have hol : out.length = on := HO6.out.1
      have hom : on ≤ 64 := by
        have h1 := HNL.out
        rw [h1] at hq2
        have h2 : nn * nn ≤ 8 * 8 := Nat.mul_le_mul hn8 hn8
        omega
      have hon : 1 ≤ on := by omega
      have HH := Lib.hid (pairsQ_holds HR.out)
      have HQ0 := Lib.hid hq0
      have i1 : (0 : Int) < (on : Int) := by omega
      have e1 : ((on : Int) == 0) = false := by rw [beq_eq_false_iff_ne]; omega
      have e2 : (on == 0) = false := by rw [beq_eq_false_iff_ne]; omega
      have e3 : decide (0 < on) = true := decide_eq_true (by omega)
      clear HAL HNZ HR HIQ hnn hq0 hq1 hq2 hol
      go_wp2_with (first
        | (go_at_call 26; (with_reducible refine CI.out.mono ?_)
           rintro e w7 ⟨rfl, hb7⟩
           have HG7 := Lib.hid (HG6.out.on hb7)
           have HX7 := Lib.hid hb7
           have HO7 := Lib.hid (HO6.out.on hb7)
           obtain ⟨c0, c1, c2⟩ := HG7.out.cells
           obtain ⟨xb, xo, x1, y1, hxa, _, hx, k0, k1⟩ := HO7.out.at_ (k := 0) hon
           obtain ⟨rfl, rfl⟩ := Prod.mk.inj (Option.some.inj (HQ0.out.symm.trans hx))
           subst hxa
           rw [Nat.zero_mul, Nat.add_zero] at k0 k1
           have CH := Lib.hid (holds_any na nn nc sa 2 sc ra 2 rc b (some ⟨xb, xo, none⟩) on oc out w7 _ (Nat.le_refl _) HG7.out.bk HO7.out (by omega))
           rw [HH.out] at CH
           clear hb7 hx)
        | (go_at_call 28; (with_reducible refine CH.out.mono ?_)
           rintro e w8 ⟨rfl, hb8⟩
           have HG8 := Lib.hid (HG7.out.on hb8)
           have HX8 := Lib.hid (below_on HX7.out hb8)
           clear hb8)
        | fail)
      go_meet
      case rel => exact ⟨rfl, rfl, HG8, HX8⟩
  case rest =>
    obtain ⟨hs12, hs73, HGl, HXl⟩ := hcut
    subst hs12 hs73
    obtain ⟨out, ho, hyes⟩ := HOUT.out
    have HQl := Lib.hid (ho.on HXl.out)
    have HYS := Lib.hid hyes
    have hon9 := ho.2.1
    obtain ⟨wl, hwl⟩ : ∃ wl : World, wl = wc := ⟨_, rfl⟩
    subst hwl
    clear ho hyes HOUT HAL HNZ HR CI HG6 HXl b0 b1 b2
    go_wp2_with fail
    go_loopw [14] (fun i wr => ∃ k : Nat, k ≤ on ∧ i = .int .i64 k ∧ Hid (LB10 w wr g5 na nn nc sa sc ra rc b) ∧ Hid (Below wl.heap.size wl wr)) (fun i _ => on - (intOf i).toNat)
    case atStart => exact ⟨0, Nat.zero_le _, rfl, HGl, Lib.hid (Below.refl _ _)⟩
    case round =>
      obtain ⟨k, hk, rfl, HGr, HXr⟩ := hrel
      by_cases hlt : k < on
      · obtain ⟨xb, xo, x1, y1, hxa, hxlt0, hx, q0, q1⟩ := (HQl.out.on HXr.out).at_ hlt
        subst hxa
        have HYES := Lib.hid (HYS.out _ (List.mem_of_getElem? hx))
        have hxlt : xb < wr.heap.size := hxlt0
        have HS2 := Lib.hid (fun (W : World) (h : LB10 w W g5 na nn nc sa sc ra rc b) (hb : Below wr.heap.size wr W) => show (W.cell? ⟨g5, 0, none⟩ = some (.slice na nn nc) ∧ W.cell? ⟨g5, 1, none⟩ = some (.slice sa 2 sc) ∧ W.cell? ⟨g5, 2, none⟩ = some (.slice ra 2 rc)) ∧ W.cell? ⟨xb, xo + k * 2, none⟩ = some (.int .i64 x1) ∧ W.cell? ⟨xb, xo + k * 2 + 1, none⟩ = some (.int .i64 y1) from ⟨h.cells, (hb.cell (p := ⟨xb, xo + k * 2, none⟩) hxlt).trans q0, (hb.cell (p := ⟨xb, xo + k * 2 + 1, none⟩) hxlt).trans q1⟩)
        have i1 : (k : Int) < (on : Int) := by omega
        have i2 : (0 : Int) ≤ (k : Int) := by omega
        have HGd := Lib.hid (HGr.out.on (bel_drewN (Below.refl _ _) 1))
        have HXd := Lib.hid (show Below wr.heap.size wr (wr.drewN 1) from bel_drewN (Below.refl _ _) 1)
        generalize hwd : wr.drewN 1 = wd at HGd HXd
        have hwd2 : wr.drew = wd := hwd
        have hHD := HS2.out _ HGd.out HXd.out
        clear hwd hx q0 q1 hxlt0
        go_wp2_with fail
        refine wp_region_held_drew (S := fun W => (W.cell? ⟨g5, 0, none⟩ = some (.slice na nn nc) ∧ W.cell? ⟨g5, 1, none⟩ = some (.slice sa 2 sc) ∧ W.cell? ⟨g5, 2, none⟩ = some (.slice ra 2 rc)) ∧ W.cell? ⟨xb, xo + k * 2, none⟩ = some (.int .i64 x1) ∧ W.cell? ⟨xb, xo + k * 2 + 1, none⟩ = some (.int .i64 y1)) (by kernel_rfl) (by rw [hwd2]; exact hHD) (fun hHeld => ?_)
        rw [hwd2]
        rw [hwd2] at hHeld
        clear hHD
        try simp only [Act.put, List.setIfInBounds_toArray]
        refine' wpAnyH_take (i := 0) (v := _) rfl (by kernel_rfl) (by kernel_rfl) (by kernel_rfl) (fun _ _ _ h => h) (Or.inl ⟨by kernel_rfl, ?hyl10⟩) (by assumption) ?restl10
        case hyl10 =>
          intro W hSw
          (try dsimp only at hSw)
          first | (go_simp; done) | (go_simp; with_reducible rfl)
        try simp only [Act.put]
        refine' wpAnyH_take (i := 1) (v := _) rfl (by kernel_rfl) (by kernel_rfl) (by kernel_rfl) (fun _ _ _ h => h) (Or.inl ⟨by kernel_rfl, ?hyl11⟩) (by assumption) ?restl11
        case hyl11 =>
          intro W hSw
          (try dsimp only at hSw)
          first | (go_simp; done) | (go_simp; with_reducible rfl)
        try simp only [Act.put]
        refine' wpAnyH_take (i := 2) (v := _) rfl (by kernel_rfl) (by kernel_rfl) (by kernel_rfl) (fun _ _ _ h => h) (Or.inl ⟨by kernel_rfl, ?hyl12⟩) (by assumption) ?restl12
        case hyl12 =>
          intro W hSw
          (try dsimp only at hSw)
          first | (go_simp; done) | (go_simp; with_reducible rfl)
        try simp only [Act.put]
        refine' wpAnyH_take (i := 3) (v := _) rfl (by kernel_rfl) (by kernel_rfl) (by kernel_rfl) (fun _ _ _ h => h) (Or.inl ⟨by kernel_rfl, ?hyl13⟩) (by assumption) ?restl13
        case hyl13 =>
          intro W hSw
          (try dsimp only at hSw)
          first | (go_simp; done) | (go_simp; with_reducible rfl)
        try simp only [Act.put]
        refine' wpAnyH_take (i := 4) (v := _) rfl (by kernel_rfl) (by kernel_rfl) (by kernel_rfl) (fun _ _ _ h => h) (Or.inl ⟨by kernel_rfl, ?hyl14⟩) (by assumption) ?restl14
        case hyl14 =>
          intro W hSw
          (try dsimp only at hSw)
          first | (go_simp; done) | (go_simp; with_reducible rfl)
        try simp only [Act.put]
        refine' wpAnyH_take (i := 5) (v := _) rfl (by kernel_rfl) (by kernel_rfl) (by kernel_rfl) (fun _ _ _ h => h) (Or.inl ⟨by kernel_rfl, ?hyl15⟩) (by assumption) ?restl15
        case hyl15 =>
          intro W hSw
          (try dsimp only at hSw)
          first | (go_simp; done) | (go_simp; with_reducible rfl)
        try simp only [Act.put]
        refine' wpAnyH_take (i := 6) (v := _) rfl (by kernel_rfl) (by kernel_rfl) (by kernel_rfl) (fun _ _ _ h => h) (Or.inl ⟨by kernel_rfl, ?hyl16⟩) (by assumption) ?restl16
        case hyl16 =>
          intro W hSw
          (try dsimp only at hSw)
          first | (go_simp; done) | (go_simp; with_reducible rfl)
        try simp only [Act.put]
        refine' wpAnyH_take (i := 7) (v := _) rfl (by kernel_rfl) (by kernel_rfl) (by kernel_rfl) (fun _ _ _ h => h) (Or.inl ⟨by kernel_rfl, ?hyl17⟩) (by assumption) ?restl17
        case hyl17 =>
          intro W hSw
          (try dsimp only at hSw)
          first | (go_simp; done) | (go_simp; with_reducible rfl)
        try simp only [Act.put]
        refine' wpAnyH_take (i := 8) (v := _) rfl (by kernel_rfl) (by kernel_rfl) (by kernel_rfl) (fun _ _ _ h => h) (Or.inl ⟨by kernel_rfl, ?hyl18⟩) (by assumption) ?restl18
        case hyl18 =>
          intro W hSw
          (try dsimp only at hSw)
          first | (go_simp; done) | (go_simp; with_reducible rfl)
        try simp only [Act.put]
        refine' wpAnyH_take (i := 9) (v := _) rfl (by kernel_rfl) (by kernel_rfl) (by kernel_rfl) (fun _ _ _ h => h) (Or.inl ⟨by kernel_rfl, ?hyl19⟩) (by assumption) ?restl19
        case hyl19 =>
          intro W hSw
          (try dsimp only at hSw)
          first | (go_simp; done) | (go_simp; with_reducible rfl)
        try simp only [Act.put]
        refine' wpAnyH_take (i := 10) (v := _) rfl (by kernel_rfl) (by kernel_rfl) (by kernel_rfl) (fun _ _ _ h => h) (Or.inl ⟨by kernel_rfl, ?hyl110⟩) (by assumption) ?restl110
        case hyl110 =>
          intro W hSw
          (try dsimp only at hSw)
          first | (go_simp; done) | (go_simp; with_reducible rfl)
        try simp only [Act.put, List.setIfInBounds_toArray]
        refine wpAnyH_ready (rs := [11]) (by kernel_rfl) (by simp) ?_
        refine AllReadyH.cons (i := 11) (o := _) rfl (fun K hK => ?_) AllReadyH.nil
        go_simp
        go_at_call 26
        have hsm := HGd.out.isU x1 y1
        rw [HYES.out] at hsm
        with_reducible refine hsm.mono ?_
        rintro e wn ⟨rfl, hb⟩
        have HGn := Lib.hid (HGd.out.on hb)
        have HXn := Lib.hid (below_on HXd.out hb)
        clear hb hsm
        refine hK.out _ _ (HS2.out _ HGn.out HXn.out) (fun hHeld => ?_)
        clear hK K
        try simp only [Act.put, List.setIfInBounds_toArray]
        refine' wpAnyH_take (i := 12) (v := _) rfl (by kernel_rfl) (by kernel_rfl) (by kernel_rfl) (fun _ _ _ h => h) (Or.inl ⟨by kernel_rfl, ?hyl112⟩) (by assumption) ?restl112
        case hyl112 =>
          intro W hSw
          (try dsimp only at hSw)
          first | (go_simp; done) | (go_simp; with_reducible rfl)
        try simp only [Act.put, List.setIfInBounds_toArray]
        refine wpAnyH_done (by kernel_rfl) ?_ _
        simp only [List.getElem_toArray, List.getElem_cons_succ, List.getElem_cons_zero, List.set_cons_succ, List.set_cons_zero]
        go_wp2_with fail
        go_roundw
        case rel => exact ⟨k + 1, by omega, by go_num, HGn, Lib.hid (below_on HXr.out HXn.out)⟩
        case measure => simp [intOf]; omega
      · obtain rfl : k = on := by omega
        have d3 : decide ((k : Int) < (k : Int)) = false := decide_eq_false (by omega)
        obtain ⟨gz0, gz1, gz2⟩ := HGr.out.cells
        have HGm := Lib.hid HGr.out
        clear HQl HYS HGl HXr hlt d3
        have hargs := HPS.out.below HGm.out.bel
        have HGo := Lib.hid (hargs.more HGm.out.bel.size)
        clear hargs
        obtain ⟨wm, hwm⟩ : ∃ wm : World, wm = wr := ⟨_, rfl⟩
        subst hwm
        have CH := Lib.hid (fun (h40 : n' ≤ 40) => holds_any na nn nc sa 2 sc ra 2 rc b a' n' c' l' wm _ (Nat.le_refl _) HGm.out.bk HGo.out (by omega))
        by_cases h40 : n' ≤ 40
        · have f40 : decide ((40 : Int) < (n' : Int)) = false := decide_eq_false (by omega)
          have f41 : decide (40 < n') = false := decide_eq_false (by omega)
          have CH2 := Lib.hid (CH.out h40)
          obtain ⟨H, hH⟩ : ∃ H, H = holdsQ b l' := ⟨_, rfl⟩
          rw [← hH] at CH2
          have HH := Lib.hid hH.symm
          clear hH CH
          cases H
          · go_wp2_with (first
              | (go_at_call 28; (with_reducible refine CH2.out.mono ?_)
                 rintro e w8 ⟨rfl, hb8⟩
                 have HG8 := Lib.hid (HGm.out.on hb8)
                 clear hb8)
              | fail)
            go_ret
            exact ⟨rfl, HG8.out.bel⟩
          · have HYS := Lib.hid (holdsQ_is HH.out)
            clear HH f40 f41
            go_wp2_with (first
              | (go_at_call 28; (with_reducible refine CH2.out.mono ?_)
                 rintro e w8 ⟨rfl, hb8⟩
                 have HGl := Lib.hid (HGm.out.on hb8)
                 have HQl := Lib.hid (HGo.out.on hb8)
                 clear hb8)
              | fail)
            clear CH2 HGm HGo gz0 gz1 gz2
            obtain ⟨wl, hwl⟩ : ∃ wl : World, wl = w8 := ⟨_, rfl⟩
            subst hwl
            go_loopw [15] (fun i wr => ∃ k : Nat, k ≤ n' ∧ i = .int .i64 k ∧ Hid (LB10 w wr g5 na nn nc sa sc ra rc b) ∧ Hid (Below wl.heap.size wl wr)) (fun i _ => n' - (intOf i).toNat)
            case atStart => exact ⟨0, Nat.zero_le _, rfl, HGl, Lib.hid (Below.refl _ _)⟩
            case round =>
              obtain ⟨k, hk, rfl, HGr, HXr⟩ := hrel
              by_cases hlt : k < n'
              · obtain ⟨xb, xo, x1, y1, hxa, hxlt0, hx, q0, q1⟩ := (HQl.out.on HXr.out).at_ hlt
                subst hxa
                have HYES := Lib.hid (HYS.out _ (List.mem_of_getElem? hx))
                have hxlt : xb < wr.heap.size := hxlt0
                have HS2 := Lib.hid (fun (W : World) (h : LB10 w W g5 na nn nc sa sc ra rc b) (hb : Below wr.heap.size wr W) => show (W.cell? ⟨g5, 0, none⟩ = some (.slice na nn nc) ∧ W.cell? ⟨g5, 1, none⟩ = some (.slice sa 2 sc) ∧ W.cell? ⟨g5, 2, none⟩ = some (.slice ra 2 rc)) ∧ W.cell? ⟨xb, xo + k * 2, none⟩ = some (.int .i64 x1) ∧ W.cell? ⟨xb, xo + k * 2 + 1, none⟩ = some (.int .i64 y1) from ⟨h.cells, (hb.cell (p := ⟨xb, xo + k * 2, none⟩) hxlt).trans q0, (hb.cell (p := ⟨xb, xo + k * 2 + 1, none⟩) hxlt).trans q1⟩)
                have i1 : (k : Int) < (n' : Int) := by omega
                have i2 : (0 : Int) ≤ (k : Int) := by omega
                have HGd := Lib.hid (HGr.out.on (bel_drewN (Below.refl _ _) 1))
                have HXd := Lib.hid (show Below wr.heap.size wr (wr.drewN 1) from bel_drewN (Below.refl _ _) 1)
                generalize hwd : wr.drewN 1 = wd at HGd HXd
                have hwd2 : wr.drew = wd := hwd
                have hHD := HS2.out _ HGd.out HXd.out
                clear hwd hx q0 q1 hxlt0
                go_wp2_with fail
                refine wp_region_held_drew (S := fun W => (W.cell? ⟨g5, 0, none⟩ = some (.slice na nn nc) ∧ W.cell? ⟨g5, 1, none⟩ = some (.slice sa 2 sc) ∧ W.cell? ⟨g5, 2, none⟩ = some (.slice ra 2 rc)) ∧ W.cell? ⟨xb, xo + k * 2, none⟩ = some (.int .i64 x1) ∧ W.cell? ⟨xb, xo + k * 2 + 1, none⟩ = some (.int .i64 y1)) (by kernel_rfl) (by rw [hwd2]; exact hHD) (fun hHeld => ?_)
                rw [hwd2]
                rw [hwd2] at hHeld
                clear hHD
                try simp only [Act.put, List.setIfInBounds_toArray]
                refine' wpAnyH_take (i := 0) (v := _) rfl (by kernel_rfl) (by kernel_rfl) (by kernel_rfl) (fun _ _ _ h => h) (Or.inl ⟨by kernel_rfl, ?hyl20⟩) (by assumption) ?restl20
                case hyl20 =>
                  intro W hSw
                  (try dsimp only at hSw)
                  first | (go_simp; done) | (go_simp; with_reducible rfl)
                try simp only [Act.put]
                refine' wpAnyH_take (i := 1) (v := _) rfl (by kernel_rfl) (by kernel_rfl) (by kernel_rfl) (fun _ _ _ h => h) (Or.inl ⟨by kernel_rfl, ?hyl21⟩) (by assumption) ?restl21
                case hyl21 =>
                  intro W hSw
                  (try dsimp only at hSw)
                  first | (go_simp; done) | (go_simp; with_reducible rfl)
                try simp only [Act.put]
                refine' wpAnyH_take (i := 2) (v := _) rfl (by kernel_rfl) (by kernel_rfl) (by kernel_rfl) (fun _ _ _ h => h) (Or.inl ⟨by kernel_rfl, ?hyl22⟩) (by assumption) ?restl22
                case hyl22 =>
                  intro W hSw
                  (try dsimp only at hSw)
                  first | (go_simp; done) | (go_simp; with_reducible rfl)
                try simp only [Act.put]
                refine' wpAnyH_take (i := 3) (v := _) rfl (by kernel_rfl) (by kernel_rfl) (by kernel_rfl) (fun _ _ _ h => h) (Or.inl ⟨by kernel_rfl, ?hyl23⟩) (by assumption) ?restl23
                case hyl23 =>
                  intro W hSw
                  (try dsimp only at hSw)
                  first | (go_simp; done) | (go_simp; with_reducible rfl)
                try simp only [Act.put]
                refine' wpAnyH_take (i := 4) (v := _) rfl (by kernel_rfl) (by kernel_rfl) (by kernel_rfl) (fun _ _ _ h => h) (Or.inl ⟨by kernel_rfl, ?hyl24⟩) (by assumption) ?restl24
                case hyl24 =>
                  intro W hSw
                  (try dsimp only at hSw)
                  first | (go_simp; done) | (go_simp; with_reducible rfl)
                try simp only [Act.put]
                refine' wpAnyH_take (i := 5) (v := _) rfl (by kernel_rfl) (by kernel_rfl) (by kernel_rfl) (fun _ _ _ h => h) (Or.inl ⟨by kernel_rfl, ?hyl25⟩) (by assumption) ?restl25
                case hyl25 =>
                  intro W hSw
                  (try dsimp only at hSw)
                  first | (go_simp; done) | (go_simp; with_reducible rfl)
                try simp only [Act.put]
                refine' wpAnyH_take (i := 6) (v := _) rfl (by kernel_rfl) (by kernel_rfl) (by kernel_rfl) (fun _ _ _ h => h) (Or.inl ⟨by kernel_rfl, ?hyl26⟩) (by assumption) ?restl26
                case hyl26 =>
                  intro W hSw
                  (try dsimp only at hSw)
                  first | (go_simp; done) | (go_simp; with_reducible rfl)
                try simp only [Act.put]
                refine' wpAnyH_take (i := 7) (v := _) rfl (by kernel_rfl) (by kernel_rfl) (by kernel_rfl) (fun _ _ _ h => h) (Or.inl ⟨by kernel_rfl, ?hyl27⟩) (by assumption) ?restl27
                case hyl27 =>
                  intro W hSw
                  (try dsimp only at hSw)
                  first | (go_simp; done) | (go_simp; with_reducible rfl)
                try simp only [Act.put]
                refine' wpAnyH_take (i := 8) (v := _) rfl (by kernel_rfl) (by kernel_rfl) (by kernel_rfl) (fun _ _ _ h => h) (Or.inl ⟨by kernel_rfl, ?hyl28⟩) (by assumption) ?restl28
                case hyl28 =>
                  intro W hSw
                  (try dsimp only at hSw)
                  first | (go_simp; done) | (go_simp; with_reducible rfl)
                try simp only [Act.put]
                refine' wpAnyH_take (i := 9) (v := _) rfl (by kernel_rfl) (by kernel_rfl) (by kernel_rfl) (fun _ _ _ h => h) (Or.inl ⟨by kernel_rfl, ?hyl29⟩) (by assumption) ?restl29
                case hyl29 =>
                  intro W hSw
                  (try dsimp only at hSw)
                  first | (go_simp; done) | (go_simp; with_reducible rfl)
                try simp only [Act.put]
                refine' wpAnyH_take (i := 10) (v := _) rfl (by kernel_rfl) (by kernel_rfl) (by kernel_rfl) (fun _ _ _ h => h) (Or.inl ⟨by kernel_rfl, ?hyl210⟩) (by assumption) ?restl210
                case hyl210 =>
                  intro W hSw
                  (try dsimp only at hSw)
                  first | (go_simp; done) | (go_simp; with_reducible rfl)
                try simp only [Act.put, List.setIfInBounds_toArray]
                refine wpAnyH_ready (rs := [11]) (by kernel_rfl) (by simp) ?_
                refine AllReadyH.cons (i := 11) (o := _) rfl (fun K hK => ?_) AllReadyH.nil
                go_simp
                go_at_call 26
                have hsm := HGd.out.isU x1 y1
                rw [HYES.out] at hsm
                with_reducible refine hsm.mono ?_
                rintro e wn ⟨rfl, hb⟩
                have HGn := Lib.hid (HGd.out.on hb)
                have HXn := Lib.hid (below_on HXd.out hb)
                clear hb hsm
                refine hK.out _ _ (HS2.out _ HGn.out HXn.out) (fun hHeld => ?_)
                clear hK K
                try simp only [Act.put, List.setIfInBounds_toArray]
                refine' wpAnyH_take (i := 12) (v := _) rfl (by kernel_rfl) (by kernel_rfl) (by kernel_rfl) (fun _ _ _ h => h) (Or.inl ⟨by kernel_rfl, ?hyl212⟩) (by assumption) ?restl212
                case hyl212 =>
                  intro W hSw
                  (try dsimp only at hSw)
                  first | (go_simp; done) | (go_simp; with_reducible rfl)
                try simp only [Act.put, List.setIfInBounds_toArray]
                refine wpAnyH_done (by kernel_rfl) ?_ _
                simp only [List.getElem_toArray, List.getElem_cons_succ, List.getElem_cons_zero, List.set_cons_succ, List.set_cons_zero]
                go_wp2_with fail
                go_roundw
                case rel => exact ⟨k + 1, by omega, by go_num, HGn, Lib.hid (below_on HXr.out HXn.out)⟩
                case measure => simp [intOf]; omega
              · obtain rfl : k = n' := by omega
                have d3 : decide ((k : Int) < (k : Int)) = false := decide_eq_false (by omega)
                obtain ⟨gz0, gz1, gz2⟩ := HGr.out.cells
                go_wp2_with fail
                go_ret
                exact ⟨rfl, HGr.out.bel⟩
        · have t40 : decide ((40 : Int) < (n' : Int)) = true := decide_eq_true (by omega)
          have t41 : decide (40 < n') = true := decide_eq_true (by omega)
          clear CH
          go_wp2_with fail
          go_ret
          exact ⟨rfl, HGm.out.bel⟩
end Go.Proofs.Ytpjocacepafneaa

/- The statement UnderPairs holds for every argument, with no condition. -/
namespace Go.Proofs.Ytpjocacepafneaa.underPairs
open Go Go.ChangeShapes Go.WideShapes Go.ChangeAt Go.RowKit
open Go.ChangeMaps (open_string shut_string)

set_option maxRecDepth 100000 in
theorem lifted (os : Os) (started : os.Started) (H : Type) (enc : TypeId × Value → H) :
    ReturnsInHanded {} Try.checked os 7 .any (Rows.underPairsSpec.pre6 enc Try.prog Try.f7 Rows.underPairsRow.domain false) (Rows.underPairsSpec.post enc Try.prog Try.f7 false true false false) := by
  refine returnsInHanded_of_change_sized (C := Try.checked) seatOwn started (by kernel_rfl) Try.func7
    (ChangeSpec.witness6 (enc := enc) (C := Try.checked) false ⟨#[], #[.slice none 0 0, .int .i64 0, .int .i64 0, .slice none 0 0], []⟩ 8 (by kernel_rfl) (by kernel_rfl) (by kernel_rfl) (by kernel_rfl)) ?_
  intro W base args ds gs before hval0 hW hcnd hsz0 _
  have hval : ∀ (j : Nat) t v, Try.f7.params[j]? = some t → args[j]? = some v → Value.okWide Try.prog W .any base t v := hval0
  have hsz : (DataW.weightsEach Try.prog (Try.f7.params.toList ++ Rows.underPairsSpec.plain.varTypes Try.prog) (ds ++ gs)).all (· ≤ reachBytes) = true := hsz0
  have hW' := hW
  obtain ⟨p, q, hA0, hV, rfl, hfz, hnd⟩ := hW
  have hA : DataW.TrodAll enc Try.prog W 0 (fun _ => true) true Try.f7.params.toList args.toList ds p := hA0
  rw [Try.params7] at hA hval hsz
  obtain ⟨v0, vs0, d0, ds0, p0, q0, hargs, rfl, rfl, h0, r0⟩ := trodAll_cons hA
  obtain ⟨v1, vs1, d1, ds1, p1, q1, rfl, rfl, rfl, h1, r1⟩ := trodAll_cons r0
  obtain ⟨v2, vs2, d2, ds2, p2, q2, rfl, rfl, rfl, h2, r2⟩ := trodAll_cons r1
  obtain ⟨v3, vs3, d3, ds3, p3, q3, rfl, rfl, rfl, h3, r3⟩ := trodAll_cons r2
  obtain ⟨rfl, rfl, rfl⟩ := trodAll_nil r3
  obtain rfl : args = #[v0, v1, v2, v3] := by cases args; simp_all
  obtain ⟨rfl, rfl⟩ := trodVars_none hV
  have k0 := h0
  have lt0 := args_below k0
  obtain ⟨fu0, hf0⟩ := h0
  obtain ⟨ia0, ilen0, icap0, rfl⟩ := okWide_slice Try.underlying24 (hval 0 24 v0 rfl rfl)
  obtain ⟨a0, n0, c0, l0, hv0, hn0, hi0, hc0, hm0, hz0⟩ := open_ints hf0 (fun elems spare e => by
    have := sized_slice hsz (j := 0) (t := 24) (e := 3) rfl (congrArg some e) Try.underlying24
    rwa [seatBytes2] at this)
  obtain ⟨ea0, en0, ec0⟩ := Value.slice.inj hv0
  subst ea0 en0 ec0
  have k1 := h1
  have lt1 := args_below k1
  obtain ⟨a1, rfl, rfl, rfl, w1⟩ := open_int Try.underlying3 (hval 1 3 v1 rfl rfl) h1
  have k2 := h2
  have lt2 := args_below k2
  obtain ⟨a2, rfl, rfl, rfl, w2⟩ := open_int Try.underlying3 (hval 2 3 v2 rfl rfl) h2
  have k3 := h3
  have lt3 := args_below k3
  obtain ⟨fu3, hf3⟩ := h3
  obtain ⟨ia3, ilen3, icap3, rfl⟩ := okWide_slice Try.underlying48 (hval 3 48 v3 rfl rfl)
  obtain ⟨a3, n3, c3, l3, hv3, hp3⟩ := open_prs hf3
  obtain ⟨ea3, en3, ec3⟩ := Value.slice.inj hv3
  subst ea3 en3 ec3
  clear hA0 hval0 hsz0
  refine (underPairs_walk ia0 ilen0 icap0 l0 a1 a2 ia3 ilen3 icap3 l3 W hn0 hz0 hp3 ).mono fun e W' ⟨he, bel⟩ => ?_
  subst he
  exact ⟨_, rfl, _, _, _, [], _, [], hW', trodAll_mk1 (shut_bool Try.underlying4 _), (trodAll_cons_mk (Below.trod seatLaidOut (by kernel_rfl) (of_decide_eq_true (by kernel_rfl)) k0 bel lt0) (trodAll_cons_mk (Below.trod seatLaidOut (by kernel_rfl) (of_decide_eq_true (by kernel_rfl)) k1 bel lt1) (trodAll_cons_mk (Below.trod seatLaidOut (by kernel_rfl) (of_decide_eq_true (by kernel_rfl)) k2 bel lt2) (trodAll_cons_mk (Below.trod seatLaidOut (by kernel_rfl) (of_decide_eq_true (by kernel_rfl)) k3 bel lt3) trodAll_mk0)))), rfl, bel.frame _, fun h => by cases h⟩

theorem over : Rows.underPairsRow.holds Try.pinned (OpenSpec.ofChange Rows.underPairsSpec) :=
  OpenClaim.holds_of_wide 7 Try.f7 rfl rfl rfl rfl rfl rfl rfl ⟨rfl, rfl, rfl, rfl, rfl⟩ rfl rfl rfl rfl rfl (by kernel_rfl) Try.func7 (by kernel_rfl)
    (of_decide_eq_true (by kernel_rfl)) (by unfold Func.isWrapper; first | (rw [if_pos (by decide +kernel)]; kernel_rfl) | (rw [if_neg (by decide +kernel)]; exact ⟨rfl, rfl⟩))
    (fun os started H enc _ => lifted os started H enc)

theorem proved : Rows.UnderPairsSaid :=
  over
#print axioms proved
end Go.Proofs.Ytpjocacepafneaa.underPairs
