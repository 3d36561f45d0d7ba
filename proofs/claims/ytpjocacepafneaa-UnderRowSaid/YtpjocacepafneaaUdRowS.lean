/- Law: UnderRow. (Printed by gen/gen11.py.) -/
import Derived.Test.YtpjocacepafneaaUdAll
import Derived.Deep.RegionHeld3
import Derived.Deep.DeepCutAuto
import Derived.Deep.CutBlock
import Derived.Test.YtpjocacepafneaaTuSeat
import Derived.ShutString
namespace Go.Proofs.Ytpjocacepafneaa
open Go.RowKit Go.Sort

theorem LB10.isU {w W : World} {g : Nat} {na sa ra : Option Addr} {nn nc sc rc : Nat} {b : BookL} (h : LB10 w W g na nn nc sa sc ra rc b) (x y : Int) :
    Calls Try.prog 26 #[bkV na nn nc sa 2 sc ra 2 rc, .int .i64 x, .int .i64 y] W fun e w' => e = .returned (.bool (isQ b (x, y))) ∧ Below W.heap.size W w' :=
  is_any na nn nc sa 2 sc ra 2 rc b x y W _ (Nat.le_refl _) h.bk
theorem isQ_refl {b : BookL} (hb : bookB b = true) {p : Nat} (hp : p < b.nodes.length) : isQ b ((p : Int), (p : Int)) = true := (isQ_iff hb).2 (und_refl (bookB_ok hb).1 (inBk_iff.2 ⟨by omega, by simpa using hp⟩))
theorem isQ_trans {b : BookL} (hb : bookB b = true) {x y z : Int} (h1 : isQ b (x, y) = true) (h2 : isQ b (y, z) = true) : isQ b (x, z) = true := (isQ_iff hb).2 (und_trans (bookB_ok hb).1 ((isQ_iff hb).1 h1) ((isQ_iff hb).1 h2))
set_option maxHeartbeats 32000000 in
set_option maxRecDepth 40000 in
theorem underRow_walk (a : Option Addr) (n c : Nat) (l : List Int) (x y z : Int) (w : World) (h : Nums w w.heap.size a n l) (hlim : n * 8 ≤ 140737488351232) :
    Calls Try.prog 5 #[.slice a n c, .int .i64 x, .int .i64 y, .int .i64 z] w fun e w' => e = .returned (.bool true) ∧ Below w.heap.size w w' := by
  have HN := Lib.hid h
  have HF := Lib.hid (first11_any w)
  have HLP := Lib.hid given11_any
  have hn0 := h.1
  have HLN := Lib.hid hn0
  clear h hn0
  go_enter Try.func5, Try.ntmps5
  go_upto_region 4 with (first
    | (go_at_call 22; (with_reducible refine HF.out.mono ?_)
       rintro e w1 ⟨rfl, hb1⟩
       have HB1 := Lib.hid hb1
       clear hb1)
    | (go_at_call 24; (with_reducible refine (HLP.out w1).mono ?_)
       rintro e w2 ⟨⟨pa, pn, pc, qa, qn, qc, ua, un, uc, rfl, _⟩, hb2⟩
       have HB2 := Lib.hid (below_on HB1.out hb2)
       clear hb2)
    | (at_builtin
       refine wpList_append_plus10 rfl (.tmp 16) (.tmp 17) rfl w2.heap.size w.heap.size (.slice (some ⟨w2.heap.size, 0, none⟩) 1 1) a n c [6] l rfl rfl (IInts.one (W := w2) (cs := #[.int .i64 6]) (base := w2.heap.size) (g := w2.heap.size) 6 rfl rfl (Nat.le_refl _)) ((HN.out.below HB2.out).alloc HB2.out.size _) (by show (1 + n) * 8 ≤ _; omega) (by simp) ?_
       intro v3 w3 hown hgr
       obtain ⟨ma, mc, hv, _, _, _, hnu⟩ := hown.sees
       obtain ⟨mn, hmn⟩ : ∃ mn, mn = ([6] ++ l : List Int).length := ⟨_, rfl⟩
       rw [← hmn] at hv hnu
       subst hv
       have hml : mn * 8 ≤ 140737488355328 := by rw [hmn, List.length_append, HLN.out]; show (1 + n) * 8 ≤ _; omega
       have hm0 : 0 < mn := by rw [hmn]; simp
       clear hmn
       have HNU := Lib.hid hnu
       have HB3 := Lib.hid ((HB2.out.alloc HB2.out.size (.cells #[.int .i64 6] 3)).grown hgr (by have := HB2.out.size; simp; omega) (fun j e => by cases e; exact HB2.out.size))
       clear hown hgr hnu)
    | (go_at_call 23; (with_reducible refine (made11_pos pa pn pc qa qn qc ua un uc ma mn mc _ w3 w3.heap.size (Nat.le_refl _) HNU.out hm0 hml).mono ?_)
       rintro e w4 ⟨⟨na, nn, nc, sa, sc, ra, rc, b, rfl, hin, hok, h1, h8⟩, hb4⟩
       have HB4 := Lib.hid (below_on HB3.out hb4)
       have HIN := Lib.hid hin
       have HOK := Lib.hid (And.intro hok (And.intro h1 h8))
       clear hin hok hb4 h1 h8)
    | fail)
  have HG := Lib.hid (show LB10 w (w4.alloc (.cells #[.slice na nn nc, .slice sa 2 sc, .slice ra 2 rc] 26)) w4.heap.size na nn nc sa sc ra rc b from
    ⟨heap_alloc_new w4 _, HIN.out.on (tu1 w4 _), HOK.out.1, HOK.out.2.1, HOK.out.2.2, below_on HB4.out (tu1 w4 _)⟩)
  generalize hg5 : w4.heap.size = g5 at HG ⊢
  generalize hw5 : w4.alloc (.cells #[.slice na nn nc, .slice sa 2 sc, .slice ra 2 rc] 26) = w5 at HG ⊢
  clear hg5 hw5 HIN HOK HB4 HB3 HNU HB2 HB1 HF HLP HN hml hm0
  obtain ⟨gc0, gc1, gc2⟩ := HG.out.cells
  have hn1 := HG.out.one
  have hn8 := HG.out.few
  have HBK := Lib.hid HG.out.ok
  obtain ⟨hok, _⟩ := bookB_ok HG.out.ok
  have HOK := Lib.hid hok
  have HNL := Lib.hid HG.out.len
  clear hok
  obtain ⟨p, hpe⟩ : ∃ p, p = pickN nn x := ⟨_, rfl⟩
  have hp : p < nn := by rw [hpe]; exact (pickN_lt (by omega) (by omega) x).1
  have HPp := Lib.hid hpe.symm
  clear hpe
  obtain ⟨q, hqe⟩ : ∃ q, q = pickN nn y := ⟨_, rfl⟩
  have hq : q < nn := by rw [hqe]; exact (pickN_lt (by omega) (by omega) y).1
  have HPq := Lib.hid hqe.symm
  clear hqe
  obtain ⟨r, hre⟩ : ∃ r, r = pickN nn z := ⟨_, rfl⟩
  have hr : r < nn := by rw [hre]; exact (pickN_lt (by omega) (by omega) z).1
  have HPr := Lib.hid hre.symm
  clear hre
  have CPK := Lib.hid (fun x W => pick11_any na nn nc sa 2 sc ra 2 rc x W (by omega) (by omega))
  have HS := Lib.hid (fun (W : World) (h : LB10 w W g5 na nn nc sa sc ra rc b) => show (W.cell? ⟨g5, 0, none⟩ = some (.slice na nn nc) ∧ W.cell? ⟨g5, 1, none⟩ = some (.slice sa 2 sc) ∧ W.cell? ⟨g5, 2, none⟩ = some (.slice ra 2 rc)) from h.cells)
  have HGwd := Lib.hid (HG.out.on (bel_drewN (Below.refl _ _) 1))
  generalize hwd : w5.drewN 1 = wd at HGwd
  have hwd2 : w5.drew = wd := hwd
  have hHD := HS.out _ HGwd.out
  clear hwd HG gc0 gc1 gc2
  refine wp_region_held_drew (S := fun W => (W.cell? ⟨g5, 0, none⟩ = some (.slice na nn nc) ∧ W.cell? ⟨g5, 1, none⟩ = some (.slice sa 2 sc) ∧ W.cell? ⟨g5, 2, none⟩ = some (.slice ra 2 rc))) (by kernel_rfl) (by rw [hwd2]; exact hHD) (fun hHeld => ?_)
  rw [hwd2]
  rw [hwd2] at hHeld
  clear hHD
  try simp only [Act.put, List.setIfInBounds_toArray]
  refine' wpAnyH_take (i := 0) (v := _) rfl (by kernel_rfl) (by kernel_rfl) (by kernel_rfl) (fun _ _ _ h => h) (Or.inl ⟨by kernel_rfl, ?hypk0⟩) (by assumption) ?restpk0
  case hypk0 =>
    intro W hSw
    (try dsimp only at hSw)
    first | (go_simp; done) | (go_simp; with_reducible rfl)
  try simp only [Act.put]
  refine' wpAnyH_take (i := 1) (v := _) rfl (by kernel_rfl) (by kernel_rfl) (by kernel_rfl) (fun _ _ _ h => h) (Or.inl ⟨by kernel_rfl, ?hypk1⟩) (by assumption) ?restpk1
  case hypk1 =>
    intro W hSw
    (try dsimp only at hSw)
    first | (go_simp; done) | (go_simp; with_reducible rfl)
  try simp only [Act.put]
  refine' wpAnyH_take (i := 3) (v := _) rfl (by kernel_rfl) (by kernel_rfl) (by kernel_rfl) (fun _ _ _ h => h) (Or.inl ⟨by kernel_rfl, ?hypk3⟩) (by assumption) ?restpk3
  case hypk3 =>
    intro W hSw
    (try dsimp only at hSw)
    first | (go_simp; done) | (go_simp; with_reducible rfl)
  try simp only [Act.put]
  refine' wpAnyH_take (i := 4) (v := _) rfl (by kernel_rfl) (by kernel_rfl) (by kernel_rfl) (fun _ _ _ h => h) (Or.inl ⟨by kernel_rfl, ?hypk4⟩) (by assumption) ?restpk4
  case hypk4 =>
    intro W hSw
    (try dsimp only at hSw)
    first | (go_simp; done) | (go_simp; with_reducible rfl)
  try simp only [Act.put]
  refine' wpAnyH_take (i := 6) (v := _) rfl (by kernel_rfl) (by kernel_rfl) (by kernel_rfl) (fun _ _ _ h => h) (Or.inl ⟨by kernel_rfl, ?hypk6⟩) (by assumption) ?restpk6
  case hypk6 =>
    intro W hSw
    (try dsimp only at hSw)
    first | (go_simp; done) | (go_simp; with_reducible rfl)
  try simp only [Act.put]
  refine' wpAnyH_take (i := 7) (v := _) rfl (by kernel_rfl) (by kernel_rfl) (by kernel_rfl) (fun _ _ _ h => h) (Or.inl ⟨by kernel_rfl, ?hypk7⟩) (by assumption) ?restpk7
  case hypk7 =>
    intro W hSw
    (try dsimp only at hSw)
    first | (go_simp; done) | (go_simp; with_reducible rfl)
  try simp only [Act.put, List.setIfInBounds_toArray]
  refine wpAnyH_ready (rs := [2]) (by kernel_rfl) (by simp) ?_
  refine AllReadyH.cons (i := 2) (o := _) rfl (fun K hK => ?_) AllReadyH.nil
  go_simp
  go_at_call 25
  have hsm := CPK.out x wd
  rw [HPp.out] at hsm
  with_reducible refine hsm.mono ?_
  rintro e wp0 ⟨rfl, hb⟩
  have HGwp0 := Lib.hid (HGwd.out.on hb)
  clear hb hsm
  refine hK.out _ _ (HS.out _ HGwp0.out) (fun hHeld => ?_)
  clear hK K
  try simp only [Act.put, List.setIfInBounds_toArray]
  refine wpAnyH_ready (rs := [5]) (by kernel_rfl) (by simp) ?_
  refine AllReadyH.cons (i := 5) (o := _) rfl (fun K hK => ?_) AllReadyH.nil
  go_simp
  go_at_call 25
  have hsm := CPK.out y wp0
  rw [HPq.out] at hsm
  with_reducible refine hsm.mono ?_
  rintro e wp1 ⟨rfl, hb⟩
  have HGwp1 := Lib.hid (HGwp0.out.on hb)
  clear hb hsm
  refine hK.out _ _ (HS.out _ HGwp1.out) (fun hHeld => ?_)
  clear hK K
  try simp only [Act.put, List.setIfInBounds_toArray]
  refine wpAnyH_ready (rs := [8]) (by kernel_rfl) (by simp) ?_
  refine AllReadyH.cons (i := 8) (o := _) rfl (fun K hK => ?_) AllReadyH.nil
  go_simp
  go_at_call 25
  have hsm := CPK.out z wp1
  rw [HPr.out] at hsm
  with_reducible refine hsm.mono ?_
  rintro e wp2 ⟨rfl, hb⟩
  have HGwp2 := Lib.hid (HGwp1.out.on hb)
  clear hb hsm
  refine hK.out _ _ (HS.out _ HGwp2.out) (fun hHeld => ?_)
  clear hK K
  try simp only [Act.put, List.setIfInBounds_toArray]
  refine' wpAnyH_take (i := 9) (v := _) rfl (by kernel_rfl) (by kernel_rfl) (by kernel_rfl) (fun _ _ _ h => h) (Or.inl ⟨by kernel_rfl, ?hypk9⟩) (by assumption) ?restpk9
  case hypk9 =>
    intro W hSw
    (try dsimp only at hSw)
    first | (go_simp; done) | (go_simp; with_reducible rfl)
  try simp only [Act.put]
  refine' wpAnyH_take (i := 10) (v := _) rfl (by kernel_rfl) (by kernel_rfl) (by kernel_rfl) (fun _ _ _ h => h) (Or.inl ⟨by kernel_rfl, ?hypk10⟩) (by assumption) ?restpk10
  case hypk10 =>
    intro W hSw
    (try dsimp only at hSw)
    first | (go_simp; done) | (go_simp; with_reducible rfl)
  try simp only [Act.put]
  refine' wpAnyH_take (i := 11) (v := _) rfl (by kernel_rfl) (by kernel_rfl) (by kernel_rfl) (fun _ _ _ h => h) (Or.inl ⟨by kernel_rfl, ?hypk11⟩) (by assumption) ?restpk11
  case hypk11 =>
    intro W hSw
    (try dsimp only at hSw)
    first | (go_simp; done) | (go_simp; with_reducible rfl)
  try simp only [Act.put, List.setIfInBounds_toArray]
  refine wpAnyH_done (by kernel_rfl) ?_ _
  simp only [List.getElem_toArray, List.getElem_cons_succ, List.getElem_cons_zero, List.setIfInBounds_toArray, List.set_cons_succ, List.set_cons_zero]
  have HPP := Lib.hid (show isQ b ((p : Int), (p : Int)) = true from isQ_refl HBK.out (by rw [HNL.out]; exact hp))
  have HTR := Lib.hid (fun h1 h2 => isQ_trans (b := b) HBK.out (x := (p : Int)) (y := (q : Int)) (z := (r : Int)) h1 h2)
  obtain ⟨A, hA⟩ : ∃ A, A = isQ b ((p : Int), (q : Int)) := ⟨_, rfl⟩
  obtain ⟨B, hB⟩ : ∃ B, B = isQ b ((q : Int), (r : Int)) := ⟨_, rfl⟩
  obtain ⟨C, hC⟩ : ∃ C, C = isQ b ((p : Int), (r : Int)) := ⟨_, rfl⟩
  rw [← hA, ← hB, ← hC] at HTR
  have HA := Lib.hid hA.symm
  have HB := Lib.hid hB.symm
  have HC := Lib.hid hC.symm
  clear hA hB hC HS CPK hwd2
  obtain ⟨b0, b1, b2⟩ := HGwp2.out.cells
  cases A
  · clear HTR
    go_wp2_with (first
      | (go_at_call 26
         have hsm := HGwp2.out.isU (p : Int) (p : Int)
         rw [HPP.out] at hsm
         with_reducible refine hsm.mono ?_
         rintro e wi0 ⟨rfl, hb⟩
         have HGwi0 := Lib.hid (HGwp2.out.on hb)
         obtain ⟨z00, z01, z02⟩ := HGwi0.out.cells
         clear hb hsm)
      | (go_at_call 26
         have hsm := HGwi0.out.isU (p : Int) (q : Int)
         rw [HA.out] at hsm
         with_reducible refine hsm.mono ?_
         rintro e wi1 ⟨rfl, hb⟩
         have HGwi1 := Lib.hid (HGwi0.out.on hb)
         obtain ⟨z10, z11, z12⟩ := HGwi1.out.cells
         clear hb hsm)
      | fail)
    go_ret
    exact ⟨rfl, HGwi1.out.bel⟩
  · cases B
    · clear HTR
      go_wp2_with (first
        | (go_at_call 26
           have hsm := HGwp2.out.isU (p : Int) (p : Int)
           rw [HPP.out] at hsm
           with_reducible refine hsm.mono ?_
           rintro e wi0 ⟨rfl, hb⟩
           have HGwi0 := Lib.hid (HGwp2.out.on hb)
           obtain ⟨z00, z01, z02⟩ := HGwi0.out.cells
           clear hb hsm)
        | (go_at_call 26
           have hsm := HGwi0.out.isU (p : Int) (q : Int)
           rw [HA.out] at hsm
           with_reducible refine hsm.mono ?_
           rintro e wi1 ⟨rfl, hb⟩
           have HGwi1 := Lib.hid (HGwi0.out.on hb)
           obtain ⟨z10, z11, z12⟩ := HGwi1.out.cells
           clear hb hsm)
        | (go_at_call 26
           have hsm := HGwi1.out.isU (q : Int) (r : Int)
           rw [HB.out] at hsm
           with_reducible refine hsm.mono ?_
           rintro e wi2 ⟨rfl, hb⟩
           have HGwi2 := Lib.hid (HGwi1.out.on hb)
           obtain ⟨z20, z21, z22⟩ := HGwi2.out.cells
           clear hb hsm)
        | fail)
      go_ret
      exact ⟨rfl, HGwi2.out.bel⟩
    · have hct := HTR.out rfl rfl
      subst hct
      clear HTR
      go_wp2_with (first
        | (go_at_call 26
           have hsm := HGwp2.out.isU (p : Int) (p : Int)
           rw [HPP.out] at hsm
           with_reducible refine hsm.mono ?_
           rintro e wi0 ⟨rfl, hb⟩
           have HGwi0 := Lib.hid (HGwp2.out.on hb)
           obtain ⟨z00, z01, z02⟩ := HGwi0.out.cells
           clear hb hsm)
        | (go_at_call 26
           have hsm := HGwi0.out.isU (p : Int) (q : Int)
           rw [HA.out] at hsm
           with_reducible refine hsm.mono ?_
           rintro e wi1 ⟨rfl, hb⟩
           have HGwi1 := Lib.hid (HGwi0.out.on hb)
           obtain ⟨z10, z11, z12⟩ := HGwi1.out.cells
           clear hb hsm)
        | (go_at_call 26
           have hsm := HGwi1.out.isU (q : Int) (r : Int)
           rw [HB.out] at hsm
           with_reducible refine hsm.mono ?_
           rintro e wi2 ⟨rfl, hb⟩
           have HGwi2 := Lib.hid (HGwi1.out.on hb)
           obtain ⟨z20, z21, z22⟩ := HGwi2.out.cells
           clear hb hsm)
        | (go_at_call 26
           have hsm := HGwi2.out.isU (p : Int) (r : Int)
           rw [HC.out] at hsm
           with_reducible refine hsm.mono ?_
           rintro e wi3 ⟨rfl, hb⟩
           have HGwi3 := Lib.hid (HGwi2.out.on hb)
           obtain ⟨z30, z31, z32⟩ := HGwi3.out.cells
           clear hb hsm)
        | fail)
      go_ret
      exact ⟨rfl, HGwi3.out.bel⟩
end Go.Proofs.Ytpjocacepafneaa

/- The statement UnderRow holds for every argument, with no condition. -/
namespace Go.Proofs.Ytpjocacepafneaa.underRow
open Go Go.ChangeShapes Go.WideShapes Go.ChangeAt Go.RowKit
open Go.ChangeMaps (open_string shut_string)

set_option maxRecDepth 100000 in
theorem lifted (os : Os) (started : os.Started) (H : Type) (enc : TypeId × Value → H) :
    ReturnsInHanded {} Try.checked os 5 .any (Rows.underRowSpec.pre6 enc Try.prog Try.f5 Rows.underRowRow.domain false) (Rows.underRowSpec.post enc Try.prog Try.f5 false true false false) := by
  refine returnsInHanded_of_change_sized (C := Try.checked) seatOwn started (by kernel_rfl) Try.func5
    (ChangeSpec.witness6 (enc := enc) (C := Try.checked) false ⟨#[], #[.slice none 0 0, .int .i64 0, .int .i64 0, .int .i64 0], []⟩ 8 (by kernel_rfl) (by kernel_rfl) (by kernel_rfl) (by kernel_rfl)) ?_
  intro W base args ds gs before hval0 hW hcnd hsz0 _
  have hval : ∀ (j : Nat) t v, Try.f5.params[j]? = some t → args[j]? = some v → Value.okWide Try.prog W .any base t v := hval0
  have hsz : (DataW.weightsEach Try.prog (Try.f5.params.toList ++ Rows.underRowSpec.plain.varTypes Try.prog) (ds ++ gs)).all (· ≤ reachBytes) = true := hsz0
  have hW' := hW
  obtain ⟨p, q, hA0, hV, rfl, hfz, hnd⟩ := hW
  have hA : DataW.TrodAll enc Try.prog W 0 (fun _ => true) true Try.f5.params.toList args.toList ds p := hA0
  rw [Try.params5] at hA hval hsz
  obtain ⟨v0, vs0, d0, ds0, p0, q0, hargs, rfl, rfl, h0, r0⟩ := trodAll_cons hA
  obtain ⟨v1, vs1, d1, ds1, p1, q1, rfl, rfl, rfl, h1, r1⟩ := trodAll_cons r0
  obtain ⟨v2, vs2, d2, ds2, p2, q2, rfl, rfl, rfl, h2, r2⟩ := trodAll_cons r1
  obtain ⟨v3, vs3, d3, ds3, p3, q3, rfl, rfl, rfl, h3, r3⟩ := trodAll_cons r2
  obtain ⟨rfl, rfl, rfl⟩ := trodAll_nil r3
  obtain rfl : args = #[v0, v1, v2, v3] := by cases args; simp_all
  obtain ⟨rfl, rfl⟩ := trodVars_none hV
  have k0 := h0
  have lt0 := args_below k0
  obtain ⟨fu0, hf0⟩ := h0
  obtain ⟨ia0, ilen0, icap0, rfl⟩ := okWide_slice Try.underlying24 (hval 0 24 v0 rfl rfl)
  obtain ⟨a0, n0, c0, l0, hv0, hn0, hi0, hc0, hm0, hz0⟩ := open_ints hf0 (fun elems spare e => by
    have := sized_slice hsz (j := 0) (t := 24) (e := 3) rfl (congrArg some e) Try.underlying24
    rwa [seatBytes2] at this)
  obtain ⟨ea0, en0, ec0⟩ := Value.slice.inj hv0
  subst ea0 en0 ec0
  have k1 := h1
  have lt1 := args_below k1
  obtain ⟨a1, rfl, rfl, rfl, w1⟩ := open_int Try.underlying3 (hval 1 3 v1 rfl rfl) h1
  have k2 := h2
  have lt2 := args_below k2
  obtain ⟨a2, rfl, rfl, rfl, w2⟩ := open_int Try.underlying3 (hval 2 3 v2 rfl rfl) h2
  have k3 := h3
  have lt3 := args_below k3
  obtain ⟨a3, rfl, rfl, rfl, w3⟩ := open_int Try.underlying3 (hval 3 3 v3 rfl rfl) h3
  clear hA0 hval0 hsz0
  refine (underRow_walk ia0 ilen0 icap0 l0 a1 a2 a3 W hn0 hz0 ).mono fun e W' ⟨he, bel⟩ => ?_
  subst he
  exact ⟨_, rfl, _, _, _, [], _, [], hW', trodAll_mk1 (shut_bool Try.underlying4 _), (trodAll_cons_mk (Below.trod seatLaidOut (by kernel_rfl) (of_decide_eq_true (by kernel_rfl)) k0 bel lt0) (trodAll_cons_mk (Below.trod seatLaidOut (by kernel_rfl) (of_decide_eq_true (by kernel_rfl)) k1 bel lt1) (trodAll_cons_mk (Below.trod seatLaidOut (by kernel_rfl) (of_decide_eq_true (by kernel_rfl)) k2 bel lt2) (trodAll_cons_mk (Below.trod seatLaidOut (by kernel_rfl) (of_decide_eq_true (by kernel_rfl)) k3 bel lt3) trodAll_mk0)))), rfl, bel.frame _, fun h => by cases h⟩

theorem over : Rows.underRowRow.holds Try.pinned (OpenSpec.ofChange Rows.underRowSpec) :=
  OpenClaim.holds_of_wide 5 Try.f5 rfl rfl rfl rfl rfl rfl rfl ⟨rfl, rfl, rfl, rfl, rfl⟩ rfl rfl rfl rfl rfl (by kernel_rfl) Try.func5 (by kernel_rfl)
    (of_decide_eq_true (by kernel_rfl)) (by unfold Func.isWrapper; first | (rw [if_pos (by decide +kernel)]; kernel_rfl) | (rw [if_neg (by decide +kernel)]; exact ⟨rfl, rfl⟩))
    (fun os started H enc _ => lifted os started H enc)

theorem proved : Rows.UnderRowSaid :=
  over
#print axioms proved
end Go.Proofs.Ytpjocacepafneaa.underRow
