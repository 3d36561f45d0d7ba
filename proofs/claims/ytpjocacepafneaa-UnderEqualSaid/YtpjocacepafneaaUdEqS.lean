/- Law: UnderEqual. (Printed by gen/gen11.py.) -/
import Derived.Test.YtpjocacepafneaaUdAll
import Derived.Deep.RegionHeld3
import Derived.Deep.DeepCutAuto
import Derived.Deep.CutBlock
import Derived.Test.YtpjocacepafneaaTuSeat
import Derived.ShutString
namespace Go.Proofs.Ytpjocacepafneaa
open Go.RowKit Go.Sort

theorem LB10.isU {w W : World} {g : Nat} {na sa ra : Option Addr} {nn nc sc rc : Nat} {b : BookL} (h : LB10 w W g na nn nc sa sc ra rc b) (x y : Int) :
    Calls Try.prog 26 #[bkV na nn nc sa 2 sc ra 2 rc, .int .i64 x, .int .i64 y] W fun e w' => e = .returned (.bool (isQ b (x, y))) ∧ Below W.heap.size W w' :=
  is_any na nn nc sa 2 sc ra 2 rc b x y W _ (Nat.le_refl _) h.bk
theorem isQ_refl {b : BookL} (hb : bookB b = true) {p : Nat} (hp : p < b.nodes.length) : isQ b ((p : Int), (p : Int)) = true := (isQ_iff hb).2 (und_refl (bookB_ok hb).1 (inBk_iff.2 ⟨by omega, by simpa using hp⟩))
theorem isQ_trans {b : BookL} (hb : bookB b = true) {x y z : Int} (h1 : isQ b (x, y) = true) (h2 : isQ b (y, z) = true) : isQ b (x, z) = true := (isQ_iff hb).2 (und_trans (bookB_ok hb).1 ((isQ_iff hb).1 h1) ((isQ_iff hb).1 h2))
theorem leastU_ex (P : Nat → Prop) : ∀ n, P n → ∃ m, P m ∧ ∀ k, P k → m ≤ k := by
  intro n
  induction n using Nat.strongRecOn with
  | ind n ih =>
    intro hn
    by_cases h : ∃ k, k < n ∧ P k
    · obtain ⟨k, hk, hp⟩ := h
      exact ih k hk hp
    · exact ⟨n, hn, fun k hp => Nat.le_of_not_lt fun hlt => h ⟨k, hlt, hp⟩⟩
theorem isClU_ex {ns : List NodeL} (hc : Closed ns) : ∃ cl, IsCl ns cl := by
  have h : ∀ i : Nat, ∃ m, i < ns.length → Eqv ns m i ∧ ∀ k, Eqv ns k i → m ≤ k := fun i => by
    by_cases hi : i < ns.length
    · obtain ⟨m, h1, h2⟩ := leastU_ex (fun k => Eqv ns k i) i (eqv_refl hc hi)
      exact ⟨m, fun _ => ⟨h1, h2⟩⟩
    · exact ⟨0, fun h => absurd h hi⟩
  refine ⟨(List.range ns.length).map fun i => Classical.choose (h i), by simp, fun i hi => ?_⟩
  have e : ((List.range ns.length).map fun i => Classical.choose (h i)).getD i 0 = Classical.choose (h i) := by
    rw [List.getD_eq_getElem?_getD, List.getElem?_map, List.getElem?_range hi]
    rfl
  rw [e]
  exact Classical.choose_spec (h i) hi
theorem same_isQ {b : BookL} (hb : bookB b = true) {cl : List Nat} (hc : IsCl b.nodes cl) {p q : Nat} (hp : p < b.nodes.length) (hq : q < b.nodes.length) : sameC cl (p : Int) (q : Int) = (isQ b ((p : Int), (q : Int)) && isQ b ((q : Int), (p : Int))) := by
  have hn := (bookB_ok hb).1
  rw [sameC_at hc.1 hp hq, Bool.eq_iff_iff, decide_eq_true_eq, Bool.and_eq_true, isQ_iff hb, isQ_iff hb, hc.iff hp hq]
  exact ⟨fun h => ⟨eqv_und hn h, eqv_und hn h.symm⟩, fun h => und_eqv hn h.1 h.2⟩
theorem isQ_congr {b : BookL} (hb : bookB b = true) {x y z : Int} (h1 : isQ b (x, y) = true) (h2 : isQ b (y, x) = true) : isQ b (z, x) = isQ b (z, y) ∧ isQ b (x, z) = isQ b (y, z) := by
  constructor
  · rw [Bool.eq_iff_iff]; exact ⟨fun h => isQ_trans hb h h1, fun h => isQ_trans hb h h2⟩
  · rw [Bool.eq_iff_iff]; exact ⟨fun h => isQ_trans hb h2 h, fun h => isQ_trans hb h1 h⟩
set_option maxHeartbeats 32000000 in
set_option maxRecDepth 40000 in
theorem underEqual_walk (a : Option Addr) (n c : Nat) (l : List Int) (x y z : Int) (w : World) (h : Nums w w.heap.size a n l) (hlim : n * 8 ≤ 140737488351232) :
    Calls Try.prog 6 #[.slice a n c, .int .i64 x, .int .i64 y, .int .i64 z] w fun e w' => e = .returned (.bool true) ∧ Below w.heap.size w w' := by
  have HN := Lib.hid h
  have HF := Lib.hid (first11_any w)
  have HLP := Lib.hid given11_any
  have hn0 := h.1
  have HLN := Lib.hid hn0
  clear h hn0
  go_enter Try.func6, Try.ntmps6
  go_upto_region 4 with (first
    | (go_at_call 22; (with_reducible refine HF.out.mono ?_)
       rintro e w1 ⟨rfl, hb1⟩
       have HB1 := Lib.hid hb1
       clear hb1)
    | (go_at_call 24; (with_reducible refine (HLP.out w1).mono ?_)
       rintro e w2 ⟨⟨pa, pn, pc, qa, qn, qc, ua, un, uc, rfl, _⟩, hb2⟩
       have HB2 := Lib.hid (below_on HB1.out hb2)
       clear hb2)
    | (at_builtin
       refine wpList_append_plus10 rfl (.tmp 17) (.tmp 18) rfl w2.heap.size w.heap.size (.slice (some ⟨w2.heap.size, 0, none⟩) 1 1) a n c [6] l rfl rfl (IInts.one (W := w2) (cs := #[.int .i64 6]) (base := w2.heap.size) (g := w2.heap.size) 6 rfl rfl (Nat.le_refl _)) ((HN.out.below HB2.out).alloc HB2.out.size _) (by show (1 + n) * 8 ≤ _; omega) (by simp) ?_
       intro v3 w3 hown hgr
       obtain ⟨ma, mc, hv, _, _, _, hnu⟩ := hown.sees
       obtain ⟨mn, hmn⟩ : ∃ mn, mn = ([6] ++ l : List Int).length := ⟨_, rfl⟩
       rw [← hmn] at hv hnu
       subst hv
       have hml : mn * 8 ≤ 140737488355328 := by rw [hmn, List.length_append, HLN.out]; show (1 + n) * 8 ≤ _; omega
       have hm0 : 0 < mn := by rw [hmn]; simp
       clear hmn
       have HNU := Lib.hid hnu
       have HB3 := Lib.hid ((HB2.out.alloc HB2.out.size (.cells #[.int .i64 6] 3)).grown hgr (by have := HB2.out.size; simp; omega) (fun j e => by cases e; exact HB2.out.size))
       clear hown hgr hnu)
    | (go_at_call 23; (with_reducible refine (made11_pos pa pn pc qa qn qc ua un uc ma mn mc _ w3 w3.heap.size (Nat.le_refl _) HNU.out hm0 hml).mono ?_)
       rintro e w4 ⟨⟨na, nn, nc, sa, sc, ra, rc, b, rfl, hin, hok, h1, h8⟩, hb4⟩
       have HB4 := Lib.hid (below_on HB3.out hb4)
       have HIN := Lib.hid hin
       have HOK := Lib.hid (And.intro hok (And.intro h1 h8))
       clear hin hok hb4 h1 h8)
    | fail)
  have HG := Lib.hid (show LB10 w (w4.alloc (.cells #[.slice na nn nc, .slice sa 2 sc, .slice ra 2 rc] 26)) w4.heap.size na nn nc sa sc ra rc b from
    ⟨heap_alloc_new w4 _, HIN.out.on (tu1 w4 _), HOK.out.1, HOK.out.2.1, HOK.out.2.2, below_on HB4.out (tu1 w4 _)⟩)
  generalize hg5 : w4.heap.size = g5 at HG ⊢
  generalize hw5 : w4.alloc (.cells #[.slice na nn nc, .slice sa 2 sc, .slice ra 2 rc] 26) = w5 at HG ⊢
  clear hg5 hw5 HIN HOK HB4 HB3 HNU HB2 HB1 HF HLP HN hml hm0
  obtain ⟨gc0, gc1, gc2⟩ := HG.out.cells
  have hn1 := HG.out.one
  have hn8 := HG.out.few
  have HBK := Lib.hid HG.out.ok
  obtain ⟨hok, _⟩ := bookB_ok HG.out.ok
  have HOK := Lib.hid hok
  have HNL := Lib.hid HG.out.len
  clear hok
  obtain ⟨p, hpe⟩ : ∃ p, p = pickN nn x := ⟨_, rfl⟩
  have hp : p < nn := by rw [hpe]; exact (pickN_lt (by omega) (by omega) x).1
  have HPp := Lib.hid hpe.symm
  clear hpe
  obtain ⟨q, hqe⟩ : ∃ q, q = pickN nn y := ⟨_, rfl⟩
  have hq : q < nn := by rw [hqe]; exact (pickN_lt (by omega) (by omega) y).1
  have HPq := Lib.hid hqe.symm
  clear hqe
  obtain ⟨r, hre⟩ : ∃ r, r = pickN nn z := ⟨_, rfl⟩
  have hr : r < nn := by rw [hre]; exact (pickN_lt (by omega) (by omega) z).1
  have HPr := Lib.hid hre.symm
  clear hre
  have CPK := Lib.hid (fun x W => pick11_any na nn nc sa 2 sc ra 2 rc x W (by omega) (by omega))
  have HS := Lib.hid (fun (W : World) (h : LB10 w W g5 na nn nc sa sc ra rc b) => show (W.cell? ⟨g5, 0, none⟩ = some (.slice na nn nc) ∧ W.cell? ⟨g5, 1, none⟩ = some (.slice sa 2 sc) ∧ W.cell? ⟨g5, 2, none⟩ = some (.slice ra 2 rc)) from h.cells)
  have HGwd := Lib.hid (HG.out.on (bel_drewN (Below.refl _ _) 1))
  generalize hwd : w5.drewN 1 = wd at HGwd
  have hwd2 : w5.drew = wd := hwd
  have hHD := HS.out _ HGwd.out
  clear hwd HG gc0 gc1 gc2
  refine wp_region_held_drew (S := fun W => (W.cell? ⟨g5, 0, none⟩ = some (.slice na nn nc) ∧ W.cell? ⟨g5, 1, none⟩ = some (.slice sa 2 sc) ∧ W.cell? ⟨g5, 2, none⟩ = some (.slice ra 2 rc))) (by kernel_rfl) (by rw [hwd2]; exact hHD) (fun hHeld => ?_)
  rw [hwd2]
  rw [hwd2] at hHeld
  clear hHD
  try simp only [Act.put, List.setIfInBounds_toArray]
  refine' wpAnyH_take (i := 0) (v := _) rfl (by kernel_rfl) (by kernel_rfl) (by kernel_rfl) (fun _ _ _ h => h) (Or.inl ⟨by kernel_rfl, ?hypk0⟩) (by assumption) ?restpk0
  case hypk0 =>
    intro W hSw
    (try dsimp only at hSw)
    first | (go_simp; done) | (go_simp; with_reducible rfl)
  try simp only [Act.put]
  refine' wpAnyH_take (i := 1) (v := _) rfl (by kernel_rfl) (by kernel_rfl) (by kernel_rfl) (fun _ _ _ h => h) (Or.inl ⟨by kernel_rfl, ?hypk1⟩) (by assumption) ?restpk1
  case hypk1 =>
    intro W hSw
    (try dsimp only at hSw)
    first | (go_simp; done) | (go_simp; with_reducible rfl)
  try simp only [Act.put]
  refine' wpAnyH_take (i := 3) (v := _) rfl (by kernel_rfl) (by kernel_rfl) (by kernel_rfl) (fun _ _ _ h => h) (Or.inl ⟨by kernel_rfl, ?hypk3⟩) (by assumption) ?restpk3
  case hypk3 =>
    intro W hSw
    (try dsimp only at hSw)
    first | (go_simp; done) | (go_simp; with_reducible rfl)
  try simp only [Act.put]
  refine' wpAnyH_take (i := 4) (v := _) rfl (by kernel_rfl) (by kernel_rfl) (by kernel_rfl) (fun _ _ _ h => h) (Or.inl ⟨by kernel_rfl, ?hypk4⟩) (by assumption) ?restpk4
  case hypk4 =>
    intro W hSw
    (try dsimp only at hSw)
    first | (go_simp; done) | (go_simp; with_reducible rfl)
  try simp only [Act.put]
  refine' wpAnyH_take (i := 6) (v := _) rfl (by kernel_rfl) (by kernel_rfl) (by kernel_rfl) (fun _ _ _ h => h) (Or.inl ⟨by kernel_rfl, ?hypk6⟩) (by assumption) ?restpk6
  case hypk6 =>
    intro W hSw
    (try dsimp only at hSw)
    first | (go_simp; done) | (go_simp; with_reducible rfl)
  try simp only [Act.put]
  refine' wpAnyH_take (i := 7) (v := _) rfl (by kernel_rfl) (by kernel_rfl) (by kernel_rfl) (fun _ _ _ h => h) (Or.inl ⟨by kernel_rfl, ?hypk7⟩) (by assumption) ?restpk7
  case hypk7 =>
    intro W hSw
    (try dsimp only at hSw)
    first | (go_simp; done) | (go_simp; with_reducible rfl)
  try simp only [Act.put, List.setIfInBounds_toArray]
  refine wpAnyH_ready (rs := [2]) (by kernel_rfl) (by simp) ?_
  refine AllReadyH.cons (i := 2) (o := _) rfl (fun K hK => ?_) AllReadyH.nil
  go_simp
  go_at_call 25
  have hsm := CPK.out x wd
  rw [HPp.out] at hsm
  with_reducible refine hsm.mono ?_
  rintro e wp0 ⟨rfl, hb⟩
  have HGwp0 := Lib.hid (HGwd.out.on hb)
  clear hb hsm
  refine hK.out _ _ (HS.out _ HGwp0.out) (fun hHeld => ?_)
  clear hK K
  try simp only [Act.put, List.setIfInBounds_toArray]
  refine wpAnyH_ready (rs := [5]) (by kernel_rfl) (by simp) ?_
  refine AllReadyH.cons (i := 5) (o := _) rfl (fun K hK => ?_) AllReadyH.nil
  go_simp
  go_at_call 25
  have hsm := CPK.out y wp0
  rw [HPq.out] at hsm
  with_reducible refine hsm.mono ?_
  rintro e wp1 ⟨rfl, hb⟩
  have HGwp1 := Lib.hid (HGwp0.out.on hb)
  clear hb hsm
  refine hK.out _ _ (HS.out _ HGwp1.out) (fun hHeld => ?_)
  clear hK K
  try simp only [Act.put, List.setIfInBounds_toArray]
  refine wpAnyH_ready (rs := [8]) (by kernel_rfl) (by simp) ?_
  refine AllReadyH.cons (i := 8) (o := _) rfl (fun K hK => ?_) AllReadyH.nil
  go_simp
  go_at_call 25
  have hsm := CPK.out z wp1
  rw [HPr.out] at hsm
  with_reducible refine hsm.mono ?_
  rintro e wp2 ⟨rfl, hb⟩
  have HGwp2 := Lib.hid (HGwp1.out.on hb)
  clear hb hsm
  refine hK.out _ _ (HS.out _ HGwp2.out) (fun hHeld => ?_)
  clear hK K
  try simp only [Act.put, List.setIfInBounds_toArray]
  refine' wpAnyH_take (i := 9) (v := _) rfl (by kernel_rfl) (by kernel_rfl) (by kernel_rfl) (fun _ _ _ h => h) (Or.inl ⟨by kernel_rfl, ?hypk9⟩) (by assumption) ?restpk9
  case hypk9 =>
    intro W hSw
    (try dsimp only at hSw)
    first | (go_simp; done) | (go_simp; with_reducible rfl)
  try simp only [Act.put]
  refine' wpAnyH_take (i := 10) (v := _) rfl (by kernel_rfl) (by kernel_rfl) (by kernel_rfl) (fun _ _ _ h => h) (Or.inl ⟨by kernel_rfl, ?hypk10⟩) (by assumption) ?restpk10
  case hypk10 =>
    intro W hSw
    (try dsimp only at hSw)
    first | (go_simp; done) | (go_simp; with_reducible rfl)
  try simp only [Act.put]
  refine' wpAnyH_take (i := 11) (v := _) rfl (by kernel_rfl) (by kernel_rfl) (by kernel_rfl) (fun _ _ _ h => h) (Or.inl ⟨by kernel_rfl, ?hypk11⟩) (by assumption) ?restpk11
  case hypk11 =>
    intro W hSw
    (try dsimp only at hSw)
    first | (go_simp; done) | (go_simp; with_reducible rfl)
  try simp only [Act.put, List.setIfInBounds_toArray]
  refine wpAnyH_done (by kernel_rfl) ?_ _
  simp only [List.getElem_toArray, List.getElem_cons_succ, List.getElem_cons_zero, List.setIfInBounds_toArray, List.set_cons_succ, List.set_cons_zero]
  obtain ⟨cl, hcl⟩ := isClU_ex HOK.out.closed
  have CSM := Lib.hid (HGwp2.out.same hcl (p : Int) (q : Int))
  have HSQ := Lib.hid (same_isQ HBK.out hcl (p := p) (q := q) (by rw [HNL.out]; exact hp) (by rw [HNL.out]; exact hq))
  have HCG := Lib.hid (fun h1 h2 => isQ_congr (b := b) HBK.out (x := (p : Int)) (y := (q : Int)) (z := (r : Int)) h1 h2)
  rw [HSQ.out] at CSM
  obtain ⟨A, hA⟩ : ∃ A, A = isQ b ((p : Int), (q : Int)) := ⟨_, rfl⟩
  obtain ⟨B, hB⟩ : ∃ B, B = isQ b ((q : Int), (p : Int)) := ⟨_, rfl⟩
  obtain ⟨C, hC⟩ : ∃ C, C = isQ b ((r : Int), (p : Int)) := ⟨_, rfl⟩
  obtain ⟨D, hD⟩ : ∃ D, D = isQ b ((p : Int), (r : Int)) := ⟨_, rfl⟩
  rw [← hA, ← hB, ← hC, ← hD] at HCG
  rw [← hA, ← hB] at CSM
  have HA := Lib.hid hA.symm
  have HB := Lib.hid hB.symm
  have HC := Lib.hid hC.symm
  have HD := Lib.hid hD.symm
  clear hA hB hC hD CPK hwd2 hcl HSQ
  obtain ⟨b0, b1, b2⟩ := HGwp2.out.cells
  cases A
  · have hnn : (false && B) = false := rfl
    rw [hnn] at CSM
    clear hnn
    go_upto_region 6 with (first
      | (go_at_call 13; (with_reducible refine CSM.out.mono ?_)
         rintro e w6 ⟨rfl, hb6⟩
         have HG6 := Lib.hid (HGwp2.out.on hb6)
         clear hb6)
      | fail)
    clear HCG b0 b1 b2
    have HGwe := Lib.hid (HG6.out.on (bel_drewN (Below.refl _ _) 1))
    generalize hwd : w6.drewN 1 = we at HGwe
    have hwd2 : w6.drew = we := hwd
    have hHD := HS.out _ HGwe.out
    clear hwd HG6
    go_wp2_with fail
    refine wp_region_held_drew (S := fun W => (W.cell? ⟨g5, 0, none⟩ = some (.slice na nn nc) ∧ W.cell? ⟨g5, 1, none⟩ = some (.slice sa 2 sc) ∧ W.cell? ⟨g5, 2, none⟩ = some (.slice ra 2 rc))) (by kernel_rfl) (by rw [hwd2]; exact hHD) (fun hHeld => ?_)
    rw [hwd2]
    rw [hwd2] at hHeld
    clear hHD
    try simp only [Act.put, List.setIfInBounds_toArray]
    refine' wpAnyH_take (i := 0) (v := _) rfl (by kernel_rfl) (by kernel_rfl) (by kernel_rfl) (fun _ _ _ h => h) (Or.inl ⟨by kernel_rfl, ?hyea0⟩) (by assumption) ?restea0
    case hyea0 =>
      intro W hSw
      (try dsimp only at hSw)
      first | (go_simp; done) | (go_simp; with_reducible rfl)
    try simp only [Act.put]
    refine' wpAnyH_take (i := 1) (v := _) rfl (by kernel_rfl) (by kernel_rfl) (by kernel_rfl) (fun _ _ _ h => h) (Or.inl ⟨by kernel_rfl, ?hyea1⟩) (by assumption) ?restea1
    case hyea1 =>
      intro W hSw
      (try dsimp only at hSw)
      first | (go_simp; done) | (go_simp; with_reducible rfl)
    try simp only [Act.put]
    refine' wpAnyH_take (i := 2) (v := _) rfl (by kernel_rfl) (by kernel_rfl) (by kernel_rfl) (fun _ _ _ h => h) (Or.inl ⟨by kernel_rfl, ?hyea2⟩) (by assumption) ?restea2
    case hyea2 =>
      intro W hSw
      (try dsimp only at hSw)
      first | (go_simp; done) | (go_simp; with_reducible rfl)
    try simp only [Act.put]
    refine' wpAnyH_take (i := 3) (v := _) rfl (by kernel_rfl) (by kernel_rfl) (by kernel_rfl) (fun _ _ _ h => h) (Or.inl ⟨by kernel_rfl, ?hyea3⟩) (by assumption) ?restea3
    case hyea3 =>
      intro W hSw
      (try dsimp only at hSw)
      first | (go_simp; done) | (go_simp; with_reducible rfl)
    try simp only [Act.put, List.setIfInBounds_toArray]
    refine wpAnyH_ready (rs := [4]) (by kernel_rfl) (by simp) ?_
    refine AllReadyH.cons (i := 4) (o := _) rfl (fun K hK => ?_) AllReadyH.nil
    go_simp
    go_at_call 26
    have hsm := HGwe.out.isU (p : Int) (q : Int)
    rw [HA.out] at hsm
    with_reducible refine hsm.mono ?_
    rintro e wa0 ⟨rfl, hb⟩
    have HGwa0 := Lib.hid (HGwe.out.on hb)
    clear hb hsm
    refine hK.out _ _ (HS.out _ HGwa0.out) (fun hHeld => ?_)
    clear hK K
    try simp only [Act.put, List.setIfInBounds_toArray]
    refine' wpAnyH_take (i := 5) (v := _) rfl (by kernel_rfl) (by kernel_rfl) (by kernel_rfl) (fun _ _ _ h => h) (Or.inl ⟨by kernel_rfl, ?hyea5⟩) (by assumption) ?restea5
    case hyea5 =>
      intro W hSw
      (try dsimp only at hSw)
      first | (go_simp; done) | (go_simp; with_reducible rfl)
    try simp only [Act.put]
    refine wpAnyH_take (i := 6) (v := undef) rfl (by kernel_rfl) (by kernel_rfl) (by kernel_rfl) (fun _ _ _ h => h) (Or.inr ⟨by kernel_rfl, rfl⟩) (by assumption) ?_
    try simp only [Act.put]
    refine wpAnyH_take (i := 7) (v := undef) rfl (by kernel_rfl) (by kernel_rfl) (by kernel_rfl) (fun _ _ _ h => h) (Or.inr ⟨by kernel_rfl, rfl⟩) (by assumption) ?_
    try simp only [Act.put]
    refine wpAnyH_take (i := 8) (v := undef) rfl (by kernel_rfl) (by kernel_rfl) (by kernel_rfl) (fun _ _ _ h => h) (Or.inr ⟨by kernel_rfl, rfl⟩) (by assumption) ?_
    try simp only [Act.put]
    refine wpAnyH_take (i := 9) (v := undef) rfl (by kernel_rfl) (by kernel_rfl) (by kernel_rfl) (fun _ _ _ h => h) (Or.inr ⟨by kernel_rfl, rfl⟩) (by assumption) ?_
    try simp only [Act.put]
    refine' wpAnyH_take (i := 10) (v := _) rfl (by kernel_rfl) (by kernel_rfl) (by kernel_rfl) (fun _ _ _ h => h) (Or.inl ⟨by kernel_rfl, ?hyea10⟩) (by assumption) ?restea10
    case hyea10 =>
      intro W hSw
      (try dsimp only at hSw)
      first | (go_simp; done) | (go_simp; with_reducible rfl)
    try simp only [Act.put]
    refine' wpAnyH_take (i := 11) (v := _) rfl (by kernel_rfl) (by kernel_rfl) (by kernel_rfl) (fun _ _ _ h => h) (Or.inl ⟨by kernel_rfl, ?hyea11⟩) (by assumption) ?restea11
    case hyea11 =>
      intro W hSw
      (try dsimp only at hSw)
      first | (go_simp; done) | (go_simp; with_reducible rfl)
    try simp only [Act.put]
    refine' wpAnyH_take (i := 12) (v := _) rfl (by kernel_rfl) (by kernel_rfl) (by kernel_rfl) (fun _ _ _ h => h) (Or.inl ⟨by kernel_rfl, ?hyea12⟩) (by assumption) ?restea12
    case hyea12 =>
      intro W hSw
      (try dsimp only at hSw)
      first | (go_simp; done) | (go_simp; with_reducible rfl)
    try simp only [Act.put]
    refine' wpAnyH_take (i := 13) (v := _) rfl (by kernel_rfl) (by kernel_rfl) (by kernel_rfl) (fun _ _ _ h => h) (Or.inl ⟨by kernel_rfl, ?hyea13⟩) (by assumption) ?restea13
    case hyea13 =>
      intro W hSw
      (try dsimp only at hSw)
      first | (go_simp; done) | (go_simp; with_reducible rfl)
    try simp only [Act.put]
    refine' wpAnyH_take (i := 14) (v := _) rfl (by kernel_rfl) (by kernel_rfl) (by kernel_rfl) (fun _ _ _ h => h) (Or.inl ⟨by kernel_rfl, ?hyea14⟩) (by assumption) ?restea14
    case hyea14 =>
      intro W hSw
      (try dsimp only at hSw)
      first | (go_simp; done) | (go_simp; with_reducible rfl)
    try simp only [Act.put]
    refine' wpAnyH_take (i := 15) (v := _) rfl (by kernel_rfl) (by kernel_rfl) (by kernel_rfl) (fun _ _ _ h => h) (Or.inl ⟨by kernel_rfl, ?hyea15⟩) (by assumption) ?restea15
    case hyea15 =>
      intro W hSw
      (try dsimp only at hSw)
      first | (go_simp; done) | (go_simp; with_reducible rfl)
    try simp only [Act.put]
    refine wpAnyH_take (i := 16) (v := undef) rfl (by kernel_rfl) (by kernel_rfl) (by kernel_rfl) (fun _ _ _ h => h) (Or.inr ⟨by kernel_rfl, rfl⟩) (by assumption) ?_
    try simp only [Act.put]
    refine wpAnyH_take (i := 17) (v := undef) rfl (by kernel_rfl) (by kernel_rfl) (by kernel_rfl) (fun _ _ _ h => h) (Or.inr ⟨by kernel_rfl, rfl⟩) (by assumption) ?_
    try simp only [Act.put]
    refine wpAnyH_take (i := 18) (v := undef) rfl (by kernel_rfl) (by kernel_rfl) (by kernel_rfl) (fun _ _ _ h => h) (Or.inr ⟨by kernel_rfl, rfl⟩) (by assumption) ?_
    try simp only [Act.put]
    refine wpAnyH_take (i := 19) (v := undef) rfl (by kernel_rfl) (by kernel_rfl) (by kernel_rfl) (fun _ _ _ h => h) (Or.inr ⟨by kernel_rfl, rfl⟩) (by assumption) ?_
    try simp only [Act.put]
    refine wpAnyH_take (i := 20) (v := undef) rfl (by kernel_rfl) (by kernel_rfl) (by kernel_rfl) (fun _ _ _ h => h) (Or.inr ⟨by kernel_rfl, rfl⟩) (by assumption) ?_
    try simp only [Act.put]
    refine wpAnyH_take (i := 21) (v := undef) rfl (by kernel_rfl) (by kernel_rfl) (by kernel_rfl) (fun _ _ _ h => h) (Or.inr ⟨by kernel_rfl, rfl⟩) (by assumption) ?_
    try simp only [Act.put]
    refine wpAnyH_take (i := 22) (v := undef) rfl (by kernel_rfl) (by kernel_rfl) (by kernel_rfl) (fun _ _ _ h => h) (Or.inr ⟨by kernel_rfl, rfl⟩) (by assumption) ?_
    try simp only [Act.put]
    refine wpAnyH_take (i := 23) (v := undef) rfl (by kernel_rfl) (by kernel_rfl) (by kernel_rfl) (fun _ _ _ h => h) (Or.inr ⟨by kernel_rfl, rfl⟩) (by assumption) ?_
    try simp only [Act.put]
    refine wpAnyH_take (i := 24) (v := undef) rfl (by kernel_rfl) (by kernel_rfl) (by kernel_rfl) (fun _ _ _ h => h) (Or.inr ⟨by kernel_rfl, rfl⟩) (by assumption) ?_
    try simp only [Act.put]
    refine wpAnyH_take (i := 25) (v := undef) rfl (by kernel_rfl) (by kernel_rfl) (by kernel_rfl) (fun _ _ _ h => h) (Or.inr ⟨by kernel_rfl, rfl⟩) (by assumption) ?_
    try simp only [Act.put]
    refine wpAnyH_take (i := 26) (v := undef) rfl (by kernel_rfl) (by kernel_rfl) (by kernel_rfl) (fun _ _ _ h => h) (Or.inr ⟨by kernel_rfl, rfl⟩) (by assumption) ?_
    try simp only [Act.put]
    refine wpAnyH_take (i := 27) (v := undef) rfl (by kernel_rfl) (by kernel_rfl) (by kernel_rfl) (fun _ _ _ h => h) (Or.inr ⟨by kernel_rfl, rfl⟩) (by assumption) ?_
    try simp only [Act.put]
    refine wpAnyH_take (i := 28) (v := undef) rfl (by kernel_rfl) (by kernel_rfl) (by kernel_rfl) (fun _ _ _ h => h) (Or.inr ⟨by kernel_rfl, rfl⟩) (by assumption) ?_
    try simp only [Act.put]
    refine wpAnyH_take (i := 29) (v := undef) rfl (by kernel_rfl) (by kernel_rfl) (by kernel_rfl) (fun _ _ _ h => h) (Or.inr ⟨by kernel_rfl, rfl⟩) (by assumption) ?_
    try simp only [Act.put]
    refine wpAnyH_take (i := 30) (v := undef) rfl (by kernel_rfl) (by kernel_rfl) (by kernel_rfl) (fun _ _ _ h => h) (Or.inr ⟨by kernel_rfl, rfl⟩) (by assumption) ?_
    try simp only [Act.put]
    refine wpAnyH_take (i := 31) (v := undef) rfl (by kernel_rfl) (by kernel_rfl) (by kernel_rfl) (fun _ _ _ h => h) (Or.inr ⟨by kernel_rfl, rfl⟩) (by assumption) ?_
    try simp only [Act.put]
    refine wpAnyH_take (i := 32) (v := undef) rfl (by kernel_rfl) (by kernel_rfl) (by kernel_rfl) (fun _ _ _ h => h) (Or.inr ⟨by kernel_rfl, rfl⟩) (by assumption) ?_
    try simp only [Act.put]
    refine wpAnyH_take (i := 33) (v := undef) rfl (by kernel_rfl) (by kernel_rfl) (by kernel_rfl) (fun _ _ _ h => h) (Or.inr ⟨by kernel_rfl, rfl⟩) (by assumption) ?_
    try simp only [Act.put]
    refine wpAnyH_take (i := 34) (v := undef) rfl (by kernel_rfl) (by kernel_rfl) (by kernel_rfl) (fun _ _ _ h => h) (Or.inr ⟨by kernel_rfl, rfl⟩) (by assumption) ?_
    try simp only [Act.put]
    refine wpAnyH_take (i := 35) (v := undef) rfl (by kernel_rfl) (by kernel_rfl) (by kernel_rfl) (fun _ _ _ h => h) (Or.inr ⟨by kernel_rfl, rfl⟩) (by assumption) ?_
    try simp only [Act.put]
    refine' wpAnyH_take (i := 36) (v := _) rfl (by kernel_rfl) (by kernel_rfl) (by kernel_rfl) (fun _ _ _ h => h) (Or.inl ⟨by kernel_rfl, ?hyea36⟩) (by assumption) ?restea36
    case hyea36 =>
      intro W hSw
      (try dsimp only at hSw)
      first | (go_simp; done) | (go_simp; with_reducible rfl)
    try simp only [Act.put]
    refine' wpAnyH_take (i := 37) (v := _) rfl (by kernel_rfl) (by kernel_rfl) (by kernel_rfl) (fun _ _ _ h => h) (Or.inl ⟨by kernel_rfl, ?hyea37⟩) (by assumption) ?restea37
    case hyea37 =>
      intro W hSw
      (try dsimp only at hSw)
      first | (go_simp; done) | (go_simp; with_reducible rfl)
    try simp only [Act.put]
    refine' wpAnyH_take (i := 38) (v := _) rfl (by kernel_rfl) (by kernel_rfl) (by kernel_rfl) (fun _ _ _ h => h) (Or.inl ⟨by kernel_rfl, ?hyea38⟩) (by assumption) ?restea38
    case hyea38 =>
      intro W hSw
      (try dsimp only at hSw)
      first | (go_simp; done) | (go_simp; with_reducible rfl)
    try simp only [Act.put, List.setIfInBounds_toArray]
    refine wpAnyH_done (by kernel_rfl) ?_ _
    simp only [List.getElem_toArray, List.getElem_cons_succ, List.getElem_cons_zero, List.setIfInBounds_toArray, List.set_cons_succ, List.set_cons_zero]
    go_wp2_with fail
    go_ret
    exact ⟨rfl, HGwa0.out.bel⟩
  · cases B
    · have hnn : (true && false) = false := rfl
      rw [hnn] at CSM
      clear hnn
      go_upto_region 6 with (first
        | (go_at_call 13; (with_reducible refine CSM.out.mono ?_)
           rintro e w6 ⟨rfl, hb6⟩
           have HG6 := Lib.hid (HGwp2.out.on hb6)
           clear hb6)
        | fail)
      clear HCG b0 b1 b2
      have HGwe := Lib.hid (HG6.out.on (bel_drewN (Below.refl _ _) 1))
      generalize hwd : w6.drewN 1 = we at HGwe
      have hwd2 : w6.drew = we := hwd
      have hHD := HS.out _ HGwe.out
      clear hwd HG6
      go_wp2_with fail
      refine wp_region_held_drew (S := fun W => (W.cell? ⟨g5, 0, none⟩ = some (.slice na nn nc) ∧ W.cell? ⟨g5, 1, none⟩ = some (.slice sa 2 sc) ∧ W.cell? ⟨g5, 2, none⟩ = some (.slice ra 2 rc))) (by kernel_rfl) (by rw [hwd2]; exact hHD) (fun hHeld => ?_)
      rw [hwd2]
      rw [hwd2] at hHeld
      clear hHD
      try simp only [Act.put, List.setIfInBounds_toArray]
      refine' wpAnyH_take (i := 0) (v := _) rfl (by kernel_rfl) (by kernel_rfl) (by kernel_rfl) (fun _ _ _ h => h) (Or.inl ⟨by kernel_rfl, ?hyeb0⟩) (by assumption) ?resteb0
      case hyeb0 =>
        intro W hSw
        (try dsimp only at hSw)
        first | (go_simp; done) | (go_simp; with_reducible rfl)
      try simp only [Act.put]
      refine' wpAnyH_take (i := 1) (v := _) rfl (by kernel_rfl) (by kernel_rfl) (by kernel_rfl) (fun _ _ _ h => h) (Or.inl ⟨by kernel_rfl, ?hyeb1⟩) (by assumption) ?resteb1
      case hyeb1 =>
        intro W hSw
        (try dsimp only at hSw)
        first | (go_simp; done) | (go_simp; with_reducible rfl)
      try simp only [Act.put]
      refine' wpAnyH_take (i := 2) (v := _) rfl (by kernel_rfl) (by kernel_rfl) (by kernel_rfl) (fun _ _ _ h => h) (Or.inl ⟨by kernel_rfl, ?hyeb2⟩) (by assumption) ?resteb2
      case hyeb2 =>
        intro W hSw
        (try dsimp only at hSw)
        first | (go_simp; done) | (go_simp; with_reducible rfl)
      try simp only [Act.put]
      refine' wpAnyH_take (i := 3) (v := _) rfl (by kernel_rfl) (by kernel_rfl) (by kernel_rfl) (fun _ _ _ h => h) (Or.inl ⟨by kernel_rfl, ?hyeb3⟩) (by assumption) ?resteb3
      case hyeb3 =>
        intro W hSw
        (try dsimp only at hSw)
        first | (go_simp; done) | (go_simp; with_reducible rfl)
      try simp only [Act.put, List.setIfInBounds_toArray]
      refine wpAnyH_ready (rs := [4]) (by kernel_rfl) (by simp) ?_
      refine AllReadyH.cons (i := 4) (o := _) rfl (fun K hK => ?_) AllReadyH.nil
      go_simp
      go_at_call 26
      have hsm := HGwe.out.isU (p : Int) (q : Int)
      rw [HA.out] at hsm
      with_reducible refine hsm.mono ?_
      rintro e wb0 ⟨rfl, hb⟩
      have HGwb0 := Lib.hid (HGwe.out.on hb)
      clear hb hsm
      refine hK.out _ _ (HS.out _ HGwb0.out) (fun hHeld => ?_)
      clear hK K
      try simp only [Act.put, List.setIfInBounds_toArray]
      refine' wpAnyH_take (i := 5) (v := _) rfl (by kernel_rfl) (by kernel_rfl) (by kernel_rfl) (fun _ _ _ h => h) (Or.inl ⟨by kernel_rfl, ?hyeb5⟩) (by assumption) ?resteb5
      case hyeb5 =>
        intro W hSw
        (try dsimp only at hSw)
        first | (go_simp; done) | (go_simp; with_reducible rfl)
      try simp only [Act.put]
      refine' wpAnyH_take (i := 6) (v := _) rfl (by kernel_rfl) (by kernel_rfl) (by kernel_rfl) (fun _ _ _ h => h) (Or.inl ⟨by kernel_rfl, ?hyeb6⟩) (by assumption) ?resteb6
      case hyeb6 =>
        intro W hSw
        (try dsimp only at hSw)
        first | (go_simp; done) | (go_simp; with_reducible rfl)
      try simp only [Act.put]
      refine' wpAnyH_take (i := 7) (v := _) rfl (by kernel_rfl) (by kernel_rfl) (by kernel_rfl) (fun _ _ _ h => h) (Or.inl ⟨by kernel_rfl, ?hyeb7⟩) (by assumption) ?resteb7
      case hyeb7 =>
        intro W hSw
        (try dsimp only at hSw)
        first | (go_simp; done) | (go_simp; with_reducible rfl)
      try simp only [Act.put]
      refine' wpAnyH_take (i := 8) (v := _) rfl (by kernel_rfl) (by kernel_rfl) (by kernel_rfl) (fun _ _ _ h => h) (Or.inl ⟨by kernel_rfl, ?hyeb8⟩) (by assumption) ?resteb8
      case hyeb8 =>
        intro W hSw
        (try dsimp only at hSw)
        first | (go_simp; done) | (go_simp; with_reducible rfl)
      try simp only [Act.put, List.setIfInBounds_toArray]
      refine wpAnyH_ready (rs := [9]) (by kernel_rfl) (by simp) ?_
      refine AllReadyH.cons (i := 9) (o := _) rfl (fun K hK => ?_) AllReadyH.nil
      go_simp
      go_at_call 26
      have hsm := HGwb0.out.isU (q : Int) (p : Int)
      rw [HB.out] at hsm
      with_reducible refine hsm.mono ?_
      rintro e wb1 ⟨rfl, hb⟩
      have HGwb1 := Lib.hid (HGwb0.out.on hb)
      clear hb hsm
      refine hK.out _ _ (HS.out _ HGwb1.out) (fun hHeld => ?_)
      clear hK K
      try simp only [Act.put, List.setIfInBounds_toArray]
      refine' wpAnyH_take (i := 10) (v := _) rfl (by kernel_rfl) (by kernel_rfl) (by kernel_rfl) (fun _ _ _ h => h) (Or.inl ⟨by kernel_rfl, ?hyeb10⟩) (by assumption) ?resteb10
      case hyeb10 =>
        intro W hSw
        (try dsimp only at hSw)
        first | (go_simp; done) | (go_simp; with_reducible rfl)
      try simp only [Act.put]
      refine' wpAnyH_take (i := 11) (v := _) rfl (by kernel_rfl) (by kernel_rfl) (by kernel_rfl) (fun _ _ _ h => h) (Or.inl ⟨by kernel_rfl, ?hyeb11⟩) (by assumption) ?resteb11
      case hyeb11 =>
        intro W hSw
        (try dsimp only at hSw)
        first | (go_simp; done) | (go_simp; with_reducible rfl)
      try simp only [Act.put]
      refine' wpAnyH_take (i := 12) (v := _) rfl (by kernel_rfl) (by kernel_rfl) (by kernel_rfl) (fun _ _ _ h => h) (Or.inl ⟨by kernel_rfl, ?hyeb12⟩) (by assumption) ?resteb12
      case hyeb12 =>
        intro W hSw
        (try dsimp only at hSw)
        first | (go_simp; done) | (go_simp; with_reducible rfl)
      try simp only [Act.put]
      refine' wpAnyH_take (i := 13) (v := _) rfl (by kernel_rfl) (by kernel_rfl) (by kernel_rfl) (fun _ _ _ h => h) (Or.inl ⟨by kernel_rfl, ?hyeb13⟩) (by assumption) ?resteb13
      case hyeb13 =>
        intro W hSw
        (try dsimp only at hSw)
        first | (go_simp; done) | (go_simp; with_reducible rfl)
      try simp only [Act.put]
      refine' wpAnyH_take (i := 14) (v := _) rfl (by kernel_rfl) (by kernel_rfl) (by kernel_rfl) (fun _ _ _ h => h) (Or.inl ⟨by kernel_rfl, ?hyeb14⟩) (by assumption) ?resteb14
      case hyeb14 =>
        intro W hSw
        (try dsimp only at hSw)
        first | (go_simp; done) | (go_simp; with_reducible rfl)
      try simp only [Act.put]
      refine' wpAnyH_take (i := 15) (v := _) rfl (by kernel_rfl) (by kernel_rfl) (by kernel_rfl) (fun _ _ _ h => h) (Or.inl ⟨by kernel_rfl, ?hyeb15⟩) (by assumption) ?resteb15
      case hyeb15 =>
        intro W hSw
        (try dsimp only at hSw)
        first | (go_simp; done) | (go_simp; with_reducible rfl)
      try simp only [Act.put]
      refine wpAnyH_take (i := 16) (v := undef) rfl (by kernel_rfl) (by kernel_rfl) (by kernel_rfl) (fun _ _ _ h => h) (Or.inr ⟨by kernel_rfl, rfl⟩) (by assumption) ?_
      try simp only [Act.put]
      refine wpAnyH_take (i := 17) (v := undef) rfl (by kernel_rfl) (by kernel_rfl) (by kernel_rfl) (fun _ _ _ h => h) (Or.inr ⟨by kernel_rfl, rfl⟩) (by assumption) ?_
      try simp only [Act.put]
      refine wpAnyH_take (i := 18) (v := undef) rfl (by kernel_rfl) (by kernel_rfl) (by kernel_rfl) (fun _ _ _ h => h) (Or.inr ⟨by kernel_rfl, rfl⟩) (by assumption) ?_
      try simp only [Act.put]
      refine wpAnyH_take (i := 19) (v := undef) rfl (by kernel_rfl) (by kernel_rfl) (by kernel_rfl) (fun _ _ _ h => h) (Or.inr ⟨by kernel_rfl, rfl⟩) (by assumption) ?_
      try simp only [Act.put]
      refine wpAnyH_take (i := 20) (v := undef) rfl (by kernel_rfl) (by kernel_rfl) (by kernel_rfl) (fun _ _ _ h => h) (Or.inr ⟨by kernel_rfl, rfl⟩) (by assumption) ?_
      try simp only [Act.put]
      refine wpAnyH_take (i := 21) (v := undef) rfl (by kernel_rfl) (by kernel_rfl) (by kernel_rfl) (fun _ _ _ h => h) (Or.inr ⟨by kernel_rfl, rfl⟩) (by assumption) ?_
      try simp only [Act.put]
      refine wpAnyH_take (i := 22) (v := undef) rfl (by kernel_rfl) (by kernel_rfl) (by kernel_rfl) (fun _ _ _ h => h) (Or.inr ⟨by kernel_rfl, rfl⟩) (by assumption) ?_
      try simp only [Act.put]
      refine wpAnyH_take (i := 23) (v := undef) rfl (by kernel_rfl) (by kernel_rfl) (by kernel_rfl) (fun _ _ _ h => h) (Or.inr ⟨by kernel_rfl, rfl⟩) (by assumption) ?_
      try simp only [Act.put]
      refine wpAnyH_take (i := 24) (v := undef) rfl (by kernel_rfl) (by kernel_rfl) (by kernel_rfl) (fun _ _ _ h => h) (Or.inr ⟨by kernel_rfl, rfl⟩) (by assumption) ?_
      try simp only [Act.put]
      refine wpAnyH_take (i := 25) (v := undef) rfl (by kernel_rfl) (by kernel_rfl) (by kernel_rfl) (fun _ _ _ h => h) (Or.inr ⟨by kernel_rfl, rfl⟩) (by assumption) ?_
      try simp only [Act.put]
      refine wpAnyH_take (i := 26) (v := undef) rfl (by kernel_rfl) (by kernel_rfl) (by kernel_rfl) (fun _ _ _ h => h) (Or.inr ⟨by kernel_rfl, rfl⟩) (by assumption) ?_
      try simp only [Act.put]
      refine wpAnyH_take (i := 27) (v := undef) rfl (by kernel_rfl) (by kernel_rfl) (by kernel_rfl) (fun _ _ _ h => h) (Or.inr ⟨by kernel_rfl, rfl⟩) (by assumption) ?_
      try simp only [Act.put]
      refine wpAnyH_take (i := 28) (v := undef) rfl (by kernel_rfl) (by kernel_rfl) (by kernel_rfl) (fun _ _ _ h => h) (Or.inr ⟨by kernel_rfl, rfl⟩) (by assumption) ?_
      try simp only [Act.put]
      refine wpAnyH_take (i := 29) (v := undef) rfl (by kernel_rfl) (by kernel_rfl) (by kernel_rfl) (fun _ _ _ h => h) (Or.inr ⟨by kernel_rfl, rfl⟩) (by assumption) ?_
      try simp only [Act.put]
      refine wpAnyH_take (i := 30) (v := undef) rfl (by kernel_rfl) (by kernel_rfl) (by kernel_rfl) (fun _ _ _ h => h) (Or.inr ⟨by kernel_rfl, rfl⟩) (by assumption) ?_
      try simp only [Act.put]
      refine wpAnyH_take (i := 31) (v := undef) rfl (by kernel_rfl) (by kernel_rfl) (by kernel_rfl) (fun _ _ _ h => h) (Or.inr ⟨by kernel_rfl, rfl⟩) (by assumption) ?_
      try simp only [Act.put]
      refine wpAnyH_take (i := 32) (v := undef) rfl (by kernel_rfl) (by kernel_rfl) (by kernel_rfl) (fun _ _ _ h => h) (Or.inr ⟨by kernel_rfl, rfl⟩) (by assumption) ?_
      try simp only [Act.put]
      refine wpAnyH_take (i := 33) (v := undef) rfl (by kernel_rfl) (by kernel_rfl) (by kernel_rfl) (fun _ _ _ h => h) (Or.inr ⟨by kernel_rfl, rfl⟩) (by assumption) ?_
      try simp only [Act.put]
      refine wpAnyH_take (i := 34) (v := undef) rfl (by kernel_rfl) (by kernel_rfl) (by kernel_rfl) (fun _ _ _ h => h) (Or.inr ⟨by kernel_rfl, rfl⟩) (by assumption) ?_
      try simp only [Act.put]
      refine wpAnyH_take (i := 35) (v := undef) rfl (by kernel_rfl) (by kernel_rfl) (by kernel_rfl) (fun _ _ _ h => h) (Or.inr ⟨by kernel_rfl, rfl⟩) (by assumption) ?_
      try simp only [Act.put]
      refine' wpAnyH_take (i := 36) (v := _) rfl (by kernel_rfl) (by kernel_rfl) (by kernel_rfl) (fun _ _ _ h => h) (Or.inl ⟨by kernel_rfl, ?hyeb36⟩) (by assumption) ?resteb36
      case hyeb36 =>
        intro W hSw
        (try dsimp only at hSw)
        first | (go_simp; done) | (go_simp; with_reducible rfl)
      try simp only [Act.put]
      refine' wpAnyH_take (i := 37) (v := _) rfl (by kernel_rfl) (by kernel_rfl) (by kernel_rfl) (fun _ _ _ h => h) (Or.inl ⟨by kernel_rfl, ?hyeb37⟩) (by assumption) ?resteb37
      case hyeb37 =>
        intro W hSw
        (try dsimp only at hSw)
        first | (go_simp; done) | (go_simp; with_reducible rfl)
      try simp only [Act.put]
      refine' wpAnyH_take (i := 38) (v := _) rfl (by kernel_rfl) (by kernel_rfl) (by kernel_rfl) (fun _ _ _ h => h) (Or.inl ⟨by kernel_rfl, ?hyeb38⟩) (by assumption) ?resteb38
      case hyeb38 =>
        intro W hSw
        (try dsimp only at hSw)
        first | (go_simp; done) | (go_simp; with_reducible rfl)
      try simp only [Act.put, List.setIfInBounds_toArray]
      refine wpAnyH_done (by kernel_rfl) ?_ _
      simp only [List.getElem_toArray, List.getElem_cons_succ, List.getElem_cons_zero, List.setIfInBounds_toArray, List.set_cons_succ, List.set_cons_zero]
      go_wp2_with fail
      go_ret
      exact ⟨rfl, HGwb1.out.bel⟩
    · have hnn : (true && true) = true := rfl
      rw [hnn] at CSM
      clear hnn
      obtain ⟨hc2, hd2⟩ := HCG.out rfl rfl
      have HC2 := Lib.hid hc2.symm
      have HD2 := Lib.hid hd2.symm
      clear hc2 hd2
      have hcc : (C == C) = true := by simp
      have hdd : (D == D) = true := by simp
      go_upto_region 6 with (first
        | (go_at_call 13; (with_reducible refine CSM.out.mono ?_)
           rintro e w6 ⟨rfl, hb6⟩
           have HG6 := Lib.hid (HGwp2.out.on hb6)
           clear hb6)
        | fail)
      clear HCG b0 b1 b2
      have HGwe := Lib.hid (HG6.out.on (bel_drewN (Below.refl _ _) 1))
      generalize hwd : w6.drewN 1 = we at HGwe
      have hwd2 : w6.drew = we := hwd
      have hHD := HS.out _ HGwe.out
      clear hwd HG6
      go_wp2_with fail
      refine wp_region_held_drew (S := fun W => (W.cell? ⟨g5, 0, none⟩ = some (.slice na nn nc) ∧ W.cell? ⟨g5, 1, none⟩ = some (.slice sa 2 sc) ∧ W.cell? ⟨g5, 2, none⟩ = some (.slice ra 2 rc))) (by kernel_rfl) (by rw [hwd2]; exact hHD) (fun hHeld => ?_)
      rw [hwd2]
      rw [hwd2] at hHeld
      clear hHD
      try simp only [Act.put, List.setIfInBounds_toArray]
      refine' wpAnyH_take (i := 0) (v := _) rfl (by kernel_rfl) (by kernel_rfl) (by kernel_rfl) (fun _ _ _ h => h) (Or.inl ⟨by kernel_rfl, ?hyec0⟩) (by assumption) ?restec0
      case hyec0 =>
        intro W hSw
        (try dsimp only at hSw)
        first | (go_simp; done) | (go_simp; with_reducible rfl)
      try simp only [Act.put]
      refine' wpAnyH_take (i := 1) (v := _) rfl (by kernel_rfl) (by kernel_rfl) (by kernel_rfl) (fun _ _ _ h => h) (Or.inl ⟨by kernel_rfl, ?hyec1⟩) (by assumption) ?restec1
      case hyec1 =>
        intro W hSw
        (try dsimp only at hSw)
        first | (go_simp; done) | (go_simp; with_reducible rfl)
      try simp only [Act.put]
      refine' wpAnyH_take (i := 2) (v := _) rfl (by kernel_rfl) (by kernel_rfl) (by kernel_rfl) (fun _ _ _ h => h) (Or.inl ⟨by kernel_rfl, ?hyec2⟩) (by assumption) ?restec2
      case hyec2 =>
        intro W hSw
        (try dsimp only at hSw)
        first | (go_simp; done) | (go_simp; with_reducible rfl)
      try simp only [Act.put]
      refine' wpAnyH_take (i := 3) (v := _) rfl (by kernel_rfl) (by kernel_rfl) (by kernel_rfl) (fun _ _ _ h => h) (Or.inl ⟨by kernel_rfl, ?hyec3⟩) (by assumption) ?restec3
      case hyec3 =>
        intro W hSw
        (try dsimp only at hSw)
        first | (go_simp; done) | (go_simp; with_reducible rfl)
      try simp only [Act.put, List.setIfInBounds_toArray]
      refine wpAnyH_ready (rs := [4]) (by kernel_rfl) (by simp) ?_
      refine AllReadyH.cons (i := 4) (o := _) rfl (fun K hK => ?_) AllReadyH.nil
      go_simp
      go_at_call 26
      have hsm := HGwe.out.isU (p : Int) (q : Int)
      rw [HA.out] at hsm
      with_reducible refine hsm.mono ?_
      rintro e wc0 ⟨rfl, hb⟩
      have HGwc0 := Lib.hid (HGwe.out.on hb)
      clear hb hsm
      refine hK.out _ _ (HS.out _ HGwc0.out) (fun hHeld => ?_)
      clear hK K
      try simp only [Act.put, List.setIfInBounds_toArray]
      refine' wpAnyH_take (i := 5) (v := _) rfl (by kernel_rfl) (by kernel_rfl) (by kernel_rfl) (fun _ _ _ h => h) (Or.inl ⟨by kernel_rfl, ?hyec5⟩) (by assumption) ?restec5
      case hyec5 =>
        intro W hSw
        (try dsimp only at hSw)
        first | (go_simp; done) | (go_simp; with_reducible rfl)
      try simp only [Act.put]
      refine' wpAnyH_take (i := 6) (v := _) rfl (by kernel_rfl) (by kernel_rfl) (by kernel_rfl) (fun _ _ _ h => h) (Or.inl ⟨by kernel_rfl, ?hyec6⟩) (by assumption) ?restec6
      case hyec6 =>
        intro W hSw
        (try dsimp only at hSw)
        first | (go_simp; done) | (go_simp; with_reducible rfl)
      try simp only [Act.put]
      refine' wpAnyH_take (i := 7) (v := _) rfl (by kernel_rfl) (by kernel_rfl) (by kernel_rfl) (fun _ _ _ h => h) (Or.inl ⟨by kernel_rfl, ?hyec7⟩) (by assumption) ?restec7
      case hyec7 =>
        intro W hSw
        (try dsimp only at hSw)
        first | (go_simp; done) | (go_simp; with_reducible rfl)
      try simp only [Act.put]
      refine' wpAnyH_take (i := 8) (v := _) rfl (by kernel_rfl) (by kernel_rfl) (by kernel_rfl) (fun _ _ _ h => h) (Or.inl ⟨by kernel_rfl, ?hyec8⟩) (by assumption) ?restec8
      case hyec8 =>
        intro W hSw
        (try dsimp only at hSw)
        first | (go_simp; done) | (go_simp; with_reducible rfl)
      try simp only [Act.put, List.setIfInBounds_toArray]
      refine wpAnyH_ready (rs := [9]) (by kernel_rfl) (by simp) ?_
      refine AllReadyH.cons (i := 9) (o := _) rfl (fun K hK => ?_) AllReadyH.nil
      go_simp
      go_at_call 26
      have hsm := HGwc0.out.isU (q : Int) (p : Int)
      rw [HB.out] at hsm
      with_reducible refine hsm.mono ?_
      rintro e wc1 ⟨rfl, hb⟩
      have HGwc1 := Lib.hid (HGwc0.out.on hb)
      clear hb hsm
      refine hK.out _ _ (HS.out _ HGwc1.out) (fun hHeld => ?_)
      clear hK K
      try simp only [Act.put, List.setIfInBounds_toArray]
      refine' wpAnyH_take (i := 10) (v := _) rfl (by kernel_rfl) (by kernel_rfl) (by kernel_rfl) (fun _ _ _ h => h) (Or.inl ⟨by kernel_rfl, ?hyec10⟩) (by assumption) ?restec10
      case hyec10 =>
        intro W hSw
        (try dsimp only at hSw)
        first | (go_simp; done) | (go_simp; with_reducible rfl)
      try simp only [Act.put]
      refine' wpAnyH_take (i := 11) (v := _) rfl (by kernel_rfl) (by kernel_rfl) (by kernel_rfl) (fun _ _ _ h => h) (Or.inl ⟨by kernel_rfl, ?hyec11⟩) (by assumption) ?restec11
      case hyec11 =>
        intro W hSw
        (try dsimp only at hSw)
        first | (go_simp; done) | (go_simp; with_reducible rfl)
      try simp only [Act.put]
      refine' wpAnyH_take (i := 12) (v := _) rfl (by kernel_rfl) (by kernel_rfl) (by kernel_rfl) (fun _ _ _ h => h) (Or.inl ⟨by kernel_rfl, ?hyec12⟩) (by assumption) ?restec12
      case hyec12 =>
        intro W hSw
        (try dsimp only at hSw)
        first | (go_simp; done) | (go_simp; with_reducible rfl)
      try simp only [Act.put]
      refine' wpAnyH_take (i := 13) (v := _) rfl (by kernel_rfl) (by kernel_rfl) (by kernel_rfl) (fun _ _ _ h => h) (Or.inl ⟨by kernel_rfl, ?hyec13⟩) (by assumption) ?restec13
      case hyec13 =>
        intro W hSw
        (try dsimp only at hSw)
        first | (go_simp; done) | (go_simp; with_reducible rfl)
      try simp only [Act.put]
      refine' wpAnyH_take (i := 14) (v := _) rfl (by kernel_rfl) (by kernel_rfl) (by kernel_rfl) (fun _ _ _ h => h) (Or.inl ⟨by kernel_rfl, ?hyec14⟩) (by assumption) ?restec14
      case hyec14 =>
        intro W hSw
        (try dsimp only at hSw)
        first | (go_simp; done) | (go_simp; with_reducible rfl)
      try simp only [Act.put]
      refine' wpAnyH_take (i := 15) (v := _) rfl (by kernel_rfl) (by kernel_rfl) (by kernel_rfl) (fun _ _ _ h => h) (Or.inl ⟨by kernel_rfl, ?hyec15⟩) (by assumption) ?restec15
      case hyec15 =>
        intro W hSw
        (try dsimp only at hSw)
        first | (go_simp; done) | (go_simp; with_reducible rfl)
      try simp only [Act.put]
      refine' wpAnyH_take (i := 16) (v := _) rfl (by kernel_rfl) (by kernel_rfl) (by kernel_rfl) (fun _ _ _ h => h) (Or.inl ⟨by kernel_rfl, ?hyec16⟩) (by assumption) ?restec16
      case hyec16 =>
        intro W hSw
        (try dsimp only at hSw)
        first | (go_simp; done) | (go_simp; with_reducible rfl)
      try simp only [Act.put]
      refine' wpAnyH_take (i := 17) (v := _) rfl (by kernel_rfl) (by kernel_rfl) (by kernel_rfl) (fun _ _ _ h => h) (Or.inl ⟨by kernel_rfl, ?hyec17⟩) (by assumption) ?restec17
      case hyec17 =>
        intro W hSw
        (try dsimp only at hSw)
        first | (go_simp; done) | (go_simp; with_reducible rfl)
      try simp only [Act.put]
      refine' wpAnyH_take (i := 18) (v := _) rfl (by kernel_rfl) (by kernel_rfl) (by kernel_rfl) (fun _ _ _ h => h) (Or.inl ⟨by kernel_rfl, ?hyec18⟩) (by assumption) ?restec18
      case hyec18 =>
        intro W hSw
        (try dsimp only at hSw)
        first | (go_simp; done) | (go_simp; with_reducible rfl)
      try simp only [Act.put]
      refine' wpAnyH_take (i := 20) (v := _) rfl (by kernel_rfl) (by kernel_rfl) (by kernel_rfl) (fun _ _ _ h => h) (Or.inl ⟨by kernel_rfl, ?hyec20⟩) (by assumption) ?restec20
      case hyec20 =>
        intro W hSw
        (try dsimp only at hSw)
        first | (go_simp; done) | (go_simp; with_reducible rfl)
      try simp only [Act.put]
      refine' wpAnyH_take (i := 21) (v := _) rfl (by kernel_rfl) (by kernel_rfl) (by kernel_rfl) (fun _ _ _ h => h) (Or.inl ⟨by kernel_rfl, ?hyec21⟩) (by assumption) ?restec21
      case hyec21 =>
        intro W hSw
        (try dsimp only at hSw)
        first | (go_simp; done) | (go_simp; with_reducible rfl)
      try simp only [Act.put]
      refine' wpAnyH_take (i := 22) (v := _) rfl (by kernel_rfl) (by kernel_rfl) (by kernel_rfl) (fun _ _ _ h => h) (Or.inl ⟨by kernel_rfl, ?hyec22⟩) (by assumption) ?restec22
      case hyec22 =>
        intro W hSw
        (try dsimp only at hSw)
        first | (go_simp; done) | (go_simp; with_reducible rfl)
      try simp only [Act.put, List.setIfInBounds_toArray]
      refine wpAnyH_ready (rs := [19]) (by kernel_rfl) (by simp) ?_
      refine AllReadyH.cons (i := 19) (o := _) rfl (fun K hK => ?_) AllReadyH.nil
      go_simp
      go_at_call 26
      have hsm := HGwc1.out.isU (r : Int) (p : Int)
      rw [HC.out] at hsm
      with_reducible refine hsm.mono ?_
      rintro e wc2 ⟨rfl, hb⟩
      have HGwc2 := Lib.hid (HGwc1.out.on hb)
      clear hb hsm
      refine hK.out _ _ (HS.out _ HGwc2.out) (fun hHeld => ?_)
      clear hK K
      try simp only [Act.put, List.setIfInBounds_toArray]
      refine wpAnyH_ready (rs := [23]) (by kernel_rfl) (by simp) ?_
      refine AllReadyH.cons (i := 23) (o := _) rfl (fun K hK => ?_) AllReadyH.nil
      go_simp
      go_at_call 26
      have hsm := HGwc2.out.isU (r : Int) (q : Int)
      rw [HC2.out] at hsm
      with_reducible refine hsm.mono ?_
      rintro e wc3 ⟨rfl, hb⟩
      have HGwc3 := Lib.hid (HGwc2.out.on hb)
      clear hb hsm
      refine hK.out _ _ (HS.out _ HGwc3.out) (fun hHeld => ?_)
      clear hK K
      try simp only [Act.put, List.setIfInBounds_toArray]
      refine' wpAnyH_take (i := 24) (v := _) rfl (by kernel_rfl) (by kernel_rfl) (by kernel_rfl) (fun _ _ _ h => h) (Or.inl ⟨by kernel_rfl, ?hyec24⟩) (by assumption) ?restec24
      case hyec24 =>
        intro W hSw
        (try dsimp only at hSw)
        first | (go_simp; done) | (go_simp; with_reducible rfl)
      try simp only [Act.put]
      refine' wpAnyH_take (i := 25) (v := _) rfl (by kernel_rfl) (by kernel_rfl) (by kernel_rfl) (fun _ _ _ h => h) (Or.inl ⟨by kernel_rfl, ?hyec25⟩) (by assumption) ?restec25
      case hyec25 =>
        intro W hSw
        (try dsimp only at hSw)
        first | (go_simp; done) | (go_simp; with_reducible rfl)
      try simp only [Act.put]
      refine' wpAnyH_take (i := 26) (v := _) rfl (by kernel_rfl) (by kernel_rfl) (by kernel_rfl) (fun _ _ _ h => h) (Or.inl ⟨by kernel_rfl, ?hyec26⟩) (by assumption) ?restec26
      case hyec26 =>
        intro W hSw
        (try dsimp only at hSw)
        first | (go_simp; done) | (go_simp; with_reducible rfl)
      try simp only [Act.put]
      refine' wpAnyH_take (i := 27) (v := _) rfl (by kernel_rfl) (by kernel_rfl) (by kernel_rfl) (fun _ _ _ h => h) (Or.inl ⟨by kernel_rfl, ?hyec27⟩) (by assumption) ?restec27
      case hyec27 =>
        intro W hSw
        (try dsimp only at hSw)
        first | (go_simp; done) | (go_simp; with_reducible rfl)
      try simp only [Act.put]
      refine' wpAnyH_take (i := 28) (v := _) rfl (by kernel_rfl) (by kernel_rfl) (by kernel_rfl) (fun _ _ _ h => h) (Or.inl ⟨by kernel_rfl, ?hyec28⟩) (by assumption) ?restec28
      case hyec28 =>
        intro W hSw
        (try dsimp only at hSw)
        first | (go_simp; done) | (go_simp; with_reducible rfl)
      try simp only [Act.put]
      refine' wpAnyH_take (i := 30) (v := _) rfl (by kernel_rfl) (by kernel_rfl) (by kernel_rfl) (fun _ _ _ h => h) (Or.inl ⟨by kernel_rfl, ?hyec30⟩) (by assumption) ?restec30
      case hyec30 =>
        intro W hSw
        (try dsimp only at hSw)
        first | (go_simp; done) | (go_simp; with_reducible rfl)
      try simp only [Act.put]
      refine' wpAnyH_take (i := 31) (v := _) rfl (by kernel_rfl) (by kernel_rfl) (by kernel_rfl) (fun _ _ _ h => h) (Or.inl ⟨by kernel_rfl, ?hyec31⟩) (by assumption) ?restec31
      case hyec31 =>
        intro W hSw
        (try dsimp only at hSw)
        first | (go_simp; done) | (go_simp; with_reducible rfl)
      try simp only [Act.put]
      refine' wpAnyH_take (i := 32) (v := _) rfl (by kernel_rfl) (by kernel_rfl) (by kernel_rfl) (fun _ _ _ h => h) (Or.inl ⟨by kernel_rfl, ?hyec32⟩) (by assumption) ?restec32
      case hyec32 =>
        intro W hSw
        (try dsimp only at hSw)
        first | (go_simp; done) | (go_simp; with_reducible rfl)
      try simp only [Act.put, List.setIfInBounds_toArray]
      refine wpAnyH_ready (rs := [29]) (by kernel_rfl) (by simp) ?_
      refine AllReadyH.cons (i := 29) (o := _) rfl (fun K hK => ?_) AllReadyH.nil
      go_simp
      go_at_call 26
      have hsm := HGwc3.out.isU (p : Int) (r : Int)
      rw [HD.out] at hsm
      with_reducible refine hsm.mono ?_
      rintro e wc4 ⟨rfl, hb⟩
      have HGwc4 := Lib.hid (HGwc3.out.on hb)
      clear hb hsm
      refine hK.out _ _ (HS.out _ HGwc4.out) (fun hHeld => ?_)
      clear hK K
      try simp only [Act.put, List.setIfInBounds_toArray]
      refine wpAnyH_ready (rs := [33]) (by kernel_rfl) (by simp) ?_
      refine AllReadyH.cons (i := 33) (o := _) rfl (fun K hK => ?_) AllReadyH.nil
      go_simp
      go_at_call 26
      have hsm := HGwc4.out.isU (q : Int) (r : Int)
      rw [HD2.out] at hsm
      with_reducible refine hsm.mono ?_
      rintro e wc5 ⟨rfl, hb⟩
      have HGwc5 := Lib.hid (HGwc4.out.on hb)
      clear hb hsm
      refine hK.out _ _ (HS.out _ HGwc5.out) (fun hHeld => ?_)
      clear hK K
      try simp only [Act.put, List.setIfInBounds_toArray]
      refine' wpAnyH_take (i := 34) (v := _) rfl (by kernel_rfl) (by kernel_rfl) (by kernel_rfl) (fun _ _ _ h => h) (Or.inl ⟨by kernel_rfl, ?hyec34⟩) (by assumption) ?restec34
      case hyec34 =>
        intro W hSw
        (try dsimp only at hSw)
        first | (go_simp; done) | (go_simp; with_reducible rfl)
      try simp only [Act.put]
      refine' wpAnyH_take (i := 35) (v := _) rfl (by kernel_rfl) (by kernel_rfl) (by kernel_rfl) (fun _ _ _ h => h) (Or.inl ⟨by kernel_rfl, ?hyec35⟩) (by assumption) ?restec35
      case hyec35 =>
        intro W hSw
        (try dsimp only at hSw)
        first | (go_simp; done) | (go_simp; with_reducible rfl)
      try simp only [Act.put]
      refine' wpAnyH_take (i := 36) (v := _) rfl (by kernel_rfl) (by kernel_rfl) (by kernel_rfl) (fun _ _ _ h => h) (Or.inl ⟨by kernel_rfl, ?hyec36⟩) (by assumption) ?restec36
      case hyec36 =>
        intro W hSw
        (try dsimp only at hSw)
        first | (go_simp; done) | (go_simp; with_reducible rfl)
      try simp only [Act.put]
      refine' wpAnyH_take (i := 37) (v := _) rfl (by kernel_rfl) (by kernel_rfl) (by kernel_rfl) (fun _ _ _ h => h) (Or.inl ⟨by kernel_rfl, ?hyec37⟩) (by assumption) ?restec37
      case hyec37 =>
        intro W hSw
        (try dsimp only at hSw)
        first | (go_simp; done) | (go_simp; with_reducible rfl)
      try simp only [Act.put]
      refine' wpAnyH_take (i := 38) (v := _) rfl (by kernel_rfl) (by kernel_rfl) (by kernel_rfl) (fun _ _ _ h => h) (Or.inl ⟨by kernel_rfl, ?hyec38⟩) (by assumption) ?restec38
      case hyec38 =>
        intro W hSw
        (try dsimp only at hSw)
        first | (go_simp; done) | (go_simp; with_reducible rfl)
      try simp only [Act.put, List.setIfInBounds_toArray]
      refine wpAnyH_done (by kernel_rfl) ?_ _
      simp only [List.getElem_toArray, List.getElem_cons_succ, List.getElem_cons_zero, List.setIfInBounds_toArray, List.set_cons_succ, List.set_cons_zero]
      go_wp2_with fail
      go_ret
      exact ⟨rfl, HGwc5.out.bel⟩
end Go.Proofs.Ytpjocacepafneaa

/- The statement UnderEqual holds for every argument, with no condition. -/
namespace Go.Proofs.Ytpjocacepafneaa.underEqual
open Go Go.ChangeShapes Go.WideShapes Go.ChangeAt Go.RowKit
open Go.ChangeMaps (open_string shut_string)

set_option maxRecDepth 100000 in
theorem lifted (os : Os) (started : os.Started) (H : Type) (enc : TypeId × Value → H) :
    ReturnsInHanded {} Try.checked os 6 .any (Rows.underEqualSpec.pre6 enc Try.prog Try.f6 Rows.underEqualRow.domain false) (Rows.underEqualSpec.post enc Try.prog Try.f6 false true false false) := by
  refine returnsInHanded_of_change_sized (C := Try.checked) seatOwn started (by kernel_rfl) Try.func6
    (ChangeSpec.witness6 (enc := enc) (C := Try.checked) false ⟨#[], #[.slice none 0 0, .int .i64 0, .int .i64 0, .int .i64 0], []⟩ 8 (by kernel_rfl) (by kernel_rfl) (by kernel_rfl) (by kernel_rfl)) ?_
  intro W base args ds gs before hval0 hW hcnd hsz0 _
  have hval : ∀ (j : Nat) t v, Try.f6.params[j]? = some t → args[j]? = some v → Value.okWide Try.prog W .any base t v := hval0
  have hsz : (DataW.weightsEach Try.prog (Try.f6.params.toList ++ Rows.underEqualSpec.plain.varTypes Try.prog) (ds ++ gs)).all (· ≤ reachBytes) = true := hsz0
  have hW' := hW
  obtain ⟨p, q, hA0, hV, rfl, hfz, hnd⟩ := hW
  have hA : DataW.TrodAll enc Try.prog W 0 (fun _ => true) true Try.f6.params.toList args.toList ds p := hA0
  rw [Try.params6] at hA hval hsz
  obtain ⟨v0, vs0, d0, ds0, p0, q0, hargs, rfl, rfl, h0, r0⟩ := trodAll_cons hA
  obtain ⟨v1, vs1, d1, ds1, p1, q1, rfl, rfl, rfl, h1, r1⟩ := trodAll_cons r0
  obtain ⟨v2, vs2, d2, ds2, p2, q2, rfl, rfl, rfl, h2, r2⟩ := trodAll_cons r1
  obtain ⟨v3, vs3, d3, ds3, p3, q3, rfl, rfl, rfl, h3, r3⟩ := trodAll_cons r2
  obtain ⟨rfl, rfl, rfl⟩ := trodAll_nil r3
  obtain rfl : args = #[v0, v1, v2, v3] := by cases args; simp_all
  obtain ⟨rfl, rfl⟩ := trodVars_none hV
  have k0 := h0
  have lt0 := args_below k0
  obtain ⟨fu0, hf0⟩ := h0
  obtain ⟨ia0, ilen0, icap0, rfl⟩ := okWide_slice Try.underlying24 (hval 0 24 v0 rfl rfl)
  obtain ⟨a0, n0, c0, l0, hv0, hn0, hi0, hc0, hm0, hz0⟩ := open_ints hf0 (fun elems spare e => by
    have := sized_slice hsz (j := 0) (t := 24) (e := 3) rfl (congrArg some e) Try.underlying24
    rwa [seatBytes2] at this)
  obtain ⟨ea0, en0, ec0⟩ := Value.slice.inj hv0
  subst ea0 en0 ec0
  have k1 := h1
  have lt1 := args_below k1
  obtain ⟨a1, rfl, rfl, rfl, w1⟩ := open_int Try.underlying3 (hval 1 3 v1 rfl rfl) h1
  have k2 := h2
  have lt2 := args_below k2
  obtain ⟨a2, rfl, rfl, rfl, w2⟩ := open_int Try.underlying3 (hval 2 3 v2 rfl rfl) h2
  have k3 := h3
  have lt3 := args_below k3
  obtain ⟨a3, rfl, rfl, rfl, w3⟩ := open_int Try.underlying3 (hval 3 3 v3 rfl rfl) h3
  clear hA0 hval0 hsz0
  refine (underEqual_walk ia0 ilen0 icap0 l0 a1 a2 a3 W hn0 hz0 ).mono fun e W' ⟨he, bel⟩ => ?_
  subst he
  exact ⟨_, rfl, _, _, _, [], _, [], hW', trodAll_mk1 (shut_bool Try.underlying4 _), (trodAll_cons_mk (Below.trod seatLaidOut (by kernel_rfl) (of_decide_eq_true (by kernel_rfl)) k0 bel lt0) (trodAll_cons_mk (Below.trod seatLaidOut (by kernel_rfl) (of_decide_eq_true (by kernel_rfl)) k1 bel lt1) (trodAll_cons_mk (Below.trod seatLaidOut (by kernel_rfl) (of_decide_eq_true (by kernel_rfl)) k2 bel lt2) (trodAll_cons_mk (Below.trod seatLaidOut (by kernel_rfl) (of_decide_eq_true (by kernel_rfl)) k3 bel lt3) trodAll_mk0)))), rfl, bel.frame _, fun h => by cases h⟩

theorem over : Rows.underEqualRow.holds Try.pinned (OpenSpec.ofChange Rows.underEqualSpec) :=
  OpenClaim.holds_of_wide 6 Try.f6 rfl rfl rfl rfl rfl rfl rfl ⟨rfl, rfl, rfl, rfl, rfl⟩ rfl rfl rfl rfl rfl (by kernel_rfl) Try.func6 (by kernel_rfl)
    (of_decide_eq_true (by kernel_rfl)) (by unfold Func.isWrapper; first | (rw [if_pos (by decide +kernel)]; kernel_rfl) | (rw [if_neg (by decide +kernel)]; exact ⟨rfl, rfl⟩))
    (fun os started H enc _ => lifted os started H enc)

theorem proved : Rows.UnderEqualSaid :=
  over
#print axioms proved
end Go.Proofs.Ytpjocacepafneaa.underEqual
