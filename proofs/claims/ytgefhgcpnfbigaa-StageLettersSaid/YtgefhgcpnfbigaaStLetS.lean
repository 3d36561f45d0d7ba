/- Law: StageLetters. (Printed by gen/gen13.py.) -/
import Derived.Test.YtgefhgcpnfbigaaStReachs
import Derived.ShutString
namespace Go.Proofs.Ytgefhgcpnfbigaa
open Go.RowKit Go.Sort

set_option maxHeartbeats 32000000 in
set_option maxRecDepth 20000 in
theorem stageLetters_walk (a : Option Addr) (n c : Nat) (l : List Int) (a' : Option Addr) (n' c' : Nat) (l' : List Int) (x : Int) (w : World) (h : Nums w w.heap.size a n l) (hlim : n * 8 ≤ 140737488351232) (h' : Nums w w.heap.size a' n' l') (_hlim' : n' * 8 ≤ 140737488351232) :
    Calls Try.prog 7 #[.slice a n c, .slice a' n' c', .int .i64 x] w fun e w' => e = .returned (.bool true) ∧ Below w.heap.size w w' := by
  have HF := Lib.hid (first13_any w)
  have HN := Lib.hid h
  have HN' := Lib.hid h'
  clear h h'
  go_enter Try.func7, Try.ntmps7
  go_upto_region 4 with (first
    | (go_at_call 20; (with_reducible refine HF.out.mono ?_)
       rintro e w1 ⟨rfl, hb1⟩
       have HB1 := Lib.hid hb1
       have CR := Lib.hid (reached_any a n c l a' n' c' l' w1 (HN.out.on13 hb1) hlim (HN'.out.on13 hb1))
       clear hb1)
    | (go_at_call 37; (with_reducible refine CR.out.mono ?_)
       rintro e w2 ⟨⟨na, nn, nc, sa, sc, ra, rc, gr, ta, tn, tc, tm, tk, tz, b, s, rfl, hin, hro, hst, hok⟩, hb2⟩
       have HA := Lib.hid (stageIn13 hin hro hst)
       have HOK := Lib.hid hok
       have HB2 := Lib.hid (below_on HB1.out hb2)
       clear hin hro hst hok hb2)
    | fail)
  have HG := Lib.hid (StFr.start HA.out nc sc rc tc tz)
  generalize w2.heap.size + 1 = g11 at HG ⊢
  generalize hg9 : w2.heap.size = g9 at HG ⊢
  clear hg9
  generalize (w2.alloc (.cells #[.slice na nn nc, .slice sa 2 sc, .slice ra 2 rc] 26)).alloc (.cells #[.slice ta tn tc, .slice tm tk tz] 38) = w3 at HG ⊢
  have CM := Lib.hid (stMoves_any na nn nc sa 2 sc ra 2 rc (some ⟨gr, 0, none⟩) 2 2 ta tn tc tm tk tz b abS s w3 (Nat.le_refl _) HG.out.arg)
  have HML := Lib.hid (moves_len13 HOK.out)
  obtain ⟨⟨b0, b1, b2⟩, s0, s1⟩ := HG.out.cells
  clear HA CR HF HN HN' HB1
  go_upto_region 7 with (first
    | (go_at_call 32; (with_reducible refine CM.out.mono ?_)
       rintro e w4 ⟨⟨v4, rfl, ho4⟩, hb4⟩
       obtain ⟨xa, xc, hv4, hm4, _, _⟩ := ho4.sees (by have := HML.out; omega)
       obtain ⟨mm, hmm⟩ : ∃ mm, mm = (movesS b abS s).length := ⟨_, rfl⟩
       rw [← hmm] at hv4 hm4
       have hmm30 : mm ≤ 30 := by rw [hmm]; exact HML.out
       have HMN := Lib.hid (show mm = 0 → movesS b abS s = [] from fun e => List.eq_nil_of_length_eq_zero (by rw [← hmm]; exact e))
       subst hv4
       have HM4 := Lib.hid hm4
       have HG4 := Lib.hid (HG.out.on hb4)
       clear ho4 hm4 hb4 hmm)
    | fail)
  clear b0 b1 b2 s0 s1 CM HML HG
  obtain ⟨⟨b0, b1, b2⟩, s0, s1⟩ := HG4.out.cells
  by_cases hm0 : mm = 0
  · have e0 : ((mm : Int) == 0) = true := by rw [hm0]; rfl
    have hd0 : doS b abS s ⟨1, 0, (⟨#[120]⟩ : ByteArray).toList⟩ = (nilS, 1301) := doS_none HOK.out (fun X hX => by
      have h1 := HMN.out hm0
      rw [moves_ok HOK.out] at h1
      rw [List.map_eq_nil_iff.1 h1] at hX
      cases hX)
    have CD := stDo_any na nn nc sa 2 sc ra 2 rc (some ⟨gr, 0, none⟩) 2 2 ta tn tc tm tk tz b abS s 1 0 ⟨#[120]⟩ w4 (Nat.le_refl _) HG4.out.arg
    rw [hd0] at CD
    have HCD := Lib.hid CD
    clear hm0 hd0 CD
    go_wp2_with (first
      | (go_at_call 26; (with_reducible refine HCD.out.mono ?_)
         rintro e w5 ⟨⟨za, zn, zc, zm, zk, zz, rfl, _⟩, hb5⟩
         have HB5 := Lib.hid (below_on HB2.out (below_on HG4.out.below hb5))
         have HB6 := Lib.hid (HB5.out.alloc (HB5.out.size) (.cells #[.slice za zn zc, .slice zm zk zz] 38))
         clear hb5)
      | fail)
    go_ret
    exact ⟨rfl, HB6.out⟩
  · have e0 : ((mm : Int) == 0) = false := by rw [beq_eq_false_iff_ne]; omega
    have hwn : IntKind.u64.wrap (mm : Int) = (mm : Int) := IntWalk.u64_in _ (by omega)
    obtain ⟨hpl, hmp⟩ := pick13_lt (show 1 ≤ mm by omega) (show mm ≤ 1000 by omega) x
    obtain ⟨p, hpe⟩ : ∃ p, p = pick13 mm x := ⟨_, rfl⟩
    rw [← hpe] at hpl hmp
    clear hpe
    have hwp : IntKind.i64.wrap (p : Int) = (p : Int) := IntWalk.i64_in _ ⟨by omega, by omega⟩
    have jp : (p : Int) < (mm : Int) := by omega
    have ip : (0 : Int) ≤ (p : Int) := by omega
    obtain ⟨mb, mo, t, rfl, hmb, hmt, hmc, hms⟩ := HM4.out.at_ hpl
    obtain ⟨c0, c1, c2⟩ := MvR_cells hmc
    obtain ⟨X, hXs, hXm, hXd, hXo⟩ := do_move13 HOK.out hmt
    obtain ⟨pk, pr, ps⟩ := t
    dsimp only at c0 c1 c2
    have HD1 := Lib.hid (show doS b abS s ⟨pk, pr, ps.toList⟩ = (afterS s X, 0) from hXd)
    obtain ⟨r, hr2, hrole, hatq, hway, hq4, hother⟩ := letters13 HOK.out hXs
    obtain rfl : (r : Int) = pr := by rw [← hrole, hXm]; rfl
    have hkd : X.mv.kind = pk := by rw [hXm]; rfl
    have hlb : X.mv.label = ps.toList := by rw [hXm]; rfl
    obtain ⟨qq, hqq⟩ : ∃ qq, qq = X.queue := ⟨_, rfl⟩
    rw [← hqq, hkd, hlb] at hway
    rw [← hqq] at hq4 hother
    obtain ⟨S', hS'⟩ : ∃ S', S' = afterS s X := ⟨_, rfl⟩
    rw [← hS'] at HD1 hatq hway hother hXo
    have HWAY := Lib.hid hway
    have HOT := Lib.hid hother
    have HAT := Lib.hid hatq
    have HO' := Lib.hid hXo
    obtain ⟨u, hu⟩ : ∃ u, u = 1 - r := ⟨_, rfl⟩
    obtain ⟨v2, hv2⟩ : ∃ v2, v2 = r * 2 := ⟨_, rfl⟩
    obtain ⟨v3, hv3⟩ : ∃ v3, v3 = r * 2 + 1 := ⟨_, rfl⟩
    obtain ⟨v4, hv4⟩ : ∃ v4, v4 = r * 2 + 1 - r := ⟨_, rfl⟩
    obtain ⟨v5, hv5⟩ : ∃ v5, v5 = (1 - r) * 2 := ⟨_, rfl⟩
    obtain ⟨v6, hv6⟩ : ∃ v6, v6 = (1 - r) * 2 + r := ⟨_, rfl⟩
    have hw1 : IntKind.i64.wrap (1 - (r : Int)) = (u : Int) := by rw [IntWalk.i64_in _ ⟨by omega, by omega⟩]; omega
    have hw2 : IntKind.i64.wrap ((r : Int) * 2) = (v2 : Int) := by rw [IntWalk.i64_in _ ⟨by omega, by omega⟩]; omega
    have hw3 : IntKind.i64.wrap ((v2 : Int) + 1) = (v3 : Int) := by rw [IntWalk.i64_in _ ⟨by omega, by omega⟩]; omega
    have hw4 : IntKind.i64.wrap ((v3 : Int) - (r : Int)) = (v4 : Int) := by rw [IntWalk.i64_in _ ⟨by omega, by omega⟩]; omega
    have hw5 : IntKind.i64.wrap ((u : Int) * 2) = (v5 : Int) := by rw [IntWalk.i64_in _ ⟨by omega, by omega⟩]; omega
    have hw6 : IntKind.i64.wrap ((v5 : Int) + (r : Int)) = (v6 : Int) := by rw [IntWalk.i64_in _ ⟨by omega, by omega⟩]; omega
    have hu2 : u < 2 := by omega
    have HU := Lib.hid hu
    have HV4 := Lib.hid hv4
    have HV6 := Lib.hid hv6
    clear hmt hmc hms hXs hXm hXd hXo hway hother hatq hrole hkd hlb hqq hS' hu hv2 hv3 hv4 hv5 hv6 HM4 HMN
    go_upto_region 11 with fail
    clear c0 c1 c2 b0 b1 b2 s0 s1 hm0
    have HP5 := Lib.hid (show MBx13 (w4.alloc (.cells #[.int .i64 pk, .int .i64 (r : Int), .string ps] 40)) w4.heap.size pk r ps from heap_alloc_new w4 _)
    have HG5 := Lib.hid (HG4.out.on (tu1 w4 (.cells #[.int .i64 pk, .int .i64 (r : Int), .string ps] 40)))
    generalize w4.heap.size = g14 at HP5 ⊢
    generalize w4.alloc (.cells #[.int .i64 pk, .int .i64 (r : Int), .string ps] 40) = w5 at HP5 HG5 ⊢
    obtain ⟨⟨b0, b1, b2⟩, s0, s1⟩ := HG5.out.cells
    obtain ⟨p0, p1, p2⟩ := HP5.out.cells
    have C1 := Lib.hid (stDo_any na nn nc sa 2 sc ra 2 rc (some ⟨gr, 0, none⟩) 2 2 ta tn tc tm tk tz b abS s pk (r : Int) ps w5 (Nat.le_refl _) HG5.out.arg)
    go_upto_region 12 with (first
      | (go_at_call 26; (with_reducible refine C1.out.mono ?_)
         rintro e w6 ⟨hst, hb⟩
         obtain ⟨ya, yn, yc, ym, yk, yz, rfl, hkp⟩ := hst.kp hb
         rw [HD1.out] at hkp ⊢
         have HG6 := Lib.hid (HG5.out.on hb)
         have HP6 := Lib.hid (HP5.out.on13 hb)
         have HK6 := Lib.hid hkp
         clear hst hb hkp)
      | fail)
    clear b0 b1 b2 s0 s1 p0 p1 p2 C1 HG5 HP5 HG4
    have hb7 := tu1 w6 (.cells #[.slice ya yn yc, .slice ym yk yz] 38)
    have HX7 := Lib.hid (show SBox (w6.alloc (.cells #[.slice ya yn yc, .slice ym yk yz] 38)) w6.heap.size ya yn yc ym yk yz from heap_alloc_new w6 _)
    have HG7 := Lib.hid (HG6.out.on hb7)
    have HP7 := Lib.hid (HP6.out.on13 hb7)
    have HK7 := Lib.hid (HK6.out.on13 hb7)
    clear hb7 HG6 HP6 HK6
    generalize w6.heap.size = g15 at HX7 ⊢
    generalize w6.alloc (.cells #[.slice ya yn yc, .slice ym yk yz] 38) = w7 at HX7 HG7 HP7 HK7 ⊢
    have htn : tn = 2 := by rw [← HG7.out.arg.st.at_.1]; exact HOK.out.len
    have hyn : yn = 2 := by rw [← HK7.out.now.at_.1]; exact HO'.out.len
    have htk : tk = 4 := by rw [← HG7.out.arg.st.mail.1]; exact HOK.out.many
    have hyk : yk = 4 := by rw [← HK7.out.now.mail.1]; exact HO'.out.many
    subst htn hyn htk hyk
    obtain ⟨ab, ao, x0, rfl, hab, hx0, qx⟩ := HG7.out.arg.st.at_.at_ hu2
    obtain ⟨yb, yo, y0, rfl, hyb, hy0, qy⟩ := HK7.out.now.at_.at_ hu2
    obtain rfl : x0 = y0 := by
      have h1 := HAT.out
      rw [← HU.out, List.getD_eq_getElem?_getD, List.getD_eq_getElem?_getD, hx0, hy0] at h1
      exact h1.symm
    have HCX := Lib.hid (And.intro qx qy)
    have iu1 : (u : Int) < 2 := by omega
    have iu2 : (0 : Int) ≤ (u : Int) := by omega
    have hxx : (x0 != x0) = false := by simp
    have HS12 := Lib.hid (fun (W : World) (hW : Below w7.heap.size w7 W) => show W.cell? ⟨g11, 0, none⟩ = some (.slice (some ⟨ab, ao, none⟩) 2 tc) ∧ W.cell? ⟨g15, 0, none⟩ = some (.slice (some ⟨yb, yo, none⟩) 2 yc) ∧ W.cell? ⟨g14, 1, none⟩ = some (.int .i64 (r : Int)) ∧ W.cell? ⟨ab, ao + u, none⟩ = some (.int .i64 x0) ∧ W.cell? ⟨yb, yo + u, none⟩ = some (.int .i64 x0) from
      ⟨((HG7.out.on hW).cells.2.1), (HX7.out.on13 hW).cells.1, (HP7.out.on13 hW).cells.2.1, (hW.cell (p := ⟨ab, ao + u, none⟩) hab).trans HCX.out.1, (hW.cell (p := ⟨yb, yo + u, none⟩) hyb).trans HCX.out.2⟩)
    have hbd : Below w7.heap.size w7 w7.drew := bel_drewN (Below.refl _ _) 1
    obtain ⟨wd, hwd⟩ : ∃ wd : World, wd = w7.drew := ⟨_, rfl⟩
    rw [← hwd] at hbd
    have HS0 := Lib.hid (HS12.out wd hbd)
    have HX8 := Lib.hid (HX7.out.on13 hbd)
    have HG8 := Lib.hid (HG7.out.on hbd)
    have HP8 := Lib.hid (HP7.out.on13 hbd)
    have HK8 := Lib.hid (HK7.out.on13 hbd)
    clear hbd qx qy hx0 hy0
    refine wp_region_held_drew (S := fun W => W.cell? ⟨g11, 0, none⟩ = some (.slice (some ⟨ab, ao, none⟩) 2 tc) ∧ W.cell? ⟨g15, 0, none⟩ = some (.slice (some ⟨yb, yo, none⟩) 2 yc) ∧ W.cell? ⟨g14, 1, none⟩ = some (.int .i64 (r : Int)) ∧ W.cell? ⟨ab, ao + u, none⟩ = some (.int .i64 x0) ∧ W.cell? ⟨yb, yo + u, none⟩ = some (.int .i64 x0)) (by kernel_rfl) (by rw [← hwd]; exact HS0.out) (fun hHeld => ?_)
    rw [← hwd]
    rw [← hwd] at hHeld
    clear hwd
    try simp only [Act.put, List.setIfInBounds_toArray]
    refine' wpAnyH_take (i := 0) (v := _) rfl (by kernel_rfl) (by kernel_rfl) (by kernel_rfl) (fun _ _ _ h => h) (Or.inl ⟨by kernel_rfl, ?hya0⟩) (by assumption) ?resta0
    case hya0 =>
      intro W hSw
      (try dsimp only at hSw)
      first | (go_simp; done) | (go_simp; with_reducible rfl)
    try simp only [Act.put, List.getElem_toArray, List.getElem_cons_zero, List.setIfInBounds_toArray, List.set_cons_succ, List.set_cons_zero]
    refine' wpAnyH_take (i := 1) (v := _) rfl (by kernel_rfl) (by kernel_rfl) (by kernel_rfl) (fun _ _ _ h => h) (Or.inl ⟨by kernel_rfl, ?hya1⟩) (by assumption) ?resta1
    case hya1 =>
      intro W hSw
      (try dsimp only at hSw)
      first | (go_simp; done) | (go_simp; with_reducible rfl)
    try simp only [Act.put]
    refine' wpAnyH_take (i := 2) (v := _) rfl (by kernel_rfl) (by kernel_rfl) (by kernel_rfl) (fun _ _ _ h => h) (Or.inl ⟨by kernel_rfl, ?hya2⟩) (by assumption) ?resta2
    case hya2 =>
      intro W hSw
      (try dsimp only at hSw)
      first | (go_simp; done) | (go_simp; with_reducible rfl)
    try simp only [Act.put, List.getElem_toArray, List.getElem_cons_succ, List.getElem_cons_zero, List.setIfInBounds_toArray, List.set_cons_succ, List.set_cons_zero]
    refine' wpAnyH_take (i := 3) (v := _) rfl (by kernel_rfl) (by kernel_rfl) (by kernel_rfl) (fun _ _ _ h => h) (Or.inl ⟨by kernel_rfl, ?hya3⟩) (by assumption) ?resta3
    case hya3 =>
      intro W hSw
      (try dsimp only at hSw)
      first | (go_simp; done) | (go_simp; with_reducible rfl)
    try simp only [Act.put]
    refine' wpAnyH_take (i := 4) (v := _) rfl (by kernel_rfl) (by kernel_rfl) (by kernel_rfl) (fun _ _ _ h => h) (Or.inl ⟨by kernel_rfl, ?hya4⟩) (by assumption) ?resta4
    case hya4 =>
      intro W hSw
      (try dsimp only at hSw)
      first | (go_simp; done) | (go_simp; with_reducible rfl)
    try simp only [Act.put, List.getElem_toArray, List.getElem_cons_succ, List.getElem_cons_zero, List.setIfInBounds_toArray, List.set_cons_succ, List.set_cons_zero]
    refine' wpAnyH_take (i := 5) (v := _) rfl (by kernel_rfl) (by kernel_rfl) (by kernel_rfl) (fun _ _ _ h => h) (Or.inl ⟨by kernel_rfl, ?hya5⟩) (by assumption) ?resta5
    case hya5 =>
      intro W hSw
      (try dsimp only at hSw)
      first | (go_simp; done) | (go_simp; with_reducible rfl)
    try simp only [Act.put]
    refine' wpAnyH_take (i := 6) (v := _) rfl (by kernel_rfl) (by kernel_rfl) (by kernel_rfl) (fun _ _ _ h => h) (Or.inl ⟨by kernel_rfl, ?hya6⟩) (by assumption) ?resta6
    case hya6 =>
      intro W hSw
      (try dsimp only at hSw)
      first | (go_simp; done) | (go_simp; with_reducible rfl)
    try simp only [Act.put, List.getElem_toArray, List.getElem_cons_succ, List.getElem_cons_zero, List.setIfInBounds_toArray, List.set_cons_succ, List.set_cons_zero]
    refine' wpAnyH_take (i := 7) (v := _) rfl (by kernel_rfl) (by kernel_rfl) (by kernel_rfl) (fun _ _ _ h => h) (Or.inl ⟨by kernel_rfl, ?hya7⟩) (by assumption) ?resta7
    case hya7 =>
      intro W hSw
      (try dsimp only at hSw)
      first | (go_simp; done) | (go_simp; with_reducible rfl)
    try simp only [Act.put]
    refine' wpAnyH_take (i := 8) (v := _) rfl (by kernel_rfl) (by kernel_rfl) (by kernel_rfl) (fun _ _ _ h => h) (Or.inl ⟨by kernel_rfl, ?hya8⟩) (by assumption) ?resta8
    case hya8 =>
      intro W hSw
      (try dsimp only at hSw)
      first | (go_simp; done) | (go_simp; with_reducible rfl)
    try simp only [Act.put, List.getElem_toArray, List.getElem_cons_succ, List.getElem_cons_zero, List.setIfInBounds_toArray, List.set_cons_succ, List.set_cons_zero]
    refine' wpAnyH_take (i := 9) (v := _) rfl (by kernel_rfl) (by kernel_rfl) (by kernel_rfl) (fun _ _ _ h => h) (Or.inl ⟨by kernel_rfl, ?hya9⟩) (by assumption) ?resta9
    case hya9 =>
      intro W hSw
      (try dsimp only at hSw)
      first | (go_simp; done) | (go_simp; with_reducible rfl)
    try simp only [Act.put]
    refine' wpAnyH_take (i := 10) (v := _) rfl (by kernel_rfl) (by kernel_rfl) (by kernel_rfl) (fun _ _ _ h => h) (Or.inl ⟨by kernel_rfl, ?hya10⟩) (by assumption) ?resta10
    case hya10 =>
      intro W hSw
      (try dsimp only at hSw)
      first | (go_simp; done) | (go_simp; with_reducible rfl)
    try simp only [Act.put, List.getElem_toArray, List.getElem_cons_succ, List.getElem_cons_zero, List.setIfInBounds_toArray, List.set_cons_succ, List.set_cons_zero]
    refine' wpAnyH_take (i := 11) (v := _) rfl (by kernel_rfl) (by kernel_rfl) (by kernel_rfl) (fun _ _ _ h => h) (Or.inl ⟨by kernel_rfl, ?hya11⟩) (by assumption) ?resta11
    case hya11 =>
      intro W hSw
      (try dsimp only at hSw)
      first | (go_simp; done) | (go_simp; with_reducible rfl)
    try simp only [Act.put]
    refine' wpAnyH_take (i := 12) (v := _) rfl (by kernel_rfl) (by kernel_rfl) (by kernel_rfl) (fun _ _ _ h => h) (Or.inl ⟨by kernel_rfl, ?hya12⟩) (by assumption) ?resta12
    case hya12 =>
      intro W hSw
      (try dsimp only at hSw)
      first | (go_simp; done) | (go_simp; with_reducible rfl)
    try simp only [Act.put, List.getElem_toArray, List.getElem_cons_succ, List.getElem_cons_zero, List.setIfInBounds_toArray, List.set_cons_succ, List.set_cons_zero]
    refine' wpAnyH_take (i := 13) (v := _) rfl (by kernel_rfl) (by kernel_rfl) (by kernel_rfl) (fun _ _ _ h => h) (Or.inl ⟨by kernel_rfl, ?hya13⟩) (by assumption) ?resta13
    case hya13 =>
      intro W hSw
      (try dsimp only at hSw)
      first | (go_simp; done) | (go_simp; with_reducible rfl)
    try simp only [Act.put]
    refine' wpAnyH_take (i := 14) (v := _) rfl (by kernel_rfl) (by kernel_rfl) (by kernel_rfl) (fun _ _ _ h => h) (Or.inl ⟨by kernel_rfl, ?hya14⟩) (by assumption) ?resta14
    case hya14 =>
      intro W hSw
      (try dsimp only at hSw)
      first | (go_simp; done) | (go_simp; with_reducible rfl)
    try simp only [Act.put, List.getElem_toArray, List.getElem_cons_succ, List.getElem_cons_zero, List.setIfInBounds_toArray, List.set_cons_succ, List.set_cons_zero]
    refine' wpAnyH_take (i := 15) (v := _) rfl (by kernel_rfl) (by kernel_rfl) (by kernel_rfl) (fun _ _ _ h => h) (Or.inl ⟨by kernel_rfl, ?hya15⟩) (by assumption) ?resta15
    case hya15 =>
      intro W hSw
      (try dsimp only at hSw)
      first | (go_simp; done) | (go_simp; with_reducible rfl)
    try simp only [Act.put]
    refine' wpAnyH_take (i := 16) (v := _) rfl (by kernel_rfl) (by kernel_rfl) (by kernel_rfl) (fun _ _ _ h => h) (Or.inl ⟨by kernel_rfl, ?hya16⟩) (by assumption) ?resta16
    case hya16 =>
      intro W hSw
      (try dsimp only at hSw)
      first | (go_simp; done) | (go_simp; with_reducible rfl)
    try simp only [Act.put, List.getElem_toArray, List.getElem_cons_succ, List.getElem_cons_zero, List.setIfInBounds_toArray, List.set_cons_succ, List.set_cons_zero]
    refine' wpAnyH_take (i := 17) (v := _) rfl (by kernel_rfl) (by kernel_rfl) (by kernel_rfl) (fun _ _ _ h => h) (Or.inl ⟨by kernel_rfl, ?hya17⟩) (by assumption) ?resta17
    case hya17 =>
      intro W hSw
      (try dsimp only at hSw)
      first | (go_simp; done) | (go_simp; with_reducible rfl)
    try simp only [Act.put]
    refine' wpAnyH_take (i := 18) (v := _) rfl (by kernel_rfl) (by kernel_rfl) (by kernel_rfl) (fun _ _ _ h => h) (Or.inl ⟨by kernel_rfl, ?hya18⟩) (by assumption) ?resta18
    case hya18 =>
      intro W hSw
      (try dsimp only at hSw)
      first | (go_simp; done) | (go_simp; with_reducible rfl)
    try simp only [Act.put, List.getElem_toArray, List.getElem_cons_succ, List.getElem_cons_zero, List.setIfInBounds_toArray, List.set_cons_succ, List.set_cons_zero]
    refine wpAnyH_done (by kernel_rfl) ?_ _
    try simp only [Act.put, List.getElem_toArray, List.getElem_cons_succ, List.getElem_cons_zero, List.setIfInBounds_toArray, List.set_cons_succ, List.set_cons_zero]
    rcases HWAY.out with ⟨hk1, hqe, _⟩ | ⟨hk2, hqe, _⟩
    · subst hk1
      have hkk : ((1 : Int) == 2) = false := rfl
      have hqe : v4 = qq := by rw [HV4.out, hqe]
      subst hqe
      obtain ⟨p0, p1, p2⟩ := HP8.out.cells
      go_wp2_with fail
      clear p0 p1 p2
      go_loopw [18] (fun i wr => ∃ k : Nat, k ≤ 4 ∧ i = .int .i64 k ∧ Hid (Below wd.heap.size wd wr)) (fun i _ => 4 - (intOf i).toNat)
      case atStart => exact ⟨0, Nat.zero_le _, rfl, Lib.hid (Below.refl _ _)⟩
      case round =>
        obtain ⟨k, hk, rfl, HBr⟩ := hrel
        by_cases hlt : k < 4
        · have HGr := Lib.hid (HG8.out.on HBr.out)
          have HXr := Lib.hid (HX8.out.on13 HBr.out)
          have HPr := Lib.hid (HP8.out.on13 HBr.out)
          have HKr := Lib.hid (HK8.out.on13 HBr.out)
          obtain ⟨b1, o1, aa, an, ac, lw, e1, hb1, hlw, qw, hqw⟩ := HGr.out.arg.st.mail.at_ hlt
          obtain ⟨b2, o2, ba, bn, bc, ln, e2, hb2, hln, qn, hqn⟩ := HKr.out.now.mail.at_ hlt
          subst e1 e2
          have i1 : (k : Int) < 4 := by omega
          have i2 : (0 : Int) ≤ (k : Int) := by omega
          have h64w := HOK.out.room lw (List.mem_of_getElem? hlw)
          have h64n := HO'.out.room ln (List.mem_of_getElem? hln)
          have hal := hqw.1
          have hbl := hqn.1
          have HGW := Lib.hid (show s.mail.getD k [] = lw by rw [List.getD_eq_getElem?_getD, hlw]; rfl)
          have HGN := Lib.hid (show S'.mail.getD k [] = ln by rw [List.getD_eq_getElem?_getD, hln]; rfl)
          have HSW := Lib.hid (hqw.2.2 (by omega))
          have HSN := Lib.hid (hqn.2.2 (by omega))
          have HQC := Lib.hid (And.intro qw qn)
          have HS20 := Lib.hid (fun (W : World) (hW : Below wr.heap.size wr W) => show W.cell? ⟨g11, 1, none⟩ = some (.slice (some ⟨b1, o1, none⟩) 4 tz) ∧ W.cell? ⟨g15, 1, none⟩ = some (.slice (some ⟨b2, o2, none⟩) 4 yz) ∧ W.cell? ⟨b1, o1 + k, none⟩ = some (.slice aa an ac) ∧ W.cell? ⟨b2, o2 + k, none⟩ = some (.slice ba bn bc) from ⟨(HGr.out.on hW).cells.2.2, (HXr.out.on13 hW).cells.2, (hW.cell (p := ⟨b1, o1 + k, none⟩) hb1).trans HQC.out.1, (hW.cell (p := ⟨b2, o2 + k, none⟩) hb2).trans HQC.out.2⟩)
          clear hlw hln hqw hqn qw qn
          go_upto_region 20 with fail
          have hbe : Below wr.heap.size wr wr.drew := bel_drewN (Below.refl _ _) 1
          obtain ⟨we, hwd⟩ : ∃ we : World, we = wr.drew := ⟨_, rfl⟩
          rw [← hwd] at hbe
          have HS0 := Lib.hid (HS20.out we hbe)
          have HBe := Lib.hid (HBr.out.trans (hbe.mono HBr.out.size))
          have HPe := Lib.hid (HPr.out.on13 hbe)
          have HGe := Lib.hid (HGr.out.on hbe)
          have HSWe := Lib.hid (HSW.out.on13 hbe)
          have HSNe := Lib.hid (HSN.out.on13 hbe)
          clear hbe
          refine wp_region_held_drew (S := fun W => W.cell? ⟨g11, 1, none⟩ = some (.slice (some ⟨b1, o1, none⟩) 4 tz) ∧ W.cell? ⟨g15, 1, none⟩ = some (.slice (some ⟨b2, o2, none⟩) 4 yz) ∧ W.cell? ⟨b1, o1 + k, none⟩ = some (.slice aa an ac) ∧ W.cell? ⟨b2, o2 + k, none⟩ = some (.slice ba bn bc)) (by kernel_rfl) (by rw [← hwd]; exact HS0.out) (fun hHeld => ?_)
          rw [← hwd]
          rw [← hwd] at hHeld
          clear hwd
          try simp only [Act.put, List.setIfInBounds_toArray]
          refine' wpAnyH_take (i := 0) (v := _) rfl (by kernel_rfl) (by kernel_rfl) (by kernel_rfl) (fun _ _ _ h => h) (Or.inl ⟨by kernel_rfl, ?hyb10⟩) (by assumption) ?restb10
          case hyb10 =>
            intro W hSw
            (try dsimp only at hSw)
            first | (go_simp; done) | (go_simp; with_reducible rfl)
          try simp only [Act.put, List.getElem_toArray, List.getElem_cons_zero, List.setIfInBounds_toArray, List.set_cons_succ, List.set_cons_zero]
          refine' wpAnyH_take (i := 1) (v := _) rfl (by kernel_rfl) (by kernel_rfl) (by kernel_rfl) (fun _ _ _ h => h) (Or.inl ⟨by kernel_rfl, ?hyb11⟩) (by assumption) ?restb11
          case hyb11 =>
            intro W hSw
            (try dsimp only at hSw)
            first | (go_simp; done) | (go_simp; with_reducible rfl)
          try simp only [Act.put]
          refine' wpAnyH_take (i := 2) (v := _) rfl (by kernel_rfl) (by kernel_rfl) (by kernel_rfl) (fun _ _ _ h => h) (Or.inl ⟨by kernel_rfl, ?hyb12⟩) (by assumption) ?restb12
          case hyb12 =>
            intro W hSw
            (try dsimp only at hSw)
            first | (go_simp; done) | (go_simp; with_reducible rfl)
          try simp only [Act.put, List.getElem_toArray, List.getElem_cons_succ, List.getElem_cons_zero, List.setIfInBounds_toArray, List.set_cons_succ, List.set_cons_zero]
          refine' wpAnyH_take (i := 3) (v := _) rfl (by kernel_rfl) (by kernel_rfl) (by kernel_rfl) (fun _ _ _ h => h) (Or.inl ⟨by kernel_rfl, ?hyb13⟩) (by assumption) ?restb13
          case hyb13 =>
            intro W hSw
            (try dsimp only at hSw)
            first | (go_simp; done) | (go_simp; with_reducible rfl)
          try simp only [Act.put]
          refine' wpAnyH_take (i := 4) (v := _) rfl (by kernel_rfl) (by kernel_rfl) (by kernel_rfl) (fun _ _ _ h => h) (Or.inl ⟨by kernel_rfl, ?hyb14⟩) (by assumption) ?restb14
          case hyb14 =>
            intro W hSw
            (try dsimp only at hSw)
            first | (go_simp; done) | (go_simp; with_reducible rfl)
          try simp only [Act.put, List.getElem_toArray, List.getElem_cons_succ, List.getElem_cons_zero, List.setIfInBounds_toArray, List.set_cons_succ, List.set_cons_zero]
          refine' wpAnyH_take (i := 5) (v := _) rfl (by kernel_rfl) (by kernel_rfl) (by kernel_rfl) (fun _ _ _ h => h) (Or.inl ⟨by kernel_rfl, ?hyb15⟩) (by assumption) ?restb15
          case hyb15 =>
            intro W hSw
            (try dsimp only at hSw)
            first | (go_simp; done) | (go_simp; with_reducible rfl)
          try simp only [Act.put]
          refine' wpAnyH_take (i := 6) (v := _) rfl (by kernel_rfl) (by kernel_rfl) (by kernel_rfl) (fun _ _ _ h => h) (Or.inl ⟨by kernel_rfl, ?hyb16⟩) (by assumption) ?restb16
          case hyb16 =>
            intro W hSw
            (try dsimp only at hSw)
            first | (go_simp; done) | (go_simp; with_reducible rfl)
          try simp only [Act.put, List.getElem_toArray, List.getElem_cons_succ, List.getElem_cons_zero, List.setIfInBounds_toArray, List.set_cons_succ, List.set_cons_zero]
          refine' wpAnyH_take (i := 7) (v := _) rfl (by kernel_rfl) (by kernel_rfl) (by kernel_rfl) (fun _ _ _ h => h) (Or.inl ⟨by kernel_rfl, ?hyb17⟩) (by assumption) ?restb17
          case hyb17 =>
            intro W hSw
            (try dsimp only at hSw)
            first | (go_simp; done) | (go_simp; with_reducible rfl)
          try simp only [Act.put]
          refine' wpAnyH_take (i := 8) (v := _) rfl (by kernel_rfl) (by kernel_rfl) (by kernel_rfl) (fun _ _ _ h => h) (Or.inl ⟨by kernel_rfl, ?hyb18⟩) (by assumption) ?restb18
          case hyb18 =>
            intro W hSw
            (try dsimp only at hSw)
            first | (go_simp; done) | (go_simp; with_reducible rfl)
          try simp only [Act.put, List.getElem_toArray, List.getElem_cons_succ, List.getElem_cons_zero, List.setIfInBounds_toArray, List.set_cons_succ, List.set_cons_zero]
          refine' wpAnyH_take (i := 9) (v := _) rfl (by kernel_rfl) (by kernel_rfl) (by kernel_rfl) (fun _ _ _ h => h) (Or.inl ⟨by kernel_rfl, ?hyb19⟩) (by assumption) ?restb19
          case hyb19 =>
            intro W hSw
            (try dsimp only at hSw)
            first | (go_simp; done) | (go_simp; with_reducible rfl)
          try simp only [Act.put]
          refine' wpAnyH_take (i := 10) (v := _) rfl (by kernel_rfl) (by kernel_rfl) (by kernel_rfl) (fun _ _ _ h => h) (Or.inl ⟨by kernel_rfl, ?hyb110⟩) (by assumption) ?restb110
          case hyb110 =>
            intro W hSw
            (try dsimp only at hSw)
            first | (go_simp; done) | (go_simp; with_reducible rfl)
          try simp only [Act.put, List.getElem_toArray, List.getElem_cons_succ, List.getElem_cons_zero, List.setIfInBounds_toArray, List.set_cons_succ, List.set_cons_zero]
          refine' wpAnyH_take (i := 11) (v := _) rfl (by kernel_rfl) (by kernel_rfl) (by kernel_rfl) (fun _ _ _ h => h) (Or.inl ⟨by kernel_rfl, ?hyb111⟩) (by assumption) ?restb111
          case hyb111 =>
            intro W hSw
            (try dsimp only at hSw)
            first | (go_simp; done) | (go_simp; with_reducible rfl)
          try simp only [Act.put, List.getElem_toArray, List.getElem_cons_succ, List.getElem_cons_zero, List.setIfInBounds_toArray, List.set_cons_succ, List.set_cons_zero]
          refine wpAnyH_done (by kernel_rfl) ?_ _
          try simp only [Act.put, List.getElem_toArray, List.getElem_cons_succ, List.getElem_cons_zero, List.setIfInBounds_toArray, List.set_cons_succ, List.set_cons_zero]
          by_cases hkq : k = v4
          · have e3 : ((k : Int) != (v4 : Int)) = false := by rw [hkq]; simp
            have e4 : ((k : Int) == (v4 : Int)) = true := by rw [hkq]; simp
            have hnw : ln = lw ++ [ps.toList] := by
              rcases HWAY.out with ⟨_, _, h⟩ | ⟨h, _⟩
              · rw [← hkq, HGW.out, HGN.out] at h; exact h
              · omega
            have hbn : bn = an + 1 := by rw [← hbl, hnw, List.length_append, hal]; rfl
            have e5 : IntKind.i64.wrap ((an : Int) + 1) = (bn : Int) := by rw [IntWalk.i64_in _ ⟨by omega, by omega⟩, hbn]; rfl
            have e6 : ((bn : Int) != (bn : Int)) = false := by simp
            obtain ⟨nb, no', us, e7, hnb, hus, qu⟩ := HSNe.out.part13 (k := an) (by omega)
            have hul : us.toList = ps.toList := by
              rw [hnw, List.getElem?_append_right (by omega), hal, Nat.sub_self] at hus
              exact (Option.some.inj hus).symm
            have e8 : (us.toList == ps.toList) = true := by rw [hul]; simp
            have e9 : (us.toList != ps.toList) = false := by rw [hul]; simp
            have i3 : (an : Int) < (bn : Int) := by omega
            have i3n : an < bn := by omega
            have i4 : (0 : Int) ≤ (an : Int) := by omega
            subst e7
            obtain ⟨p0, p1, p2⟩ := HPe.out.cells
            have HS27 := Lib.hid (fun (W : World) (hW : Below we.heap.size we W) => show W.cell? ⟨g14, 2, none⟩ = some (.string ps) ∧ W.cell? ⟨nb, no' + an, none⟩ = some (.string us) from ⟨(HPe.out.on13 hW).cells.2.2, (hW.cell (p := ⟨nb, no' + an, none⟩) hnb).trans qu⟩)
            clear hnw hus hul hkq hbn
            go_upto_region 27 with fail
            have hbf : Below we.heap.size we we.drew := bel_drewN (Below.refl _ _) 1
            obtain ⟨wf, hwd⟩ : ∃ wf : World, wf = we.drew := ⟨_, rfl⟩
            rw [← hwd] at hbf
            have HS1 := Lib.hid (HS27.out wf hbf)
            have HBf := Lib.hid (HBe.out.trans (hbf.mono HBe.out.size))
            clear hbf p0 p1 p2 qu
            refine wp_region_held_drew (S := fun W => W.cell? ⟨g14, 2, none⟩ = some (.string ps) ∧ W.cell? ⟨nb, no' + an, none⟩ = some (.string us)) (by kernel_rfl) (by rw [← hwd]; exact HS1.out) (fun hHeld => ?_)
            rw [← hwd]
            rw [← hwd] at hHeld
            clear hwd
            try simp only [Act.put, List.setIfInBounds_toArray]
            refine' wpAnyH_take (i := 0) (v := _) rfl (by kernel_rfl) (by kernel_rfl) (by kernel_rfl) (fun _ _ _ h => h) (Or.inl ⟨by kernel_rfl, ?hyc10⟩) (by assumption) ?restc10
            case hyc10 =>
              intro W hSw
              (try dsimp only at hSw)
              first | (go_simp; done) | (go_simp; with_reducible rfl)
            try simp only [Act.put, List.getElem_toArray, List.getElem_cons_zero, List.setIfInBounds_toArray, List.set_cons_succ, List.set_cons_zero]
            refine' wpAnyH_take (i := 1) (v := _) rfl (by kernel_rfl) (by kernel_rfl) (by kernel_rfl) (fun _ _ _ h => h) (Or.inl ⟨by kernel_rfl, ?hyc11⟩) (by assumption) ?restc11
            case hyc11 =>
              intro W hSw
              (try dsimp only at hSw)
              first | (go_simp; done) | (go_simp; with_reducible rfl)
            try simp only [Act.put]
            refine' wpAnyH_take (i := 2) (v := _) rfl (by kernel_rfl) (by kernel_rfl) (by kernel_rfl) (fun _ _ _ h => h) (Or.inl ⟨by kernel_rfl, ?hyc12⟩) (by assumption) ?restc12
            case hyc12 =>
              intro W hSw
              (try dsimp only at hSw)
              first | (go_simp; done) | (go_simp; with_reducible rfl)
            try simp only [Act.put, List.getElem_toArray, List.getElem_cons_succ, List.getElem_cons_zero, List.setIfInBounds_toArray, List.set_cons_succ, List.set_cons_zero]
            refine' wpAnyH_take (i := 3) (v := _) rfl (by kernel_rfl) (by kernel_rfl) (by kernel_rfl) (fun _ _ _ h => h) (Or.inl ⟨by kernel_rfl, ?hyc13⟩) (by assumption) ?restc13
            case hyc13 =>
              intro W hSw
              (try dsimp only at hSw)
              first | (go_simp; done) | (go_simp; with_reducible rfl)
            try simp only [Act.put]
            refine' wpAnyH_take (i := 4) (v := _) rfl (by kernel_rfl) (by kernel_rfl) (by kernel_rfl) (fun _ _ _ h => h) (Or.inl ⟨by kernel_rfl, ?hyc14⟩) (by assumption) ?restc14
            case hyc14 =>
              intro W hSw
              (try dsimp only at hSw)
              first | (go_simp; done) | (go_simp; with_reducible rfl)
            try simp only [Act.put, List.getElem_toArray, List.getElem_cons_succ, List.getElem_cons_zero, List.setIfInBounds_toArray, List.set_cons_succ, List.set_cons_zero]
            refine' wpAnyH_take (i := 5) (v := _) rfl (by kernel_rfl) (by kernel_rfl) (by kernel_rfl) (fun _ _ _ h => h) (Or.inl ⟨by kernel_rfl, ?hyc15⟩) (by assumption) ?restc15
            case hyc15 =>
              intro W hSw
              (try dsimp only at hSw)
              first | (go_simp; done) | (go_simp; with_reducible rfl)
            try simp only [Act.put]
            refine' wpAnyH_take (i := 6) (v := _) rfl (by kernel_rfl) (by kernel_rfl) (by kernel_rfl) (fun _ _ _ h => h) (Or.inl ⟨by kernel_rfl, ?hyc16⟩) (by assumption) ?restc16
            case hyc16 =>
              intro W hSw
              (try dsimp only at hSw)
              first | (go_simp; done) | (go_simp; with_reducible rfl)
            try simp only [Act.put, List.getElem_toArray, List.getElem_cons_succ, List.getElem_cons_zero, List.setIfInBounds_toArray, List.set_cons_succ, List.set_cons_zero]
            refine' wpAnyH_take (i := 7) (v := _) rfl (by kernel_rfl) (by kernel_rfl) (by kernel_rfl) (fun _ _ _ h => h) (Or.inl ⟨by kernel_rfl, ?hyc17⟩) (by assumption) ?restc17
            case hyc17 =>
              intro W hSw
              (try dsimp only at hSw)
              first | (go_simp; done) | (go_simp; with_reducible rfl)
            try simp only [Act.put]
            refine' wpAnyH_take (i := 8) (v := _) rfl (by kernel_rfl) (by kernel_rfl) (by kernel_rfl) (fun _ _ _ h => h) (Or.inl ⟨by kernel_rfl, ?hyc18⟩) (by assumption) ?restc18
            case hyc18 =>
              intro W hSw
              (try dsimp only at hSw)
              first | (go_simp; done) | (go_simp; with_reducible rfl)
            try simp only [Act.put, List.getElem_toArray, List.getElem_cons_succ, List.getElem_cons_zero, List.setIfInBounds_toArray, List.set_cons_succ, List.set_cons_zero]
            refine' wpAnyH_take (i := 9) (v := _) rfl (by kernel_rfl) (by kernel_rfl) (by kernel_rfl) (fun _ _ _ h => h) (Or.inl ⟨by kernel_rfl, ?hyc19⟩) (by assumption) ?restc19
            case hyc19 =>
              intro W hSw
              (try dsimp only at hSw)
              first | (go_simp; done) | (go_simp; with_reducible rfl)
            try simp only [Act.put]
            refine' wpAnyH_take (i := 10) (v := _) rfl (by kernel_rfl) (by kernel_rfl) (by kernel_rfl) (fun _ _ _ h => h) (Or.inl ⟨by kernel_rfl, ?hyc110⟩) (by assumption) ?restc110
            case hyc110 =>
              intro W hSw
              (try dsimp only at hSw)
              first | (go_simp; done) | (go_simp; with_reducible rfl)
            try simp only [Act.put, List.getElem_toArray, List.getElem_cons_succ, List.getElem_cons_zero, List.setIfInBounds_toArray, List.set_cons_succ, List.set_cons_zero]
            refine' wpAnyH_take (i := 11) (v := _) rfl (by kernel_rfl) (by kernel_rfl) (by kernel_rfl) (fun _ _ _ h => h) (Or.inl ⟨by kernel_rfl, ?hyc111⟩) (by assumption) ?restc111
            case hyc111 =>
              intro W hSw
              (try dsimp only at hSw)
              first | (go_simp; done) | (go_simp; with_reducible rfl)
            try simp only [Act.put]
            refine' wpAnyH_take (i := 12) (v := _) rfl (by kernel_rfl) (by kernel_rfl) (by kernel_rfl) (fun _ _ _ h => h) (Or.inl ⟨by kernel_rfl, ?hyc112⟩) (by assumption) ?restc112
            case hyc112 =>
              intro W hSw
              (try dsimp only at hSw)
              first | (go_simp; done) | (go_simp; with_reducible rfl)
            try simp only [Act.put, List.getElem_toArray, List.getElem_cons_succ, List.getElem_cons_zero, List.setIfInBounds_toArray, List.set_cons_succ, List.set_cons_zero]
            refine' wpAnyH_take (i := 13) (v := _) rfl (by kernel_rfl) (by kernel_rfl) (by kernel_rfl) (fun _ _ _ h => h) (Or.inl ⟨by kernel_rfl, ?hyc113⟩) (by assumption) ?restc113
            case hyc113 =>
              intro W hSw
              (try dsimp only at hSw)
              first | (go_simp; done) | (go_simp; with_reducible rfl)
            try simp only [Act.put]
            refine' wpAnyH_take (i := 14) (v := _) rfl (by kernel_rfl) (by kernel_rfl) (by kernel_rfl) (fun _ _ _ h => h) (Or.inl ⟨by kernel_rfl, ?hyc114⟩) (by assumption) ?restc114
            case hyc114 =>
              intro W hSw
              (try dsimp only at hSw)
              first | (go_simp; done) | (go_simp; with_reducible rfl)
            try simp only [Act.put, List.getElem_toArray, List.getElem_cons_succ, List.getElem_cons_zero, List.setIfInBounds_toArray, List.set_cons_succ, List.set_cons_zero]
            refine' wpAnyH_take (i := 15) (v := _) rfl (by kernel_rfl) (by kernel_rfl) (by kernel_rfl) (fun _ _ _ h => h) (Or.inl ⟨by kernel_rfl, ?hyc115⟩) (by assumption) ?restc115
            case hyc115 =>
              intro W hSw
              (try dsimp only at hSw)
              first | (go_simp; done) | (go_simp; with_reducible rfl)
            try simp only [Act.put, List.getElem_toArray, List.getElem_cons_succ, List.getElem_cons_zero, List.setIfInBounds_toArray, List.set_cons_succ, List.set_cons_zero]
            refine wpAnyH_done (by kernel_rfl) ?_ _
            try simp only [Act.put, List.getElem_toArray, List.getElem_cons_succ, List.getElem_cons_zero, List.setIfInBounds_toArray, List.set_cons_succ, List.set_cons_zero]
            go_wp2_with fail
            go_roundw
            case rel => exact ⟨k + 1, by omega, by go_num, HBf⟩
            case measure => simp [intOf]; omega
          · have e3 : ((k : Int) != (v4 : Int)) = true := by rw [bne_iff_ne]; omega
            have e4 : ((k : Int) == (v4 : Int)) = false := by rw [beq_eq_false_iff_ne]; omega
            have hab2 : an = bn := by
              have h := HOT.out k hkq
              rw [HGW.out, HGN.out] at h
              rw [← hal, ← hbl, h]
            have e5 : ((an : Int) != (bn : Int)) = false := by rw [hab2]; simp
            clear hab2 hkq
            go_wp2_with fail
            go_roundw
            case rel => exact ⟨k + 1, by omega, by go_num, HBe⟩
            case measure => simp [intOf]; omega
        · obtain rfl : k = 4 := by omega
          go_wp2_with fail
          go_ret
          exact ⟨rfl, below_on HB2.out (HG8.out.on HBr.out).below⟩
    · subst hk2
      have hqe : v6 = qq := by rw [HV6.out, hqe]
      subst hqe
      obtain ⟨p0, p1, p2⟩ := HP8.out.cells
      go_wp2_with fail
      clear p0 p1 p2
      go_loopw [18] (fun i wr => ∃ k : Nat, k ≤ 4 ∧ i = .int .i64 k ∧ Hid (Below wd.heap.size wd wr)) (fun i _ => 4 - (intOf i).toNat)
      case atStart => exact ⟨0, Nat.zero_le _, rfl, Lib.hid (Below.refl _ _)⟩
      case round =>
        obtain ⟨k, hk, rfl, HBr⟩ := hrel
        by_cases hlt : k < 4
        · have HGr := Lib.hid (HG8.out.on HBr.out)
          have HXr := Lib.hid (HX8.out.on13 HBr.out)
          have HPr := Lib.hid (HP8.out.on13 HBr.out)
          have HKr := Lib.hid (HK8.out.on13 HBr.out)
          obtain ⟨b1, o1, aa, an, ac, lw, e1, hb1, hlw, qw, hqw⟩ := HGr.out.arg.st.mail.at_ hlt
          obtain ⟨b2, o2, ba, bn, bc, ln, e2, hb2, hln, qn, hqn⟩ := HKr.out.now.mail.at_ hlt
          subst e1 e2
          have i1 : (k : Int) < 4 := by omega
          have i2 : (0 : Int) ≤ (k : Int) := by omega
          have h64w := HOK.out.room lw (List.mem_of_getElem? hlw)
          have h64n := HO'.out.room ln (List.mem_of_getElem? hln)
          have hal := hqw.1
          have hbl := hqn.1
          have HGW := Lib.hid (show s.mail.getD k [] = lw by rw [List.getD_eq_getElem?_getD, hlw]; rfl)
          have HGN := Lib.hid (show S'.mail.getD k [] = ln by rw [List.getD_eq_getElem?_getD, hln]; rfl)
          have HSW := Lib.hid (hqw.2.2 (by omega))
          have HSN := Lib.hid (hqn.2.2 (by omega))
          have HQC := Lib.hid (And.intro qw qn)
          have HS20 := Lib.hid (fun (W : World) (hW : Below wr.heap.size wr W) => show W.cell? ⟨g11, 1, none⟩ = some (.slice (some ⟨b1, o1, none⟩) 4 tz) ∧ W.cell? ⟨g15, 1, none⟩ = some (.slice (some ⟨b2, o2, none⟩) 4 yz) ∧ W.cell? ⟨b1, o1 + k, none⟩ = some (.slice aa an ac) ∧ W.cell? ⟨b2, o2 + k, none⟩ = some (.slice ba bn bc) from ⟨(HGr.out.on hW).cells.2.2, (HXr.out.on13 hW).cells.2, (hW.cell (p := ⟨b1, o1 + k, none⟩) hb1).trans HQC.out.1, (hW.cell (p := ⟨b2, o2 + k, none⟩) hb2).trans HQC.out.2⟩)
          clear hlw hln hqw hqn qw qn
          go_upto_region 20 with fail
          have hbe : Below wr.heap.size wr wr.drew := bel_drewN (Below.refl _ _) 1
          obtain ⟨we, hwd⟩ : ∃ we : World, we = wr.drew := ⟨_, rfl⟩
          rw [← hwd] at hbe
          have HS0 := Lib.hid (HS20.out we hbe)
          have HBe := Lib.hid (HBr.out.trans (hbe.mono HBr.out.size))
          have HPe := Lib.hid (HPr.out.on13 hbe)
          have HGe := Lib.hid (HGr.out.on hbe)
          have HSWe := Lib.hid (HSW.out.on13 hbe)
          have HSNe := Lib.hid (HSN.out.on13 hbe)
          clear hbe
          refine wp_region_held_drew (S := fun W => W.cell? ⟨g11, 1, none⟩ = some (.slice (some ⟨b1, o1, none⟩) 4 tz) ∧ W.cell? ⟨g15, 1, none⟩ = some (.slice (some ⟨b2, o2, none⟩) 4 yz) ∧ W.cell? ⟨b1, o1 + k, none⟩ = some (.slice aa an ac) ∧ W.cell? ⟨b2, o2 + k, none⟩ = some (.slice ba bn bc)) (by kernel_rfl) (by rw [← hwd]; exact HS0.out) (fun hHeld => ?_)
          rw [← hwd]
          rw [← hwd] at hHeld
          clear hwd
          try simp only [Act.put, List.setIfInBounds_toArray]
          refine' wpAnyH_take (i := 0) (v := _) rfl (by kernel_rfl) (by kernel_rfl) (by kernel_rfl) (fun _ _ _ h => h) (Or.inl ⟨by kernel_rfl, ?hyb20⟩) (by assumption) ?restb20
          case hyb20 =>
            intro W hSw
            (try dsimp only at hSw)
            first | (go_simp; done) | (go_simp; with_reducible rfl)
          try simp only [Act.put, List.getElem_toArray, List.getElem_cons_zero, List.setIfInBounds_toArray, List.set_cons_succ, List.set_cons_zero]
          refine' wpAnyH_take (i := 1) (v := _) rfl (by kernel_rfl) (by kernel_rfl) (by kernel_rfl) (fun _ _ _ h => h) (Or.inl ⟨by kernel_rfl, ?hyb21⟩) (by assumption) ?restb21
          case hyb21 =>
            intro W hSw
            (try dsimp only at hSw)
            first | (go_simp; done) | (go_simp; with_reducible rfl)
          try simp only [Act.put]
          refine' wpAnyH_take (i := 2) (v := _) rfl (by kernel_rfl) (by kernel_rfl) (by kernel_rfl) (fun _ _ _ h => h) (Or.inl ⟨by kernel_rfl, ?hyb22⟩) (by assumption) ?restb22
          case hyb22 =>
            intro W hSw
            (try dsimp only at hSw)
            first | (go_simp; done) | (go_simp; with_reducible rfl)
          try simp only [Act.put, List.getElem_toArray, List.getElem_cons_succ, List.getElem_cons_zero, List.setIfInBounds_toArray, List.set_cons_succ, List.set_cons_zero]
          refine' wpAnyH_take (i := 3) (v := _) rfl (by kernel_rfl) (by kernel_rfl) (by kernel_rfl) (fun _ _ _ h => h) (Or.inl ⟨by kernel_rfl, ?hyb23⟩) (by assumption) ?restb23
          case hyb23 =>
            intro W hSw
            (try dsimp only at hSw)
            first | (go_simp; done) | (go_simp; with_reducible rfl)
          try simp only [Act.put]
          refine' wpAnyH_take (i := 4) (v := _) rfl (by kernel_rfl) (by kernel_rfl) (by kernel_rfl) (fun _ _ _ h => h) (Or.inl ⟨by kernel_rfl, ?hyb24⟩) (by assumption) ?restb24
          case hyb24 =>
            intro W hSw
            (try dsimp only at hSw)
            first | (go_simp; done) | (go_simp; with_reducible rfl)
          try simp only [Act.put, List.getElem_toArray, List.getElem_cons_succ, List.getElem_cons_zero, List.setIfInBounds_toArray, List.set_cons_succ, List.set_cons_zero]
          refine' wpAnyH_take (i := 5) (v := _) rfl (by kernel_rfl) (by kernel_rfl) (by kernel_rfl) (fun _ _ _ h => h) (Or.inl ⟨by kernel_rfl, ?hyb25⟩) (by assumption) ?restb25
          case hyb25 =>
            intro W hSw
            (try dsimp only at hSw)
            first | (go_simp; done) | (go_simp; with_reducible rfl)
          try simp only [Act.put]
          refine' wpAnyH_take (i := 6) (v := _) rfl (by kernel_rfl) (by kernel_rfl) (by kernel_rfl) (fun _ _ _ h => h) (Or.inl ⟨by kernel_rfl, ?hyb26⟩) (by assumption) ?restb26
          case hyb26 =>
            intro W hSw
            (try dsimp only at hSw)
            first | (go_simp; done) | (go_simp; with_reducible rfl)
          try simp only [Act.put, List.getElem_toArray, List.getElem_cons_succ, List.getElem_cons_zero, List.setIfInBounds_toArray, List.set_cons_succ, List.set_cons_zero]
          refine' wpAnyH_take (i := 7) (v := _) rfl (by kernel_rfl) (by kernel_rfl) (by kernel_rfl) (fun _ _ _ h => h) (Or.inl ⟨by kernel_rfl, ?hyb27⟩) (by assumption) ?restb27
          case hyb27 =>
            intro W hSw
            (try dsimp only at hSw)
            first | (go_simp; done) | (go_simp; with_reducible rfl)
          try simp only [Act.put]
          refine' wpAnyH_take (i := 8) (v := _) rfl (by kernel_rfl) (by kernel_rfl) (by kernel_rfl) (fun _ _ _ h => h) (Or.inl ⟨by kernel_rfl, ?hyb28⟩) (by assumption) ?restb28
          case hyb28 =>
            intro W hSw
            (try dsimp only at hSw)
            first | (go_simp; done) | (go_simp; with_reducible rfl)
          try simp only [Act.put, List.getElem_toArray, List.getElem_cons_succ, List.getElem_cons_zero, List.setIfInBounds_toArray, List.set_cons_succ, List.set_cons_zero]
          refine' wpAnyH_take (i := 9) (v := _) rfl (by kernel_rfl) (by kernel_rfl) (by kernel_rfl) (fun _ _ _ h => h) (Or.inl ⟨by kernel_rfl, ?hyb29⟩) (by assumption) ?restb29
          case hyb29 =>
            intro W hSw
            (try dsimp only at hSw)
            first | (go_simp; done) | (go_simp; with_reducible rfl)
          try simp only [Act.put]
          refine' wpAnyH_take (i := 10) (v := _) rfl (by kernel_rfl) (by kernel_rfl) (by kernel_rfl) (fun _ _ _ h => h) (Or.inl ⟨by kernel_rfl, ?hyb210⟩) (by assumption) ?restb210
          case hyb210 =>
            intro W hSw
            (try dsimp only at hSw)
            first | (go_simp; done) | (go_simp; with_reducible rfl)
          try simp only [Act.put, List.getElem_toArray, List.getElem_cons_succ, List.getElem_cons_zero, List.setIfInBounds_toArray, List.set_cons_succ, List.set_cons_zero]
          refine' wpAnyH_take (i := 11) (v := _) rfl (by kernel_rfl) (by kernel_rfl) (by kernel_rfl) (fun _ _ _ h => h) (Or.inl ⟨by kernel_rfl, ?hyb211⟩) (by assumption) ?restb211
          case hyb211 =>
            intro W hSw
            (try dsimp only at hSw)
            first | (go_simp; done) | (go_simp; with_reducible rfl)
          try simp only [Act.put, List.getElem_toArray, List.getElem_cons_succ, List.getElem_cons_zero, List.setIfInBounds_toArray, List.set_cons_succ, List.set_cons_zero]
          refine wpAnyH_done (by kernel_rfl) ?_ _
          try simp only [Act.put, List.getElem_toArray, List.getElem_cons_succ, List.getElem_cons_zero, List.setIfInBounds_toArray, List.set_cons_succ, List.set_cons_zero]
          by_cases hkq : k = v6
          · have e3 : ((k : Int) != (v6 : Int)) = false := by rw [hkq]; simp
            have e4 : ((k : Int) == (v6 : Int)) = true := by rw [hkq]; simp
            have hnw : lw = ps.toList :: ln ∧ ∃ nd : NodeL, b.nodes[(s.at_.getD r 0).toNat]? = some nd ∧ nd.kind = 2 := by
              rcases HWAY.out with ⟨h, _⟩ | ⟨_, _, h, h2⟩
              · omega
              · rw [← hkq, HGW.out, HGN.out] at h; exact ⟨h, h2⟩
            obtain ⟨hlw2, nd, hnd, hnk⟩ := hnw
            have han : an = bn + 1 := by rw [← hal, hlw2, List.length_cons, hbl]
            have e5 : IntKind.i64.wrap ((bn : Int) + 1) = (an : Int) := by rw [IntWalk.i64_in _ ⟨by omega, by omega⟩, han]; rfl
            have e6 : ((an : Int) != (an : Int)) = false := by simp
            obtain ⟨nb, no', us, e7, hnb, hus, qu⟩ := HSWe.out.part13 (k := 0) (by omega)
            have hul : us.toList = ps.toList := by
              rw [hlw2] at hus
              exact (Option.some.inj hus).symm
            rw [Nat.add_zero] at qu
            have e8 : (us.toList == ps.toList) = true := by rw [hul]; simp
            have e9 : (us.toList != ps.toList) = false := by rw [hul]; simp
            have i3 : (0 : Int) < (an : Int) := by omega
            have i3n : 0 < an := by omega
            subst e7
            obtain ⟨cb, co, xr, ex, hcb, hxr, qr⟩ := HGe.out.arg.st.at_.at_ hr2
            obtain ⟨rfl, rfl, _⟩ := Addr.mk.inj (Option.some.inj ex)
            have hxa : s.at_.getD r 0 = xr := by rw [List.getD_eq_getElem?_getD, hxr]; rfl
            obtain ⟨hxr0, hxr1⟩ := HOK.out.at_ xr (List.mem_of_getElem? hxr)
            obtain ⟨ix, rfl⟩ : ∃ ix : Nat, xr = (ix : Int) := ⟨xr.toNat, by omega⟩
            rw [hxa, Int.toNat_natCast] at hnd
            rw [Int.toNat_natCast, HGe.out.arg.bk.nodes.1] at hxr1
            obtain ⟨db, dd, kd, us2, a3, n3, c3, al3, ena, hdb, hdn, ⟨qk, _, _⟩, _, _⟩ := HGe.out.arg.bk.nodes.at_ hxr1
            have hkd2 : kd = 2 := by
              rw [hnd] at hdn
              rw [← hnk, Option.some.inj hdn]
            subst hkd2 ena
            have i4 : (ix : Int) < (nn : Int) := by omega
            have i5 : (0 : Int) ≤ (ix : Int) := by omega
            have i6 : (r : Int) < 2 := by omega
            have i7 : (0 : Int) ≤ (r : Int) := by omega
            have HC21 := Lib.hid (And.intro qu (And.intro qr qk))
            obtain ⟨p0, p1, p2⟩ := HPe.out.cells
            have HS21 := Lib.hid (fun (W : World) (hW : Below we.heap.size we W) => show (W.cell? ⟨g14, 1, none⟩ = some (.int .i64 (r : Int)) ∧ W.cell? ⟨g14, 2, none⟩ = some (.string ps)) ∧ W.cell? ⟨nb, no', none⟩ = some (.string us) ∧ W.cell? ⟨g9, 0, none⟩ = some (.slice (some ⟨db, dd, none⟩) nn nc) ∧ W.cell? ⟨g11, 0, none⟩ = some (.slice (some ⟨ab, ao, none⟩) 2 tc) ∧ W.cell? ⟨ab, ao + r, none⟩ = some (.int .i64 (ix : Int)) ∧ W.cell? ⟨db, dd + ix * 3, none⟩ = some (.int .i64 2) from ⟨(HPe.out.on13 hW).cells.2, (hW.cell (p := ⟨nb, no', none⟩) hnb).trans HC21.out.1, (HGe.out.on hW).cells.1.1, (HGe.out.on hW).cells.2.1, (hW.cell (p := ⟨ab, ao + r, none⟩) hcb).trans HC21.out.2.1, (hW.cell (p := ⟨db, dd + ix * 3, none⟩) hdb).trans HC21.out.2.2⟩)
            clear hlw2 hus hul hkq han hnd hnk hxr hxa hxr0 hdn ex qu qr qk
            go_upto_region 21 with fail
            have hbf : Below we.heap.size we we.drew := bel_drewN (Below.refl _ _) 1
            obtain ⟨wf, hwd⟩ : ∃ wf : World, wf = we.drew := ⟨_, rfl⟩
            rw [← hwd] at hbf
            have HS1 := Lib.hid (HS21.out wf hbf)
            have HBf := Lib.hid (HBe.out.trans (hbf.mono HBe.out.size))
            clear hbf p0 p1 p2
            refine wp_region_held_drew (S := fun W => (W.cell? ⟨g14, 1, none⟩ = some (.int .i64 (r : Int)) ∧ W.cell? ⟨g14, 2, none⟩ = some (.string ps)) ∧ W.cell? ⟨nb, no', none⟩ = some (.string us) ∧ W.cell? ⟨g9, 0, none⟩ = some (.slice (some ⟨db, dd, none⟩) nn nc) ∧ W.cell? ⟨g11, 0, none⟩ = some (.slice (some ⟨ab, ao, none⟩) 2 tc) ∧ W.cell? ⟨ab, ao + r, none⟩ = some (.int .i64 (ix : Int)) ∧ W.cell? ⟨db, dd + ix * 3, none⟩ = some (.int .i64 2)) (by kernel_rfl) (by rw [← hwd]; exact HS1.out) (fun hHeld => ?_)
            rw [← hwd]
            rw [← hwd] at hHeld
            clear hwd
            try simp only [Act.put, List.setIfInBounds_toArray]
            refine' wpAnyH_take (i := 0) (v := _) rfl (by kernel_rfl) (by kernel_rfl) (by kernel_rfl) (fun _ _ _ h => h) (Or.inl ⟨by kernel_rfl, ?hyc20⟩) (by assumption) ?restc20
            case hyc20 =>
              intro W hSw
              (try dsimp only at hSw)
              first | (go_simp; done) | (go_simp; with_reducible rfl)
            try simp only [Act.put, List.getElem_toArray, List.getElem_cons_zero, List.setIfInBounds_toArray, List.set_cons_succ, List.set_cons_zero]
            refine' wpAnyH_take (i := 1) (v := _) rfl (by kernel_rfl) (by kernel_rfl) (by kernel_rfl) (fun _ _ _ h => h) (Or.inl ⟨by kernel_rfl, ?hyc21⟩) (by assumption) ?restc21
            case hyc21 =>
              intro W hSw
              (try dsimp only at hSw)
              first | (go_simp; done) | (go_simp; with_reducible rfl)
            try simp only [Act.put]
            refine' wpAnyH_take (i := 2) (v := _) rfl (by kernel_rfl) (by kernel_rfl) (by kernel_rfl) (fun _ _ _ h => h) (Or.inl ⟨by kernel_rfl, ?hyc22⟩) (by assumption) ?restc22
            case hyc22 =>
              intro W hSw
              (try dsimp only at hSw)
              first | (go_simp; done) | (go_simp; with_reducible rfl)
            try simp only [Act.put, List.getElem_toArray, List.getElem_cons_succ, List.getElem_cons_zero, List.setIfInBounds_toArray, List.set_cons_succ, List.set_cons_zero]
            refine' wpAnyH_take (i := 3) (v := _) rfl (by kernel_rfl) (by kernel_rfl) (by kernel_rfl) (fun _ _ _ h => h) (Or.inl ⟨by kernel_rfl, ?hyc23⟩) (by assumption) ?restc23
            case hyc23 =>
              intro W hSw
              (try dsimp only at hSw)
              first | (go_simp; done) | (go_simp; with_reducible rfl)
            try simp only [Act.put]
            refine' wpAnyH_take (i := 4) (v := _) rfl (by kernel_rfl) (by kernel_rfl) (by kernel_rfl) (fun _ _ _ h => h) (Or.inl ⟨by kernel_rfl, ?hyc24⟩) (by assumption) ?restc24
            case hyc24 =>
              intro W hSw
              (try dsimp only at hSw)
              first | (go_simp; done) | (go_simp; with_reducible rfl)
            try simp only [Act.put, List.getElem_toArray, List.getElem_cons_succ, List.getElem_cons_zero, List.setIfInBounds_toArray, List.set_cons_succ, List.set_cons_zero]
            refine' wpAnyH_take (i := 5) (v := _) rfl (by kernel_rfl) (by kernel_rfl) (by kernel_rfl) (fun _ _ _ h => h) (Or.inl ⟨by kernel_rfl, ?hyc25⟩) (by assumption) ?restc25
            case hyc25 =>
              intro W hSw
              (try dsimp only at hSw)
              first | (go_simp; done) | (go_simp; with_reducible rfl)
            try simp only [Act.put]
            refine' wpAnyH_take (i := 6) (v := _) rfl (by kernel_rfl) (by kernel_rfl) (by kernel_rfl) (fun _ _ _ h => h) (Or.inl ⟨by kernel_rfl, ?hyc26⟩) (by assumption) ?restc26
            case hyc26 =>
              intro W hSw
              (try dsimp only at hSw)
              first | (go_simp; done) | (go_simp; with_reducible rfl)
            try simp only [Act.put, List.getElem_toArray, List.getElem_cons_succ, List.getElem_cons_zero, List.setIfInBounds_toArray, List.set_cons_succ, List.set_cons_zero]
            refine' wpAnyH_take (i := 7) (v := _) rfl (by kernel_rfl) (by kernel_rfl) (by kernel_rfl) (fun _ _ _ h => h) (Or.inl ⟨by kernel_rfl, ?hyc27⟩) (by assumption) ?restc27
            case hyc27 =>
              intro W hSw
              (try dsimp only at hSw)
              first | (go_simp; done) | (go_simp; with_reducible rfl)
            try simp only [Act.put]
            refine' wpAnyH_take (i := 8) (v := _) rfl (by kernel_rfl) (by kernel_rfl) (by kernel_rfl) (fun _ _ _ h => h) (Or.inl ⟨by kernel_rfl, ?hyc28⟩) (by assumption) ?restc28
            case hyc28 =>
              intro W hSw
              (try dsimp only at hSw)
              first | (go_simp; done) | (go_simp; with_reducible rfl)
            try simp only [Act.put, List.getElem_toArray, List.getElem_cons_succ, List.getElem_cons_zero, List.setIfInBounds_toArray, List.set_cons_succ, List.set_cons_zero]
            refine' wpAnyH_take (i := 9) (v := _) rfl (by kernel_rfl) (by kernel_rfl) (by kernel_rfl) (fun _ _ _ h => h) (Or.inl ⟨by kernel_rfl, ?hyc29⟩) (by assumption) ?restc29
            case hyc29 =>
              intro W hSw
              (try dsimp only at hSw)
              first | (go_simp; done) | (go_simp; with_reducible rfl)
            try simp only [Act.put]
            refine' wpAnyH_take (i := 10) (v := _) rfl (by kernel_rfl) (by kernel_rfl) (by kernel_rfl) (fun _ _ _ h => h) (Or.inl ⟨by kernel_rfl, ?hyc210⟩) (by assumption) ?restc210
            case hyc210 =>
              intro W hSw
              (try dsimp only at hSw)
              first | (go_simp; done) | (go_simp; with_reducible rfl)
            try simp only [Act.put, List.getElem_toArray, List.getElem_cons_succ, List.getElem_cons_zero, List.setIfInBounds_toArray, List.set_cons_succ, List.set_cons_zero]
            refine' wpAnyH_take (i := 11) (v := _) rfl (by kernel_rfl) (by kernel_rfl) (by kernel_rfl) (fun _ _ _ h => h) (Or.inl ⟨by kernel_rfl, ?hyc211⟩) (by assumption) ?restc211
            case hyc211 =>
              intro W hSw
              (try dsimp only at hSw)
              first | (go_simp; done) | (go_simp; with_reducible rfl)
            try simp only [Act.put]
            refine' wpAnyH_take (i := 12) (v := _) rfl (by kernel_rfl) (by kernel_rfl) (by kernel_rfl) (fun _ _ _ h => h) (Or.inl ⟨by kernel_rfl, ?hyc212⟩) (by assumption) ?restc212
            case hyc212 =>
              intro W hSw
              (try dsimp only at hSw)
              first | (go_simp; done) | (go_simp; with_reducible rfl)
            try simp only [Act.put, List.getElem_toArray, List.getElem_cons_succ, List.getElem_cons_zero, List.setIfInBounds_toArray, List.set_cons_succ, List.set_cons_zero]
            refine' wpAnyH_take (i := 13) (v := _) rfl (by kernel_rfl) (by kernel_rfl) (by kernel_rfl) (fun _ _ _ h => h) (Or.inl ⟨by kernel_rfl, ?hyc213⟩) (by assumption) ?restc213
            case hyc213 =>
              intro W hSw
              (try dsimp only at hSw)
              first | (go_simp; done) | (go_simp; with_reducible rfl)
            try simp only [Act.put]
            refine' wpAnyH_take (i := 14) (v := _) rfl (by kernel_rfl) (by kernel_rfl) (by kernel_rfl) (fun _ _ _ h => h) (Or.inl ⟨by kernel_rfl, ?hyc214⟩) (by assumption) ?restc214
            case hyc214 =>
              intro W hSw
              (try dsimp only at hSw)
              first | (go_simp; done) | (go_simp; with_reducible rfl)
            try simp only [Act.put, List.getElem_toArray, List.getElem_cons_succ, List.getElem_cons_zero, List.setIfInBounds_toArray, List.set_cons_succ, List.set_cons_zero]
            refine' wpAnyH_take (i := 15) (v := _) rfl (by kernel_rfl) (by kernel_rfl) (by kernel_rfl) (fun _ _ _ h => h) (Or.inl ⟨by kernel_rfl, ?hyc215⟩) (by assumption) ?restc215
            case hyc215 =>
              intro W hSw
              (try dsimp only at hSw)
              first | (go_simp; done) | (go_simp; with_reducible rfl)
            try simp only [Act.put]
            refine' wpAnyH_take (i := 16) (v := _) rfl (by kernel_rfl) (by kernel_rfl) (by kernel_rfl) (fun _ _ _ h => h) (Or.inl ⟨by kernel_rfl, ?hyc216⟩) (by assumption) ?restc216
            case hyc216 =>
              intro W hSw
              (try dsimp only at hSw)
              first | (go_simp; done) | (go_simp; with_reducible rfl)
            try simp only [Act.put, List.getElem_toArray, List.getElem_cons_succ, List.getElem_cons_zero, List.setIfInBounds_toArray, List.set_cons_succ, List.set_cons_zero]
            refine' wpAnyH_take (i := 17) (v := _) rfl (by kernel_rfl) (by kernel_rfl) (by kernel_rfl) (fun _ _ _ h => h) (Or.inl ⟨by kernel_rfl, ?hyc217⟩) (by assumption) ?restc217
            case hyc217 =>
              intro W hSw
              (try dsimp only at hSw)
              first | (go_simp; done) | (go_simp; with_reducible rfl)
            try simp only [Act.put]
            refine' wpAnyH_take (i := 18) (v := _) rfl (by kernel_rfl) (by kernel_rfl) (by kernel_rfl) (fun _ _ _ h => h) (Or.inl ⟨by kernel_rfl, ?hyc218⟩) (by assumption) ?restc218
            case hyc218 =>
              intro W hSw
              (try dsimp only at hSw)
              first | (go_simp; done) | (go_simp; with_reducible rfl)
            try simp only [Act.put, List.getElem_toArray, List.getElem_cons_succ, List.getElem_cons_zero, List.setIfInBounds_toArray, List.set_cons_succ, List.set_cons_zero]
            refine' wpAnyH_take (i := 19) (v := _) rfl (by kernel_rfl) (by kernel_rfl) (by kernel_rfl) (fun _ _ _ h => h) (Or.inl ⟨by kernel_rfl, ?hyc219⟩) (by assumption) ?restc219
            case hyc219 =>
              intro W hSw
              (try dsimp only at hSw)
              first | (go_simp; done) | (go_simp; with_reducible rfl)
            try simp only [Act.put]
            refine' wpAnyH_take (i := 20) (v := _) rfl (by kernel_rfl) (by kernel_rfl) (by kernel_rfl) (fun _ _ _ h => h) (Or.inl ⟨by kernel_rfl, ?hyc220⟩) (by assumption) ?restc220
            case hyc220 =>
              intro W hSw
              (try dsimp only at hSw)
              first | (go_simp; done) | (go_simp; with_reducible rfl)
            try simp only [Act.put, List.getElem_toArray, List.getElem_cons_succ, List.getElem_cons_zero, List.setIfInBounds_toArray, List.set_cons_succ, List.set_cons_zero]
            refine' wpAnyH_take (i := 21) (v := _) rfl (by kernel_rfl) (by kernel_rfl) (by kernel_rfl) (fun _ _ _ h => h) (Or.inl ⟨by kernel_rfl, ?hyc221⟩) (by assumption) ?restc221
            case hyc221 =>
              intro W hSw
              (try dsimp only at hSw)
              first | (go_simp; done) | (go_simp; with_reducible rfl)
            try simp only [Act.put]
            refine' wpAnyH_take (i := 22) (v := _) rfl (by kernel_rfl) (by kernel_rfl) (by kernel_rfl) (fun _ _ _ h => h) (Or.inl ⟨by kernel_rfl, ?hyc222⟩) (by assumption) ?restc222
            case hyc222 =>
              intro W hSw
              (try dsimp only at hSw)
              first | (go_simp; done) | (go_simp; with_reducible rfl)
            try simp only [Act.put, List.getElem_toArray, List.getElem_cons_succ, List.getElem_cons_zero, List.setIfInBounds_toArray, List.set_cons_succ, List.set_cons_zero]
            refine' wpAnyH_take (i := 23) (v := _) rfl (by kernel_rfl) (by kernel_rfl) (by kernel_rfl) (fun _ _ _ h => h) (Or.inl ⟨by kernel_rfl, ?hyc223⟩) (by assumption) ?restc223
            case hyc223 =>
              intro W hSw
              (try dsimp only at hSw)
              first | (go_simp; done) | (go_simp; with_reducible rfl)
            try simp only [Act.put]
            refine' wpAnyH_take (i := 24) (v := _) rfl (by kernel_rfl) (by kernel_rfl) (by kernel_rfl) (fun _ _ _ h => h) (Or.inl ⟨by kernel_rfl, ?hyc224⟩) (by assumption) ?restc224
            case hyc224 =>
              intro W hSw
              (try dsimp only at hSw)
              first | (go_simp; done) | (go_simp; with_reducible rfl)
            try simp only [Act.put, List.getElem_toArray, List.getElem_cons_succ, List.getElem_cons_zero, List.setIfInBounds_toArray, List.set_cons_succ, List.set_cons_zero]
            refine' wpAnyH_take (i := 25) (v := _) rfl (by kernel_rfl) (by kernel_rfl) (by kernel_rfl) (fun _ _ _ h => h) (Or.inl ⟨by kernel_rfl, ?hyc225⟩) (by assumption) ?restc225
            case hyc225 =>
              intro W hSw
              (try dsimp only at hSw)
              first | (go_simp; done) | (go_simp; with_reducible rfl)
            try simp only [Act.put]
            refine' wpAnyH_take (i := 26) (v := _) rfl (by kernel_rfl) (by kernel_rfl) (by kernel_rfl) (fun _ _ _ h => h) (Or.inl ⟨by kernel_rfl, ?hyc226⟩) (by assumption) ?restc226
            case hyc226 =>
              intro W hSw
              (try dsimp only at hSw)
              first | (go_simp; done) | (go_simp; with_reducible rfl)
            try simp only [Act.put, List.getElem_toArray, List.getElem_cons_succ, List.getElem_cons_zero, List.setIfInBounds_toArray, List.set_cons_succ, List.set_cons_zero]
            refine' wpAnyH_take (i := 27) (v := _) rfl (by kernel_rfl) (by kernel_rfl) (by kernel_rfl) (fun _ _ _ h => h) (Or.inl ⟨by kernel_rfl, ?hyc227⟩) (by assumption) ?restc227
            case hyc227 =>
              intro W hSw
              (try dsimp only at hSw)
              first | (go_simp; done) | (go_simp; with_reducible rfl)
            try simp only [Act.put, List.getElem_toArray, List.getElem_cons_succ, List.getElem_cons_zero, List.setIfInBounds_toArray, List.set_cons_succ, List.set_cons_zero]
            refine wpAnyH_done (by kernel_rfl) ?_ _
            try simp only [Act.put, List.getElem_toArray, List.getElem_cons_succ, List.getElem_cons_zero, List.setIfInBounds_toArray, List.set_cons_succ, List.set_cons_zero]
            go_wp2_with fail
            go_roundw
            case rel => exact ⟨k + 1, by omega, by go_num, HBf⟩
            case measure => simp [intOf]; omega
          · have e3 : ((k : Int) != (v6 : Int)) = true := by rw [bne_iff_ne]; omega
            have e4 : ((k : Int) == (v6 : Int)) = false := by rw [beq_eq_false_iff_ne]; omega
            have hab2 : an = bn := by
              have h := HOT.out k hkq
              rw [HGW.out, HGN.out] at h
              rw [← hal, ← hbl, h]
            have e5 : ((an : Int) != (bn : Int)) = false := by rw [hab2]; simp
            clear hab2 hkq
            go_wp2_with fail
            go_roundw
            case rel => exact ⟨k + 1, by omega, by go_num, HBe⟩
            case measure => simp [intOf]; omega
        · obtain rfl : k = 4 := by omega
          go_wp2_with fail
          go_ret
          exact ⟨rfl, below_on HB2.out (HG8.out.on HBr.out).below⟩
end Go.Proofs.Ytgefhgcpnfbigaa

/- The statement StageLetters holds for every argument, with no condition. -/
namespace Go.Proofs.Ytgefhgcpnfbigaa.stageLetters
open Go Go.ChangeShapes Go.WideShapes Go.ChangeAt Go.RowKit
open Go.ChangeMaps (open_string shut_string)

set_option maxRecDepth 100000 in
theorem lifted (os : Os) (started : os.Started) (H : Type) (enc : TypeId × Value → H) :
    ReturnsInHanded {} Try.checked os 7 .any (Rows.stageLettersSpec.pre6 enc Try.prog Try.f7 Rows.stageLettersRow.domain false) (Rows.stageLettersSpec.post enc Try.prog Try.f7 false true false false) := by
  refine returnsInHanded_of_change_sized (C := Try.checked) seatOwn started (by kernel_rfl) Try.func7
    (ChangeSpec.witness6 (enc := enc) (C := Try.checked) false ⟨#[], #[.slice none 0 0, .slice none 0 0, .int .i64 0], []⟩ 8 (by kernel_rfl) (by kernel_rfl) (by kernel_rfl) (by kernel_rfl)) ?_
  intro W base args ds gs before hval0 hW hcnd hsz0 _
  have hval : ∀ (j : Nat) t v, Try.f7.params[j]? = some t → args[j]? = some v → Value.okWide Try.prog W .any base t v := hval0
  have hsz : (DataW.weightsEach Try.prog (Try.f7.params.toList ++ Rows.stageLettersSpec.plain.varTypes Try.prog) (ds ++ gs)).all (· ≤ reachBytes) = true := hsz0
  have hW' := hW
  obtain ⟨p, q, hA0, hV, rfl, hfz, hnd⟩ := hW
  have hA : DataW.TrodAll enc Try.prog W 0 (fun _ => true) true Try.f7.params.toList args.toList ds p := hA0
  rw [Try.params7] at hA hval hsz
  obtain ⟨v0, vs0, d0, ds0, p0, q0, hargs, rfl, rfl, h0, r0⟩ := trodAll_cons hA
  obtain ⟨v1, vs1, d1, ds1, p1, q1, rfl, rfl, rfl, h1, r1⟩ := trodAll_cons r0
  obtain ⟨v2, vs2, d2, ds2, p2, q2, rfl, rfl, rfl, h2, r2⟩ := trodAll_cons r1
  obtain ⟨rfl, rfl, rfl⟩ := trodAll_nil r2
  obtain rfl : args = #[v0, v1, v2] := by cases args; simp_all
  obtain ⟨rfl, rfl⟩ := trodVars_none hV
  have k0 := h0
  have lt0 := args_below k0
  obtain ⟨fu0, hf0⟩ := h0
  obtain ⟨ia0, ilen0, icap0, rfl⟩ := okWide_slice Try.underlying24 (hval 0 24 v0 rfl rfl)
  obtain ⟨a0, n0, c0, l0, hv0, hn0, hi0, hc0, hm0, hz0⟩ := open_ints hf0 (fun elems spare e => by
    have := sized_slice hsz (j := 0) (t := 24) (e := 3) rfl (congrArg some e) Try.underlying24
    rwa [seatBytes2] at this)
  obtain ⟨ea0, en0, ec0⟩ := Value.slice.inj hv0
  subst ea0 en0 ec0
  have k1 := h1
  have lt1 := args_below k1
  obtain ⟨fu1, hf1⟩ := h1
  obtain ⟨ia1, ilen1, icap1, rfl⟩ := okWide_slice Try.underlying24 (hval 1 24 v1 rfl rfl)
  obtain ⟨a1, n1, c1, l1, hv1, hn1, hi1, hc1, hm1, hz1⟩ := open_ints hf1 (fun elems spare e => by
    have := sized_slice hsz (j := 1) (t := 24) (e := 3) rfl (congrArg some e) Try.underlying24
    rwa [seatBytes2] at this)
  obtain ⟨ea1, en1, ec1⟩ := Value.slice.inj hv1
  subst ea1 en1 ec1
  have k2 := h2
  have lt2 := args_below k2
  obtain ⟨a2, rfl, rfl, rfl, w2⟩ := open_int Try.underlying3 (hval 2 3 v2 rfl rfl) h2
  clear hA0 hval0 hsz0
  refine (stageLetters_walk ia0 ilen0 icap0 l0 ia1 ilen1 icap1 l1 a2 W hn0 hz0 hn1 hz1 ).mono fun e W' ⟨he, bel⟩ => ?_
  subst he
  exact ⟨_, rfl, _, _, _, [], _, [], hW', trodAll_mk1 (shut_bool Try.underlying4 _), (trodAll_cons_mk (Below.trod seatLaidOut (by kernel_rfl) (of_decide_eq_true (by kernel_rfl)) k0 bel lt0) (trodAll_cons_mk (Below.trod seatLaidOut (by kernel_rfl) (of_decide_eq_true (by kernel_rfl)) k1 bel lt1) (trodAll_cons_mk (Below.trod seatLaidOut (by kernel_rfl) (of_decide_eq_true (by kernel_rfl)) k2 bel lt2) trodAll_mk0))), rfl, bel.frame _, fun h => by cases h⟩

theorem over : Rows.stageLettersRow.holds Try.pinned (OpenSpec.ofChange Rows.stageLettersSpec) :=
  OpenClaim.holds_of_wide 7 Try.f7 rfl rfl rfl rfl rfl rfl rfl ⟨rfl, rfl, rfl, rfl, rfl⟩ rfl rfl rfl rfl rfl (by kernel_rfl) Try.func7 (by kernel_rfl)
    (of_decide_eq_true (by kernel_rfl)) (by unfold Func.isWrapper; first | (rw [if_pos (by decide +kernel)]; kernel_rfl) | (rw [if_neg (by decide +kernel)]; exact ⟨rfl, rfl⟩))
    (fun os started H enc _ => lifted os started H enc)

theorem proved : Rows.StageLettersSaid :=
  over
#print axioms proved
end Go.Proofs.Ytgefhgcpnfbigaa.stageLetters
