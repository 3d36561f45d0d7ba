/- Contract of reparteemake's any, with types: a valid protocol of two or three roles. (Printed out of XGlAny.) -/
import Derived.Test.YtiofpeckcfdilaaGreatDoorGlMakes
import Derived.Test.YtiofpeckcfdilaaGreatDoorGlTyp
import Derived.Test.YtiofpeckcfdilaaGreatDoorGlFirsts
import Derived.Test.YtiofpeckcfdilaaGreatDoorPjAlls
namespace Go.Proofs.YtiofpeckcfdilaaGreatDoor
open Go.RowKit

set_option maxHeartbeats 16000000 in
set_option maxRecDepth 20000 in
theorem anyT_any (g : Nat) (nm : ByteArray) (many : Nat) (ta : Option Addr) (tn tc : Nat) (h2 : 2 ≤ many) (h4 : many ≤ 4) (w : World) (hD : Dice w g) (hT : TyIn w g ta tn) :
    Calls Tryz.prog 56 #[.pointer (some ⟨g, 0, none⟩), .string nm, .int .i64 (many : Int), .slice ta tn tc] w fun e w' => ProtRet nm many w e w' ∧ Beside g w w' := by
  have hgl := hD.lt
  have HTY := Lib.hid hT
  have HB0 := Lib.hid (tu1 w (.cells #[.string ⟨#[]⟩, .slice none 0 0, .slice none 0 0] 37))
  have HR0 := Lib.hid (PBox.new w ⟨#[]⟩ none 0 0 none 0 0)
  have CP1 := Lib.hid (pick_at g 6 6 (w.alloc (.cells #[.string ⟨#[]⟩, .slice none 0 0, .slice none 0 0] 37)) rfl (hD.on HB0.out) (by omega) (by omega))
  clear hD hT
  go_enter Tryz.func56, Tryz.ntmps56
  go_upto_region 2 with (first
    | (go_at_call 28; (with_reducible refine CP1.out.mono ?_)
       rintro e w1 ⟨⟨m, hm, rfl⟩, hd1, hb1⟩
       have HD1 := Lib.hid hd1
       have HB1 := Lib.hid (hb1.cut HB0.out)
       have HR1 := Lib.hid (HR0.out.beside hb1 (by omega))
       clear hd1 hb1)
    | fail)
  have CR := Lib.hid (roles_any w1)
  have HRS := Lib.hid (rolObj_strs w1 (many := many) (by omega))
  have hs1 := HB1.out.size
  have hz1 : w.heap.size + 1 ≤ w1.heap.size := HR1.out.lt
  have i5 : (many : Int) ≤ 5 := by omega
  have i6 : (0 : Int) ≤ (many : Int) := by omega
  have hro := fun W => World.ownsRow_nil W (w.heap.size + 1) 9 1
  go_upto_region 3 with (first
    | (go_at_call 29; (with_reducible refine CR.out.mono ?_)
       rintro e w2 ⟨rfl, hw2⟩
       have HS2 := Lib.hid (show Strs w2 (w1.heap.size + 1) (some ⟨w1.heap.size, 0, none⟩) many (rolesL many) by rw [hw2]; exact HRS.out)
       have HB2 := Lib.hid (show Below w1.heap.size w1 w2 by rw [hw2]; exact tu1 w1 rolObj)
       have hz2 : w2.heap.size = w1.heap.size + 1 := by rw [hw2]; simp
       clear hw2)
    | (at_builtin
       refine wpList_append_strs _ rfl (.const (.slice none 0 0)) (.tmp 20) _ rfl (w.heap.size + 1) 9 Tryz.underlying34 info9 (.slice none 0 0) 0 [] rfl (World.ownsRow_nil _ _ _ _) (w1.heap.size + 1) _ many 5 (rolesL many) rfl HS2.out (by omega) (by omega) ?_
       intro v3 w3 own3 gr3 at3
       obtain ⟨ra, rc, hv3, hst3, _, _⟩ := Strs.of_own (n := many) (ss := rolesL many) (by rw [Nat.zero_add] at own3; exact own3) (by omega) (rolesL_max many)
       subst hv3
       have HR3 := Lib.hid (show RRow w3 (w.heap.size + 1) ra many rc (rolesL many) by unfold RRow; rw [Nat.zero_add] at own3; exact own3)
       have HB3 := Lib.hid (HB2.out.grown gr3 (by omega) (fun j hj => by cases hj))
       have hz3 := HB3.out.size
       clear own3 gr3 at3 hst3)
    | fail)
  have HB3w := Lib.hid (show Beside g w w3 from HB1.out.trans (Beside.of_below HB3.out))
  have HD3 := Lib.hid (HD1.out.on HB3.out)
  have HR3b := Lib.hid (HR1.out.on HB3.out)
  have HLP := Lib.hid (PBox.new w3 nm ra many rc none 0 0)
  have HB4 := Lib.hid (HB3w.out.alloc (.cells #[.string nm, .slice ra many rc, .slice none 0 0] 37))
  have HD4 := Lib.hid (HD3.out.on (tu1 w3 (.cells #[.string nm, .slice ra many rc, .slice none 0 0] 37)))
  have HRo4 := Lib.hid (HR3.out.on (tu1 w3 (.cells #[.string nm, .slice ra many rc, .slice none 0 0] 37)) (by omega))
  have HR4 := Lib.hid (HR3b.out.on (tu1 w3 (.cells #[.string nm, .slice ra many rc, .slice none 0 0] 37)))
  have CA := Lib.hid (fun (W : World) (h : Dice W g) (ht : TyIn W g ta tn) => makeArmsT_any g ta tn tc (m + 2) W h ht (by omega) (by omega))
  rw [show (((m + 2 : Nat) : Int)) = 1 + (m : Int) + 1 by omega] at CA
  have CPm := Lib.hid (fun (W : World) (h : Dice W g) => pick_any g many W h (by omega) (by omega))
  obtain ⟨o, ho⟩ : ∃ o, many = o + 1 := ⟨many - 1, by omega⟩
  have CPo := Lib.hid (fun (W : World) (h : Dice W g) => pick_at g ((many : Int) - 1) o W (by omega) h (by omega) (by omega))
  have HOE := Lib.hid ho
  have ho5 : o ≤ 5 := by omega
  clear ho
  have hsz3 : w.heap.size + 1 ≤ w3.heap.size := by omega
  clear hro
  go_wp2_with fail
  go_loopw [11] (fun i wr => ∃ (k : Nat) (sa : Option Addr) (sn sc : Nat) (f : List PointL), k ≤ m + 1 ∧ i = .int .i64 k ∧ f.length = k ∧ sn = k ∧ Hid (PRow wr (w3.heap.size + 1) wr.heap.size (.slice sa sn sc) f) ∧ Hid (∀ t ∈ f, pointB (rolesL many) (m + 2) t = true) ∧ Hid (PBox wr w3.heap.size nm ra many rc sa sn sc) ∧ Hid (Dice wr g) ∧ Hid (Beside g w wr) ∧ Hid (RRow wr (w.heap.size + 1) ra many rc (rolesL many)) ∧ Hid (PBox wr w.heap.size ⟨#[]⟩ none 0 0 none 0 0)) (fun i _ => m + 1 - (intOf i).toNat)
  case atStart => exact ⟨0, none, 0, 0, [], by omega, rfl, rfl, rfl, Lib.hid (PRow.zero _ _ _), Lib.hid (by simp), HLP, HD4, HB4, HRo4, HR4⟩
  case round =>
    obtain ⟨k, sa, sn, sc, f, hk, rfl, hfl, hsn, HO, HG, HLB, HD, HBr, HRo, HRs⟩ := hrel
    obtain rfl : k = sn := hsn.symm
    have HFL := Lib.hid hfl
    clear hfl
    have hzl := HLB.out.lt
    have hsz := HBr.out.size
    by_cases hlt : k < m + 1
    · have d1 : decide ((k : Int) < 1 + (m : Int)) = true := decide_eq_true (by omega)
      go_upto_region 7 with (first
        | (go_at_call 28; (with_reducible refine (CPm.out _ HD.out).mono ?_)
           rintro e w5 ⟨⟨kk, hkk, rfl⟩, hd5, hb5⟩
           have HD5 := Lib.hid hd5
           have HB5 := Lib.hid hb5
           clear hd5 hb5)
        | fail)
      have hne : ((many : Int) == 0) = false := by rw [beq_eq_false_iff_ne]; omega
      go_upto_region 8 with (first
        | (go_at_call 28; (with_reducible refine (CPo.out _ HD5.out).mono ?_)
           rintro e w6 ⟨⟨dd, hdd, rfl⟩, hd6, hb6⟩
           have HD6 := Lib.hid hd6
           have HB6 := Lib.hid (HB5.out.trans hb6)
           clear hd6 hb6)
        | fail)
      obtain ⟨q, hq, hqk, hmod⟩ := other_mod h2 hkk HOE.out hdd
      rw [hmod]
      clear hmod
      have HB6w := Lib.hid (HBr.out.trans HB6.out)
      have HRo6 := Lib.hid (HRo.out.beside HB6.out (by omega))
      have HRs6 := Lib.hid (HRs.out.beside HB6.out (by omega))
      have HL6 := Lib.hid (HLB.out.beside HB6.out (by omega))
      have HO6 := Lib.hid ((HO.out.beside HB6.out (by omega)).top (Nat.le_refl _))
      obtain ⟨rb, hrb, hrb1, hrb2, hrcell⟩ := HRo6.out.cell (by omega)
      have hck := hrcell kk _ (rolesL_at hkk)
      have hcq := hrcell q _ (rolesL_at hq)
      rw [baS_of] at hck hcq
      subst hrb
      have hrb3 : rb < w3.heap.size := (World.ownsRow.lt HR3.out rb rfl).2
      obtain ⟨_, _, _⟩ := HL6.out.cells
      have vf2 := HL6.out.thaw 2
      have hs6 := HB6.out.size
      have i1 : (kk : Int) < (many : Int) := by omega
      have i2 : (0 : Int) ≤ (kk : Int) := by omega
      have i3 : (q : Int) < (many : Int) := by omega
      have i4 : (0 : Int) ≤ (q : Int) := by omega
      have hwi : IntKind.i64.wrap (1 + (m : Int) + 1) = 1 + (m : Int) + 1 := i64_small (by omega) (by omega)
      have HDd := Lib.hid HD6.out.drew
      have HBd := Lib.hid (bes_drew HB6w.out)
      have HOd := Lib.hid HO6.out.drew
      have HLd := Lib.hid (show PBox w6.drew w3.heap.size nm (some ⟨rb, 0, none⟩) many rc sa k sc from HL6.out)
      have HRd := Lib.hid (show RRow w6.drew (w.heap.size + 1) (some ⟨rb, 0, none⟩) many rc (rolesL many) from HRo6.out.beside (g := 0) ⟨rfl, rfl, rfl, Nat.le_refl _, fun _ _ _ => rfl⟩ (by omega))
      have HSd := Lib.hid (show PBox w6.drew w.heap.size ⟨#[]⟩ none 0 0 none 0 0 from HRs6.out)
      have HCK := Lib.hid (And.intro hck hcq)
      clear hrcell
      have HKS := Lib.hid (fun (W : World) (hL : PBox W w3.heap.size nm (some ⟨rb, 0, none⟩) many rc sa k sc) (hC : W.cell? ⟨rb, kk, none⟩ = some (.string (rolS kk)) ∧ W.cell? ⟨rb, q, none⟩ = some (.string (rolS q))) => show W.cell? ⟨w3.heap.size, 0, none⟩ = some (.string nm) ∧ W.cell? ⟨w3.heap.size, 1, none⟩ = some (.slice (some ⟨rb, 0, none⟩) many rc) ∧ W.cell? ⟨w3.heap.size, 2, none⟩ = some (.slice sa k sc) ∧ W.cell? ⟨rb, kk, none⟩ = some (.string (rolS kk)) ∧ W.cell? ⟨rb, q, none⟩ = some (.string (rolS q)) from
        ⟨hL.cells.1, hL.cells.2.1, hL.cells.2.2, hC.1, hC.2⟩)
      clear hck hcq
      go_wp2
      refine wp_region_last2 (S := fun W => W.cell? ⟨w3.heap.size, 0, none⟩ = some (.string nm) ∧ W.cell? ⟨w3.heap.size, 1, none⟩ = some (.slice (some ⟨rb, 0, none⟩) many rc) ∧ W.cell? ⟨w3.heap.size, 2, none⟩ = some (.slice sa k sc) ∧ W.cell? ⟨rb, kk, none⟩ = some (.string (rolS kk)) ∧ W.cell? ⟨rb, q, none⟩ = some (.string (rolS q))) rfl (by kernel_rfl) (by kernel_rfl) (HKS.out _ HLd.out HCK.out) (fun hHeld => ?_)
      simp only [List.pop_toArray, List.dropLast_cons_cons, List.dropLast_singleton]
      try simp only [Act.put, List.setIfInBounds_toArray]
      refine' wpAnyH_take (i := 0) (v := _) rfl (by kernel_rfl) (by kernel_rfl) (by kernel_rfl) (fun _ _ _ h => h) (Or.inl ⟨by rfl, ?hy0⟩) (by assumption) ?rest0
      case hy0 =>
        intro W hSw
        (try dsimp only at hSw)
        first | (go_simp; done) | (go_simp; with_reducible rfl)
      try simp only [Act.put, List.setIfInBounds_toArray]
      refine' wpAnyH_take (i := 1) (v := _) rfl (by kernel_rfl) (by kernel_rfl) (by kernel_rfl) (fun _ _ _ h => h) (Or.inl ⟨by rfl, ?hy1⟩) (by assumption) ?rest1
      case hy1 =>
        intro W hSw
        (try dsimp only at hSw)
        first | (go_simp; done) | (go_simp; with_reducible rfl)
      try simp only [Act.put]
      refine' wpAnyH_take (i := 2) (v := _) rfl (by kernel_rfl) (by kernel_rfl) (by kernel_rfl) (fun _ _ _ h => h) (Or.inl ⟨by rfl, ?hy2⟩) (by assumption) ?rest2
      case hy2 =>
        intro W hSw
        (try dsimp only at hSw)
        first | (go_simp; done) | (go_simp; with_reducible rfl)
      try simp only [Act.put]
      refine' wpAnyH_take (i := 3) (v := _) rfl (by kernel_rfl) (by kernel_rfl) (by kernel_rfl) (fun _ _ _ h => h) (Or.inl ⟨by rfl, ?hy3⟩) (by assumption) ?rest3
      case hy3 =>
        intro W hSw
        (try dsimp only at hSw)
        first | (go_simp; done) | (go_simp; with_reducible rfl)
      try simp only [Act.put]
      refine' wpAnyH_take (i := 4) (v := _) rfl (by kernel_rfl) (by kernel_rfl) (by kernel_rfl) (fun _ _ _ h => h) (Or.inl ⟨by rfl, ?hy4⟩) (by assumption) ?rest4
      case hy4 =>
        intro W hSw
        (try dsimp only at hSw)
        first | (go_simp; done) | (go_simp; with_reducible rfl)
      try simp only [Act.put]
      refine' wpAnyH_take (i := 5) (v := _) rfl (by kernel_rfl) (by kernel_rfl) (by kernel_rfl) (fun _ _ _ h => h) (Or.inl ⟨by rfl, ?hy5⟩) (by assumption) ?rest5
      case hy5 =>
        intro W hSw
        (try dsimp only at hSw)
        first | (go_simp; done) | (go_simp; with_reducible rfl)
      try simp only [Act.put]
      refine' wpAnyH_take (i := 6) (v := _) rfl (by kernel_rfl) (by kernel_rfl) (by kernel_rfl) (fun _ _ _ h => h) (Or.inl ⟨by rfl, ?hy6⟩) (by assumption) ?rest6
      case hy6 =>
        intro W hSw
        (try dsimp only at hSw)
        first | (go_simp; done) | (go_simp; with_reducible rfl)
      try simp only [Act.put]
      refine' wpAnyH_take (i := 7) (v := _) rfl (by kernel_rfl) (by kernel_rfl) (by kernel_rfl) (fun _ _ _ h => h) (Or.inl ⟨by rfl, ?hy7⟩) (by assumption) ?rest7
      case hy7 =>
        intro W hSw
        (try dsimp only at hSw)
        first | (go_simp; done) | (go_simp; with_reducible rfl)
      try simp only [Act.put]
      refine' wpAnyH_take (i := 8) (v := _) rfl (by kernel_rfl) (by kernel_rfl) (by kernel_rfl) (fun _ _ _ h => h) (Or.inl ⟨by rfl, ?hy8⟩) (by assumption) ?rest8
      case hy8 =>
        intro W hSw
        (try dsimp only at hSw)
        first | (go_simp; done) | (go_simp; with_reducible rfl)
      try simp only [Act.put]
      refine' wpAnyH_take (i := 9) (v := _) rfl (by kernel_rfl) (by kernel_rfl) (by kernel_rfl) (fun _ _ _ h => h) (Or.inl ⟨by rfl, ?hy9⟩) (by assumption) ?rest9
      case hy9 =>
        intro W hSw
        (try dsimp only at hSw)
        first | (go_simp; done) | (go_simp; with_reducible rfl)
      try simp only [Act.put]
      refine' wpAnyH_take (i := 10) (v := _) rfl (by kernel_rfl) (by kernel_rfl) (by kernel_rfl) (fun _ _ _ h => h) (Or.inl ⟨by rfl, ?hy10⟩) (by assumption) ?rest10
      case hy10 =>
        intro W hSw
        (try dsimp only at hSw)
        first | (go_simp; done) | (go_simp; with_reducible rfl)
      try simp only [Act.put]
      refine' wpAnyH_take (i := 11) (v := _) rfl (by kernel_rfl) (by kernel_rfl) (by kernel_rfl) (fun _ _ _ h => h) (Or.inl ⟨by rfl, ?hy11⟩) (by assumption) ?rest11
      case hy11 =>
        intro W hSw
        (try dsimp only at hSw)
        first | (go_simp; done) | (go_simp; with_reducible rfl)
      try simp only [Act.put]
      refine' wpAnyH_take (i := 12) (v := _) rfl (by kernel_rfl) (by kernel_rfl) (by kernel_rfl) (fun _ _ _ h => h) (Or.inl ⟨by rfl, ?hy12⟩) (by assumption) ?rest12
      case hy12 =>
        intro W hSw
        (try dsimp only at hSw)
        first | (go_simp; done) | (go_simp; with_reducible rfl)
      try simp only [Act.put]
      refine' wpAnyH_take (i := 13) (v := _) rfl (by kernel_rfl) (by kernel_rfl) (by kernel_rfl) (fun _ _ _ h => h) (Or.inl ⟨by rfl, ?hy13⟩) (by assumption) ?rest13
      case hy13 =>
        intro W hSw
        (try dsimp only at hSw)
        first | (go_simp; done) | (go_simp; with_reducible rfl)
      try simp only [Act.put]
      refine' wpAnyH_take (i := 14) (v := _) rfl (by kernel_rfl) (by kernel_rfl) (by kernel_rfl) (fun _ _ _ h => h) (Or.inl ⟨by rfl, ?hy14⟩) (by assumption) ?rest14
      case hy14 =>
        intro W hSw
        (try dsimp only at hSw)
        first | (go_simp; done) | (go_simp; with_reducible rfl)
      try simp only [Act.put]
      refine' wpAnyH_take (i := 15) (v := _) rfl (by kernel_rfl) (by kernel_rfl) (by kernel_rfl) (fun _ _ _ h => h) (Or.inl ⟨by rfl, ?hy15⟩) (by assumption) ?rest15
      case hy15 =>
        intro W hSw
        (try dsimp only at hSw)
        first | (go_simp; done) | (go_simp; with_reducible rfl)
      try simp only [Act.put]
      refine wpAnyH_ready (rs := [16]) (by kernel_rfl) (by simp) ?_
      refine AllReadyH.cons (i := 16) (o := _) rfl (fun K hK => ?_) AllReadyH.nil
      go_simp
      go_at_call 30
      with_reducible refine (CA.out _ HDd.out (HTY.out.beside HBd.out)).mono ?_
      rintro e w7 ⟨⟨va, l, he7, hal, hok⟩, hd7, hb7⟩
      subst he7
      have hl6 := (armsB_all hok).2.2.2
      obtain ⟨aa, ac, hva, _, _, _⟩ := hal.sees (by omega)
      obtain ⟨an, han⟩ : ∃ an, an = l.length := ⟨_, rfl⟩
      rw [← han] at hva
      clear han
      subst hva
      have hck7 := (hb7.cell (p := ⟨rb, kk, none⟩) (by show rb < _; exact hrb2) (by show rb ≠ g; omega)).trans HCK.out.1
      have hcq7 := (hb7.cell (p := ⟨rb, q, none⟩) (by show rb < _; exact hrb2) (by show rb ≠ g; omega)).trans HCK.out.2
      have HA7 := Lib.hid (show AOwn w7 w6.heap.size (PR.arms ⟨rolS kk, rolS q, aa, an, ac⟩) l from hal)
      have HOK := Lib.hid hok
      have HAL := Lib.hid (show l.length ≤ 1000 by omega)
      have HD7 := Lib.hid hd7
      have HB7 := Lib.hid (HBd.out.trans hb7)
      have HO7 := Lib.hid (show PRow w7 (w3.heap.size + 1) w6.heap.size (.slice sa k sc) f from ((HOd.out.top (Nat.le_refl _)).beside hb7 (by omega)))
      have HL7 := Lib.hid (HLd.out.beside hb7 (by omega))
      have HRo7 := Lib.hid (HRd.out.beside hb7 (by omega))
      have HRs7 := Lib.hid (HSd.out.beside hb7 (by omega))
      have hs7 : w6.heap.size ≤ w7.heap.size := hb7.size
      have hq7 : w3.heap.size < w7.heap.size := HL7.out.lt
      have HCK7 := Lib.hid (And.intro hck7 hcq7)
      clear hal hok hd7 hb7 hl6 hck7 hcq7
      refine hK.out _ _ (HKS.out _ HL7.out HCK7.out) (fun hHeld => ?_)
      clear hK K
      try simp only [Act.put, List.setIfInBounds_toArray, List.set_cons_zero, List.set_cons_succ]
      refine' wpAnyH_take (i := 17) (v := _) rfl (by kernel_rfl) (by kernel_rfl) (by kernel_rfl) (fun _ _ _ h => h) (Or.inl ⟨by rfl, ?hy17⟩) (by assumption) ?rest17
      case hy17 =>
        intro W hSw
        (try dsimp only at hSw)
        first | (go_simp; done) | (go_simp; with_reducible rfl)
      try simp only [Act.put, List.setIfInBounds_toArray]
      refine wpAnyH_ready (rs := [18]) (by kernel_rfl) (by simp) ?_
      refine AllReadyH.cons (i := 18) (o := _) rfl (fun K hK => ?_) AllReadyH.nil
      go_simp
      refine hK.out _ _ (HKS.out _ (HL7.out.on (tu1 _ _)) ⟨((tu1 w7 _).cell (p := ⟨rb, kk, none⟩) (show rb < w7.heap.size by omega)).trans HCK7.out.1, ((tu1 w7 _).cell (p := ⟨rb, q, none⟩) (show rb < w7.heap.size by omega)).trans HCK7.out.2⟩) (fun hHeld => ?_)
      clear hK K
      try simp only [Act.put, List.setIfInBounds_toArray, List.set_cons_zero, List.set_cons_succ]
      refine wpAnyH_ready (rs := [19]) (by kernel_rfl) (by simp) ?_
      refine AllReadyH.cons (i := 19) (o := _) rfl (fun K hK => ?_) AllReadyH.nil
      refine step_append_mpoint w7 (by rfl) (.tmp 41) (.tmp 58) (by rfl) (w3.heap.size + 1) w6.heap.size (.slice sa k sc) f ⟨rolS kk, rolS q, aa, an, ac⟩ ⟨(rolS kk).toList, (rolS q).toList, l⟩ (by rfl) (by rfl) (by rfl) HO7.out ⟨⟨rfl, rolS_small kk⟩, rfl, rolS_small q, HAL.out⟩ HA7.out (by omega) (by omega) (by have := HFL.out; omega) w7 (Below.refl _ _) ?_
      intro v5 w5 hown hbel
      obtain ⟨sa5, sc5, hv5, _⟩ := hown.powns.sees (by rw [List.length_append, List.length_singleton, HFL.out]; omega)
      rw [List.length_append, List.length_singleton, HFL.out] at hv5
      subst hv5
      have HO5 := Lib.hid hown
      have HL5 := Lib.hid (show PBox w5 w3.heap.size nm (some ⟨rb, 0, none⟩) many rc sa k sc from (hbel.block w3.heap.size (by omega)).trans HL7.out)
      have HD5 := Lib.hid (HD7.out.below hbel (by omega))
      have HB5 := Lib.hid (bes_below HB7.out hbel (by omega))
      have HRs5 := Lib.hid (show PBox w5 w.heap.size ⟨#[]⟩ none 0 0 none 0 0 from (hbel.block w.heap.size (by omega)).trans HRs7.out)
      have HRo5 := Lib.hid (show RRow w5 (w.heap.size + 1) (some ⟨rb, 0, none⟩) many rc (rolesL many) from HRo7.out.below hbel (by omega))
      have hs5 := hbel.size
      have uf2 := HL5.out.thaw 2
      have HCK5 := Lib.hid (show w5.cell? ⟨rb, kk, none⟩ = some (.string (rolS kk)) ∧ w5.cell? ⟨rb, q, none⟩ = some (.string (rolS q)) from ⟨(hbel.cell (p := ⟨rb, kk, none⟩) (show rb < w3.heap.size + 1 by omega)).trans HCK7.out.1, (hbel.cell (p := ⟨rb, q, none⟩) (show rb < w3.heap.size + 1 by omega)).trans HCK7.out.2⟩)
      clear hown hbel
      refine hK.out _ _ (HKS.out _ HL5.out HCK5.out) (fun hHeld => ?_)
      clear hK K
      try simp only [Act.put, List.setIfInBounds_toArray]
      refine' wpAnyH_take (i := 20) (v := _) rfl (by kernel_rfl) (by kernel_rfl) (by kernel_rfl) (fun _ _ _ h => h) (Or.inl ⟨by rfl, ?hy20⟩) (by assumption) ?rest20
      case hy20 =>
        intro W hSw
        (try dsimp only at hSw)
        first | (go_simp; done) | (go_simp; with_reducible rfl)
      try simp only [Act.put]
      refine wpAnyH_done (by kernel_rfl) ?_ _
      unfold LastPost
      obtain ⟨_, _, _⟩ := HL5.out.cells
      go_simp
      go_wp2_with fail
      have HBS := Lib.hid (fun (u : Value) => ((Beside.refl w3.heap.size w5).setCell 2 u))
      have HBL := Lib.hid (fun (u : Value) => ((Below.refl w3.heap.size w5).setCell (p := ⟨w3.heap.size, 2, none⟩) (Nat.le_refl _) u))
      have HG5 := Lib.hid (show ∀ t ∈ f ++ [(⟨(rolS kk).toList, (rolS q).toList, l⟩ : PointL)], pointB (rolesL many) (m + 2) t = true from fun t ht => by
        rcases List.mem_append.1 ht with ht | ht
        · exact HG.out t ht
        · rw [List.mem_singleton.1 ht]
          unfold pointB
          rw [decide_eq_true (rolS_ne (by omega) (by omega) (fun e => hqk e.symm)), decide_eq_true (List.mem_of_getElem? (rolesL_at hkk)), decide_eq_true (List.mem_of_getElem? (rolesL_at hq)), HOK.out]
          simp)
      go_roundw
      case rel => exact ⟨k + 1, sa5, k + 1, sc5, f ++ [⟨(rolS kk).toList, (rolS q).toList, l⟩], by omega, by go_num, by rw [List.length_append, HFL.out]; rfl, rfl, Lib.hid ((HO5.out.beside (HBS.out _) (by omega)).top (Nat.le_refl _)), HG5, Lib.hid (PBox.set HL5.out), Lib.hid (HD5.out.below (HBL.out _) (by omega)), Lib.hid (bes_below HB5.out (HBL.out _) (by omega)), Lib.hid (HRo5.out.below (HBL.out _) hrb3), Lib.hid ((heap_setCell_ne (by omega)).trans HRs5.out)⟩
      case measure => simp [intOf]; omega
    · have d1 : decide ((k : Int) < 1 + (m : Int)) = false := decide_eq_false (by omega)
      obtain ⟨_, _, _⟩ := HLB.out.cells
      have pf2 := HLB.out.thaw 2
      go_wp2_with (first
        | (at_builtin
           refine wpList_append_mpoint rfl (.tmp 62) (.tmp 64) rfl (w3.heap.size + 1) wr.heap.size (.slice sa k sc) f ⟨⟨#[]⟩, ⟨#[]⟩, none, 0, 0⟩ ⟨[], [], []⟩ rfl rfl rfl rfl HO.out ⟨⟨by rw [ByteArray.toList_eq], by simp [maxLen, ByteArray.size]⟩, by rw [ByteArray.toList_eq], by simp [maxLen, ByteArray.size], by simp⟩ (AOwn.zero _ _) (by omega) (Nat.le_refl _) (by have := HFL.out; omega) wr (Below.refl _ _) ?_
           intro v5 w5 hown hbel
           obtain ⟨sa5, sc5, hv5, _⟩ := hown.powns.sees (by rw [List.length_append, List.length_singleton, HFL.out]; omega)
           rw [List.length_append, List.length_singleton, HFL.out] at hv5
           subst hv5
           have HO5 := Lib.hid hown
           have HL5 := Lib.hid (show PBox w5 w3.heap.size nm ra many rc sa k sc from (hbel.block w3.heap.size (by omega)).trans HLB.out)
           have HB5 := Lib.hid (bes_below HBr.out hbel (by omega))
           have HRs5 := Lib.hid (show PBox w5 w.heap.size ⟨#[]⟩ none 0 0 none 0 0 from (hbel.block w.heap.size (by omega)).trans HRs.out)
           obtain ⟨rb, hrb, _, _, _⟩ := HRo.out.cell (by omega)
           have HRo5 := Lib.hid (show RRow w5 (w.heap.size + 1) ra many rc (rolesL many) from by
             subst hrb
             exact HRo.out.below hbel (by have := (World.ownsRow.lt HR3.out rb rfl).2; omega))
           clear hrb
           have hs5 := hbel.size
           obtain ⟨_, _, _⟩ := HL5.out.cells
           have uf2 := HL5.out.thaw 2
           have zf0 := HRs5.out.thaw 0
           have zf1 := HRs5.out.thaw 1
           have zf2 := HRs5.out.thaw 2
           obtain ⟨rc0, rc1, rc2⟩ := HRs5.out.cells
           clear hown hbel)
        | fail)
      have hkm : k = m + 1 := by omega
      have HBS := Lib.hid (fun (u : Value) => ((Beside.refl w3.heap.size w5).setCell 2 u))
      have HBL := Lib.hid (fun (u : Value) => ((Below.refl w3.heap.size w5).setCell (p := ⟨w3.heap.size, 2, none⟩) (Nat.le_refl _) u))
      have HO6 := Lib.hid ((HO5.out.beside (HBS.out (.slice sa5 (k + 1) sc5)) (by omega)).top (Nat.le_refl _))
      have HB6 := Lib.hid (bes_below HB5.out (HBL.out (.slice sa5 (k + 1) sc5)) (by omega))
      have HRs6 := Lib.hid (show PBox (w5.setCell ⟨w3.heap.size, 2, none⟩ (.slice sa5 (k + 1) sc5)) w.heap.size ⟨#[]⟩ none 0 0 none 0 0 from (heap_setCell_ne (by omega)).trans HRs5.out)
      have HRo6 := Lib.hid (show RRow (w5.setCell ⟨w3.heap.size, 2, none⟩ (.slice sa5 (k + 1) sc5)) (w.heap.size + 1) ra many rc (rolesL many) from by
        obtain ⟨rb, hrb, _, _, _⟩ := HRo.out.cell (by omega)
        subst hrb
        exact HRo5.out.below (HBL.out _) (World.ownsRow.lt HR3.out rb rfl).2)
      generalize hw6 : w5.setCell ⟨w3.heap.size, 2, none⟩ (.slice sa5 (k + 1) sc5) = w6 at HO6 HB6 HRs6 HRo6 ⊢
      clear hw6
      obtain ⟨rc0, rc1, rc2⟩ := HRs6.out.cells
      refine bodyPost_ret (v := .agg #[.string nm, .slice ra many rc, .slice sa5 (k + 1) sc5]) (by simp [results, go_sem, rc0, rc1, rc2]) rfl ?_
      have hbs := (((Beside.refl w.heap.size w6).setCell 0 (.string nm)).setCell 1 (.slice ra many rc)).setCell 2 (.slice sa5 (k + 1) sc5)
      have hbl : Below w.heap.size w6 (((w6.setCell ⟨w.heap.size, 0, none⟩ (.string nm)).setCell ⟨w.heap.size, 1, none⟩ (.slice ra many rc)).setCell ⟨w.heap.size, 2, none⟩ (.slice sa5 (k + 1) sc5)) := (((Below.refl w.heap.size w6).setCell (Nat.le_refl _) _).setCell (Nat.le_refl _) _).setCell (Nat.le_refl _) _
      have hl : (f ++ [(⟨[], [], []⟩ : PointL)]).length = k + 1 := by rw [List.length_append, HFL.out]; rfl
      refine ⟨⟨ra, rc, sa5, k + 1, sc5, f ++ [⟨[], [], []⟩], rfl, ?_, ?_, hl, ?_, by omega, by omega⟩, bes_below HB6.out hbl (Nat.le_refl _)⟩
      · have hm := (HO6.out.beside hbs (by omega)).top (Nat.le_refl _)
        exact hm.low (by omega)
      · exact (HRo6.out.beside hbs (by omega)).low (by omega)
      · rw [hl, hkm]
        intro x hx
        rcases List.mem_append.1 hx with hx | hx
        · exact HG.out x hx
        · rw [List.mem_singleton.1 hx]
          rfl
end Go.Proofs.YtiofpeckcfdilaaGreatDoor

/- The statements' protocols with types: out of numbers that begin with 0 or 2. (Printed out of XGlProt.) -/
namespace Go.Proofs.YtiofpeckcfdilaaGreatDoor
open Go.RowKit

set_option maxHeartbeats 8000000 in
set_option maxRecDepth 20000 in
theorem prot2T_any (g : Nat) (nm : ByteArray) (ta : Option Addr) (tn tc : Nat) (w : World) (hD : DiceX w g 2) (hT : TyIn w g ta tn) :
    Calls Tryz.prog 22 #[.pointer (some ⟨g, 0, none⟩), .string nm, .slice ta tn tc] w fun e w' => ProtRet nm 3 w e w' ∧ Beside g w w' := by
  have hgl := hD.lt
  have HTY := Lib.hid hT
  have HB0 := Lib.hid (tu1 w (.cells #[.string ⟨#[]⟩, .slice none 0 0, .slice none 0 0] 37))
  have HR0 := Lib.hid (PBox.new w ⟨#[]⟩ none 0 0 none 0 0)
  have CP := Lib.hid (show Calls Tryz.prog 28 #[.pointer (some ⟨g, 0, none⟩), .int .i64 4] (w.alloc (.cells #[.string ⟨#[]⟩, .slice none 0 0, .slice none 0 0] 37)) fun e w' => e = .returned (.int .i64 2) ∧ Dice w' g ∧ Beside g (w.alloc (.cells #[.string ⟨#[]⟩, .slice none 0 0, .slice none 0 0] 37)) w' from pickX_any g 2 (by omega) _ (hD.on HB0.out))
  have CA := Lib.hid (fun (W : World) (h : Dice W g) (ht : TyIn W g ta tn) => show Calls Tryz.prog 56 #[.pointer (some ⟨g, 0, none⟩), .string nm, .int .i64 3, .slice ta tn tc] W fun e w' => ProtRet nm 3 W e w' ∧ Beside g W w' from anyT_any g nm 3 ta tn tc (by omega) (by omega) W h ht)
  clear hD hT
  go_enter Tryz.func22, Tryz.ntmps22
  go_wp2_with (first
    | (go_at_call 28; (with_reducible refine CP.out.mono ?_)
       rintro e w1 ⟨rfl, hd1, hb1⟩
       have HD1 := Lib.hid hd1
       have HB1 := Lib.hid (hb1.cut HB0.out)
       have HR1 := Lib.hid (HR0.out.beside hb1 (by omega))
       clear hd1 hb1)
    | (go_at_call 56; (with_reducible refine (CA.out _ HD1.out (HTY.out.beside HB1.out)).mono ?_)
       rintro e w2 ⟨⟨ra, rc, sa, sn, sc, ps, rfl, hm, hr, hl, hok, h2, h9⟩, hb2⟩
       have HM := Lib.hid hm
       have HRo := Lib.hid hr
       have HB2 := Lib.hid (HB1.out.trans hb2)
       have HR2 := Lib.hid (HR1.out.beside hb2 (by omega))
       have HE := Lib.hid (show ps.length = sn ∧ (∀ x ∈ ps, pointB (rolesL 3) ps.length x = true) ∧ 2 ≤ ps.length ∧ ps.length ≤ 9 from ⟨hl, hok, h2, h9⟩)
       obtain ⟨rc0, rc1, rc2⟩ := HR2.out.cells
       have zf0 := HR2.out.thaw 0
       have zf1 := HR2.out.thaw 1
       have zf2 := HR2.out.thaw 2
       clear hm hr hl hok h2 h9 hb2)
    | fail)
  refine bodyPost_ret (v := .agg #[.string nm, .slice ra 3 rc, .slice sa sn sc]) (by simp [results, go_sem, rc0, rc1, rc2]) rfl ?_
  have hz := HR1.out.lt
  have hbs := (((Beside.refl w.heap.size w2).setCell 0 (.string nm)).setCell 1 (.slice ra 3 rc)).setCell 2 (.slice sa sn sc)
  have hbl : Below w.heap.size w2 (((w2.setCell ⟨w.heap.size, 0, none⟩ (.string nm)).setCell ⟨w.heap.size, 1, none⟩ (.slice ra 3 rc)).setCell ⟨w.heap.size, 2, none⟩ (.slice sa sn sc)) := (((Below.refl w.heap.size w2).setCell (Nat.le_refl _) _).setCell (Nat.le_refl _) _).setCell (Nat.le_refl _) _
  refine ⟨⟨ra, rc, sa, sn, sc, ps, rfl, ?_, ?_, HE.out.1, HE.out.2.1, HE.out.2.2.1, HE.out.2.2.2⟩, bes_below HB2.out hbl (Nat.le_refl _)⟩
  · have hm := (HM.out.beside hbs (by omega)).top (Nat.le_refl _)
    exact hm.low (by omega)
  · exact (HRo.out.beside hbs (by omega)).low (by omega)
set_option maxHeartbeats 8000000 in
set_option maxRecDepth 20000 in
theorem prot0T_any (g : Nat) (nm : ByteArray) (ta : Option Addr) (tn tc : Nat) (w : World) (hD : DiceX w g 0) (hT : TyIn w g ta tn) :
    Calls Tryz.prog 22 #[.pointer (some ⟨g, 0, none⟩), .string nm, .slice ta tn tc] w fun e w' => ProtRet nm 2 w e w' ∧ Beside g w w' := by
  have hgl := hD.lt
  have HTY := Lib.hid hT
  have HB0 := Lib.hid (tu1 w (.cells #[.string ⟨#[]⟩, .slice none 0 0, .slice none 0 0] 37))
  have HR0 := Lib.hid (PBox.new w ⟨#[]⟩ none 0 0 none 0 0)
  have CP := Lib.hid (show Calls Tryz.prog 28 #[.pointer (some ⟨g, 0, none⟩), .int .i64 4] (w.alloc (.cells #[.string ⟨#[]⟩, .slice none 0 0, .slice none 0 0] 37)) fun e w' => e = .returned (.int .i64 0) ∧ Dice w' g ∧ Beside g (w.alloc (.cells #[.string ⟨#[]⟩, .slice none 0 0, .slice none 0 0] 37)) w' from pickX_any g 0 (by omega) _ (hD.on HB0.out))
  have CA := Lib.hid (fun (W : World) (h : Dice W g) (ht : TyIn W g ta tn) => show Calls Tryz.prog 56 #[.pointer (some ⟨g, 0, none⟩), .string nm, .int .i64 2, .slice ta tn tc] W fun e w' => ProtRet nm 2 W e w' ∧ Beside g W w' from anyT_any g nm 2 ta tn tc (by omega) (by omega) W h ht)
  clear hD hT
  go_enter Tryz.func22, Tryz.ntmps22
  go_wp2_with (first
    | (go_at_call 28; (with_reducible refine CP.out.mono ?_)
       rintro e w1 ⟨rfl, hd1, hb1⟩
       have HD1 := Lib.hid hd1
       have HB1 := Lib.hid (hb1.cut HB0.out)
       have HR1 := Lib.hid (HR0.out.beside hb1 (by omega))
       clear hd1 hb1)
    | (go_at_call 56; (with_reducible refine (CA.out _ HD1.out (HTY.out.beside HB1.out)).mono ?_)
       rintro e w2 ⟨⟨ra, rc, sa, sn, sc, ps, rfl, hm, hr, hl, hok, h2, h9⟩, hb2⟩
       have HM := Lib.hid hm
       have HRo := Lib.hid hr
       have HB2 := Lib.hid (HB1.out.trans hb2)
       have HR2 := Lib.hid (HR1.out.beside hb2 (by omega))
       have HE := Lib.hid (show ps.length = sn ∧ (∀ x ∈ ps, pointB (rolesL 2) ps.length x = true) ∧ 2 ≤ ps.length ∧ ps.length ≤ 9 from ⟨hl, hok, h2, h9⟩)
       obtain ⟨rc0, rc1, rc2⟩ := HR2.out.cells
       have zf0 := HR2.out.thaw 0
       have zf1 := HR2.out.thaw 1
       have zf2 := HR2.out.thaw 2
       clear hm hr hl hok h2 h9 hb2)
    | fail)
  refine bodyPost_ret (v := .agg #[.string nm, .slice ra 2 rc, .slice sa sn sc]) (by simp [results, go_sem, rc0, rc1, rc2]) rfl ?_
  have hz := HR1.out.lt
  have hbs := (((Beside.refl w.heap.size w2).setCell 0 (.string nm)).setCell 1 (.slice ra 2 rc)).setCell 2 (.slice sa sn sc)
  have hbl : Below w.heap.size w2 (((w2.setCell ⟨w.heap.size, 0, none⟩ (.string nm)).setCell ⟨w.heap.size, 1, none⟩ (.slice ra 2 rc)).setCell ⟨w.heap.size, 2, none⟩ (.slice sa sn sc)) := (((Below.refl w.heap.size w2).setCell (Nat.le_refl _) _).setCell (Nat.le_refl _) _).setCell (Nat.le_refl _) _
  refine ⟨⟨ra, rc, sa, sn, sc, ps, rfl, ?_, ?_, HE.out.1, HE.out.2.1, HE.out.2.2.1, HE.out.2.2.2⟩, bes_below HB2.out hbl (Nat.le_refl _)⟩
  · have hm := (HM.out.beside hbs (by omega)).top (Nat.le_refl _)
    exact hm.low (by omega)
  · exact (HRo.out.beside hbs (by omega)).low (by omega)
abbrev tyO8 : Obj := .cells #[.string ⟨#[112, 46, 97]⟩, .string ⟨#[116]⟩] 9
theorem types8 (w : World) (g : Nat) (hg : g < w.heap.size) : TyIn (w.alloc tyO8) g (some ⟨w.heap.size, 0, none⟩) 2 := by
  refine ⟨by omega, fun j hj => ?_⟩
  have : j = 0 ∨ j = 1 := by omega
  rcases this with rfl | rfl
  · exact ⟨w.heap.size, 0, ⟨#[112, 46, 97]⟩, rfl, by omega, by simp, by unfold tyO8; rw [cell_of_row _ _ _ _ _ _ (heap_alloc_new w _)]; rfl, by simp [maxLen, ByteArray.size], by rw [ByteArray.toList_eq]; decide⟩
  · exact ⟨w.heap.size, 0, ⟨#[116]⟩, rfl, by omega, by simp, by unfold tyO8; rw [cell_of_row _ _ _ _ _ _ (heap_alloc_new w _)]; rfl, by simp [maxLen, ByteArray.size], by rw [ByteArray.toList_eq]; decide⟩
end Go.Proofs.YtiofpeckcfdilaaGreatDoor
