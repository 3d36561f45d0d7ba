/- The law NamesPut returns true for every list and string. -/
import Derived.Test.YthgihoeeppincaaDoorNmLawFresh
import Derived.Laws.Cover1
import Derived.Sort.Walk0
namespace Go.Proofs.YthgihoeeppincaaDoor
open Go.RowKit Go.Sort

theorem plc_from (x : Str) : ∀ (ss : List Str) (i : Nat), x ∈ ss → 0 ≤ plcFrom ss x i
  | [], _, h => by cases h
  | z :: zs, i, h => by
    unfold plcFrom
    split
    · omega
    · rename_i hz
      rcases List.mem_cons.1 h with e | h
      · exact absurd e.symm hz
      · exact plc_from x zs (i + 1) h

set_option maxHeartbeats 4000000 in
theorem put_walk (a : Option Addr) (n c : Nat) (ss : List Str) (s : ByteArray) (w : World) (h : Strs w w.heap.size a n ss) (_ : n ≤ c) (hs : s.size ≤ maxLen) :
    Calls Tryd.prog 5 #[.slice a n c, .string s] w fun e w' => e = .returned (.bool true) ∧ Below w.heap.size w w' := by
  have hsn := h.2.1
  by_cases hbig : 40 < n
  · have d1 : decide ((40 : Int) < (n : Int)) = true := by simp; omega
    clear h
    go_enter Tryd.func5, Tryd.ntmps5
    go_wp2_with (go_at_call 8; refine (first_any _).mono ?_; rintro e w1 ⟨rfl, hb⟩)
    go_ret
    exact ⟨rfl, hb⟩
  have d1 : decide ((40 : Int) < (n : Int)) = false := by simp; omega
  obtain ⟨out, hout⟩ : ∃ out, out = putS ss s.toList := ⟨_, rfl⟩
  obtain ⟨m, hm⟩ : ∃ m, m = out.length := ⟨_, rfl⟩
  have hle : m ≤ n + 1 := by rw [hm, hout, ← h.1]; exact putS_len ss s.toList
  have d2 : decide ((n : Int) + 1 < (m : Int)) = false := by simp; omega
  have hmax : ∀ x ∈ out, x.length ≤ maxLen := fun x hx => by
    rw [hout, mem_putS] at hx
    rcases hx with hx | hx
    · exact h.max x hx
    · rw [hx, len_toList]; exact hs
  have hin : hasS out s.toList = true := by rw [hasS_iff, hout, mem_putS]; exact .inr rfl
  have hon : once out = true := by rw [once_iff, hout]; exact rises_nodup (putS_rises _ _)
  have hri : Rises out := by rw [hout]; exact putS_rises _ _
  have hmem : ∀ x, x ∈ out ↔ x ∈ ss ∨ x = s.toList := fun x => by rw [hout]; exact mem_putS _ _ _
  have hfull : ((m : Int) == (n : Int) + 1) = (once ss && !hasS ss s.toList) := by
    have hf := putS_full ss s.toList
    rw [← hout, ← hm, h.1] at hf
    rw [Bool.eq_iff_iff, beq_iff_eq, Bool.and_eq_true, once_iff, Bool.not_eq_true', ← Bool.not_eq_true, hasS_iff, ← hf]
    omega
  have hsame : putS out s.toList = out := putS_only hri (fun x => by rw [hmem]; constructor
                                                                     · intro hx; exact .inl hx
                                                                     · rintro (hx | hx)
                                                                       · exact hx
                                                                       · exact .inr hx)
  have H := Lib.hid h
  have HO := Lib.hid hout
  have HM := Lib.hid hm
  have HX := Lib.hid hmax
  have HI := Lib.hid hin
  have HN := Lib.hid hon
  have HRI := Lib.hid hri
  have HME := Lib.hid hmem
  have HFU := Lib.hid hfull
  have HSA := Lib.hid hsame
  clear h hout hm hmax hin hon hri hmem hfull hsame
  go_enter Tryd.func5, Tryd.ntmps5
  go_wp2_with (first
    | (go_at_call 8; refine (first_any _).mono ?_; rintro e w1 ⟨rfl, hb⟩
       have HB := Lib.hid hb
       clear hb)
    | (go_at_call 9
       refine (put_any a n c ss s w1 (by omega) hs ((H.out.below HB.out).more HB.out.size)).mono ?_
       rintro e w2 ⟨v, rfl, hown, hb⟩
       rw [← HO.out, ← HM.out] at hown
       obtain ⟨a1, c1, rfl, hs2, _⟩ := Strs.of_own hown (by omega) HX.out
       have HB2 := Lib.hid (HB.out.trans (hb.mono HB.out.size))
       have HS2 := Lib.hid hs2
       have hh := has_any a1 m c1 out s w2 _ hs2
       rw [HI.out] at hh
       have CH := Lib.hid hh
       have ho := once_any a1 m c1 out w2 hs2
       rw [HN.out] at ho
       have CO := Lib.hid ho
       clear hown hb hs2 hh ho)
    | (go_at_call 17; ((with_reducible refine CH.out.mono ?_); rintro e w3 ⟨rfl, rfl⟩))
    | (go_at_call 21; with_reducible refine CO.out.mono ?_
       rintro e w3 ⟨rfl, hb⟩
       have HB3 := Lib.hid hb
       clear hb))
  go_loopw [6] (fun i wr => ∃ k : Nat, k ≤ m ∧ i = .int .i64 k ∧ Hid (Below w2.heap.size w2 wr)) (fun i _ => m - (intOf i).toNat)
  case atStart => exact ⟨0, Nat.zero_le _, rfl, HB3⟩
  case round =>
    obtain ⟨k, hk, rfl, HR⟩ := hrel
    by_cases hlt : k < m
    · obtain ⟨b1, o1, rfl, _, hc1⟩ := (HS2.out.below HR.out).at_ hlt
      obtain ⟨x, hx⟩ : ∃ x, x = baS (out.getD k []) := ⟨_, rfl⟩
      replace hc1 : wr.cell? { block := b1, off := o1 + k } = some (Value.string x) := by rw [hx]; exact hc1
      have HXX := Lib.hid hx
      clear hx
      have hkm : k < out.length := by rw [← HM.out]; exact hlt
      have hxo : x.toList ∈ out := by
        rw [HXX.out, baS_toList, List.getD_eq_getElem?_getD, List.getElem?_eq_getElem hkm]
        exact List.getElem_mem hkm
      have cl : ∀ W, Below w2.heap.size w2 W → (x.toList == s.toList) = false → Calls Tryd.prog 17 #[.slice a n c, .string x] W fun e w' => e = .returned (.bool true) ∧ W = w' := fun W hb hne => by
        have h1 := has_any a n c ss x W _ ((H.out.below HB2.out).below (hb.mono HB2.out.size))
        have h2 : hasS ss x.toList = true := by
          rw [hasS_iff]
          rcases (HME.out _).1 hxo with h2 | h2
          · exact h2
          · rw [h2] at hne; simp at hne
        rwa [h2] at h1
      have CL := Lib.hid cl
      have HKM := Lib.hid hkm
      clear cl hkm hxo
      rcases Nat.eq_zero_or_pos k with h0 | h0
      · have d3 : decide (0 < k) = false := by simp; omega
        have K0 := Lib.hid h0
        clear h0
        cases hxs : (x.toList == s.toList)
        all_goals
          go_wp2
          go_quiet ((go_at_call 17; exact quiet_at (CL.out _ (bel_drewN HR.out _) hxs)))
          go_wp2
          go_roundw
          case rel => exact ⟨k + 1, by omega, by go_num, Lib.hid (bel_drewN HR.out _)⟩
          case measure => simp [intOf]; omega
      · obtain ⟨b2, o2, e2, _, hc2⟩ := (HS2.out.below HR.out).at_ (show k - 1 < m by omega)
        obtain ⟨rfl, rfl⟩ : b1 = b2 ∧ o1 = o2 := by injection e2 with e2; injection e2 with e3 e4; exact ⟨e3, e4⟩
        clear e2
        obtain ⟨y, hy⟩ : ∃ y, y = baS (out.getD (k - 1) []) := ⟨_, rfl⟩
        replace hc2 : wr.cell? { block := b1, off := o1 + (k - 1) } = some (Value.string y) := by rw [hy]; exact hc2
        have hlss : Op.bytesLess y.toList x.toList = true := by
          rw [bytesLess_eq, decide_eq_true_eq, hy, HXX.out, baS_toList, baS_toList, List.getD_eq_getElem?_getD, List.getD_eq_getElem?_getD, List.getElem?_eq_getElem HKM.out, List.getElem?_eq_getElem (show k - 1 < out.length by have := HKM.out; omega)]
          exact List.pairwise_iff_getElem.1 HRI.out (k - 1) k (by have := HKM.out; omega) HKM.out (by omega)
        clear hy
        cases hxs : (x.toList == s.toList)
        all_goals
          go_wp2
          go_quiet ((go_at_call 17; exact quiet_at (CL.out _ (bel_drewN HR.out _) hxs)))
          go_wp2
          go_roundw
          case rel => exact ⟨k + 1, by omega, by go_num, Lib.hid (bel_drewN HR.out _)⟩
          case measure => simp [intOf]; omega
    · go_wp2
      go_loop [7] (fun i => ∃ j : Nat, j ≤ n ∧ i = .int .i64 j) (fun i => n - (intOf i).toNat)
      case atStart => exact ⟨0, Nat.zero_le _, rfl⟩
      case round =>
        obtain ⟨j, hj, rfl⟩ := hrel
        by_cases hjn : j < n
        · have hsl := (H.out.below HB2.out).below (HR.out.mono HB2.out.size)
          obtain ⟨b1, o1, rfl, _, hc1⟩ := hsl.at_ hjn
          obtain ⟨z, hz⟩ : ∃ z, z = baS (ss.getD j []) := ⟨_, rfl⟩
          replace hc1 : wr.cell? { block := b1, off := o1 + j } = some (Value.string z) := by rw [hz]; exact hc1
          have hjs : j < ss.length := by rw [H.out.1]; exact hjn
          have hzo : z.toList ∈ out := by
            rw [HME.out, hz, baS_toList, List.getD_eq_getElem?_getD, List.getElem?_eq_getElem hjs]
            exact .inl (List.getElem_mem hjs)
          have hp := place_any a1 m c1 out z wr _ (HS2.out.below HR.out)
          obtain ⟨pv, hpv⟩ : ∃ pv, pv = plc out z.toList := ⟨_, rfl⟩
          rw [← hpv] at hp
          have hp0 : 0 ≤ pv := by rw [hpv]; exact plc_from _ _ _ hzo
          have hp1 : decide (pv < 0) = false := by simp; omega
          have CP := Lib.hid hp
          clear hp hpv hz hjs hzo hsl
          go_wp2_with (go_at_call 19; refine CP.out.mono ?_; rintro e w7 ⟨rfl, rfl⟩)
          go_round
          case rel => exact ⟨j + 1, by omega, by go_num⟩
          case measure => simp [intOf]; omega
        · have fin : ∀ (bo bh : Bool), once ss = bo → hasS ss s.toList = bh → ((m : Int) == (n : Int) + 1) = (bo && !bh) := fun bo bh h1 h2 => by rw [HFU.out, h1, h2]
          have co : ∀ W (bo : Bool), once ss = bo → Below wr.heap.size wr W → Calls Tryd.prog 21 #[.slice a n c] W fun e w' => e = .returned (.bool bo) ∧ Below W.heap.size W w' := fun W bo h1 hb => by
            have h2 := once_any a n c ss W ((((H.out.below HB2.out).below (HR.out.mono HB2.out.size)).below (hb.mono (Nat.le_trans HB2.out.size HR.out.size))).more (Nat.le_trans HB2.out.size (Nat.le_trans HR.out.size hb.size)))
            rwa [h1] at h2
          have ch : ∀ W (bh : Bool), hasS ss s.toList = bh → Below wr.heap.size wr W → Calls Tryd.prog 17 #[.slice a n c, .string s] W fun e w' => e = .returned (.bool bh) ∧ W = w' := fun W bh h1 hb => by
            have h2 := has_any a n c ss s W _ (((H.out.below HB2.out).below (HR.out.mono HB2.out.size)).below (hb.mono (Nat.le_trans HB2.out.size HR.out.size)))
            rwa [h1] at h2
          have hput := put_any a1 m c1 out s wr (by omega) hs ((HS2.out.below HR.out).more HR.out.size)
          rw [HSA.out, ← HM.out] at hput
          have CPU := Lib.hid hput
          have CHO := Lib.hid co
          have CHH := Lib.hid ch
          have FIN := Lib.hid fin
          clear hput co ch fin
          cases hbo : once ss
          all_goals
            cases hbh : hasS ss s.toList
            all_goals
              have hbm := FIN.out _ _ hbo hbh
              have BO := Lib.hid hbo
              have BH := Lib.hid hbh
              clear hbo hbh
              simp only [Bool.false_and, Bool.true_and, Bool.not_false, Bool.not_true] at hbm
              go_wp2_with (first
                | (go_at_call 9; refine CPU.out.mono ?_
                   rintro e w8 ⟨v, rfl, hown, hb⟩
                   obtain ⟨a2, c2, rfl, hs8, _⟩ := Strs.of_own hown (by omega) HX.out
                   have HB8 := Lib.hid hb
                   have hss := same_any a2 a1 m m c2 c1 out out w8 _ hs8 (((HS2.out.below HR.out).below (hb.mono HR.out.size)).more (Nat.le_trans HR.out.size hb.size))
                   rw [decide_eq_true (show out = out from rfl)] at hss
                   have CSS := Lib.hid hss
                   clear hown hb hs8 hss)
                | (go_at_call 23; refine CSS.out.mono ?_; rintro e w9 ⟨rfl, q, rfl⟩)
                | (go_at_call 21; refine (CHO.out _ _ BO.out (by exact bel_drewN HB8.out _)).mono ?_
                   rintro e w10 ⟨rfl, hb⟩
                   have HB10 := Lib.hid ((bel_drewN HB8.out q).trans (hb.mono (by exact HB8.out.size)))
                   clear hb)
                | (go_at_call 17; refine (CHH.out _ _ BH.out (by exact HB10.out)).mono ?_; rintro e w11 ⟨rfl, rfl⟩))
              go_ret
              exact ⟨rfl, HB2.out.trans ((HR.out.trans (HB10.out.mono HR.out.size)).mono HB2.out.size)⟩
end Go.Proofs.YthgihoeeppincaaDoor
