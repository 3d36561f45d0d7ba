/- What reparteemake's Local answers where ends of types may be carried. -/
import Derived.Test.YtiofpeckcfdilaaTuMakes
import Derived.Test.YtiofpeckcfdilaaGlTyp
namespace Go.Proofs.Ytiofpeckcfdilaa
open Go.RowKit

set_option maxHeartbeats 16000000 in
set_option maxRecDepth 20000 in
theorem localT_any (g : Nat) (nm : ByteArray) (ta : Option Addr) (tn tc : Nat) (w : World) (hD : Dice w g) (hT : TyIn w g ta tn) :
    Calls Try.prog 46 #[.pointer (some ⟨g, 0, none⟩), .string nm, .slice ta tn tc] w fun e w' => LocalRet nm w e w' ∧ Beside g w w' := by
  have hgl := hD.lt
  have HB0 := Lib.hid (tu1 w (.cells #[.string ⟨#[]⟩, .slice none 0 0] 38))
  have HR0 := Lib.hid (LBox.new w ⟨#[]⟩ none 0 0)
  have CP1 := Lib.hid (pick_at g 6 6 (w.alloc (.cells #[.string ⟨#[]⟩, .slice none 0 0] 38)) rfl (hD.on HB0.out) (by omega) (by omega))
  have CP2 := Lib.hid (fun (W : World) (h : Dice W g) => pick_at g 2 2 W rfl h (by omega) (by omega))
  have CP5 := Lib.hid (fun (W : World) (h : Dice W g) => pick_at g 5 5 W rfl h (by omega) (by omega))
  have HTY := Lib.hid hT
  clear hD hT
  go_enter Try.func46, Try.ntmps46
  go_wp2_with (first
    | (go_at_call 60; (with_reducible refine CP1.out.mono ?_)
       rintro e w1 ⟨⟨m, hm, rfl⟩, hd1, hb1⟩
       have HD1 := Lib.hid hd1
       have HB1 := Lib.hid (hb1.cut HB0.out)
       have HR1 := Lib.hid (HR0.out.beside hb1 (by omega))
       clear hd1 hb1)
    | (go_at_call 60; (with_reducible refine (CP2.out _ HD1.out).mono ?_)
       rintro e w2 ⟨⟨q, hq, rfl⟩, hd2, hb2⟩
       have HD2 := Lib.hid hd2
       have HB2 := Lib.hid (HB1.out.trans hb2)
       have HR2 := Lib.hid (HR1.out.beside hb2 (by omega))
       clear hd2 hb2)
    | fail)
  have HL2 := Lib.hid (LBox.new w2 nm none 0 0)
  have HD3 := Lib.hid (HD2.out.on (tu1 w2 (.cells #[.string nm, .slice none 0 0] 38)))
  have HB3 := Lib.hid (HB2.out.alloc (.cells #[.string nm, .slice none 0 0] 38))
  have HR3 := Lib.hid (HR2.out.on (tu1 w2 (.cells #[.string nm, .slice none 0 0] 38)))
  have hsz2 : w.heap.size + 1 ≤ w2.heap.size := HR2.out.lt
  have CA := Lib.hid (fun (W : World) (h : Dice W g) (ht : TyIn W g ta tn) => makeArmsT_any g ta tn tc (m + 1) W h ht (by omega) (by omega))
  have CP3 := Lib.hid (fun (W : World) (h : Dice W g) => pick_at g (1 + (q : Int)) (q + 1) W (by omega) h (by omega) (by omega))
  rw [show (((m + 1 : Nat) : Int)) = 1 + (m : Int) by omega] at CA
  go_loopw [10] (fun i wr => ∃ (k : Nat) (sa : Option Addr) (sn sc : Nat) (f : List TurnL), k ≤ m + 1 ∧ i = .int .i64 k ∧ f.length = k ∧ sn = k ∧ Hid (MRow wr (w2.heap.size + 1) wr.heap.size (.slice sa sn sc) f) ∧ Hid (∀ t ∈ f, turnB (m + 1) t = true) ∧ Hid (LBox wr w2.heap.size nm sa sn sc) ∧ Hid (Dice wr g) ∧ Hid (Beside g w wr) ∧ Hid (LBox wr w.heap.size ⟨#[]⟩ none 0 0)) (fun i _ => m + 1 - (intOf i).toNat)
  case atStart => exact ⟨0, none, 0, 0, [], by omega, rfl, rfl, rfl, Lib.hid (MRow.zero _ _ _), Lib.hid (by simp), HL2, HD3, HB3, HR3⟩
  case round =>
    obtain ⟨k, sa, sn, sc, f, hk, rfl, hfl, hsn, HO, HG, HLB, HD, HBr, HR⟩ := hrel
    obtain rfl : k = sn := hsn.symm
    have HFL := Lib.hid hfl
    clear hfl
    have hzl := HLB.out.lt
    obtain ⟨oc0, oc1⟩ := HLB.out.cells
    have hsz := HBr.out.size
    by_cases hlt : k < m + 1
    · have d1 : decide ((k : Int) < 1 + (m : Int)) = true := decide_eq_true (by omega)
      go_upto_region 8 with (first
        | (go_at_call 60; (with_reducible refine (CP5.out _ HD.out).mono ?_)
           rintro e w4 ⟨⟨kk, hkk, rfl⟩, hd4, hb4⟩
           have HD4 := Lib.hid hd4
           have HB4 := Lib.hid (HBr.out.trans hb4)
           have HR4 := Lib.hid (HR.out.beside hb4 (by omega))
           have HL4 := Lib.hid (HLB.out.beside hb4 (by omega))
           have HO4 := Lib.hid ((HO.out.beside hb4 (by omega)).top (Nat.le_refl _))
           obtain ⟨vc0, vc1⟩ := HL4.out.cells
           have vf1 := HL4.out.thaw 1
           have hs4 := hb4.size
           clear hd4 hb4)
        | fail)
      by_cases hk0 : kk = 0
      · subst hk0
        go_wp2_with (first
          | (at_builtin
             refine wpList_append_mturn rfl (.tmp 30) (.tmp 32) rfl (w2.heap.size + 1) w4.heap.size (.slice sa k sc) f ⟨0, ⟨#[]⟩, none, 0, 0⟩ ⟨0, [], []⟩ rfl rfl rfl rfl HO4.out ⟨rfl, by rw [ByteArray.toList_eq], by simp [maxLen, ByteArray.size], by simp⟩ (AOwn.zero _ _) (by omega) (Nat.le_refl _) (by have := HFL.out; omega) w4 (Below.refl _ _) ?_
             intro v5 w5 hown hbel
             obtain ⟨sa5, sc5, hv5, _⟩ := hown.towns.sees (by rw [List.length_append, List.length_singleton, HFL.out]; omega)
             rw [List.length_append, List.length_singleton, HFL.out] at hv5
             subst hv5
             have HO5 := Lib.hid hown
             have HL5 := Lib.hid (show LBox w5 w2.heap.size nm sa k sc from (hbel.block w2.heap.size (by omega)).trans HL4.out)
             have HD5 := Lib.hid (HD4.out.below hbel (by omega))
             have HB5 := Lib.hid (bes_below HB4.out hbel (by omega))
             have HR5 := Lib.hid (show LBox w5 w.heap.size ⟨#[]⟩ none 0 0 from (hbel.block w.heap.size (by omega)).trans HR4.out)
             obtain ⟨uc0, uc1⟩ := HL5.out.cells
             have uf1 := HL5.out.thaw 1
             have hs5 := hbel.size
             clear hown hbel)
          | fail)
        have HBS := Lib.hid (fun (u : Value) => ((Beside.refl w2.heap.size w5).setCell 1 u))
        have HBL := Lib.hid (fun (u : Value) => ((Below.refl w2.heap.size w5).setCell (p := ⟨w2.heap.size, 1, none⟩) (Nat.le_refl _) u))
        have HG5 := Lib.hid (show ∀ t ∈ f ++ [(⟨0, [], []⟩ : TurnL)], turnB (m + 1) t = true from fun t ht => by
          rcases List.mem_append.1 ht with ht | ht
          · exact HG.out t ht
          · rw [List.mem_singleton.1 ht]; rfl)
        go_roundw
        case rel => exact ⟨k + 1, sa5, k + 1, sc5, f ++ [⟨0, [], []⟩], by omega, by go_num, by rw [List.length_append, HFL.out]; rfl, rfl, Lib.hid ((HO5.out.beside (HBS.out _) (by omega)).top (Nat.le_refl _)), HG5, Lib.hid (LBox.set HL5.out), Lib.hid (HD5.out.below (HBL.out _) (by omega)), Lib.hid (bes_below HB5.out (HBL.out _) (by omega)), Lib.hid ((heap_setCell_ne (by omega)).trans HR5.out)⟩
        case measure => simp [intOf]; omega
      · have e0 : ((kk : Int) == 0) = false := by rw [beq_eq_false_iff_ne]; omega
        obtain ⟨r, hr⟩ : ∃ r, r = kk % 2 := ⟨_, rfl⟩
        have hmod : (kk : Int).tmod 2 = (r : Int) := by rw [Int.tmod_eq_emod_of_nonneg (by omega)]; omega
        have hr2 : r < 2 := by omega
        have hwr : IntKind.i64.wrap (1 + (r : Int)) = 1 + (r : Int) := by simp [IntKind.wrap, IntKind.bits, IntKind.signed]; omega
        have CR := Lib.hid (roles_any w4.drew)
        have HRO := Lib.hid (fun (i : Nat) (hi : i < 5) => rolObj_at w4.drew i hi)
        have HDd := Lib.hid (HD4.out.drew.on (tu1 w4.drew rolObj))
        have HBd := Lib.hid ((bes_drew HB4.out).alloc rolObj)
        have HOd := Lib.hid (HO4.out.drew.kept (tu1 w4.drew rolObj) (by omega))
        have HLd := Lib.hid (show LBox (w4.drew.alloc rolObj) w2.heap.size nm sa k sc from ((tu1 w4.drew rolObj).block w2.heap.size (by show w2.heap.size < w4.heap.size; omega)).trans HL4.out)
        have HRd := Lib.hid (show LBox (w4.drew.alloc rolObj) w.heap.size ⟨#[]⟩ none 0 0 from ((tu1 w4.drew rolObj).block w.heap.size (by show w.heap.size < w4.heap.size; omega)).trans HR4.out)
        have hsd : (w4.drew.alloc rolObj).heap.size = w4.heap.size + 1 := by simp
        clear hr
        go_wp2
        go_region_law (first
          | (refine step_append_mturn w7 (by rfl) (.tmp 36) (.tmp 51) (by rfl) (w2.heap.size + 1) w6.heap.size (.slice sa k sc) f ⟨1 + (r : Int), rolS pi, aa, an, ac⟩ ⟨1 + (r : Int), (rolS pi).toList, l⟩ (by rfl) (by rfl) (by rfl) HO7.out ⟨rfl, rfl, by simp [rolS, maxLen, ByteArray.size], HAL.out⟩ HA7.out (by omega) (by omega) (by have := HFL.out; omega) w7 (Below.refl _ _) ?_
             intro v5 w5 hown hbel
             obtain ⟨sa5, sc5, hv5, _⟩ := hown.towns.sees (by rw [List.length_append, List.length_singleton, HFL.out]; omega)
             rw [List.length_append, List.length_singleton, HFL.out] at hv5
             subst hv5
             have HO5 := Lib.hid hown
             have HL5 := Lib.hid (show LBox w5 w2.heap.size nm sa k sc from (hbel.block w2.heap.size (by omega)).trans HL7.out)
             have HD5 := Lib.hid (HD7.out.below hbel (by omega))
             have HB5 := Lib.hid (bes_below HB7.out hbel (by omega))
             have HR5 := Lib.hid (show LBox w5 w.heap.size ⟨#[]⟩ none 0 0 from (hbel.block w.heap.size (by omega)).trans HR7.out)
             obtain ⟨_, _⟩ := HL5.out.cells
             have uf1 := HL5.out.thaw 1
             have hs5 := hbel.size
             clear hown hbel)
          | (go_simp; go_at_call 61; (with_reducible refine CR.out.mono ?_)
             rintro e wl ⟨rfl, hwl⟩
             have hcl : ∀ i, i < 5 → wl.cell? ⟨w4.heap.size, i, none⟩ = some (.string (rolS i)) := by rw [hwl]; exact HRO.out
             have HDl := Lib.hid (show Dice wl g by rw [hwl]; exact HDd.out)
             have HBl := Lib.hid (show Beside g w wl by rw [hwl]; exact HBd.out)
             have HOl := Lib.hid (show MRow wl (w2.heap.size + 1) w4.heap.size (.slice sa k sc) f by rw [hwl]; exact HOd.out)
             have HLl := Lib.hid (show LBox wl w2.heap.size nm sa k sc by rw [hwl]; exact HLd.out)
             have HRl := Lib.hid (show LBox wl w.heap.size ⟨#[]⟩ none 0 0 by rw [hwl]; exact HRd.out)
             have hsl : wl.heap.size = w4.heap.size + 1 := by rw [hwl]; exact hsd
             obtain ⟨_, _⟩ := HLl.out.cells
             have HCL := Lib.hid hcl
             clear hwl hcl)
          | (go_simp; go_at_call 60; (with_reducible refine (CP3.out _ HDl.out).mono ?_)
             rintro e w6 ⟨⟨pi, hpi, rfl⟩, hd6, hb6⟩
             have hc6 := (hb6.cell (p := ⟨w4.heap.size, pi, none⟩) (by show w4.heap.size < _; omega) (by show w4.heap.size ≠ g; omega)).trans (HCL.out pi (by omega))
             have j1 : (pi : Int) < 5 := by omega
             have j2 : (0 : Int) ≤ (pi : Int) := by omega
             have HD6 := Lib.hid hd6
             have HB6 := Lib.hid (HBl.out.trans hb6)
             have HO6 := Lib.hid (HOl.out.beside hb6 (by omega))
             have HL6 := Lib.hid (HLl.out.beside hb6 (by omega))
             have HR6 := Lib.hid (HRl.out.beside hb6 (by omega))
             obtain ⟨_, _⟩ := HL6.out.cells
             have hs6 := hb6.size
             clear hd6 hb6)
          | (go_simp; go_at_call 69; (with_reducible refine (CA.out _ HD6.out (HTY.out.beside HB6.out)).mono ?_)
             rintro e w7 ⟨⟨va, l, rfl, hal, hok⟩, hd7, hb7⟩
             have hl6 := (armsB_all hok).2.2.2
             obtain ⟨aa, ac, hva, _, _, _⟩ := hal.sees (by omega)
             obtain ⟨an, han⟩ : ∃ an, an = l.length := ⟨_, rfl⟩
             rw [← han] at hva
             clear han
             subst hva
             have hc7 := (hb7.cell (p := ⟨w4.heap.size, pi, none⟩) (by show w4.heap.size < _; omega) (by show w4.heap.size ≠ g; omega)).trans hc6
             have HA7 := Lib.hid (show AOwn w7 w6.heap.size (TR.arms ⟨1 + (r : Int), rolS pi, aa, an, ac⟩) l from hal)
             have HOK := Lib.hid hok
             have HAL := Lib.hid (show l.length ≤ 1000 by omega)
             have HD7 := Lib.hid hd7
             have HB7 := Lib.hid (HB6.out.trans hb7)
             have HO7 := Lib.hid (show MRow w7 (w2.heap.size + 1) w6.heap.size (.slice sa k sc) f from ((HO6.out.top (Nat.le_refl _)).beside hb7 (by omega)))
             have HL7 := Lib.hid (HL6.out.beside hb7 (by omega))
             have HR7 := Lib.hid (HR6.out.beside hb7 (by omega))
             obtain ⟨_, _⟩ := HL7.out.cells
             have hs7 := hb7.size
             have hq7 : w2.heap.size < w7.heap.size := HL7.out.lt
             clear hal hok hd7 hb7 hl6)
          | fail)
        all_goals
          go_wp2
          have HBS := Lib.hid (fun (u : Value) => ((Beside.refl w2.heap.size w5).setCell 1 u))
          have HBL := Lib.hid (fun (u : Value) => ((Below.refl w2.heap.size w5).setCell (p := ⟨w2.heap.size, 1, none⟩) (Nat.le_refl _) u))
          have HG5 := Lib.hid (show ∀ t ∈ f ++ [(⟨1 + (r : Int), (rolS pi).toList, l⟩ : TurnL)], turnB (m + 1) t = true from fun t ht => by
            rcases List.mem_append.1 ht with ht | ht
            · exact HG.out t ht
            · rw [List.mem_singleton.1 ht]
              unfold turnB
              rw [if_neg (by show ¬ (1 + (r : Int)) = 0; omega), if_pos (by show (1 + (r : Int)) = 1 ∨ (1 + (r : Int)) = 2; omega)]
              rw [show may (rolS pi).toList = true from rolS_may pi, HOK.out]
              rfl)
          go_roundw
          case rel => exact ⟨k + 1, sa5, k + 1, sc5, f ++ [⟨1 + (r : Int), (rolS pi).toList, l⟩], by omega, by go_num, by rw [List.length_append, HFL.out]; rfl, rfl, Lib.hid ((HO5.out.beside (HBS.out _) (by omega)).top (Nat.le_refl _)), HG5, Lib.hid (LBox.set HL5.out), Lib.hid (HD5.out.below (HBL.out _) (by omega)), Lib.hid (bes_below HB5.out (HBL.out _) (by omega)), Lib.hid ((heap_setCell_ne (by omega)).trans HR5.out)⟩
          case measure => simp [intOf]; omega
    · have d1 : decide ((k : Int) < 1 + (m : Int)) = false := decide_eq_false (by omega)
      obtain ⟨rc0, rc1⟩ := HR.out.cells
      have rf0 := HR.out.thaw 0
      have rf1 := HR.out.thaw 1
      have hloc : locB f = true := locB_end (by have := HFL.out; omega) (by have := HFL.out; omega) (by rw [HFL.out, show k = m + 1 by omega]; exact HG.out)
      have HLOC := Lib.hid hloc
      clear hloc
      go_wp2
      refine bodyPost_ret (v := .agg #[.string nm, .slice sa k sc]) (by simp [results, go_sem, rc0, rc1]) rfl ?_
      have hbs := ((Beside.refl w.heap.size wr).setCell 0 (.string nm)).setCell 1 (.slice sa k sc)
      have hbl : Below w.heap.size wr ((wr.setCell ⟨w.heap.size, 0, none⟩ (.string nm)).setCell ⟨w.heap.size, 1, none⟩ (.slice sa k sc)) := ((Below.refl w.heap.size wr).setCell (Nat.le_refl _) _).setCell (Nat.le_refl _) _
      refine ⟨⟨sa, k, sc, f, rfl, ?_, HFL.out, HLOC.out, by have := HFL.out; omega⟩, bes_below HBr.out hbl (Nat.le_refl _)⟩
      have hm := (HO.out.beside hbs (by omega)).top (Nat.le_refl _)
      exact hm.low (by omega)
end Go.Proofs.Ytiofpeckcfdilaa
