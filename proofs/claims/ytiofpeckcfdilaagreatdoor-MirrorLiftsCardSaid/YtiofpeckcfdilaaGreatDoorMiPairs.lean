/- What reparteemake's Local answers where ends of types may be carried. -/
import Derived.Test.YtiofpeckcfdilaaGreatDoorTuMakes
import Derived.Test.YtiofpeckcfdilaaGreatDoorGlTyp
import Derived.Test.YtiofpeckcfdilaaGreatDoorMiAll
import Derived.Test.YtiofpeckcfdilaaGreatDoorTuWrongs
namespace Go.Proofs.YtiofpeckcfdilaaGreatDoor
open Go.RowKit

set_option maxHeartbeats 16000000 in
set_option maxRecDepth 20000 in
theorem localT_any (g : Nat) (nm : ByteArray) (ta : Option Addr) (tn tc : Nat) (w : World) (hD : Dice w g) (hT : TyIn w g ta tn) :
    Calls Tryz.prog 9 #[.pointer (some ⟨g, 0, none⟩), .string nm, .slice ta tn tc] w fun e w' => LocalRet nm w e w' ∧ Beside g w w' := by
  have hgl := hD.lt
  have HB0 := Lib.hid (tu1 w (.cells #[.string ⟨#[]⟩, .slice none 0 0] 24))
  have HR0 := Lib.hid (LBox.new w ⟨#[]⟩ none 0 0)
  have CP1 := Lib.hid (pick_at g 6 6 (w.alloc (.cells #[.string ⟨#[]⟩, .slice none 0 0] 24)) rfl (hD.on HB0.out) (by omega) (by omega))
  have CP2 := Lib.hid (fun (W : World) (h : Dice W g) => pick_at g 2 2 W rfl h (by omega) (by omega))
  have CP5 := Lib.hid (fun (W : World) (h : Dice W g) => pick_at g 5 5 W rfl h (by omega) (by omega))
  have HTY := Lib.hid hT
  clear hD hT
  go_enter Tryz.func9, Tryz.ntmps9
  go_wp2_with (first
    | (go_at_call 28; (with_reducible refine CP1.out.mono ?_)
       rintro e w1 ⟨⟨m, hm, rfl⟩, hd1, hb1⟩
       have HD1 := Lib.hid hd1
       have HB1 := Lib.hid (hb1.cut HB0.out)
       have HR1 := Lib.hid (HR0.out.beside hb1 (by omega))
       clear hd1 hb1)
    | (go_at_call 28; (with_reducible refine (CP2.out _ HD1.out).mono ?_)
       rintro e w2 ⟨⟨q, hq, rfl⟩, hd2, hb2⟩
       have HD2 := Lib.hid hd2
       have HB2 := Lib.hid (HB1.out.trans hb2)
       have HR2 := Lib.hid (HR1.out.beside hb2 (by omega))
       clear hd2 hb2)
    | fail)
  have HL2 := Lib.hid (LBox.new w2 nm none 0 0)
  have HD3 := Lib.hid (HD2.out.on (tu1 w2 (.cells #[.string nm, .slice none 0 0] 24)))
  have HB3 := Lib.hid (HB2.out.alloc (.cells #[.string nm, .slice none 0 0] 24))
  have HR3 := Lib.hid (HR2.out.on (tu1 w2 (.cells #[.string nm, .slice none 0 0] 24)))
  have hsz2 : w.heap.size + 1 ≤ w2.heap.size := HR2.out.lt
  have CA := Lib.hid (fun (W : World) (h : Dice W g) (ht : TyIn W g ta tn) => makeArmsT_any g ta tn tc (m + 1) W h ht (by omega) (by omega))
  have CP3 := Lib.hid (fun (W : World) (h : Dice W g) => pick_at g (1 + (q : Int)) (q + 1) W (by omega) h (by omega) (by omega))
  rw [show (((m + 1 : Nat) : Int)) = 1 + (m : Int) by omega] at CA
  go_loopw [10] (fun i wr => ∃ (k : Nat) (sa : Option Addr) (sn sc : Nat) (f : List TurnL), k ≤ m + 1 ∧ i = .int .i64 k ∧ f.length = k ∧ sn = k ∧ Hid (MRow wr (w2.heap.size + 1) wr.heap.size (.slice sa sn sc) f) ∧ Hid (∀ t ∈ f, turnB (m + 1) t = true) ∧ Hid (LBox wr w2.heap.size nm sa sn sc) ∧ Hid (Dice wr g) ∧ Hid (Beside g w wr) ∧ Hid (LBox wr w.heap.size ⟨#[]⟩ none 0 0)) (fun i _ => m + 1 - (intOf i).toNat)
  case atStart => exact ⟨0, none, 0, 0, [], by omega, rfl, rfl, rfl, Lib.hid (MRow.zero _ _ _), Lib.hid (by simp), HL2, HD3, HB3, HR3⟩
  case round =>
    obtain ⟨k, sa, sn, sc, f, hk, rfl, hfl, hsn, HO, HG, HLB, HD, HBr, HR⟩ := hrel
    obtain rfl : k = sn := hsn.symm
    have HFL := Lib.hid hfl
    clear hfl
    have hzl := HLB.out.lt
    obtain ⟨oc0, oc1⟩ := HLB.out.cells
    have hsz := HBr.out.size
    by_cases hlt : k < m + 1
    · have d1 : decide ((k : Int) < 1 + (m : Int)) = true := decide_eq_true (by omega)
      go_upto_region 8 with (first
        | (go_at_call 28; (with_reducible refine (CP5.out _ HD.out).mono ?_)
           rintro e w4 ⟨⟨kk, hkk, rfl⟩, hd4, hb4⟩
           have HD4 := Lib.hid hd4
           have HB4 := Lib.hid (HBr.out.trans hb4)
           have HR4 := Lib.hid (HR.out.beside hb4 (by omega))
           have HL4 := Lib.hid (HLB.out.beside hb4 (by omega))
           have HO4 := Lib.hid ((HO.out.beside hb4 (by omega)).top (Nat.le_refl _))
           obtain ⟨vc0, vc1⟩ := HL4.out.cells
           have vf1 := HL4.out.thaw 1
           have hs4 := hb4.size
           clear hd4 hb4)
        | fail)
      by_cases hk0 : kk = 0
      · subst hk0
        go_wp2_with (first
          | (at_builtin
             refine wpList_append_mturn rfl (.tmp 30) (.tmp 32) rfl (w2.heap.size + 1) w4.heap.size (.slice sa k sc) f ⟨0, ⟨#[]⟩, none, 0, 0⟩ ⟨0, [], []⟩ rfl rfl rfl rfl HO4.out ⟨rfl, by rw [ByteArray.toList_eq], by simp [maxLen, ByteArray.size], by simp⟩ (AOwn.zero _ _) (by omega) (Nat.le_refl _) (by have := HFL.out; omega) w4 (Below.refl _ _) ?_
             intro v5 w5 hown hbel
             obtain ⟨sa5, sc5, hv5, _⟩ := hown.towns.sees (by rw [List.length_append, List.length_singleton, HFL.out]; omega)
             rw [List.length_append, List.length_singleton, HFL.out] at hv5
             subst hv5
             have HO5 := Lib.hid hown
             have HL5 := Lib.hid (show LBox w5 w2.heap.size nm sa k sc from (hbel.block w2.heap.size (by omega)).trans HL4.out)
             have HD5 := Lib.hid (HD4.out.below hbel (by omega))
             have HB5 := Lib.hid (bes_below HB4.out hbel (by omega))
             have HR5 := Lib.hid (show LBox w5 w.heap.size ⟨#[]⟩ none 0 0 from (hbel.block w.heap.size (by omega)).trans HR4.out)
             obtain ⟨uc0, uc1⟩ := HL5.out.cells
             have uf1 := HL5.out.thaw 1
             have hs5 := hbel.size
             clear hown hbel)
          | fail)
        have HBS := Lib.hid (fun (u : Value) => ((Beside.refl w2.heap.size w5).setCell 1 u))
        have HBL := Lib.hid (fun (u : Value) => ((Below.refl w2.heap.size w5).setCell (p := ⟨w2.heap.size, 1, none⟩) (Nat.le_refl _) u))
        have HG5 := Lib.hid (show ∀ t ∈ f ++ [(⟨0, [], []⟩ : TurnL)], turnB (m + 1) t = true from fun t ht => by
          rcases List.mem_append.1 ht with ht | ht
          · exact HG.out t ht
          · rw [List.mem_singleton.1 ht]; rfl)
        go_roundw
        case rel => exact ⟨k + 1, sa5, k + 1, sc5, f ++ [⟨0, [], []⟩], by omega, by go_num, by rw [List.length_append, HFL.out]; rfl, rfl, Lib.hid ((HO5.out.beside (HBS.out _) (by omega)).top (Nat.le_refl _)), HG5, Lib.hid (LBox.set HL5.out), Lib.hid (HD5.out.below (HBL.out _) (by omega)), Lib.hid (bes_below HB5.out (HBL.out _) (by omega)), Lib.hid ((heap_setCell_ne (by omega)).trans HR5.out)⟩
        case measure => simp [intOf]; omega
      · have e0 : ((kk : Int) == 0) = false := by rw [beq_eq_false_iff_ne]; omega
        obtain ⟨r, hr⟩ : ∃ r, r = kk % 2 := ⟨_, rfl⟩
        have hmod : (kk : Int).tmod 2 = (r : Int) := by rw [Int.tmod_eq_emod_of_nonneg (by omega)]; omega
        have hr2 : r < 2 := by omega
        have hwr : IntKind.i64.wrap (1 + (r : Int)) = 1 + (r : Int) := by simp [IntKind.wrap, IntKind.bits, IntKind.signed]; omega
        have CR := Lib.hid (roles_any w4.drew)
        have HRO := Lib.hid (fun (i : Nat) (hi : i < 5) => rolObj_at w4.drew i hi)
        have HDd := Lib.hid (HD4.out.drew.on (tu1 w4.drew rolObj))
        have HBd := Lib.hid ((bes_drew HB4.out).alloc rolObj)
        have HOd := Lib.hid (HO4.out.drew.kept (tu1 w4.drew rolObj) (by omega))
        have HLd := Lib.hid (show LBox (w4.drew.alloc rolObj) w2.heap.size nm sa k sc from ((tu1 w4.drew rolObj).block w2.heap.size (by show w2.heap.size < w4.heap.size; omega)).trans HL4.out)
        have HRd := Lib.hid (show LBox (w4.drew.alloc rolObj) w.heap.size ⟨#[]⟩ none 0 0 from ((tu1 w4.drew rolObj).block w.heap.size (by show w.heap.size < w4.heap.size; omega)).trans HR4.out)
        have hsd : (w4.drew.alloc rolObj).heap.size = w4.heap.size + 1 := by simp
        clear hr
        go_wp2
        go_region_law (first
          | (refine step_append_mturn w7 (by rfl) (.tmp 36) (.tmp 51) (by rfl) (w2.heap.size + 1) w6.heap.size (.slice sa k sc) f ⟨1 + (r : Int), rolS pi, aa, an, ac⟩ ⟨1 + (r : Int), (rolS pi).toList, l⟩ (by rfl) (by rfl) (by rfl) HO7.out ⟨rfl, rfl, by simp [rolS, maxLen, ByteArray.size], HAL.out⟩ HA7.out (by omega) (by omega) (by have := HFL.out; omega) w7 (Below.refl _ _) ?_
             intro v5 w5 hown hbel
             obtain ⟨sa5, sc5, hv5, _⟩ := hown.towns.sees (by rw [List.length_append, List.length_singleton, HFL.out]; omega)
             rw [List.length_append, List.length_singleton, HFL.out] at hv5
             subst hv5
             have HO5 := Lib.hid hown
             have HL5 := Lib.hid (show LBox w5 w2.heap.size nm sa k sc from (hbel.block w2.heap.size (by omega)).trans HL7.out)
             have HD5 := Lib.hid (HD7.out.below hbel (by omega))
             have HB5 := Lib.hid (bes_below HB7.out hbel (by omega))
             have HR5 := Lib.hid (show LBox w5 w.heap.size ⟨#[]⟩ none 0 0 from (hbel.block w.heap.size (by omega)).trans HR7.out)
             obtain ⟨_, _⟩ := HL5.out.cells
             have uf1 := HL5.out.thaw 1
             have hs5 := hbel.size
             clear hown hbel)
          | (go_simp; go_at_call 29; (with_reducible refine CR.out.mono ?_)
             rintro e wl ⟨rfl, hwl⟩
             have hcl : ∀ i, i < 5 → wl.cell? ⟨w4.heap.size, i, none⟩ = some (.string (rolS i)) := by rw [hwl]; exact HRO.out
             have HDl := Lib.hid (show Dice wl g by rw [hwl]; exact HDd.out)
             have HBl := Lib.hid (show Beside g w wl by rw [hwl]; exact HBd.out)
             have HOl := Lib.hid (show MRow wl (w2.heap.size + 1) w4.heap.size (.slice sa k sc) f by rw [hwl]; exact HOd.out)
             have HLl := Lib.hid (show LBox wl w2.heap.size nm sa k sc by rw [hwl]; exact HLd.out)
             have HRl := Lib.hid (show LBox wl w.heap.size ⟨#[]⟩ none 0 0 by rw [hwl]; exact HRd.out)
             have hsl : wl.heap.size = w4.heap.size + 1 := by rw [hwl]; exact hsd
             obtain ⟨_, _⟩ := HLl.out.cells
             have HCL := Lib.hid hcl
             clear hwl hcl)
          | (go_simp; go_at_call 28; (with_reducible refine (CP3.out _ HDl.out).mono ?_)
             rintro e w6 ⟨⟨pi, hpi, rfl⟩, hd6, hb6⟩
             have hc6 := (hb6.cell (p := ⟨w4.heap.size, pi, none⟩) (by show w4.heap.size < _; omega) (by show w4.heap.size ≠ g; omega)).trans (HCL.out pi (by omega))
             have j1 : (pi : Int) < 5 := by omega
             have j2 : (0 : Int) ≤ (pi : Int) := by omega
             have HD6 := Lib.hid hd6
             have HB6 := Lib.hid (HBl.out.trans hb6)
             have HO6 := Lib.hid (HOl.out.beside hb6 (by omega))
             have HL6 := Lib.hid (HLl.out.beside hb6 (by omega))
             have HR6 := Lib.hid (HRl.out.beside hb6 (by omega))
             obtain ⟨_, _⟩ := HL6.out.cells
             have hs6 := hb6.size
             clear hd6 hb6)
          | (go_simp; go_at_call 30; (with_reducible refine (CA.out _ HD6.out (HTY.out.beside HB6.out)).mono ?_)
             rintro e w7 ⟨⟨va, l, rfl, hal, hok⟩, hd7, hb7⟩
             have hl6 := (armsB_all hok).2.2.2
             obtain ⟨aa, ac, hva, _, _, _⟩ := hal.sees (by omega)
             obtain ⟨an, han⟩ : ∃ an, an = l.length := ⟨_, rfl⟩
             rw [← han] at hva
             clear han
             subst hva
             have hc7 := (hb7.cell (p := ⟨w4.heap.size, pi, none⟩) (by show w4.heap.size < _; omega) (by show w4.heap.size ≠ g; omega)).trans hc6
             have HA7 := Lib.hid (show AOwn w7 w6.heap.size (TR.arms ⟨1 + (r : Int), rolS pi, aa, an, ac⟩) l from hal)
             have HOK := Lib.hid hok
             have HAL := Lib.hid (show l.length ≤ 1000 by omega)
             have HD7 := Lib.hid hd7
             have HB7 := Lib.hid (HB6.out.trans hb7)
             have HO7 := Lib.hid (show MRow w7 (w2.heap.size + 1) w6.heap.size (.slice sa k sc) f from ((HO6.out.top (Nat.le_refl _)).beside hb7 (by omega)))
             have HL7 := Lib.hid (HL6.out.beside hb7 (by omega))
             have HR7 := Lib.hid (HR6.out.beside hb7 (by omega))
             obtain ⟨_, _⟩ := HL7.out.cells
             have hs7 := hb7.size
             have hq7 : w2.heap.size < w7.heap.size := HL7.out.lt
             clear hal hok hd7 hb7 hl6)
          | fail)
        all_goals
          go_wp2
          have HBS := Lib.hid (fun (u : Value) => ((Beside.refl w2.heap.size w5).setCell 1 u))
          have HBL := Lib.hid (fun (u : Value) => ((Below.refl w2.heap.size w5).setCell (p := ⟨w2.heap.size, 1, none⟩) (Nat.le_refl _) u))
          have HG5 := Lib.hid (show ∀ t ∈ f ++ [(⟨1 + (r : Int), (rolS pi).toList, l⟩ : TurnL)], turnB (m + 1) t = true from fun t ht => by
            rcases List.mem_append.1 ht with ht | ht
            · exact HG.out t ht
            · rw [List.mem_singleton.1 ht]
              unfold turnB
              rw [if_neg (by show ¬ (1 + (r : Int)) = 0; omega), if_pos (by show (1 + (r : Int)) = 1 ∨ (1 + (r : Int)) = 2; omega)]
              rw [show may (rolS pi).toList = true from rolS_may pi, HOK.out]
              rfl)
          go_roundw
          case rel => exact ⟨k + 1, sa5, k + 1, sc5, f ++ [⟨1 + (r : Int), (rolS pi).toList, l⟩], by omega, by go_num, by rw [List.length_append, HFL.out]; rfl, rfl, Lib.hid ((HO5.out.beside (HBS.out _) (by omega)).top (Nat.le_refl _)), HG5, Lib.hid (LBox.set HL5.out), Lib.hid (HD5.out.below (HBL.out _) (by omega)), Lib.hid (bes_below HB5.out (HBL.out _) (by omega)), Lib.hid ((heap_setCell_ne (by omega)).trans HR5.out)⟩
          case measure => simp [intOf]; omega
    · have d1 : decide ((k : Int) < 1 + (m : Int)) = false := decide_eq_false (by omega)
      obtain ⟨rc0, rc1⟩ := HR.out.cells
      have rf0 := HR.out.thaw 0
      have rf1 := HR.out.thaw 1
      have hloc : locB f = true := locB_end (by have := HFL.out; omega) (by have := HFL.out; omega) (by rw [HFL.out, show k = m + 1 by omega]; exact HG.out)
      have HLOC := Lib.hid hloc
      clear hloc
      go_wp2
      refine bodyPost_ret (v := .agg #[.string nm, .slice sa k sc]) (by simp [results, go_sem, rc0, rc1]) rfl ?_
      have hbs := ((Beside.refl w.heap.size wr).setCell 0 (.string nm)).setCell 1 (.slice sa k sc)
      have hbl : Below w.heap.size wr ((wr.setCell ⟨w.heap.size, 0, none⟩ (.string nm)).setCell ⟨w.heap.size, 1, none⟩ (.slice sa k sc)) := ((Below.refl w.heap.size wr).setCell (Nat.le_refl _) _).setCell (Nat.le_refl _) _
      refine ⟨⟨sa, k, sc, f, rfl, ?_, HFL.out, HLOC.out, by have := HFL.out; omega⟩, bes_below HBr.out hbl (Nat.le_refl _)⟩
      have hm := (HO.out.beside hbs (by omega)).top (Nat.le_refl _)
      exact hm.low (by omega)
end Go.Proofs.YtiofpeckcfdilaaGreatDoor

/- What the statements' pair answers: a valid local type that has no peer but a. -/
namespace Go.Proofs.YtiofpeckcfdilaaGreatDoor
open Go.RowKit

theorem loc_put {f : List TurnL} {k : Nat} {t : TurnL} (h : locB f = true) (hk : f[k]? = some t) (hne : t.kind ≠ 0) : locB (f.set k ⟨t.kind, [97], t.arms⟩) = true := by
  obtain ⟨h1, h40, hall⟩ := locB_one h
  unfold locB
  rw [List.length_set]
  simp only [Bool.and_eq_true, decide_eq_true_eq, List.all_eq_true]
  refine ⟨⟨h1, h40⟩, fun u hu => ?_⟩
  rcases List.mem_or_eq_of_mem_set hu with hu | rfl
  · exact hall u hu
  · rcases turnB_arms (hall t (List.mem_of_getElem? hk)) with ⟨e, _, _⟩ | ⟨e, _, e3⟩
    · exact absurd e hne
    · unfold turnB
      rw [if_neg (by exact hne), if_pos (by exact e), e3]
      rfl
theorem ty_pa (W : World) (g : Nat) (hg : g < W.heap.size) : TyIn (W.alloc (.cells #[.string ⟨#[112, 46, 97]⟩] 9)) g (some ⟨W.heap.size, 0, none⟩) 1 := by
  refine ⟨by omega, fun j hj => ?_⟩
  obtain rfl : j = 0 := by omega
  refine ⟨W.heap.size, 0, ⟨#[112, 46, 97]⟩, rfl, by omega, by simp, ?_, by simp [maxLen, ByteArray.size], ?_⟩
  · rw [cell_of_row _ _ _ _ _ _ (heap_alloc_new W _)]; rfl
  · rw [ByteArray.toList_eq]; decide
def PairRet (w : World) (e : Ending) (w' : World) : Prop :=
  (∃ sa sn sc ts, e = .returned (.agg #[.string ⟨#[116]⟩, .slice sa sn sc]) ∧ Turns w' w'.heap.size sa sn ts ∧ ts.length = sn ∧ locB ts = true ∧ ts.length ≤ 6 ∧ ∀ t ∈ ts, t.kind ≠ 0 → t.peer = [97]) ∧ Below w.heap.size w w'
/-- The first k turns have no peer but a. -/
def DoneTo (f : List TurnL) (k : Nat) : Prop := ∀ j, j < k → ∀ t, f[j]? = some t → t.kind ≠ 0 → t.peer = [97]
theorem DoneTo.skip {f : List TurnL} {k : Nat} {t : TurnL} (h : DoneTo f k) (hk : f[k]? = some t) (h0 : t.kind = 0) : DoneTo f (k + 1) := fun j hj u hu hne => by
  rcases Nat.lt_or_ge j k with hlt | hge
  · exact h j hlt u hu hne
  · obtain rfl : j = k := by omega
    rw [hk] at hu
    obtain rfl := Option.some.inj hu
    exact absurd h0 hne
theorem DoneTo.put {f : List TurnL} {k : Nat} {t : TurnL} (h : DoneTo f k) (hk : f[k]? = some t) : DoneTo (f.set k ⟨t.kind, [97], t.arms⟩) (k + 1) := fun j hj u hu hne => by
  have hkl := (List.getElem?_eq_some_iff.1 hk).1
  rcases Nat.lt_or_ge j k with hlt | hge
  · rw [List.getElem?_set_ne (by omega)] at hu
    exact h j hlt u hu hne
  · obtain rfl : j = k := by omega
    rw [List.getElem?_set_self hkl] at hu
    obtain rfl := Option.some.inj hu
    rfl
theorem a_list : (⟨#[97]⟩ : ByteArray).toList = [97] := by rw [ByteArray.toList_eq]
set_option maxHeartbeats 8000000 in
set_option maxRecDepth 20000 in
theorem pair_any (a : Option Addr) (n c : Nat) (l : List Int) (w : World) (h : Nums w w.heap.size a n l) (hlim : n * 8 ≤ 140737488351232) :
    Calls Tryz.prog 18 #[.slice a n c] w fun e w' => PairRet w e w' := by
  have HN := Lib.hid h
  have HB0 := Lib.hid (tu1 w (.cells #[.string ⟨#[]⟩, .slice none 0 0] 24))
  have HX0 := Lib.hid (LBox.new w ⟨#[]⟩ none 0 0)
  clear h
  go_enter Tryz.func18, Tryz.ntmps18
  go_upto_region 2 with (first
    | (go_at_call 10; (with_reducible refine (new_any a n c l _ w.heap.size (HN.out.below HB0.out) hlim).mono ?_)
       rintro e w1 ⟨g, rfl, hd1, hg1, hb1⟩
       have HD1 := Lib.hid hd1
       have HB1 := Lib.hid (below_on HB0.out hb1)
       have HX1 := Lib.hid (HX0.out.on hb1)
       have HTY := Lib.hid (ty_pa w1 g hd1.lt)
       have hg0 : w.heap.size < g := by rw [World.size_alloc] at hg1; omega
       clear hd1 hb1 hg1)
    | (go_at_call 9; (with_reducible refine (localT_any g ⟨#[116]⟩ (some ⟨w1.heap.size, 0, none⟩) 1 1 _ (HD1.out.on (tu1 w1 _)) HTY.out).mono ?_)
       rintro e w3 ⟨⟨sa, sn, sc, ts, rfl, hm3, hln, hloc, hfew⟩, hb3⟩
       have hz1 := HB1.out.size
       have HB3 := Lib.hid (show Below w.heap.size w w3 from (HB1.out.trans ((tu1 w1 (.cells #[.string ⟨#[112, 46, 97]⟩] 9)).mono hz1)).trans (hb3.below (by omega) (by simp; omega)))
       have HX3 := Lib.hid ((HX1.out.on (tu1 w1 _)).beside hb3 (by omega))
       rw [World.size_alloc] at hm3
       have HO3 := Lib.hid hm3.towns
       have HLOC := Lib.hid hloc
       have HLN := Lib.hid hln
       have hz3 := hb3.size
       rw [World.size_alloc] at hz3
       have hx1 := HX1.out.lt
       have hpos : 0 < sn := by have := (locB_one hloc).1; omega
       have hsn6 : sn ≤ 6 := by omega
       clear hm3 hloc hb3 hln hfew)
    | fail)
  obtain ⟨q, rfl, hq1, hq2⟩ := HO3.out.spot (by have := HLN.out; omega)
  have HL4 := Lib.hid (LBox.new w3 ⟨#[116]⟩ (some ⟨q, 0, none⟩) sn sc)
  have HBX := Lib.hid (tu1 w3 (.cells #[.string ⟨#[116]⟩, .slice (some ⟨q, 0, none⟩) sn sc] 24))
  generalize hw4 : w3.alloc (.cells #[.string ⟨#[116]⟩, .slice (some ⟨q, 0, none⟩) sn sc] 24) = w4 at HL4 HBX ⊢
  clear hw4
  have HO4 := Lib.hid (HO3.out.kept HBX.out (by omega))
  have HB4 := Lib.hid (below_on HB3.out HBX.out)
  have HX4 := Lib.hid (HX3.out.on HBX.out)
  have hx3 := HX3.out.lt
  go_wp2
  go_loopw [4] (fun i wr => ∃ (k : Nat) (f : List TurnL), k ≤ sn ∧ i = .int .i64 k ∧ Hid (TOwn wr (w1.heap.size + 1) (.slice (some ⟨q, 0, none⟩) sn sc) f) ∧ Hid (f.length = sn) ∧ Hid (locB f = true) ∧ Hid (DoneTo f k) ∧ Hid (LBox wr w3.heap.size ⟨#[116]⟩ (some ⟨q, 0, none⟩) sn sc) ∧ Hid (LBox wr w.heap.size ⟨#[]⟩ none 0 0) ∧ Hid (Below w.heap.size w wr)) (fun i _ => sn - (intOf i).toNat)
  case atStart => exact ⟨0, ts, Nat.zero_le _, rfl, HO4, HLN, HLOC, Lib.hid (fun j hj => absurd hj (Nat.not_lt_zero j)), HL4, HX4, HB4⟩
  case round =>
    obtain ⟨k, f, hk, rfl, HO, HFL, HV, HD, HLB, HX, HBr⟩ := hrel
    obtain ⟨bc0, bc1⟩ := HLB.out.cells
    have hzl := HLB.out.lt
    by_cases hkn : k < sn
    · obtain ⟨q', ⟨kd, s, aa, an, ac⟩, t, hqq, hbb, ht, ⟨q0, q1, q2⟩, hvf⟩ := HO.out.at2 hkn
      obtain ⟨hqe, _, _⟩ := Addr.mk.inj (Option.some.inj hqq)
      subst hqe
      dsimp only at q0 q1 q2
      have hkd : kd = t.kind := hvf.1
      have hpt := HO.out.peered HFL.out ht ⟨#[97]⟩ (by simp [maxLen, ByteArray.size])
      have i1 : (k : Int) < (sn : Int) := by omega
      rw [a_list] at hpt
      have fz := hpt.2
      have HPT := Lib.hid hpt.1
      have HT := Lib.hid ht
      have HKD := Lib.hid hkd
      by_cases h0 : kd = 0
      · have HD2 := Lib.hid (HD.out.skip ht (by rw [← hkd]; exact h0))
        subst h0
        clear hpt ht hkd hvf hqq
        go_wp2
        go_roundw
        case rel => exact ⟨k + 1, f, by omega, by go_num, HO, HFL, HV, HD2, HLB, HX, HBr⟩
        case measure => simp [intOf]; omega
      · have HD2 := Lib.hid (HD.out.put ht)
        have HV2 := Lib.hid (loc_put HV.out ht (by rw [← hkd]; exact h0))
        have HL2 := Lib.hid (show (f.set k ⟨t.kind, [97], t.arms⟩).length = sn by rw [List.length_set]; exact HFL.out)
        have n0 : (kd != 0) = true := bne_iff_ne.2 h0
        clear hpt ht hkd hvf hqq h0
        go_wp2
        go_roundw
        case rel => exact ⟨k + 1, _, by omega, by go_num, HPT, HL2, HV2, HD2, Lib.hid ((heap_setCell_ne (by omega)).trans HLB.out), Lib.hid ((heap_setCell_ne (by omega)).trans HX.out), Lib.hid (HBr.out.setCell (by show w.heap.size ≤ q; omega) _)⟩
        case measure => simp [intOf]; omega
    · obtain rfl : k = sn := by omega
      obtain ⟨xc0, xc1⟩ := HX.out.cells
      have xf0 := HX.out.thaw 0
      have xf1 := HX.out.thaw 1
      go_wp2
      refine bodyPost_ret (v := .agg #[.string ⟨#[116]⟩, .slice (some ⟨q, 0, none⟩) k sc]) (by simp [results, go_sem, xc0, xc1]) rfl ?_
      refine ⟨⟨some ⟨q, 0, none⟩, k, sc, f, rfl, ?_, HFL.out, HV.out, by have := HFL.out; omega, fun t ht hne => ?_⟩, (HBr.out.setCell (Nat.le_refl _) _).setCell (Nat.le_refl _) _⟩
      · have h2 := (HO.out.beside ((Beside.refl w.heap.size wr).setCell 0 (.string ⟨#[116]⟩)) (by omega)).beside ((Beside.refl w.heap.size _).setCell 1 (.slice (some ⟨q, 0, none⟩) k sc)) (by omega)
        exact (h2.row (by have := HFL.out; omega)).1
      · obtain ⟨j, hj, e⟩ := List.mem_iff_getElem.1 ht
        exact HD.out j (by have := HFL.out; omega) t (by rw [List.getElem?_eq_getElem hj, e]) hne
end Go.Proofs.YtiofpeckcfdilaaGreatDoor
