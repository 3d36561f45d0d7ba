/- Law: MirrorRefuses. -/
import Derived.Test.YtiofpeckcfdilaaGreatDoorMiAll
import Derived.Test.YtiofpeckcfdilaaGreatDoorMiLifts
import Derived.Test.YtiofpeckcfdilaaGreatDoorTuSeat
import Derived.Test.YtiofpeckcfdilaaGreatDoorCards
import Derived.Test.YtiofpeckcfdilaaGreatDoorTie
import Derived.SevenTiedAt
import Derived.LaidOnce
import Derived.Lay
import Derived.ChangeOld
import Derived.ShutString
namespace Go.Proofs.YtiofpeckcfdilaaGreatDoor
open Go.RowKit

theorem t_list : (⟨#[116]⟩ : ByteArray).toList = [116] := by rw [ByteArray.toList_eq]
theorem t_small : (⟨#[116]⟩ : ByteArray).size ≤ maxLen := by simp [maxLen, ByteArray.size]
theorem lift_few {ts : List TurnL} (h : locB ts = true) (hf : ts.length ≤ 6) (me : Str) : liftE ts me = mirE ts me := by
  unfold liftE
  by_cases h0 : mirE ts me = 0
  · rw [if_pos h0, h0, if_neg]
    rw [trimL_of h, trim_len]
    have := reach_few h
    omega
  · rw [if_neg h0]
theorem mirE_ways {ts : List TurnL} (h : locB ts = true) (me : Str) :
    (may me = false ∧ mirE ts me = 1200) ∨ (may me = true ∧ 1 < (peersT ts).length ∧ mirE ts me = 1201) ∨ (may me = true ∧ ¬ 1 < (peersT ts).length ∧ hasS (peersT ts) me = true ∧ mirE ts me = 1201) ∨ (may me = true ∧ ¬ 1 < (peersT ts).length ∧ hasS (peersT ts) me = false ∧ mirE ts me = 0) := by
  unfold mirE
  rw [h]
  cases hm : may me
  · exact .inl ⟨rfl, rfl⟩
  · by_cases h1 : 1 < (peersT ts).length
    · exact .inr (.inl ⟨rfl, h1, by rw [decide_eq_true h1]; rfl⟩)
    · cases hh : hasS (peersT ts) me
      · exact .inr (.inr (.inr ⟨rfl, h1, rfl, by rw [decide_eq_false h1]; rfl⟩))
      · exact .inr (.inr (.inl ⟨rfl, h1, rfl, by rw [decide_eq_false h1]; rfl⟩))
set_option maxHeartbeats 16000000 in
set_option maxRecDepth 20000 in
theorem mirrorRefuses_walk (a : Option Addr) (n c : Nat) (l : List Int) (x : ByteArray) (w : World) (h : Nums w w.heap.size a n l) (hlim : n * 8 ≤ 140737488351232) (hx : x.size ≤ maxLen) :
    Calls Tryz.prog 6 #[.slice a n c, .string x] w fun e w' => e = .returned (.bool true) ∧ Below w.heap.size w w' := by
  have HN := Lib.hid h
  have HF := Lib.hid (miFirst_any w)
  clear h
  go_enter Tryz.func6, Tryz.ntmps6
  go_upto_region 4 with (first
    | (go_at_call 7; (with_reducible refine HF.out.mono ?_)
       rintro e w1 ⟨rfl, hb1⟩
       have HB1 := Lib.hid hb1
       clear hb1)
    | (go_at_call 10; (with_reducible refine (new_any a n c l w1 w.heap.size (HN.out.below HB1.out) hlim).mono ?_)
       rintro e w2 ⟨g, rfl, hd2, hg2, hb2⟩
       have HD2 := Lib.hid hd2
       have HB2 := Lib.hid hb2
       clear hd2 hb2)
    | (go_at_call 9; (with_reducible refine (made_local HD2.out).mono ?_)
       rintro e w3 ⟨⟨sa, sn, sc, ts, rfl, hm3, hln, hloc, hfew⟩, hb3⟩
       have HT3 := Lib.hid (hm3.sees (by omega))
       have HLOC := Lib.hid hloc
       have HFEW := Lib.hid hfew
       have HB3 := Lib.hid (below_on HB1.out (HB2.out.trans (hb3.below hg2 HB2.out.size)))
       clear hm3 hloc hb3 hln hfew)
    | fail)
  have HL4 := Lib.hid (LBox.new w3 ⟨#[116]⟩ sa sn sc)
  have HBX := Lib.hid (tu1 w3 (.cells #[.string ⟨#[116]⟩, .slice sa sn sc] 24))
  obtain ⟨g4, hg4⟩ : ∃ g4, g4 = w3.heap.size := ⟨_, rfl⟩
  rw [← hg4] at HL4 ⊢
  clear hg4
  generalize hw4 : w3.alloc (.cells #[.string ⟨#[116]⟩, .slice sa sn sc] 24) = w4 at HL4 HBX ⊢
  clear hw4
  have HT4 := Lib.hid (HT3.out.on HBX.out)
  have HB4 := Lib.hid (below_on HB3.out HBX.out)
  have CO := Lib.hid (fun (W : World) (hW : Below w4.heap.size w4 W) => of_any ⟨#[116]⟩ x sa sn sc ts W _ (Nat.le_refl _) (HT4.out.on hW) hx)
  have CL := Lib.hid (fun (W : World) (hW : Below w4.heap.size w4 W) => lift_any ⟨#[116]⟩ x sa sn sc ts W _ (Nat.le_refl _) (HT4.out.on hW) hx t_small)
  have CP := Lib.hid (fun (W : World) (hW : Below w4.heap.size w4 W) => ownPeers_any ⟨#[116]⟩ sa sn sc ts W _ (Nat.le_refl _) (HT4.out.on hW))
  have CK := Lib.hid (fun (W : World) => may_any x W hx)
  have CH := Lib.hid (fun (W : World) (ra : Option Addr) (rn rc : Nat) (hs : Strs W W.heap.size ra rn (peersT ts)) => has_any ra rn rc (peersT ts) x W _ hs)
  unfold OfRet at CO
  unfold LiftRet at CL
  rw [lift_few HLOC.out HFEW.out] at CL
  obtain ⟨E, hE⟩ : ∃ E, E = mirE ts x.toList := ⟨_, rfl⟩
  rw [← hE] at CO CL
  have HE := Lib.hid hE
  clear hE
  obtain ⟨lc0, lc1⟩ := HL4.out.cells
  go_upto_region 7 with (first
    | (go_at_call 11; (with_reducible refine (CO.out _ (Below.refl _ _)).mono ?_)
       rintro e w5 ⟨⟨ra, rn, rc, rfl, ht5⟩, hb5⟩
       have HT5 := Lib.hid ht5.1
       have HB5 := Lib.hid (below_on hb5 (tu1 w5 (.cells #[.string (mirN ts ⟨#[116]⟩ x.toList), .slice ra rn rc] 24)))
       have HM5 := Lib.hid (LBox.new w5 (mirN ts ⟨#[116]⟩ x.toList) ra rn rc)
       have HL5 := Lib.hid (HL4.out.on HB5.out)
       obtain ⟨_, _⟩ := HL5.out.cells
       clear hb5 ht5)
    | (go_at_call 13; (with_reducible refine (CL.out _ HB5.out).mono ?_)
       rintro e w6 ⟨⟨qa, qn, qc, pa, pn, pc, rfl, _, hp6⟩, hb6⟩
       have HP6 := Lib.hid hp6.1
       have HB6 := Lib.hid (below_on (below_on HB5.out hb6) (tu1 w6 (.cells #[.string (liftQN ts ⟨#[116]⟩ x.toList), .slice qa qn qc, .slice pa pn pc] 37)))
       have HM6 := Lib.hid ((HM5.out.on hb6).on (tu1 w6 (.cells #[.string (liftQN ts ⟨#[116]⟩ x.toList), .slice qa qn qc, .slice pa pn pc] 37)))
       have HQ6 := Lib.hid (PBox.new w6 (liftQN ts ⟨#[116]⟩ x.toList) qa qn qc pa pn pc)
       obtain ⟨_, _⟩ := (HL4.out.on HB6.out).cells
       clear hb6 hp6)
    | (go_at_call 25; (with_reducible refine (CP.out _ HB6.out).mono ?_)
       rintro e w7 ⟨⟨xa, xn, xc, rfl, hss⟩, hb7⟩
       have HB7 := Lib.hid (below_on HB6.out hb7)
       have HM7 := Lib.hid (HM6.out.on hb7)
       have HQ7 := Lib.hid (HQ6.out.on hb7)
       have HSS := Lib.hid hss
       clear hb7 hss)
    | fail)
  have hlen := HSS.out.1
  rcases mirE_ways HLOC.out x.toList with ⟨hk, hw⟩ | ⟨hk, h1, hw⟩ | ⟨hk, h1, hh, hw⟩ | ⟨hk, h1, hh, hw⟩
  · rw [hk] at CK
    obtain rfl : E = 1200 := HE.out.trans hw
    obtain rfl : rn = 0 := by
      have := HT5.out
      unfold mirQ at this
      rw [if_neg (by rw [hw]; decide)] at this
      exact this.symm
    obtain rfl : pn = 0 := by
      have := HP6.out
      unfold liftQP at this
      rw [if_neg (by rw [lift_few HLOC.out HFEW.out, hw]; decide)] at this
      exact this.symm
    clear hk hlen
    clear hw
    obtain ⟨m0, m1⟩ := HM7.out.cells
    obtain ⟨q0, q1, q2⟩ := HQ7.out.cells
    go_wp2_with (first
      | (go_at_call 26; (with_reducible refine (CK.out _).mono ?_)
         rintro e w9 ⟨rfl, rfl⟩)
      | fail)
    go_ret
    exact ⟨rfl, below_on HB4.out HB7.out⟩
  · rw [hk] at CK
    obtain rfl : E = 1201 := HE.out.trans hw
    obtain rfl : rn = 0 := by
      have := HT5.out
      unfold mirQ at this
      rw [if_neg (by rw [hw]; decide)] at this
      exact this.symm
    obtain rfl : pn = 0 := by
      have := HP6.out
      unfold liftQP at this
      rw [if_neg (by rw [lift_few HLOC.out HFEW.out, hw]; decide)] at this
      exact this.symm
    have d1 : decide ((1 : Int) < (xn : Int)) = true := decide_eq_true (by omega)
    clear hk h1 hlen
    clear hw
    obtain ⟨m0, m1⟩ := HM7.out.cells
    obtain ⟨q0, q1, q2⟩ := HQ7.out.cells
    go_wp2_with (first
      | (go_at_call 26; (with_reducible refine (CK.out _).mono ?_)
         rintro e w9 ⟨rfl, rfl⟩)
      | fail)
    go_ret
    exact ⟨rfl, below_on HB4.out HB7.out⟩
  · rw [hk] at CK
    rw [hh] at CH
    obtain rfl : E = 1201 := HE.out.trans hw
    obtain rfl : rn = 0 := by
      have := HT5.out
      unfold mirQ at this
      rw [if_neg (by rw [hw]; decide)] at this
      exact this.symm
    obtain rfl : pn = 0 := by
      have := HP6.out
      unfold liftQP at this
      rw [if_neg (by rw [lift_few HLOC.out HFEW.out, hw]; decide)] at this
      exact this.symm
    have d1 : decide ((1 : Int) < (xn : Int)) = false := decide_eq_false (by omega)
    clear hk h1 hh hlen
    clear hw
    obtain ⟨m0, m1⟩ := HM7.out.cells
    obtain ⟨q0, q1, q2⟩ := HQ7.out.cells
    go_wp2_with (first
      | (go_at_call 26; (with_reducible refine (CK.out _).mono ?_)
         rintro e w9 ⟨rfl, rfl⟩)
      | (go_at_call 27; (with_reducible refine (CH.out _ _ _ _ HSS.out).mono ?_)
         rintro e w9 ⟨rfl, rfl⟩)
      | fail)
    go_ret
    exact ⟨rfl, below_on HB4.out HB7.out⟩
  · rw [hk] at CK
    rw [hh] at CH
    obtain rfl : E = 0 := HE.out.trans hw
    have d1 : decide ((1 : Int) < (xn : Int)) = false := decide_eq_false (by omega)
    clear hk h1 hh hlen
    clear hw
    obtain ⟨m0, m1⟩ := HM7.out.cells
    obtain ⟨q0, q1, q2⟩ := HQ7.out.cells
    go_wp2_with (first
      | (go_at_call 26; (with_reducible refine (CK.out _).mono ?_)
         rintro e w9 ⟨rfl, rfl⟩)
      | (go_at_call 27; (with_reducible refine (CH.out _ _ _ _ HSS.out).mono ?_)
         rintro e w9 ⟨rfl, rfl⟩)
      | fail)
    go_ret
    exact ⟨rfl, below_on HB4.out HB7.out⟩
end Go.Proofs.YtiofpeckcfdilaaGreatDoor

/- The statement MirrorRefuses holds for every argument, with no condition; the listed tables are tied to the program's text. -/
namespace Go.Proofs.YtiofpeckcfdilaaGreatDoor.mirrorRefuses
open Go Go.ChangeShapes Go.WideShapes Go.ChangeAt Go.RowKit
open Go.ChangeMaps (open_string shut_string)

theorem door_met (os : Os) (args : Array Value) : laidMetH Tryz.prog Rows.mirrorRefusesRow.laid ((World.laidAll Tryz.prog os Rows.mirrorRefusesRow.laid).forCall (fun _ _ => 0) ⟨#[], args, []⟩).memory := by
  rw [MakeChecks.laidMetH_plain _ _ _ (by kernel_rfl)]
  exact laidMet_laidAll _ (by kernel_rfl) (by kernel_rfl)
set_option maxRecDepth 100000 in
theorem lifted (os : Os) (started : os.Started) (H : Type) (enc : TypeId × Value → H) :
    ReturnsInHanded {} Tryz.checked os 6 .any (fun w args => (Rows.mirrorRefusesSpec.pre enc Tryz.prog Tryz.f6 [] false w args ∧ laidMetH Tryz.prog Rows.mirrorRefusesRow.laid w) ∧ sizedMet enc Tryz.prog Tryz.f6 (OpenSpec.ofChange Rows.mirrorRefusesSpec) false w args)
      (Rows.mirrorRefusesSpec.post enc Tryz.prog Tryz.f6 false true false false) := by
  refine returnsInHanded_of_change_and (C := Tryz.checked) (X := fun w _ => laidMetH Tryz.prog Rows.mirrorRefusesRow.laid w) (fun _ _ _ hh h => h.of_heap hh) seatOwn started (by kernel_rfl) Tryz.func6
    (ChangeSpec.witness_shaped (enc := enc) (C := Tryz.checked) (os := os) (X := fun w _ => laidMetH Tryz.prog Rows.mirrorRefusesRow.laid w) false (World.laidAll Tryz.prog os Rows.mirrorRefusesRow.laid) #[.slice none 0 0, .string ByteArray.empty] 8 (World.laidAll_os _ _ _)
      (World.shaped_of_ZipB (by kernel_rfl) (by kernel_rfl)) (by kernel_rfl) (by kernel_rfl) (by kernel_rfl) (door_met os _)) ?_
  intro W base args ds gs before hval0 hW _ hsz0 hX0 _
  have hval : ∀ (j : Nat) t v, Tryz.f6.params[j]? = some t → args[j]? = some v → Value.okWide Tryz.prog W .any base t v := hval0
  have hsz : (DataW.weightsEach Tryz.prog (Tryz.f6.params.toList ++ Rows.mirrorRefusesSpec.plain.varTypes Tryz.prog) (ds ++ gs)).all (· ≤ reachBytes) = true := hsz0
  have hW' := hW
  obtain ⟨p, q, hA0, hV, rfl, hfz, hnd⟩ := hW
  have hA : DataW.TrodAll enc Tryz.prog W 0 (fun _ => true) true Tryz.f6.params.toList args.toList ds p := hA0
  rw [Tryz.params6] at hA hval hsz
  obtain ⟨v0, vs0, d0, ds0, p0, q0, hargs, rfl, rfl, h0, r0⟩ := trodAll_cons hA
  obtain ⟨v1, vs1, d1, ds1, p1, q1, rfl, rfl, rfl, h1, r1⟩ := trodAll_cons r0
  obtain ⟨rfl, rfl, rfl⟩ := trodAll_nil r1
  obtain rfl : args = #[v0, v1] := by cases args; simp_all
  obtain ⟨rfl, rfl⟩ := trodVars_none hV
  have k0 := h0
  have lt0 := args_below k0
  obtain ⟨fu0, hf0⟩ := h0
  obtain ⟨ia0, ilen0, icap0, rfl⟩ := okWide_slice Tryz.underlying25 (hval 0 25 v0 rfl rfl)
  obtain ⟨a0, n0, c0, l0, hv0, hn0, hi0, hc0, hm0, hz0⟩ := open_ints hf0 (fun elems spare e => by
    have := sized_slice hsz (j := 0) (t := 25) (e := 3) rfl (congrArg some e) Tryz.underlying25
    rwa [seatBytes2] at this)
  obtain ⟨ea0, en0, ec0⟩ := Value.slice.inj hv0
  subst ea0 en0 ec0
  have k1 := h1
  have lt1 := args_below k1
  obtain ⟨s1, rfl, rfl, rfl, w1⟩ := open_string Tryz.underlying9 (hval 1 9 v1 rfl rfl) h1
  clear hA0 hval0 hsz0
  refine (mirrorRefuses_walk ia0 ilen0 icap0 l0 s1 W hn0 hz0 w1).mono fun e W' ⟨he, bel⟩ => ?_
  subst he
  exact ⟨_, rfl, _, _, _, [], _, [], hW', trodAll_mk1 (shut_bool Tryz.underlying4 _), (trodAll_cons_mk (Below.trod seatLaidOut (by kernel_rfl) (of_decide_eq_true (by kernel_rfl)) k0 bel lt0) (trodAll_cons_mk (Below.trod seatLaidOut (by kernel_rfl) (of_decide_eq_true (by kernel_rfl)) k1 bel lt1) trodAll_mk0)), rfl, bel.frame _, fun h => by cases h⟩

theorem over : Rows.MirrorRefusesSaid :=
  OpenClaim.holds_of_wide 6 Tryz.f6 rfl rfl rfl rfl rfl rfl rfl ⟨rfl, rfl, rfl, rfl, rfl⟩ rfl rfl rfl rfl rfl (by kernel_rfl) Tryz.func6 (by kernel_rfl)
    (of_decide_eq_true (by kernel_rfl)) (by unfold Func.isWrapper; first | (rw [if_pos (by decide +kernel)]; kernel_rfl) | (rw [if_neg (by decide +kernel)]; exact ⟨rfl, rfl⟩))
    (fun os started H enc _ => lifted os started H enc)

theorem proved : Rows.MirrorRefusesCardSaid :=
  Claim7.holds_tied_plain_at .later [] [.data, .data, .data] true _ false
    over (fun _ h => by cases h) (by kernel_rfl) (fun _ h => by cases h) mirrorRefuses_row_tie rfl ⟨rfl, rfl⟩ (by kernel_rfl) rfl
    (fun f fn hf hfn => by
      obtain rfl : f = 6 := Option.some.inj ((show Tryz.prog.funcNamed Rows.mirrorRefusesRow.func = some 6 by kernel_rfl).symm.trans hf) |>.symm
      obtain rfl : fn = Tryz.f6 := (Option.some.inj (Tryz.func6.symm.trans hfn)).symm
      exact ⟨by kernel_rfl, fun j t ht => by
        rw [Tryz.params6] at ht
        have hm : t ∈ [25, 9] := by simpa using Array.mem_of_getElem? ht
        have hall : ([25, 9].all fun u => !Tryz.prog.wantsStandIn u) = true := by kernel_rfl
        exact (show Tryz.prog.wantsStandIn t = false by simpa using List.all_eq_true.1 hall t hm)⟩)
    (by kernel_rfl)
#print axioms proved
end Go.Proofs.YtiofpeckcfdilaaGreatDoor.mirrorRefuses
