/- What reparteemake's carries and arms answer where ends of types may be carried. -/
import Derived.Test.YtiofpeckcfdilaaGreatDoorTuMakes
namespace Go.Proofs.YtiofpeckcfdilaaGreatDoor
open Go.RowKit

/-- Names of types in memory, beside the dice. -/
def TyIn (W : World) (g : Nat) (ta : Option Addr) (tn : Nat) : Prop := tn ≤ 900 ∧ ∀ j, j < tn → ∃ (b off : Nat) (s : ByteArray), ta = some ⟨b, off, none⟩ ∧ b ≠ g ∧ b < W.heap.size ∧ W.cell? ⟨b, off + j, none⟩ = some (.string s) ∧ s.size ≤ maxLen ∧ typeB s.toList = true
theorem TyIn.beside {W W' : World} {g : Nat} {ta : Option Addr} {tn : Nat} (h : TyIn W g ta tn) (hb : Beside g W W') : TyIn W' g ta tn :=
  ⟨h.1, fun j hj => by
    obtain ⟨b, off, s, e, hne, hlt, hc, h1⟩ := h.2 j hj
    exact ⟨b, off, s, e, hne, Nat.lt_of_lt_of_le hlt hb.size, (hb.cell (p := ⟨b, off + j, none⟩) hlt hne).trans hc, h1⟩⟩
theorem TyIn.on {W W' : World} {g : Nat} {ta : Option Addr} {tn : Nat} (h : TyIn W g ta tn) (hb : Below W.heap.size W W') : TyIn W' g ta tn := h.beside (Beside.of_below hb)
theorem TyIn.zero (W : World) (g : Nat) (ta : Option Addr) : TyIn W g ta 0 := ⟨by omega, fun j hj => absurd hj (Nat.not_lt_zero j)⟩
/-- What is carried. -/
def CarT (e : Ending) : Prop := ∃ (k : Int) (s : ByteArray), e = .returned (.agg #[.int .i64 k, .string s]) ∧ s.size ≤ maxLen ∧ carriesB k s.toList = true
theorem carT_data {k : Int} (h0 : 0 ≤ k) (h5 : k < 5) : CarT (.returned (.agg #[.int .i64 k, .string ⟨#[]⟩])) := ⟨k, ⟨#[]⟩, rfl, by simp [maxLen, ByteArray.size], by
  unfold carriesB
  rw [if_neg (by omega), decide_eq_true h0, decide_eq_true h5, ByteArray.toList_eq]
  rfl⟩
theorem carT_type {s : ByteArray} (hs : s.size ≤ maxLen) (ht : typeB s.toList = true) : CarT (.returned (.agg #[.int .i64 5, .string s])) := ⟨5, s, rfl, hs, by
  unfold carriesB
  rw [if_pos rfl, ht]⟩
set_option maxHeartbeats 8000000 in
theorem carriesT_any (g : Nat) (ta : Option Addr) (tn tc : Nat) (w : World) (hD : Dice w g) (hT : TyIn w g ta tn) :
    Calls Tryz.prog 66 #[.pointer (some ⟨g, 0, none⟩), .slice ta tn tc] w fun e w' => CarT e ∧ Dice w' g ∧ Beside g w w' := by
  have hlt := hD.lt
  have HB1 := Lib.hid (tu1 w (.cells #[.int .i64 0, .string ⟨#[]⟩] 65))
  have HD1 := Lib.hid (hD.on HB1.out)
  have HT1 := Lib.hid (hT.on HB1.out)
  have CD := Lib.hid (fun (W : World) (h : Dice W g) => data_any g W h)
  have HBOX := Lib.hid (heap_alloc_new w (.cells #[.int .i64 0, .string ⟨#[]⟩] 65))
  have ht9 := hT.1
  clear hD hT
  rcases Nat.eq_zero_or_pos tn with h0 | hpos
  · have d1 : decide (0 < tn) = false := decide_eq_false (by omega)
    clear h0
    go_enter Tryz.func66, Tryz.ntmps66
    go_wp2_with (first
      | (go_at_call 90; (with_reducible refine (CD.out _ HD1.out).mono ?_)
         rintro e w2 ⟨⟨x, hx0, hx5, rfl⟩, hd2, hb2⟩
         have HD2 := Lib.hid hd2
         have HBS := Lib.hid (hb2.cut HB1.out)
         have hbx := (hb2.block w.heap.size (by simp) (by omega)).trans HBOX.out
         have f0 : w2.frozen? ⟨w.heap.size, 0, none⟩ = false := by unfold World.frozen?; rw [hbx]; simp
         have f1 : w2.frozen? ⟨w.heap.size, 1, none⟩ = false := by unfold World.frozen?; rw [hbx]; simp
         have c0 : w2.cell? ⟨w.heap.size, 0, none⟩ = some (.int .i64 0) := by rw [cell_of_row _ _ _ _ _ _ hbx]; rfl
         have c1 : w2.cell? ⟨w.heap.size, 1, none⟩ = some (.string ⟨#[]⟩) := by rw [cell_of_row _ _ _ _ _ _ hbx]; rfl
         clear hd2 hb2 hbx)
      | fail)
    have hset : ∀ u v, Dice ((w2.setCell ⟨w.heap.size, 0, none⟩ u).setCell ⟨w.heap.size, 1, none⟩ v) g ∧ Beside g w ((w2.setCell ⟨w.heap.size, 0, none⟩ u).setCell ⟨w.heap.size, 1, none⟩ v) := fun u v => by
      have h1 : Below w.heap.size w2 ((w2.setCell ⟨w.heap.size, 0, none⟩ u).setCell ⟨w.heap.size, 1, none⟩ v) := ((Below.refl _ _).setCell (by simp) u).setCell (by simp) v
      have hb := HBS.out
      exact ⟨HD2.out.below h1 hlt, h1.os.trans hb.os, h1.tape.trans hb.tape, h1.output.trans hb.output, Nat.le_trans hb.size h1.size, fun k hk hne => (h1.block k hk).trans (hb.block k hk hne)⟩
    refine bodyPost_ret (v := .agg #[.int .i64 x, .string ⟨#[]⟩]) (by simp [results, go_sem, c0, c1]) rfl ?_
    exact ⟨carT_data hx0 hx5, (hset _ _).1, (hset _ _).2⟩
  · have d1 : decide (0 < tn) = true := decide_eq_true hpos
    have CP4 := Lib.hid (pick_at g 4 4 (w.alloc (.cells #[.int .i64 0, .string ⟨#[]⟩] 65)) rfl HD1.out (by omega) (by omega))
    have CPn := Lib.hid (fun (W : World) (h : Dice W g) => pick_any g tn W h hpos (by omega))
    go_enter Tryz.func66, Tryz.ntmps66
    go_upto_if 12 with (first
      | (go_at_call 28; (with_reducible refine CP4.out.mono ?_)
         rintro e w1 ⟨⟨k, hk, rfl⟩, hd1, hb1⟩
         have HD3 := Lib.hid hd1
         have HB3 := Lib.hid (hb1.cut HB1.out)
         have HBX := Lib.hid ((hb1.block w.heap.size (by simp) (by omega)).trans HBOX.out)
         have HT3 := Lib.hid (HT1.out.beside hb1)
         have hz3 : w.heap.size < w1.heap.size := by have := hb1.size; simp at this; omega
         clear hd1 hb1)
      | fail)
    cases hk1 : ((k : Int) == 1)
    · go_wp2_with (first
        | (go_at_call 90; (with_reducible refine (CD.out _ HD3.out).mono ?_)
           rintro e w2 ⟨⟨x, hx0, hx5, rfl⟩, hd2, hb2⟩
           have HD2 := Lib.hid hd2
           have HBS := Lib.hid (HB3.out.trans hb2)
           have hbx := (hb2.block w.heap.size hz3 (by omega)).trans HBX.out
           have f0 : w2.frozen? ⟨w.heap.size, 0, none⟩ = false := by unfold World.frozen?; rw [hbx]; simp
           have f1 : w2.frozen? ⟨w.heap.size, 1, none⟩ = false := by unfold World.frozen?; rw [hbx]; simp
           have c0 : w2.cell? ⟨w.heap.size, 0, none⟩ = some (.int .i64 0) := by rw [cell_of_row _ _ _ _ _ _ hbx]; rfl
           have c1 : w2.cell? ⟨w.heap.size, 1, none⟩ = some (.string ⟨#[]⟩) := by rw [cell_of_row _ _ _ _ _ _ hbx]; rfl
           clear hd2 hb2 hbx)
        | fail)
      have hset : ∀ u v, Dice ((w2.setCell ⟨w.heap.size, 0, none⟩ u).setCell ⟨w.heap.size, 1, none⟩ v) g ∧ Beside g w ((w2.setCell ⟨w.heap.size, 0, none⟩ u).setCell ⟨w.heap.size, 1, none⟩ v) := fun u v => by
        have h1 : Below w.heap.size w2 ((w2.setCell ⟨w.heap.size, 0, none⟩ u).setCell ⟨w.heap.size, 1, none⟩ v) := ((Below.refl _ _).setCell (by simp) u).setCell (by simp) v
        have hb := HBS.out
        exact ⟨HD2.out.below h1 hlt, h1.os.trans hb.os, h1.tape.trans hb.tape, h1.output.trans hb.output, Nat.le_trans hb.size h1.size, fun k hk hne => (h1.block k hk).trans (hb.block k hk hne)⟩
      refine bodyPost_ret (v := .agg #[.int .i64 x, .string ⟨#[]⟩]) (by simp [results, go_sem, c0, c1]) rfl ?_
      exact ⟨carT_data hx0 hx5, (hset _ _).1, (hset _ _).2⟩
    · go_wp2_with (first
        | (go_at_call 28; (with_reducible refine (CPn.out _ HD3.out).mono ?_)
           rintro e w2 ⟨⟨j, hj, rfl⟩, hd2, hb2⟩
           have HD2 := Lib.hid hd2
           have HBS := Lib.hid (HB3.out.trans hb2)
           have hbx := (hb2.block w.heap.size hz3 (by omega)).trans HBX.out
           have f0 : w2.frozen? ⟨w.heap.size, 0, none⟩ = false := by unfold World.frozen?; rw [hbx]; simp
           have f1 : w2.frozen? ⟨w.heap.size, 1, none⟩ = false := by unfold World.frozen?; rw [hbx]; simp
           have c0 : w2.cell? ⟨w.heap.size, 0, none⟩ = some (.int .i64 0) := by rw [cell_of_row _ _ _ _ _ _ hbx]; rfl
           have c1 : w2.cell? ⟨w.heap.size, 1, none⟩ = some (.string ⟨#[]⟩) := by rw [cell_of_row _ _ _ _ _ _ hbx]; rfl
           obtain ⟨b, off, s, rfl, hbg, hbs, hc, hsz, hty⟩ := (HT3.out.beside hb2).2 j hj
           have i1 : (j : Int) < (tn : Int) := by omega
           have i2 : (0 : Int) ≤ (j : Int) := by omega
           have HSZ := Lib.hid (And.intro hsz hty)
           clear hd2 hb2 hbx hsz hty)
        | fail)
      have hset : ∀ u v, Dice ((w2.setCell ⟨w.heap.size, 0, none⟩ u).setCell ⟨w.heap.size, 1, none⟩ v) g ∧ Beside g w ((w2.setCell ⟨w.heap.size, 0, none⟩ u).setCell ⟨w.heap.size, 1, none⟩ v) := fun u v => by
        have h1 : Below w.heap.size w2 ((w2.setCell ⟨w.heap.size, 0, none⟩ u).setCell ⟨w.heap.size, 1, none⟩ v) := ((Below.refl _ _).setCell (by simp) u).setCell (by simp) v
        have hb := HBS.out
        exact ⟨HD2.out.below h1 hlt, h1.os.trans hb.os, h1.tape.trans hb.tape, h1.output.trans hb.output, Nat.le_trans hb.size h1.size, fun k hk hne => (h1.block k hk).trans (hb.block k hk hne)⟩
      refine bodyPost_ret (v := .agg #[.int .i64 5, .string s]) (by simp [results, go_sem, c0, c1]) rfl ?_
      exact ⟨carT_type HSZ.out.1 HSZ.out.2, (hset _ _).1, (hset _ _).2⟩
set_option maxHeartbeats 16000000 in
set_option maxRecDepth 20000 in
theorem makeArmsT_any (g : Nat) (ta : Option Addr) (tn tc : Nat) (pl : Nat) (w : World) (hD : Dice w g) (hT : TyIn w g ta tn) (hp1 : 1 ≤ pl) (hp2 : pl ≤ 1000) :
    Calls Tryz.prog 30 #[.pointer (some ⟨g, 0, none⟩), .slice ta tn tc, .int .i64 (pl : Int)] w fun e w' => (∃ v l, e = .returned v ∧ AOwn w' w.heap.size v l ∧ armsB pl l = true) ∧ Dice w' g ∧ Beside g w w' := by
  have hgl := hD.lt
  have CP1 := Lib.hid (pick_at g 3 3 w rfl hD (by omega) (by omega))
  have CP2 := Lib.hid (fun (W : World) (h : Dice W g) => pick_at g 4 4 W rfl h (by omega) (by omega))
  have CP3 := Lib.hid (fun (W : World) (h : Dice W g) => pick_any g pl W h hp1 hp2)
  have HTY := Lib.hid hT
  have CC := Lib.hid (fun (W : World) (h : Dice W g) (ht : TyIn W g ta tn) => carriesT_any g ta tn tc W h ht)
  clear hD hT
  go_enter Tryz.func30, Tryz.ntmps30
  go_wp2_with (first
    | (go_at_call 28; (with_reducible refine CP1.out.mono ?_)
       rintro e w1 ⟨⟨m, hm, rfl⟩, hd1, hb1⟩
       have HD1 := Lib.hid hd1
       have HB1 := Lib.hid hb1
       clear hd1 hb1)
    | (go_at_call 28; (with_reducible refine (CP2.out _ HD1.out).mono ?_)
       rintro e w2 ⟨⟨f, hf, rfl⟩, hd2, hb2⟩
       have HD2 := Lib.hid hd2
       have HB2 := Lib.hid (HB1.out.trans hb2)
       clear hd2 hb2)
    | fail)
  go_loopw [7, 10] (fun o i wr => ∃ (k : Nat) (v : Value) (l : List ArmL), k ≤ m + 1 ∧ i = .int .i64 k ∧ v = o ∧ Hid (AOwn wr w.heap.size v l) ∧ Hid (l.map ArmL.label = (List.range k).map fun i => labS (f + i)) ∧ Hid (∀ a ∈ l, armB pl a = true) ∧ Hid (Dice wr g) ∧ Hid (Beside g w wr)) (fun _ i _ => m + 1 - (intOf i).toNat)
  case atStart => exact ⟨0, _, [], by omega, rfl, rfl, Lib.hid (AOwn.zero _ _), Lib.hid rfl, Lib.hid (by simp), HD2, HB2⟩
  case round =>
    obtain ⟨k, v, l, hk, rfl, hvo, HO, HLB, HG, HD, HBr⟩ := hrel
    subst hvo
    have hll : l.length = k := by have := congrArg List.length HLB.out; simpa using this
    have hzr := HBr.out.size
    by_cases hlt : k < m + 1
    · have d1 : decide ((k : Int) < 1 + (m : Int)) = true := decide_eq_true (by omega)
      obtain ⟨j, hj⟩ : ∃ j, j = (f + k) % 4 := ⟨_, rfl⟩
      have hmod : ((f : Int) + (k : Int)).tmod 4 = (j : Int) := by rw [Int.tmod_eq_emod_of_nonneg (by omega)]; omega
      have hj4 : j < 4 := by omega
      have i1 : (j : Int) < 4 := by omega
      have i2 : (0 : Int) ≤ (j : Int) := by omega
      have HA1 := Lib.hid (show (wr.drew.alloc labObj).cell? ⟨wr.heap.size, j, none⟩ = some (.string (labB (f + k))) by rw [hj]; exact labObj_at wr.drew (f + k))
      have CL := Lib.hid (labels_any wr.drew)
      have HDd := Lib.hid (HD.out.drew.on (tu1 wr.drew labObj))
      have HBd := Lib.hid (show Beside g w (wr.drew.alloc labObj) from (HBr.out.trans ⟨rfl, rfl, rfl, Nat.le_refl _, fun _ _ _ => rfl⟩ : Beside g w wr.drew).alloc labObj)
      have HOd := Lib.hid (show AOwn (wr.drew.alloc labObj) w.heap.size v l from AOwn.alloc (show AOwn wr.drew w.heap.size v l by obtain ⟨rs, h1, h2⟩ := HO.out; exact ⟨rs, h1.drew, h2⟩) _)
      have hsd : (wr.drew.alloc labObj).heap.size = wr.heap.size + 1 := by simp
      have hwr : IntKind.i64.wrap ((f : Int) + (k : Int)) = (f : Int) + (k : Int) := by simp [IntKind.wrap, IntKind.bits, IntKind.signed]; omega
      clear hj
      go_wp2
      go_region_law (first
        | (refine step_append_arm w4 (by rfl) (.tmp 21) (.tmp 36) (by rfl) w.heap.size v l ⟨labB (f + k), ck, cs, (nx : Int)⟩ (by rfl) (by rfl) (by rfl) HO4.out ⟨by simp [labB, maxLen, ByteArray.size], HCS.out.1⟩ (by have := HB4.out.size; omega) (by omega) w4 (Below.refl _ _) ?_
           intro v5 w5 hown hbel
           have HO5 := Lib.hid hown
           have HD5 := Lib.hid (HD4.out.below hbel hgl)
           have HB5 := Lib.hid (show Beside g w w5 from ⟨hbel.os.trans HB4.out.os, hbel.tape.trans HB4.out.tape, hbel.output.trans HB4.out.output, Nat.le_trans HB4.out.size hbel.size, fun k hk hne => (hbel.block k hk).trans (HB4.out.block k hk hne)⟩)
           clear hown hbel)
        | (go_simp; go_at_call 65; (with_reducible refine CL.out.mono ?_)
           rintro e wl ⟨rfl, hwl⟩
           have hcl : wl.cell? ⟨wr.heap.size, j, none⟩ = some (.string (labB (f + k))) := by rw [hwl]; exact HA1.out
           have HDl := Lib.hid (show Dice wl g by rw [hwl]; exact HDd.out)
           have HBl := Lib.hid (show Beside g w wl by rw [hwl]; exact HBd.out)
           have HOl := Lib.hid (show AOwn wl w.heap.size v l by rw [hwl]; exact HOd.out)
           have hsl : wl.heap.size = wr.heap.size + 1 := by rw [hwl]; exact hsd
           clear hwl)
        | (go_simp; go_at_call 66; (with_reducible refine (CC.out _ HDl.out (HTY.out.beside HBl.out)).mono ?_)
           rintro e w3 ⟨⟨ck, cs, he3, hcs⟩, hd3, hb3⟩
           subst he3
           have HCS := Lib.hid hcs
           have hc3 := (hb3.cell (p := ⟨wr.heap.size, j, none⟩) (by show wr.heap.size < _; omega) (by show wr.heap.size ≠ g; omega)).trans hcl
           have HD3 := Lib.hid hd3
           have HB3 := Lib.hid (HBl.out.trans hb3)
           have HO3 := Lib.hid (HOl.out.beside hb3 hgl)
           have hs3 := hb3.size
           clear hd3 hb3 hcs)
        | (go_simp; go_at_call 28; (with_reducible refine (CP3.out _ HD3.out).mono ?_)
           rintro e w4 ⟨⟨nx, hnx, rfl⟩, hd4, hb4⟩
           have hc4 := (hb4.cell (p := ⟨wr.heap.size, j, none⟩) (by show wr.heap.size < _; omega) (by show wr.heap.size ≠ g; omega)).trans hc3
           have HD4 := Lib.hid hd4
           have HB4 := Lib.hid (HB3.out.trans hb4)
           have HO4 := Lib.hid (HO3.out.beside hb4 hgl)
           clear hd4 hb4)
        | fail)
      all_goals
        go_wp2
        have HL5 := Lib.hid (show (l ++ [armR ⟨labB (f + k), ck, cs, (nx : Int)⟩]).map ArmL.label = (List.range (k + 1)).map fun i => labS (f + i) by
          rw [List.map_append, HLB.out, List.range_succ, List.map_append]
          show _ ++ [(labB (f + k)).toList] = _
          rw [labB_list]
          rfl)
        have HG5 := Lib.hid (show ∀ a ∈ l ++ [armR ⟨labB (f + k), ck, cs, (nx : Int)⟩], armB pl a = true from fun a ha => by
          rcases List.mem_append.1 ha with ha | ha
          · exact HG.out a ha
          · rw [List.mem_singleton.1 ha]
            unfold armR
            rw [labB_list, armB_ways, labS_may, HCS.out.2, decide_eq_true (show (0 : Int) ≤ (nx : Int) by omega), decide_eq_true (show (nx : Int) < (pl : Int) by omega)]
            rfl)
        go_roundw
        case rel => exact ⟨k + 1, v5, _, by omega, by go_num, rfl, HO5, HL5, HG5, HD5, HB5⟩
        case measure => simp [intOf]; omega
    · have d1 : decide ((k : Int) < 1 + (m : Int)) = false := decide_eq_false (by omega)
      have hok : armsB pl l = true := by
        unfold armsB
        rw [List.all_eq_true.2 HG.out, HLB.out, decide_eq_true (labS_nodup f k (by omega)), decide_eq_true (show 1 ≤ l.length by omega), decide_eq_true (show l.length ≤ 6 by omega)]
        rfl
      have HOK := Lib.hid hok
      clear hok
      go_wp2
      go_ret
      exact ⟨⟨v, l, rfl, HO.out, HOK.out⟩, HD.out, HBr.out⟩
end Go.Proofs.YtiofpeckcfdilaaGreatDoor
