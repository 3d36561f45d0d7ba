/- What reparteemake's carries and arms answer where ends of types may be carried. -/
import Derived.Test.YtokgpdceckaddaaGreatDoorTuMakes
import Derived.Test.YtokgpdceckaddaaGreatDoorGlMakes
import Derived.Test.YtokgpdceckaddaaGreatDoorGlFirsts
import Derived.Test.YtokgpdceckaddaaGreatDoorPjFirsts
namespace Go.Proofs.YtokgpdceckaddaaGreatDoor
open Go.RowKit

/-- Names of types in memory, beside the dice. -/
def TyIn (W : World) (g : Nat) (ta : Option Addr) (tn : Nat) : Prop := tn ≤ 900 ∧ ∀ j, j < tn → ∃ (b off : Nat) (s : ByteArray), ta = some ⟨b, off, none⟩ ∧ b ≠ g ∧ b < W.heap.size ∧ W.cell? ⟨b, off + j, none⟩ = some (.string s) ∧ s.size ≤ maxLen ∧ typeB s.toList = true
theorem TyIn.beside {W W' : World} {g : Nat} {ta : Option Addr} {tn : Nat} (h : TyIn W g ta tn) (hb : Beside g W W') : TyIn W' g ta tn :=
  ⟨h.1, fun j hj => by
    obtain ⟨b, off, s, e, hne, hlt, hc, h1⟩ := h.2 j hj
    exact ⟨b, off, s, e, hne, Nat.lt_of_lt_of_le hlt hb.size, (hb.cell (p := ⟨b, off + j, none⟩) hlt hne).trans hc, h1⟩⟩
theorem TyIn.on {W W' : World} {g : Nat} {ta : Option Addr} {tn : Nat} (h : TyIn W g ta tn) (hb : Below W.heap.size W W') : TyIn W' g ta tn := h.beside (Beside.of_below hb)
theorem TyIn.zero (W : World) (g : Nat) (ta : Option Addr) : TyIn W g ta 0 := ⟨by omega, fun j hj => absurd hj (Nat.not_lt_zero j)⟩
/-- What is carried. -/
def CarT (e : Ending) : Prop := ∃ (k : Int) (s : ByteArray), e = .returned (.agg #[.int .i64 k, .string s]) ∧ s.size ≤ maxLen ∧ carriesB k s.toList = true
theorem carT_data {k : Int} (h0 : 0 ≤ k) (h5 : k < 5) : CarT (.returned (.agg #[.int .i64 k, .string ⟨#[]⟩])) := ⟨k, ⟨#[]⟩, rfl, by simp [maxLen, ByteArray.size], by
  unfold carriesB
  rw [if_neg (by omega), decide_eq_true h0, decide_eq_true h5, ByteArray.toList_eq]
  rfl⟩
theorem carT_type {s : ByteArray} (hs : s.size ≤ maxLen) (ht : typeB s.toList = true) : CarT (.returned (.agg #[.int .i64 5, .string s])) := ⟨5, s, rfl, hs, by
  unfold carriesB
  rw [if_pos rfl, ht]⟩
set_option maxHeartbeats 8000000 in
theorem carriesT_any (g : Nat) (ta : Option Addr) (tn tc : Nat) (w : World) (hD : Dice w g) (hT : TyIn w g ta tn) :
    Calls Tryz.prog 99 #[.pointer (some ⟨g, 0, none⟩), .slice ta tn tc] w fun e w' => CarT e ∧ Dice w' g ∧ Beside g w w' := by
  have hlt := hD.lt
  have HB1 := Lib.hid (tu1 w (.cells #[.int .i64 0, .string ⟨#[]⟩] 43))
  have HD1 := Lib.hid (hD.on HB1.out)
  have HT1 := Lib.hid (hT.on HB1.out)
  have CD := Lib.hid (fun (W : World) (h : Dice W g) => data_any g W h)
  have HBOX := Lib.hid (heap_alloc_new w (.cells #[.int .i64 0, .string ⟨#[]⟩] 43))
  have ht9 := hT.1
  clear hD hT
  rcases Nat.eq_zero_or_pos tn with h0 | hpos
  · have d1 : decide (0 < tn) = false := decide_eq_false (by omega)
    clear h0
    go_enter Tryz.func99, Tryz.ntmps99
    go_wp2_with (first
      | (go_at_call 98; (with_reducible refine (CD.out _ HD1.out).mono ?_)
         rintro e w2 ⟨⟨x, hx0, hx5, rfl⟩, hd2, hb2⟩
         have HD2 := Lib.hid hd2
         have HBS := Lib.hid (hb2.cut HB1.out)
         have hbx := (hb2.block w.heap.size (by simp) (by omega)).trans HBOX.out
         have f0 : w2.frozen? ⟨w.heap.size, 0, none⟩ = false := by unfold World.frozen?; rw [hbx]; simp
         have f1 : w2.frozen? ⟨w.heap.size, 1, none⟩ = false := by unfold World.frozen?; rw [hbx]; simp
         have c0 : w2.cell? ⟨w.heap.size, 0, none⟩ = some (.int .i64 0) := by rw [cell_of_row _ _ _ _ _ _ hbx]; rfl
         have c1 : w2.cell? ⟨w.heap.size, 1, none⟩ = some (.string ⟨#[]⟩) := by rw [cell_of_row _ _ _ _ _ _ hbx]; rfl
         clear hd2 hb2 hbx)
      | fail)
    have hset : ∀ u v, Dice ((w2.setCell ⟨w.heap.size, 0, none⟩ u).setCell ⟨w.heap.size, 1, none⟩ v) g ∧ Beside g w ((w2.setCell ⟨w.heap.size, 0, none⟩ u).setCell ⟨w.heap.size, 1, none⟩ v) := fun u v => by
      have h1 : Below w.heap.size w2 ((w2.setCell ⟨w.heap.size, 0, none⟩ u).setCell ⟨w.heap.size, 1, none⟩ v) := ((Below.refl _ _).setCell (by simp) u).setCell (by simp) v
      have hb := HBS.out
      exact ⟨HD2.out.below h1 hlt, h1.os.trans hb.os, h1.tape.trans hb.tape, h1.output.trans hb.output, Nat.le_trans hb.size h1.size, fun k hk hne => (h1.block k hk).trans (hb.block k hk hne)⟩
    refine bodyPost_ret (v := .agg #[.int .i64 x, .string ⟨#[]⟩]) (by simp [results, go_sem, c0, c1]) rfl ?_
    exact ⟨carT_data hx0 hx5, (hset _ _).1, (hset _ _).2⟩
  · have d1 : decide (0 < tn) = true := decide_eq_true hpos
    have CP4 := Lib.hid (pick_at g 4 4 (w.alloc (.cells #[.int .i64 0, .string ⟨#[]⟩] 43)) rfl HD1.out (by omega) (by omega))
    have CPn := Lib.hid (fun (W : World) (h : Dice W g) => pick_any g tn W h hpos (by omega))
    go_enter Tryz.func99, Tryz.ntmps99
    go_upto_if 12 with (first
      | (go_at_call 61; (with_reducible refine CP4.out.mono ?_)
         rintro e w1 ⟨⟨k, hk, rfl⟩, hd1, hb1⟩
         have HD3 := Lib.hid hd1
         have HB3 := Lib.hid (hb1.cut HB1.out)
         have HBX := Lib.hid ((hb1.block w.heap.size (by simp) (by omega)).trans HBOX.out)
         have HT3 := Lib.hid (HT1.out.beside hb1)
         have hz3 : w.heap.size < w1.heap.size := by have := hb1.size; simp at this; omega
         clear hd1 hb1)
      | fail)
    cases hk1 : ((k : Int) == 1)
    · go_wp2_with (first
        | (go_at_call 98; (with_reducible refine (CD.out _ HD3.out).mono ?_)
           rintro e w2 ⟨⟨x, hx0, hx5, rfl⟩, hd2, hb2⟩
           have HD2 := Lib.hid hd2
           have HBS := Lib.hid (HB3.out.trans hb2)
           have hbx := (hb2.block w.heap.size hz3 (by omega)).trans HBX.out
           have f0 : w2.frozen? ⟨w.heap.size, 0, none⟩ = false := by unfold World.frozen?; rw [hbx]; simp
           have f1 : w2.frozen? ⟨w.heap.size, 1, none⟩ = false := by unfold World.frozen?; rw [hbx]; simp
           have c0 : w2.cell? ⟨w.heap.size, 0, none⟩ = some (.int .i64 0) := by rw [cell_of_row _ _ _ _ _ _ hbx]; rfl
           have c1 : w2.cell? ⟨w.heap.size, 1, none⟩ = some (.string ⟨#[]⟩) := by rw [cell_of_row _ _ _ _ _ _ hbx]; rfl
           clear hd2 hb2 hbx)
        | fail)
      have hset : ∀ u v, Dice ((w2.setCell ⟨w.heap.size, 0, none⟩ u).setCell ⟨w.heap.size, 1, none⟩ v) g ∧ Beside g w ((w2.setCell ⟨w.heap.size, 0, none⟩ u).setCell ⟨w.heap.size, 1, none⟩ v) := fun u v => by
        have h1 : Below w.heap.size w2 ((w2.setCell ⟨w.heap.size, 0, none⟩ u).setCell ⟨w.heap.size, 1, none⟩ v) := ((Below.refl _ _).setCell (by simp) u).setCell (by simp) v
        have hb := HBS.out
        exact ⟨HD2.out.below h1 hlt, h1.os.trans hb.os, h1.tape.trans hb.tape, h1.output.trans hb.output, Nat.le_trans hb.size h1.size, fun k hk hne => (h1.block k hk).trans (hb.block k hk hne)⟩
      refine bodyPost_ret (v := .agg #[.int .i64 x, .string ⟨#[]⟩]) (by simp [results, go_sem, c0, c1]) rfl ?_
      exact ⟨carT_data hx0 hx5, (hset _ _).1, (hset _ _).2⟩
    · go_wp2_with (first
        | (go_at_call 61; (with_reducible refine (CPn.out _ HD3.out).mono ?_)
           rintro e w2 ⟨⟨j, hj, rfl⟩, hd2, hb2⟩
           have HD2 := Lib.hid hd2
           have HBS := Lib.hid (HB3.out.trans hb2)
           have hbx := (hb2.block w.heap.size hz3 (by omega)).trans HBX.out
           have f0 : w2.frozen? ⟨w.heap.size, 0, none⟩ = false := by unfold World.frozen?; rw [hbx]; simp
           have f1 : w2.frozen? ⟨w.heap.size, 1, none⟩ = false := by unfold World.frozen?; rw [hbx]; simp
           have c0 : w2.cell? ⟨w.heap.size, 0, none⟩ = some (.int .i64 0) := by rw [cell_of_row _ _ _ _ _ _ hbx]; rfl
           have c1 : w2.cell? ⟨w.heap.size, 1, none⟩ = some (.string ⟨#[]⟩) := by rw [cell_of_row _ _ _ _ _ _ hbx]; rfl
           obtain ⟨b, off, s, rfl, hbg, hbs, hc, hsz, hty⟩ := (HT3.out.beside hb2).2 j hj
           have i1 : (j : Int) < (tn : Int) := by omega
           have i2 : (0 : Int) ≤ (j : Int) := by omega
           have HSZ := Lib.hid (And.intro hsz hty)
           clear hd2 hb2 hbx hsz hty)
        | fail)
      have hset : ∀ u v, Dice ((w2.setCell ⟨w.heap.size, 0, none⟩ u).setCell ⟨w.heap.size, 1, none⟩ v) g ∧ Beside g w ((w2.setCell ⟨w.heap.size, 0, none⟩ u).setCell ⟨w.heap.size, 1, none⟩ v) := fun u v => by
        have h1 : Below w.heap.size w2 ((w2.setCell ⟨w.heap.size, 0, none⟩ u).setCell ⟨w.heap.size, 1, none⟩ v) := ((Below.refl _ _).setCell (by simp) u).setCell (by simp) v
        have hb := HBS.out
        exact ⟨HD2.out.below h1 hlt, h1.os.trans hb.os, h1.tape.trans hb.tape, h1.output.trans hb.output, Nat.le_trans hb.size h1.size, fun k hk hne => (h1.block k hk).trans (hb.block k hk hne)⟩
      refine bodyPost_ret (v := .agg #[.int .i64 5, .string s]) (by simp [results, go_sem, c0, c1]) rfl ?_
      exact ⟨carT_type HSZ.out.1 HSZ.out.2, (hset _ _).1, (hset _ _).2⟩
set_option maxHeartbeats 16000000 in
set_option maxRecDepth 20000 in
theorem makeArmsT_any (g : Nat) (ta : Option Addr) (tn tc : Nat) (pl : Nat) (w : World) (hD : Dice w g) (hT : TyIn w g ta tn) (hp1 : 1 ≤ pl) (hp2 : pl ≤ 1000) :
    Calls Tryz.prog 96 #[.pointer (some ⟨g, 0, none⟩), .slice ta tn tc, .int .i64 (pl : Int)] w fun e w' => (∃ v l, e = .returned v ∧ AOwn w' w.heap.size v l ∧ armsB pl l = true) ∧ Dice w' g ∧ Beside g w w' := by
  have hgl := hD.lt
  have CP1 := Lib.hid (pick_at g 3 3 w rfl hD (by omega) (by omega))
  have CP2 := Lib.hid (fun (W : World) (h : Dice W g) => pick_at g 4 4 W rfl h (by omega) (by omega))
  have CP3 := Lib.hid (fun (W : World) (h : Dice W g) => pick_any g pl W h hp1 hp2)
  have HTY := Lib.hid hT
  have CC := Lib.hid (fun (W : World) (h : Dice W g) (ht : TyIn W g ta tn) => carriesT_any g ta tn tc W h ht)
  clear hD hT
  go_enter Tryz.func96, Tryz.ntmps96
  go_wp2_with (first
    | (go_at_call 61; (with_reducible refine CP1.out.mono ?_)
       rintro e w1 ⟨⟨m, hm, rfl⟩, hd1, hb1⟩
       have HD1 := Lib.hid hd1
       have HB1 := Lib.hid hb1
       clear hd1 hb1)
    | (go_at_call 61; (with_reducible refine (CP2.out _ HD1.out).mono ?_)
       rintro e w2 ⟨⟨f, hf, rfl⟩, hd2, hb2⟩
       have HD2 := Lib.hid hd2
       have HB2 := Lib.hid (HB1.out.trans hb2)
       clear hd2 hb2)
    | fail)
  go_loopw [7, 10] (fun o i wr => ∃ (k : Nat) (v : Value) (l : List ArmL), k ≤ m + 1 ∧ i = .int .i64 k ∧ v = o ∧ Hid (AOwn wr w.heap.size v l) ∧ Hid (l.map ArmL.label = (List.range k).map fun i => labS (f + i)) ∧ Hid (∀ a ∈ l, armB pl a = true) ∧ Hid (Dice wr g) ∧ Hid (Beside g w wr)) (fun _ i _ => m + 1 - (intOf i).toNat)
  case atStart => exact ⟨0, _, [], by omega, rfl, rfl, Lib.hid (AOwn.zero _ _), Lib.hid rfl, Lib.hid (by simp), HD2, HB2⟩
  case round =>
    obtain ⟨k, v, l, hk, rfl, hvo, HO, HLB, HG, HD, HBr⟩ := hrel
    subst hvo
    have hll : l.length = k := by have := congrArg List.length HLB.out; simpa using this
    have hzr := HBr.out.size
    by_cases hlt : k < m + 1
    · have d1 : decide ((k : Int) < 1 + (m : Int)) = true := decide_eq_true (by omega)
      obtain ⟨j, hj⟩ : ∃ j, j = (f + k) % 4 := ⟨_, rfl⟩
      have hmod : ((f : Int) + (k : Int)).tmod 4 = (j : Int) := by rw [Int.tmod_eq_emod_of_nonneg (by omega)]; omega
      have hj4 : j < 4 := by omega
      have i1 : (j : Int) < 4 := by omega
      have i2 : (0 : Int) ≤ (j : Int) := by omega
      have HA1 := Lib.hid (show (wr.drew.alloc labObj).cell? ⟨wr.heap.size, j, none⟩ = some (.string (labB (f + k))) by rw [hj]; exact labObj_at wr.drew (f + k))
      have CL := Lib.hid (labels_any wr.drew)
      have HDd := Lib.hid (HD.out.drew.on (tu1 wr.drew labObj))
      have HBd := Lib.hid (show Beside g w (wr.drew.alloc labObj) from (HBr.out.trans ⟨rfl, rfl, rfl, Nat.le_refl _, fun _ _ _ => rfl⟩ : Beside g w wr.drew).alloc labObj)
      have HOd := Lib.hid (show AOwn (wr.drew.alloc labObj) w.heap.size v l from AOwn.alloc (show AOwn wr.drew w.heap.size v l by obtain ⟨rs, h1, h2⟩ := HO.out; exact ⟨rs, h1.drew, h2⟩) _)
      have hsd : (wr.drew.alloc labObj).heap.size = wr.heap.size + 1 := by simp
      have hwr : IntKind.i64.wrap ((f : Int) + (k : Int)) = (f : Int) + (k : Int) := by simp [IntKind.wrap, IntKind.bits, IntKind.signed]; omega
      clear hj
      go_wp2
      go_region_law (first
        | (refine step_append_arm w4 (by rfl) (.tmp 21) (.tmp 36) (by rfl) w.heap.size v l ⟨labB (f + k), ck, cs, (nx : Int)⟩ (by rfl) (by rfl) (by rfl) HO4.out ⟨by simp [labB, maxLen, ByteArray.size], HCS.out.1⟩ (by have := HB4.out.size; omega) (by omega) w4 (Below.refl _ _) ?_
           intro v5 w5 hown hbel
           have HO5 := Lib.hid hown
           have HD5 := Lib.hid (HD4.out.below hbel hgl)
           have HB5 := Lib.hid (show Beside g w w5 from ⟨hbel.os.trans HB4.out.os, hbel.tape.trans HB4.out.tape, hbel.output.trans HB4.out.output, Nat.le_trans HB4.out.size hbel.size, fun k hk hne => (hbel.block k hk).trans (HB4.out.block k hk hne)⟩)
           clear hown hbel)
        | (go_simp; go_at_call 97; (with_reducible refine CL.out.mono ?_)
           rintro e wl ⟨rfl, hwl⟩
           have hcl : wl.cell? ⟨wr.heap.size, j, none⟩ = some (.string (labB (f + k))) := by rw [hwl]; exact HA1.out
           have HDl := Lib.hid (show Dice wl g by rw [hwl]; exact HDd.out)
           have HBl := Lib.hid (show Beside g w wl by rw [hwl]; exact HBd.out)
           have HOl := Lib.hid (show AOwn wl w.heap.size v l by rw [hwl]; exact HOd.out)
           have hsl : wl.heap.size = wr.heap.size + 1 := by rw [hwl]; exact hsd
           clear hwl)
        | (go_simp; go_at_call 99; (with_reducible refine (CC.out _ HDl.out (HTY.out.beside HBl.out)).mono ?_)
           rintro e w3 ⟨⟨ck, cs, he3, hcs⟩, hd3, hb3⟩
           subst he3
           have HCS := Lib.hid hcs
           have hc3 := (hb3.cell (p := ⟨wr.heap.size, j, none⟩) (by show wr.heap.size < _; omega) (by show wr.heap.size ≠ g; omega)).trans hcl
           have HD3 := Lib.hid hd3
           have HB3 := Lib.hid (HBl.out.trans hb3)
           have HO3 := Lib.hid (HOl.out.beside hb3 hgl)
           have hs3 := hb3.size
           clear hd3 hb3 hcs)
        | (go_simp; go_at_call 61; (with_reducible refine (CP3.out _ HD3.out).mono ?_)
           rintro e w4 ⟨⟨nx, hnx, rfl⟩, hd4, hb4⟩
           have hc4 := (hb4.cell (p := ⟨wr.heap.size, j, none⟩) (by show wr.heap.size < _; omega) (by show wr.heap.size ≠ g; omega)).trans hc3
           have HD4 := Lib.hid hd4
           have HB4 := Lib.hid (HB3.out.trans hb4)
           have HO4 := Lib.hid (HO3.out.beside hb4 hgl)
           clear hd4 hb4)
        | fail)
      all_goals
        go_wp2
        have HL5 := Lib.hid (show (l ++ [armR ⟨labB (f + k), ck, cs, (nx : Int)⟩]).map ArmL.label = (List.range (k + 1)).map fun i => labS (f + i) by
          rw [List.map_append, HLB.out, List.range_succ, List.map_append]
          show _ ++ [(labB (f + k)).toList] = _
          rw [labB_list]
          rfl)
        have HG5 := Lib.hid (show ∀ a ∈ l ++ [armR ⟨labB (f + k), ck, cs, (nx : Int)⟩], armB pl a = true from fun a ha => by
          rcases List.mem_append.1 ha with ha | ha
          · exact HG.out a ha
          · rw [List.mem_singleton.1 ha]
            unfold armR
            rw [labB_list, armB_ways, labS_may, HCS.out.2, decide_eq_true (show (0 : Int) ≤ (nx : Int) by omega), decide_eq_true (show (nx : Int) < (pl : Int) by omega)]
            rfl)
        go_roundw
        case rel => exact ⟨k + 1, v5, _, by omega, by go_num, rfl, HO5, HL5, HG5, HD5, HB5⟩
        case measure => simp [intOf]; omega
    · have d1 : decide ((k : Int) < 1 + (m : Int)) = false := decide_eq_false (by omega)
      have hok : armsB pl l = true := by
        unfold armsB
        rw [List.all_eq_true.2 HG.out, HLB.out, decide_eq_true (labS_nodup f k (by omega)), decide_eq_true (show 1 ≤ l.length by omega), decide_eq_true (show l.length ≤ 6 by omega)]
        rfl
      have HOK := Lib.hid hok
      clear hok
      go_wp2
      go_ret
      exact ⟨⟨v, l, rfl, HO.out, HOK.out⟩, HD.out, HBr.out⟩
end Go.Proofs.YtokgpdceckaddaaGreatDoor

/- Contract of reparteemake's any, with types: a valid protocol of two or three roles. (Printed out of XGlAny.) -/
namespace Go.Proofs.YtokgpdceckaddaaGreatDoor
open Go.RowKit

set_option maxHeartbeats 16000000 in
set_option maxRecDepth 20000 in
theorem anyT_any (g : Nat) (nm : ByteArray) (many : Nat) (ta : Option Addr) (tn tc : Nat) (h2 : 2 ≤ many) (h4 : many ≤ 4) (w : World) (hD : Dice w g) (hT : TyIn w g ta tn) :
    Calls Tryz.prog 62 #[.pointer (some ⟨g, 0, none⟩), .string nm, .int .i64 (many : Int), .slice ta tn tc] w fun e w' => ProtRet nm many w e w' ∧ Beside g w w' := by
  have hgl := hD.lt
  have HTY := Lib.hid hT
  have HB0 := Lib.hid (tu1 w (.cells #[.string ⟨#[]⟩, .slice none 0 0, .slice none 0 0] 27))
  have HR0 := Lib.hid (PBox.new w ⟨#[]⟩ none 0 0 none 0 0)
  have CP1 := Lib.hid (pick_at g 6 6 (w.alloc (.cells #[.string ⟨#[]⟩, .slice none 0 0, .slice none 0 0] 27)) rfl (hD.on HB0.out) (by omega) (by omega))
  clear hD hT
  go_enter Tryz.func62, Tryz.ntmps62
  go_upto_region 2 with (first
    | (go_at_call 61; (with_reducible refine CP1.out.mono ?_)
       rintro e w1 ⟨⟨m, hm, rfl⟩, hd1, hb1⟩
       have HD1 := Lib.hid hd1
       have HB1 := Lib.hid (hb1.cut HB0.out)
       have HR1 := Lib.hid (HR0.out.beside hb1 (by omega))
       clear hd1 hb1)
    | fail)
  have CR := Lib.hid (roles_any w1)
  have HRS := Lib.hid (rolObj_strs w1 (many := many) (by omega))
  have hs1 := HB1.out.size
  have hz1 : w.heap.size + 1 ≤ w1.heap.size := HR1.out.lt
  have i5 : (many : Int) ≤ 5 := by omega
  have i6 : (0 : Int) ≤ (many : Int) := by omega
  have hro := fun W => World.ownsRow_nil W (w.heap.size + 1) 9 1
  go_upto_region 3 with (first
    | (go_at_call 95; (with_reducible refine CR.out.mono ?_)
       rintro e w2 ⟨rfl, hw2⟩
       have HS2 := Lib.hid (show Strs w2 (w1.heap.size + 1) (some ⟨w1.heap.size, 0, none⟩) many (rolesL many) by rw [hw2]; exact HRS.out)
       have HB2 := Lib.hid (show Below w1.heap.size w1 w2 by rw [hw2]; exact tu1 w1 rolObj)
       have hz2 : w2.heap.size = w1.heap.size + 1 := by rw [hw2]; simp
       clear hw2)
    | (at_builtin
       refine wpList_append_strs _ rfl (.const (.slice none 0 0)) (.tmp 20) _ rfl (w.heap.size + 1) 9 Tryz.underlying24 info9 (.slice none 0 0) 0 [] rfl (World.ownsRow_nil _ _ _ _) (w1.heap.size + 1) _ many 5 (rolesL many) rfl HS2.out (by omega) (by omega) ?_
       intro v3 w3 own3 gr3 at3
       obtain ⟨ra, rc, hv3, hst3, _, _⟩ := Strs.of_own (n := many) (ss := rolesL many) (by rw [Nat.zero_add] at own3; exact own3) (by omega) (rolesL_max many)
       subst hv3
       have HR3 := Lib.hid (show RRow w3 (w.heap.size + 1) ra many rc (rolesL many) by unfold RRow; rw [Nat.zero_add] at own3; exact own3)
       have HB3 := Lib.hid (HB2.out.grown gr3 (by omega) (fun j hj => by cases hj))
       have hz3 := HB3.out.size
       clear own3 gr3 at3 hst3)
    | fail)
  have HB3w := Lib.hid (show Beside g w w3 from HB1.out.trans (Beside.of_below HB3.out))
  have HD3 := Lib.hid (HD1.out.on HB3.out)
  have HR3b := Lib.hid (HR1.out.on HB3.out)
  have HLP := Lib.hid (PBox.new w3 nm ra many rc none 0 0)
  have HB4 := Lib.hid (HB3w.out.alloc (.cells #[.string nm, .slice ra many rc, .slice none 0 0] 27))
  have HD4 := Lib.hid (HD3.out.on (tu1 w3 (.cells #[.string nm, .slice ra many rc, .slice none 0 0] 27)))
  have HRo4 := Lib.hid (HR3.out.on (tu1 w3 (.cells #[.string nm, .slice ra many rc, .slice none 0 0] 27)) (by omega))
  have HR4 := Lib.hid (HR3b.out.on (tu1 w3 (.cells #[.string nm, .slice ra many rc, .slice none 0 0] 27)))
  have CA := Lib.hid (fun (W : World) (h : Dice W g) (ht : TyIn W g ta tn) => makeArmsT_any g ta tn tc (m + 2) W h ht (by omega) (by omega))
  rw [show (((m + 2 : Nat) : Int)) = 1 + (m : Int) + 1 by omega] at CA
  have CPm := Lib.hid (fun (W : World) (h : Dice W g) => pick_any g many W h (by omega) (by omega))
  obtain ⟨o, ho⟩ : ∃ o, many = o + 1 := ⟨many - 1, by omega⟩
  have CPo := Lib.hid (fun (W : World) (h : Dice W g) => pick_at g ((many : Int) - 1) o W (by omega) h (by omega) (by omega))
  have HOE := Lib.hid ho
  have ho5 : o ≤ 5 := by omega
  clear ho
  have hsz3 : w.heap.size + 1 ≤ w3.heap.size := by omega
  clear hro
  go_wp2_with fail
  go_loopw [11] (fun i wr => ∃ (k : Nat) (sa : Option Addr) (sn sc : Nat) (f : List PointL), k ≤ m + 1 ∧ i = .int .i64 k ∧ f.length = k ∧ sn = k ∧ Hid (PRow wr (w3.heap.size + 1) wr.heap.size (.slice sa sn sc) f) ∧ Hid (∀ t ∈ f, pointB (rolesL many) (m + 2) t = true) ∧ Hid (PBox wr w3.heap.size nm ra many rc sa sn sc) ∧ Hid (Dice wr g) ∧ Hid (Beside g w wr) ∧ Hid (RRow wr (w.heap.size + 1) ra many rc (rolesL many)) ∧ Hid (PBox wr w.heap.size ⟨#[]⟩ none 0 0 none 0 0)) (fun i _ => m + 1 - (intOf i).toNat)
  case atStart => exact ⟨0, none, 0, 0, [], by omega, rfl, rfl, rfl, Lib.hid (PRow.zero _ _ _), Lib.hid (by simp), HLP, HD4, HB4, HRo4, HR4⟩
  case round =>
    obtain ⟨k, sa, sn, sc, f, hk, rfl, hfl, hsn, HO, HG, HLB, HD, HBr, HRo, HRs⟩ := hrel
    obtain rfl : k = sn := hsn.symm
    have HFL := Lib.hid hfl
    clear hfl
    have hzl := HLB.out.lt
    have hsz := HBr.out.size
    by_cases hlt : k < m + 1
    · have d1 : decide ((k : Int) < 1 + (m : Int)) = true := decide_eq_true (by omega)
      go_upto_region 7 with (first
        | (go_at_call 61; (with_reducible refine (CPm.out _ HD.out).mono ?_)
           rintro e w5 ⟨⟨kk, hkk, rfl⟩, hd5, hb5⟩
           have HD5 := Lib.hid hd5
           have HB5 := Lib.hid hb5
           clear hd5 hb5)
        | fail)
      have hne : ((many : Int) == 0) = false := by rw [beq_eq_false_iff_ne]; omega
      go_upto_region 8 with (first
        | (go_at_call 61; (with_reducible refine (CPo.out _ HD5.out).mono ?_)
           rintro e w6 ⟨⟨dd, hdd, rfl⟩, hd6, hb6⟩
           have HD6 := Lib.hid hd6
           have HB6 := Lib.hid (HB5.out.trans hb6)
           clear hd6 hb6)
        | fail)
      obtain ⟨q, hq, hqk, hmod⟩ := other_mod h2 hkk HOE.out hdd
      rw [hmod]
      clear hmod
      have HB6w := Lib.hid (HBr.out.trans HB6.out)
      have HRo6 := Lib.hid (HRo.out.beside HB6.out (by omega))
      have HRs6 := Lib.hid (HRs.out.beside HB6.out (by omega))
      have HL6 := Lib.hid (HLB.out.beside HB6.out (by omega))
      have HO6 := Lib.hid ((HO.out.beside HB6.out (by omega)).top (Nat.le_refl _))
      obtain ⟨rb, hrb, hrb1, hrb2, hrcell⟩ := HRo6.out.cell (by omega)
      have hck := hrcell kk _ (rolesL_at hkk)
      have hcq := hrcell q _ (rolesL_at hq)
      rw [baS_of] at hck hcq
      subst hrb
      have hrb3 : rb < w3.heap.size := (World.ownsRow.lt HR3.out rb rfl).2
      obtain ⟨_, _, _⟩ := HL6.out.cells
      have vf2 := HL6.out.thaw 2
      have hs6 := HB6.out.size
      have i1 : (kk : Int) < (many : Int) := by omega
      have i2 : (0 : Int) ≤ (kk : Int) := by omega
      have i3 : (q : Int) < (many : Int) := by omega
      have i4 : (0 : Int) ≤ (q : Int) := by omega
      have hwi : IntKind.i64.wrap (1 + (m : Int) + 1) = 1 + (m : Int) + 1 := i64_small (by omega) (by omega)
      have HDd := Lib.hid HD6.out.drew
      have HBd := Lib.hid (bes_drew HB6w.out)
      have HOd := Lib.hid HO6.out.drew
      have HLd := Lib.hid (show PBox w6.drew w3.heap.size nm (some ⟨rb, 0, none⟩) many rc sa k sc from HL6.out)
      have HRd := Lib.hid (show RRow w6.drew (w.heap.size + 1) (some ⟨rb, 0, none⟩) many rc (rolesL many) from HRo6.out.beside (g := 0) ⟨rfl, rfl, rfl, Nat.le_refl _, fun _ _ _ => rfl⟩ (by omega))
      have HSd := Lib.hid (show PBox w6.drew w.heap.size ⟨#[]⟩ none 0 0 none 0 0 from HRs6.out)
      have HCK := Lib.hid (And.intro hck hcq)
      clear hrcell
      have HKS := Lib.hid (fun (W : World) (hL : PBox W w3.heap.size nm (some ⟨rb, 0, none⟩) many rc sa k sc) (hC : W.cell? ⟨rb, kk, none⟩ = some (.string (rolS kk)) ∧ W.cell? ⟨rb, q, none⟩ = some (.string (rolS q))) => show W.cell? ⟨w3.heap.size, 0, none⟩ = some (.string nm) ∧ W.cell? ⟨w3.heap.size, 1, none⟩ = some (.slice (some ⟨rb, 0, none⟩) many rc) ∧ W.cell? ⟨w3.heap.size, 2, none⟩ = some (.slice sa k sc) ∧ W.cell? ⟨rb, kk, none⟩ = some (.string (rolS kk)) ∧ W.cell? ⟨rb, q, none⟩ = some (.string (rolS q)) from
        ⟨hL.cells.1, hL.cells.2.1, hL.cells.2.2, hC.1, hC.2⟩)
      clear hck hcq
      go_wp2
      refine wp_region_last2 (S := fun W => W.cell? ⟨w3.heap.size, 0, none⟩ = some (.string nm) ∧ W.cell? ⟨w3.heap.size, 1, none⟩ = some (.slice (some ⟨rb, 0, none⟩) many rc) ∧ W.cell? ⟨w3.heap.size, 2, none⟩ = some (.slice sa k sc) ∧ W.cell? ⟨rb, kk, none⟩ = some (.string (rolS kk)) ∧ W.cell? ⟨rb, q, none⟩ = some (.string (rolS q))) rfl (by kernel_rfl) (by kernel_rfl) (HKS.out _ HLd.out HCK.out) (fun hHeld => ?_)
      simp only [List.pop_toArray, List.dropLast_cons_cons, List.dropLast_singleton]
      try simp only [Act.put, List.setIfInBounds_toArray]
      refine' wpAnyH_take (i := 0) (v := _) rfl (by kernel_rfl) (by kernel_rfl) (by kernel_rfl) (fun _ _ _ h => h) (Or.inl ⟨by rfl, ?hy0⟩) (by assumption) ?rest0
      case hy0 =>
        intro W hSw
        (try dsimp only at hSw)
        first | (go_simp; done) | (go_simp; with_reducible rfl)
      try simp only [Act.put, List.setIfInBounds_toArray]
      refine' wpAnyH_take (i := 1) (v := _) rfl (by kernel_rfl) (by kernel_rfl) (by kernel_rfl) (fun _ _ _ h => h) (Or.inl ⟨by rfl, ?hy1⟩) (by assumption) ?rest1
      case hy1 =>
        intro W hSw
        (try dsimp only at hSw)
        first | (go_simp; done) | (go_simp; with_reducible rfl)
      try simp only [Act.put]
      refine' wpAnyH_take (i := 2) (v := _) rfl (by kernel_rfl) (by kernel_rfl) (by kernel_rfl) (fun _ _ _ h => h) (Or.inl ⟨by rfl, ?hy2⟩) (by assumption) ?rest2
      case hy2 =>
        intro W hSw
        (try dsimp only at hSw)
        first | (go_simp; done) | (go_simp; with_reducible rfl)
      try simp only [Act.put]
      refine' wpAnyH_take (i := 3) (v := _) rfl (by kernel_rfl) (by kernel_rfl) (by kernel_rfl) (fun _ _ _ h => h) (Or.inl ⟨by rfl, ?hy3⟩) (by assumption) ?rest3
      case hy3 =>
        intro W hSw
        (try dsimp only at hSw)
        first | (go_simp; done) | (go_simp; with_reducible rfl)
      try simp only [Act.put]
      refine' wpAnyH_take (i := 4) (v := _) rfl (by kernel_rfl) (by kernel_rfl) (by kernel_rfl) (fun _ _ _ h => h) (Or.inl ⟨by rfl, ?hy4⟩) (by assumption) ?rest4
      case hy4 =>
        intro W hSw
        (try dsimp only at hSw)
        first | (go_simp; done) | (go_simp; with_reducible rfl)
      try simp only [Act.put]
      refine' wpAnyH_take (i := 5) (v := _) rfl (by kernel_rfl) (by kernel_rfl) (by kernel_rfl) (fun _ _ _ h => h) (Or.inl ⟨by rfl, ?hy5⟩) (by assumption) ?rest5
      case hy5 =>
        intro W hSw
        (try dsimp only at hSw)
        first | (go_simp; done) | (go_simp; with_reducible rfl)
      try simp only [Act.put]
      refine' wpAnyH_take (i := 6) (v := _) rfl (by kernel_rfl) (by kernel_rfl) (by kernel_rfl) (fun _ _ _ h => h) (Or.inl ⟨by rfl, ?hy6⟩) (by assumption) ?rest6
      case hy6 =>
        intro W hSw
        (try dsimp only at hSw)
        first | (go_simp; done) | (go_simp; with_reducible rfl)
      try simp only [Act.put]
      refine' wpAnyH_take (i := 7) (v := _) rfl (by kernel_rfl) (by kernel_rfl) (by kernel_rfl) (fun _ _ _ h => h) (Or.inl ⟨by rfl, ?hy7⟩) (by assumption) ?rest7
      case hy7 =>
        intro W hSw
        (try dsimp only at hSw)
        first | (go_simp; done) | (go_simp; with_reducible rfl)
      try simp only [Act.put]
      refine' wpAnyH_take (i := 8) (v := _) rfl (by kernel_rfl) (by kernel_rfl) (by kernel_rfl) (fun _ _ _ h => h) (Or.inl ⟨by rfl, ?hy8⟩) (by assumption) ?rest8
      case hy8 =>
        intro W hSw
        (try dsimp only at hSw)
        first | (go_simp; done) | (go_simp; with_reducible rfl)
      try simp only [Act.put]
      refine' wpAnyH_take (i := 9) (v := _) rfl (by kernel_rfl) (by kernel_rfl) (by kernel_rfl) (fun _ _ _ h => h) (Or.inl ⟨by rfl, ?hy9⟩) (by assumption) ?rest9
      case hy9 =>
        intro W hSw
        (try dsimp only at hSw)
        first | (go_simp; done) | (go_simp; with_reducible rfl)
      try simp only [Act.put]
      refine' wpAnyH_take (i := 10) (v := _) rfl (by kernel_rfl) (by kernel_rfl) (by kernel_rfl) (fun _ _ _ h => h) (Or.inl ⟨by rfl, ?hy10⟩) (by assumption) ?rest10
      case hy10 =>
        intro W hSw
        (try dsimp only at hSw)
        first | (go_simp; done) | (go_simp; with_reducible rfl)
      try simp only [Act.put]
      refine' wpAnyH_take (i := 11) (v := _) rfl (by kernel_rfl) (by kernel_rfl) (by kernel_rfl) (fun _ _ _ h => h) (Or.inl ⟨by rfl, ?hy11⟩) (by assumption) ?rest11
      case hy11 =>
        intro W hSw
        (try dsimp only at hSw)
        first | (go_simp; done) | (go_simp; with_reducible rfl)
      try simp only [Act.put]
      refine' wpAnyH_take (i := 12) (v := _) rfl (by kernel_rfl) (by kernel_rfl) (by kernel_rfl) (fun _ _ _ h => h) (Or.inl ⟨by rfl, ?hy12⟩) (by assumption) ?rest12
      case hy12 =>
        intro W hSw
        (try dsimp only at hSw)
        first | (go_simp; done) | (go_simp; with_reducible rfl)
      try simp only [Act.put]
      refine' wpAnyH_take (i := 13) (v := _) rfl (by kernel_rfl) (by kernel_rfl) (by kernel_rfl) (fun _ _ _ h => h) (Or.inl ⟨by rfl, ?hy13⟩) (by assumption) ?rest13
      case hy13 =>
        intro W hSw
        (try dsimp only at hSw)
        first | (go_simp; done) | (go_simp; with_reducible rfl)
      try simp only [Act.put]
      refine' wpAnyH_take (i := 14) (v := _) rfl (by kernel_rfl) (by kernel_rfl) (by kernel_rfl) (fun _ _ _ h => h) (Or.inl ⟨by rfl, ?hy14⟩) (by assumption) ?rest14
      case hy14 =>
        intro W hSw
        (try dsimp only at hSw)
        first | (go_simp; done) | (go_simp; with_reducible rfl)
      try simp only [Act.put]
      refine' wpAnyH_take (i := 15) (v := _) rfl (by kernel_rfl) (by kernel_rfl) (by kernel_rfl) (fun _ _ _ h => h) (Or.inl ⟨by rfl, ?hy15⟩) (by assumption) ?rest15
      case hy15 =>
        intro W hSw
        (try dsimp only at hSw)
        first | (go_simp; done) | (go_simp; with_reducible rfl)
      try simp only [Act.put]
      refine wpAnyH_ready (rs := [16]) (by kernel_rfl) (by simp) ?_
      refine AllReadyH.cons (i := 16) (o := _) rfl (fun K hK => ?_) AllReadyH.nil
      go_simp
      go_at_call 96
      with_reducible refine (CA.out _ HDd.out (HTY.out.beside HBd.out)).mono ?_
      rintro e w7 ⟨⟨va, l, he7, hal, hok⟩, hd7, hb7⟩
      subst he7
      have hl6 := (armsB_all hok).2.2.2
      obtain ⟨aa, ac, hva, _, _, _⟩ := hal.sees (by omega)
      obtain ⟨an, han⟩ : ∃ an, an = l.length := ⟨_, rfl⟩
      rw [← han] at hva
      clear han
      subst hva
      have hck7 := (hb7.cell (p := ⟨rb, kk, none⟩) (by show rb < _; exact hrb2) (by show rb ≠ g; omega)).trans HCK.out.1
      have hcq7 := (hb7.cell (p := ⟨rb, q, none⟩) (by show rb < _; exact hrb2) (by show rb ≠ g; omega)).trans HCK.out.2
      have HA7 := Lib.hid (show AOwn w7 w6.heap.size (PR.arms ⟨rolS kk, rolS q, aa, an, ac⟩) l from hal)
      have HOK := Lib.hid hok
      have HAL := Lib.hid (show l.length ≤ 1000 by omega)
      have HD7 := Lib.hid hd7
      have HB7 := Lib.hid (HBd.out.trans hb7)
      have HO7 := Lib.hid (show PRow w7 (w3.heap.size + 1) w6.heap.size (.slice sa k sc) f from ((HOd.out.top (Nat.le_refl _)).beside hb7 (by omega)))
      have HL7 := Lib.hid (HLd.out.beside hb7 (by omega))
      have HRo7 := Lib.hid (HRd.out.beside hb7 (by omega))
      have HRs7 := Lib.hid (HSd.out.beside hb7 (by omega))
      have hs7 : w6.heap.size ≤ w7.heap.size := hb7.size
      have hq7 : w3.heap.size < w7.heap.size := HL7.out.lt
      have HCK7 := Lib.hid (And.intro hck7 hcq7)
      clear hal hok hd7 hb7 hl6 hck7 hcq7
      refine hK.out _ _ (HKS.out _ HL7.out HCK7.out) (fun hHeld => ?_)
      clear hK K
      try simp only [Act.put, List.setIfInBounds_toArray, List.set_cons_zero, List.set_cons_succ]
      refine' wpAnyH_take (i := 17) (v := _) rfl (by kernel_rfl) (by kernel_rfl) (by kernel_rfl) (fun _ _ _ h => h) (Or.inl ⟨by rfl, ?hy17⟩) (by assumption) ?rest17
      case hy17 =>
        intro W hSw
        (try dsimp only at hSw)
        first | (go_simp; done) | (go_simp; with_reducible rfl)
      try simp only [Act.put, List.setIfInBounds_toArray]
      refine wpAnyH_ready (rs := [18]) (by kernel_rfl) (by simp) ?_
      refine AllReadyH.cons (i := 18) (o := _) rfl (fun K hK => ?_) AllReadyH.nil
      go_simp
      refine hK.out _ _ (HKS.out _ (HL7.out.on (tu1 _ _)) ⟨((tu1 w7 _).cell (p := ⟨rb, kk, none⟩) (show rb < w7.heap.size by omega)).trans HCK7.out.1, ((tu1 w7 _).cell (p := ⟨rb, q, none⟩) (show rb < w7.heap.size by omega)).trans HCK7.out.2⟩) (fun hHeld => ?_)
      clear hK K
      try simp only [Act.put, List.setIfInBounds_toArray, List.set_cons_zero, List.set_cons_succ]
      refine wpAnyH_ready (rs := [19]) (by kernel_rfl) (by simp) ?_
      refine AllReadyH.cons (i := 19) (o := _) rfl (fun K hK => ?_) AllReadyH.nil
      refine step_append_mpoint w7 (by rfl) (.tmp 41) (.tmp 58) (by rfl) (w3.heap.size + 1) w6.heap.size (.slice sa k sc) f ⟨rolS kk, rolS q, aa, an, ac⟩ ⟨(rolS kk).toList, (rolS q).toList, l⟩ (by rfl) (by rfl) (by rfl) HO7.out ⟨⟨rfl, rolS_small kk⟩, rfl, rolS_small q, HAL.out⟩ HA7.out (by omega) (by omega) (by have := HFL.out; omega) w7 (Below.refl _ _) ?_
      intro v5 w5 hown hbel
      obtain ⟨sa5, sc5, hv5, _⟩ := hown.powns.sees (by rw [List.length_append, List.length_singleton, HFL.out]; omega)
      rw [List.length_append, List.length_singleton, HFL.out] at hv5
      subst hv5
      have HO5 := Lib.hid hown
      have HL5 := Lib.hid (show PBox w5 w3.heap.size nm (some ⟨rb, 0, none⟩) many rc sa k sc from (hbel.block w3.heap.size (by omega)).trans HL7.out)
      have HD5 := Lib.hid (HD7.out.below hbel (by omega))
      have HB5 := Lib.hid (bes_below HB7.out hbel (by omega))
      have HRs5 := Lib.hid (show PBox w5 w.heap.size ⟨#[]⟩ none 0 0 none 0 0 from (hbel.block w.heap.size (by omega)).trans HRs7.out)
      have HRo5 := Lib.hid (show RRow w5 (w.heap.size + 1) (some ⟨rb, 0, none⟩) many rc (rolesL many) from HRo7.out.below hbel (by omega))
      have hs5 := hbel.size
      have uf2 := HL5.out.thaw 2
      have HCK5 := Lib.hid (show w5.cell? ⟨rb, kk, none⟩ = some (.string (rolS kk)) ∧ w5.cell? ⟨rb, q, none⟩ = some (.string (rolS q)) from ⟨(hbel.cell (p := ⟨rb, kk, none⟩) (show rb < w3.heap.size + 1 by omega)).trans HCK7.out.1, (hbel.cell (p := ⟨rb, q, none⟩) (show rb < w3.heap.size + 1 by omega)).trans HCK7.out.2⟩)
      clear hown hbel
      refine hK.out _ _ (HKS.out _ HL5.out HCK5.out) (fun hHeld => ?_)
      clear hK K
      try simp only [Act.put, List.setIfInBounds_toArray]
      refine' wpAnyH_take (i := 20) (v := _) rfl (by kernel_rfl) (by kernel_rfl) (by kernel_rfl) (fun _ _ _ h => h) (Or.inl ⟨by rfl, ?hy20⟩) (by assumption) ?rest20
      case hy20 =>
        intro W hSw
        (try dsimp only at hSw)
        first | (go_simp; done) | (go_simp; with_reducible rfl)
      try simp only [Act.put]
      refine wpAnyH_done (by kernel_rfl) ?_ _
      unfold LastPost
      obtain ⟨_, _, _⟩ := HL5.out.cells
      go_simp
      go_wp2_with fail
      have HBS := Lib.hid (fun (u : Value) => ((Beside.refl w3.heap.size w5).setCell 2 u))
      have HBL := Lib.hid (fun (u : Value) => ((Below.refl w3.heap.size w5).setCell (p := ⟨w3.heap.size, 2, none⟩) (Nat.le_refl _) u))
      have HG5 := Lib.hid (show ∀ t ∈ f ++ [(⟨(rolS kk).toList, (rolS q).toList, l⟩ : PointL)], pointB (rolesL many) (m + 2) t = true from fun t ht => by
        rcases List.mem_append.1 ht with ht | ht
        · exact HG.out t ht
        · rw [List.mem_singleton.1 ht]
          unfold pointB
          rw [decide_eq_true (rolS_ne (by omega) (by omega) (fun e => hqk e.symm)), decide_eq_true (List.mem_of_getElem? (rolesL_at hkk)), decide_eq_true (List.mem_of_getElem? (rolesL_at hq)), HOK.out]
          simp)
      go_roundw
      case rel => exact ⟨k + 1, sa5, k + 1, sc5, f ++ [⟨(rolS kk).toList, (rolS q).toList, l⟩], by omega, by go_num, by rw [List.length_append, HFL.out]; rfl, rfl, Lib.hid ((HO5.out.beside (HBS.out _) (by omega)).top (Nat.le_refl _)), HG5, Lib.hid (PBox.set HL5.out), Lib.hid (HD5.out.below (HBL.out _) (by omega)), Lib.hid (bes_below HB5.out (HBL.out _) (by omega)), Lib.hid (HRo5.out.below (HBL.out _) hrb3), Lib.hid ((heap_setCell_ne (by omega)).trans HRs5.out)⟩
      case measure => simp [intOf]; omega
    · have d1 : decide ((k : Int) < 1 + (m : Int)) = false := decide_eq_false (by omega)
      obtain ⟨_, _, _⟩ := HLB.out.cells
      have pf2 := HLB.out.thaw 2
      go_wp2_with (first
        | (at_builtin
           refine wpList_append_mpoint rfl (.tmp 62) (.tmp 64) rfl (w3.heap.size + 1) wr.heap.size (.slice sa k sc) f ⟨⟨#[]⟩, ⟨#[]⟩, none, 0, 0⟩ ⟨[], [], []⟩ rfl rfl rfl rfl HO.out ⟨⟨by rw [ByteArray.toList_eq], by simp [maxLen, ByteArray.size]⟩, by rw [ByteArray.toList_eq], by simp [maxLen, ByteArray.size], by simp⟩ (AOwn.zero _ _) (by omega) (Nat.le_refl _) (by have := HFL.out; omega) wr (Below.refl _ _) ?_
           intro v5 w5 hown hbel
           obtain ⟨sa5, sc5, hv5, _⟩ := hown.powns.sees (by rw [List.length_append, List.length_singleton, HFL.out]; omega)
           rw [List.length_append, List.length_singleton, HFL.out] at hv5
           subst hv5
           have HO5 := Lib.hid hown
           have HL5 := Lib.hid (show PBox w5 w3.heap.size nm ra many rc sa k sc from (hbel.block w3.heap.size (by omega)).trans HLB.out)
           have HB5 := Lib.hid (bes_below HBr.out hbel (by omega))
           have HRs5 := Lib.hid (show PBox w5 w.heap.size ⟨#[]⟩ none 0 0 none 0 0 from (hbel.block w.heap.size (by omega)).trans HRs.out)
           obtain ⟨rb, hrb, _, _, _⟩ := HRo.out.cell (by omega)
           have HRo5 := Lib.hid (show RRow w5 (w.heap.size + 1) ra many rc (rolesL many) from by
             subst hrb
             exact HRo.out.below hbel (by have := (World.ownsRow.lt HR3.out rb rfl).2; omega))
           clear hrb
           have hs5 := hbel.size
           obtain ⟨_, _, _⟩ := HL5.out.cells
           have uf2 := HL5.out.thaw 2
           have zf0 := HRs5.out.thaw 0
           have zf1 := HRs5.out.thaw 1
           have zf2 := HRs5.out.thaw 2
           obtain ⟨rc0, rc1, rc2⟩ := HRs5.out.cells
           clear hown hbel)
        | fail)
      have hkm : k = m + 1 := by omega
      have HBS := Lib.hid (fun (u : Value) => ((Beside.refl w3.heap.size w5).setCell 2 u))
      have HBL := Lib.hid (fun (u : Value) => ((Below.refl w3.heap.size w5).setCell (p := ⟨w3.heap.size, 2, none⟩) (Nat.le_refl _) u))
      have HO6 := Lib.hid ((HO5.out.beside (HBS.out (.slice sa5 (k + 1) sc5)) (by omega)).top (Nat.le_refl _))
      have HB6 := Lib.hid (bes_below HB5.out (HBL.out (.slice sa5 (k + 1) sc5)) (by omega))
      have HRs6 := Lib.hid (show PBox (w5.setCell ⟨w3.heap.size, 2, none⟩ (.slice sa5 (k + 1) sc5)) w.heap.size ⟨#[]⟩ none 0 0 none 0 0 from (heap_setCell_ne (by omega)).trans HRs5.out)
      have HRo6 := Lib.hid (show RRow (w5.setCell ⟨w3.heap.size, 2, none⟩ (.slice sa5 (k + 1) sc5)) (w.heap.size + 1) ra many rc (rolesL many) from by
        obtain ⟨rb, hrb, _, _, _⟩ := HRo.out.cell (by omega)
        subst hrb
        exact HRo5.out.below (HBL.out _) (World.ownsRow.lt HR3.out rb rfl).2)
      generalize hw6 : w5.setCell ⟨w3.heap.size, 2, none⟩ (.slice sa5 (k + 1) sc5) = w6 at HO6 HB6 HRs6 HRo6 ⊢
      clear hw6
      obtain ⟨rc0, rc1, rc2⟩ := HRs6.out.cells
      refine bodyPost_ret (v := .agg #[.string nm, .slice ra many rc, .slice sa5 (k + 1) sc5]) (by simp [results, go_sem, rc0, rc1, rc2]) rfl ?_
      have hbs := (((Beside.refl w.heap.size w6).setCell 0 (.string nm)).setCell 1 (.slice ra many rc)).setCell 2 (.slice sa5 (k + 1) sc5)
      have hbl : Below w.heap.size w6 (((w6.setCell ⟨w.heap.size, 0, none⟩ (.string nm)).setCell ⟨w.heap.size, 1, none⟩ (.slice ra many rc)).setCell ⟨w.heap.size, 2, none⟩ (.slice sa5 (k + 1) sc5)) := (((Below.refl w.heap.size w6).setCell (Nat.le_refl _) _).setCell (Nat.le_refl _) _).setCell (Nat.le_refl _) _
      have hl : (f ++ [(⟨[], [], []⟩ : PointL)]).length = k + 1 := by rw [List.length_append, HFL.out]; rfl
      refine ⟨⟨ra, rc, sa5, k + 1, sc5, f ++ [⟨[], [], []⟩], rfl, ?_, ?_, hl, ?_, by omega, by omega⟩, bes_below HB6.out hbl (Nat.le_refl _)⟩
      · have hm := (HO6.out.beside hbs (by omega)).top (Nat.le_refl _)
        exact hm.low (by omega)
      · exact (HRo6.out.beside hbs (by omega)).low (by omega)
      · rw [hl, hkm]
        intro x hx
        rcases List.mem_append.1 hx with hx | hx
        · exact HG.out x hx
        · rw [List.mem_singleton.1 hx]
          rfl
end Go.Proofs.YtokgpdceckaddaaGreatDoor

/- The statements' protocols with types: out of numbers that begin with 0 or 2. (Printed out of XGlProt.) -/
namespace Go.Proofs.YtokgpdceckaddaaGreatDoor
open Go.RowKit

set_option maxHeartbeats 8000000 in
set_option maxRecDepth 20000 in
theorem prot2T_any (g : Nat) (nm : ByteArray) (ta : Option Addr) (tn tc : Nat) (w : World) (hD : DiceX w g 2) (hT : TyIn w g ta tn) :
    Calls Tryz.prog 34 #[.pointer (some ⟨g, 0, none⟩), .string nm, .slice ta tn tc] w fun e w' => ProtRet nm 3 w e w' ∧ Beside g w w' := by
  have hgl := hD.lt
  have HTY := Lib.hid hT
  have HB0 := Lib.hid (tu1 w (.cells #[.string ⟨#[]⟩, .slice none 0 0, .slice none 0 0] 27))
  have HR0 := Lib.hid (PBox.new w ⟨#[]⟩ none 0 0 none 0 0)
  have CP := Lib.hid (show Calls Tryz.prog 61 #[.pointer (some ⟨g, 0, none⟩), .int .i64 4] (w.alloc (.cells #[.string ⟨#[]⟩, .slice none 0 0, .slice none 0 0] 27)) fun e w' => e = .returned (.int .i64 2) ∧ Dice w' g ∧ Beside g (w.alloc (.cells #[.string ⟨#[]⟩, .slice none 0 0, .slice none 0 0] 27)) w' from pickX_any g 2 (by omega) _ (hD.on HB0.out))
  have CA := Lib.hid (fun (W : World) (h : Dice W g) (ht : TyIn W g ta tn) => show Calls Tryz.prog 62 #[.pointer (some ⟨g, 0, none⟩), .string nm, .int .i64 3, .slice ta tn tc] W fun e w' => ProtRet nm 3 W e w' ∧ Beside g W w' from anyT_any g nm 3 ta tn tc (by omega) (by omega) W h ht)
  clear hD hT
  go_enter Tryz.func34, Tryz.ntmps34
  go_wp2_with (first
    | (go_at_call 61; (with_reducible refine CP.out.mono ?_)
       rintro e w1 ⟨rfl, hd1, hb1⟩
       have HD1 := Lib.hid hd1
       have HB1 := Lib.hid (hb1.cut HB0.out)
       have HR1 := Lib.hid (HR0.out.beside hb1 (by omega))
       clear hd1 hb1)
    | (go_at_call 62; (with_reducible refine (CA.out _ HD1.out (HTY.out.beside HB1.out)).mono ?_)
       rintro e w2 ⟨⟨ra, rc, sa, sn, sc, ps, rfl, hm, hr, hl, hok, h2, h9⟩, hb2⟩
       have HM := Lib.hid hm
       have HRo := Lib.hid hr
       have HB2 := Lib.hid (HB1.out.trans hb2)
       have HR2 := Lib.hid (HR1.out.beside hb2 (by omega))
       have HE := Lib.hid (show ps.length = sn ∧ (∀ x ∈ ps, pointB (rolesL 3) ps.length x = true) ∧ 2 ≤ ps.length ∧ ps.length ≤ 9 from ⟨hl, hok, h2, h9⟩)
       obtain ⟨rc0, rc1, rc2⟩ := HR2.out.cells
       have zf0 := HR2.out.thaw 0
       have zf1 := HR2.out.thaw 1
       have zf2 := HR2.out.thaw 2
       clear hm hr hl hok h2 h9 hb2)
    | fail)
  refine bodyPost_ret (v := .agg #[.string nm, .slice ra 3 rc, .slice sa sn sc]) (by simp [results, go_sem, rc0, rc1, rc2]) rfl ?_
  have hz := HR1.out.lt
  have hbs := (((Beside.refl w.heap.size w2).setCell 0 (.string nm)).setCell 1 (.slice ra 3 rc)).setCell 2 (.slice sa sn sc)
  have hbl : Below w.heap.size w2 (((w2.setCell ⟨w.heap.size, 0, none⟩ (.string nm)).setCell ⟨w.heap.size, 1, none⟩ (.slice ra 3 rc)).setCell ⟨w.heap.size, 2, none⟩ (.slice sa sn sc)) := (((Below.refl w.heap.size w2).setCell (Nat.le_refl _) _).setCell (Nat.le_refl _) _).setCell (Nat.le_refl _) _
  refine ⟨⟨ra, rc, sa, sn, sc, ps, rfl, ?_, ?_, HE.out.1, HE.out.2.1, HE.out.2.2.1, HE.out.2.2.2⟩, bes_below HB2.out hbl (Nat.le_refl _)⟩
  · have hm := (HM.out.beside hbs (by omega)).top (Nat.le_refl _)
    exact hm.low (by omega)
  · exact (HRo.out.beside hbs (by omega)).low (by omega)
set_option maxHeartbeats 8000000 in
set_option maxRecDepth 20000 in
theorem prot0T_any (g : Nat) (nm : ByteArray) (ta : Option Addr) (tn tc : Nat) (w : World) (hD : DiceX w g 0) (hT : TyIn w g ta tn) :
    Calls Tryz.prog 34 #[.pointer (some ⟨g, 0, none⟩), .string nm, .slice ta tn tc] w fun e w' => ProtRet nm 2 w e w' ∧ Beside g w w' := by
  have hgl := hD.lt
  have HTY := Lib.hid hT
  have HB0 := Lib.hid (tu1 w (.cells #[.string ⟨#[]⟩, .slice none 0 0, .slice none 0 0] 27))
  have HR0 := Lib.hid (PBox.new w ⟨#[]⟩ none 0 0 none 0 0)
  have CP := Lib.hid (show Calls Tryz.prog 61 #[.pointer (some ⟨g, 0, none⟩), .int .i64 4] (w.alloc (.cells #[.string ⟨#[]⟩, .slice none 0 0, .slice none 0 0] 27)) fun e w' => e = .returned (.int .i64 0) ∧ Dice w' g ∧ Beside g (w.alloc (.cells #[.string ⟨#[]⟩, .slice none 0 0, .slice none 0 0] 27)) w' from pickX_any g 0 (by omega) _ (hD.on HB0.out))
  have CA := Lib.hid (fun (W : World) (h : Dice W g) (ht : TyIn W g ta tn) => show Calls Tryz.prog 62 #[.pointer (some ⟨g, 0, none⟩), .string nm, .int .i64 2, .slice ta tn tc] W fun e w' => ProtRet nm 2 W e w' ∧ Beside g W w' from anyT_any g nm 2 ta tn tc (by omega) (by omega) W h ht)
  clear hD hT
  go_enter Tryz.func34, Tryz.ntmps34
  go_wp2_with (first
    | (go_at_call 61; (with_reducible refine CP.out.mono ?_)
       rintro e w1 ⟨rfl, hd1, hb1⟩
       have HD1 := Lib.hid hd1
       have HB1 := Lib.hid (hb1.cut HB0.out)
       have HR1 := Lib.hid (HR0.out.beside hb1 (by omega))
       clear hd1 hb1)
    | (go_at_call 62; (with_reducible refine (CA.out _ HD1.out (HTY.out.beside HB1.out)).mono ?_)
       rintro e w2 ⟨⟨ra, rc, sa, sn, sc, ps, rfl, hm, hr, hl, hok, h2, h9⟩, hb2⟩
       have HM := Lib.hid hm
       have HRo := Lib.hid hr
       have HB2 := Lib.hid (HB1.out.trans hb2)
       have HR2 := Lib.hid (HR1.out.beside hb2 (by omega))
       have HE := Lib.hid (show ps.length = sn ∧ (∀ x ∈ ps, pointB (rolesL 2) ps.length x = true) ∧ 2 ≤ ps.length ∧ ps.length ≤ 9 from ⟨hl, hok, h2, h9⟩)
       obtain ⟨rc0, rc1, rc2⟩ := HR2.out.cells
       have zf0 := HR2.out.thaw 0
       have zf1 := HR2.out.thaw 1
       have zf2 := HR2.out.thaw 2
       clear hm hr hl hok h2 h9 hb2)
    | fail)
  refine bodyPost_ret (v := .agg #[.string nm, .slice ra 2 rc, .slice sa sn sc]) (by simp [results, go_sem, rc0, rc1, rc2]) rfl ?_
  have hz := HR1.out.lt
  have hbs := (((Beside.refl w.heap.size w2).setCell 0 (.string nm)).setCell 1 (.slice ra 2 rc)).setCell 2 (.slice sa sn sc)
  have hbl : Below w.heap.size w2 (((w2.setCell ⟨w.heap.size, 0, none⟩ (.string nm)).setCell ⟨w.heap.size, 1, none⟩ (.slice ra 2 rc)).setCell ⟨w.heap.size, 2, none⟩ (.slice sa sn sc)) := (((Below.refl w.heap.size w2).setCell (Nat.le_refl _) _).setCell (Nat.le_refl _) _).setCell (Nat.le_refl _) _
  refine ⟨⟨ra, rc, sa, sn, sc, ps, rfl, ?_, ?_, HE.out.1, HE.out.2.1, HE.out.2.2.1, HE.out.2.2.2⟩, bes_below HB2.out hbl (Nat.le_refl _)⟩
  · have hm := (HM.out.beside hbs (by omega)).top (Nat.le_refl _)
    exact hm.low (by omega)
  · exact (HRo.out.beside hbs (by omega)).low (by omega)
abbrev tyO8 : Obj := .cells #[.string ⟨#[112, 46, 97]⟩, .string ⟨#[116]⟩] 9
theorem types8 (w : World) (g : Nat) (hg : g < w.heap.size) : TyIn (w.alloc tyO8) g (some ⟨w.heap.size, 0, none⟩) 2 := by
  refine ⟨by omega, fun j hj => ?_⟩
  have : j = 0 ∨ j = 1 := by omega
  rcases this with rfl | rfl
  · exact ⟨w.heap.size, 0, ⟨#[112, 46, 97]⟩, rfl, by omega, by simp, by unfold tyO8; rw [cell_of_row _ _ _ _ _ _ (heap_alloc_new w _)]; rfl, by simp [maxLen, ByteArray.size], by rw [ByteArray.toList_eq]; decide⟩
  · exact ⟨w.heap.size, 0, ⟨#[116]⟩, rfl, by omega, by simp, by unfold tyO8; rw [cell_of_row _ _ _ _ _ _ (heap_alloc_new w _)]; rfl, by simp [maxLen, ByteArray.size], by rw [ByteArray.toList_eq]; decide⟩
set_option maxHeartbeats 8000000 in
set_option maxRecDepth 20000 in
theorem law8Prot_any (P : Nat → Prop) (x : Int) (CP : ∀ (W : World) (g : Nat) (ta : Option Addr) (tn tc : Nat), DiceX W g x → TyIn W g ta tn → Calls Tryz.prog 34 #[.pointer (some ⟨g, 0, none⟩), .string ⟨#[112]⟩, .slice ta tn tc] W fun e w' => ProtIn P ⟨#[112]⟩ W e w' ∧ Beside g W w')
    (v : Value) (q : ByteArray) (ba : Option Addr) (bn bc : Nat) (da : Option Addr) (dn dc : Nat) (hv : v = .agg #[.string q, .slice ba bn bc, .slice da dn dc]) (a : Option Addr) (n c : Nat) (l : List Int) (w : World) (bound : Nat) (hb : bound ≤ w.heap.size) (h : Nums w bound a n (x :: l)) (hlim : n * 8 ≤ 140737488355328) :
    Calls Tryz.prog 12 #[v, .slice a n c] w fun e w' => ProtIn P ⟨#[112]⟩ w e w' ∧ Below w.heap.size w w' := by
  subst hv
  obtain ⟨w1, hw1⟩ : ∃ w1, w1 = (w.alloc (.cells #[.string q, .slice ba bn bc, .slice da dn dc] 27)).alloc (.cells #[.string ⟨#[]⟩, .slice none 0 0, .slice none 0 0] 27) := ⟨_, rfl⟩
  have HB1 := Lib.hid (show Below w.heap.size w w1 by rw [hw1]; exact below_on (tu1 w _) (tu1 _ _))
  have HR1 := Lib.hid (show PBox w1 (w.heap.size + 1) ⟨#[]⟩ none 0 0 none 0 0 by
    rw [hw1]
    have := PBox.new (w.alloc (.cells #[.string q, .slice ba bn bc, .slice da dn dc] 27)) ⟨#[]⟩ none 0 0 none 0 0
    rw [World.size_alloc] at this
    exact this)
  have CN := Lib.hid (newX_any a n c x l w1 bound (h.below (HB1.out.mono hb)) hlim)
  have hn1 : 1 ≤ n := by have := h.1; rw [List.length_cons] at this; omega
  have d1 : decide ((0 : Int) < (n : Int)) = true := decide_eq_true (by omega)
  have d2 : (0 : Int) < (n : Int) := by omega
  have hz1 : w.heap.size + 2 = w1.heap.size := by rw [hw1]; simp
  have HW := Lib.hid hw1
  have HZ := Lib.hid hz1
  clear h hw1 hz1
  go_enter Tryz.func12, Tryz.ntmps12
  go_upto_region 1 with fail
  rw [← HW.out]
  go_wp2_with (first
    | (go_at_call 35; (with_reducible refine CN.out.mono ?_)
       rintro e w2 ⟨g, rfl, hd2, hg2, hb2⟩
       have HD2 := Lib.hid hd2
       have HB2 := Lib.hid hb2
       have HR2 := Lib.hid ((HR1.out.on hb2).on (tu1 w2 tyO8))
       have HT2 := Lib.hid (types8 w2 g hd2.lt)
       have HBT := Lib.hid (show Below w1.heap.size w2 (w2.alloc tyO8) from (tu1 w2 tyO8).mono hb2.size)
       have HDT := Lib.hid (hd2.on (tu1 w2 tyO8))
       have hzt : w1.heap.size ≤ (w2.alloc tyO8).heap.size := Nat.le_trans hb2.size (tu1 w2 tyO8).size
       clear hd2 hb2)
    | (go_at_call 34; (with_reducible refine (CP (w2.alloc tyO8) g (some ⟨w2.heap.size, 0, none⟩) 2 2 HDT.out HT2.out).mono ?_)
       rintro e w3 ⟨⟨many, hP, ra, rc, sa, sn, sc, ps, rfl, hm, hr, hl, hok, h2, h9⟩, hb3⟩
       have HM := Lib.hid hm
       have HRo := Lib.hid hr
       have HB3 := Lib.hid (show Below w.heap.size w w3 from below_on HB1.out (((below_on (Below.refl _ _) HB2.out).trans HBT.out).trans (hb3.below hg2 hzt)))
       have HR3 := Lib.hid (HR2.out.beside hb3 (by have := HZ.out; omega))
       have HE := Lib.hid (show P many ∧ ps.length = sn ∧ (∀ x ∈ ps, pointB (rolesL many) ps.length x = true) ∧ 2 ≤ ps.length ∧ ps.length ≤ 9 from ⟨hP, hl, hok, h2, h9⟩)
       obtain ⟨rc0, rc1, rc2⟩ := HR3.out.cells
       have zf0 := HR3.out.thaw 0
       have zf1 := HR3.out.thaw 1
       have zf2 := HR3.out.thaw 2
       clear hm hr hl hok h2 h9 hb3)
    | fail)
  refine bodyPost_ret (v := .agg #[.string ⟨#[112]⟩, .slice ra many rc, .slice sa sn sc]) (by simp [results, go_sem, rc0, rc1, rc2]) rfl ?_
  have hz := HB2.out.size
  have hzu := hzt
  simp only [World.size_alloc] at hzu
  have hz1 := HZ.out
  have hbs := (((Beside.refl (w.heap.size + 1) w3).setCell 0 (.string ⟨#[112]⟩)).setCell 1 (.slice ra many rc)).setCell 2 (.slice sa sn sc)
  have hbl : Below w.heap.size w3 (((w3.setCell ⟨w.heap.size + 1, 0, none⟩ (.string ⟨#[112]⟩)).setCell ⟨w.heap.size + 1, 1, none⟩ (.slice ra many rc)).setCell ⟨w.heap.size + 1, 2, none⟩ (.slice sa sn sc)) := (((Below.refl w.heap.size w3).setCell (show w.heap.size ≤ w.heap.size + 1 by omega) _).setCell (show w.heap.size ≤ w.heap.size + 1 by omega) _).setCell (show w.heap.size ≤ w.heap.size + 1 by omega) _
  refine ⟨⟨many, HE.out.1, ra, rc, sa, sn, sc, ps, rfl, ?_, ?_, HE.out.2.1, HE.out.2.2.1, HE.out.2.2.2.1, HE.out.2.2.2.2⟩, HB3.out.trans hbl⟩
  · have hm := (HM.out.beside hbs (by simp; omega)).top (Nat.le_refl _)
    exact hm.low (by simp; omega)
  · exact (HRo.out.beside hbs (by simp; omega)).low (by simp; omega)
theorem law8two_any (xa xb : Option Addr) (a : Option Addr) (n c : Nat) (l : List Int) (w : World) (h : Nums w w.heap.size a n (2 :: l)) (hlim : n * 8 ≤ 140737488355328) :
    Calls Tryz.prog 12 #[.agg #[.string ⟨#[112]⟩, .slice xa 3 3, .slice xb 3 3], .slice a n c] w fun e w' => ProtIn (fun m => m = 3) ⟨#[112]⟩ w e w' ∧ Below w.heap.size w w' :=
  law8Prot_any (fun m => m = 3) 2 (fun W g ta tn tc hD hT => (prot2T_any g ⟨#[112]⟩ ta tn tc W hD hT).mono fun _ _ h => ⟨⟨3, rfl, h.1⟩, h.2⟩) _ ⟨#[112]⟩ xa 3 3 xb 3 3 rfl a n c l w w.heap.size (Nat.le_refl _) h hlim
theorem law8zero_any (xa xb : Option Addr) (a : Option Addr) (n c : Nat) (l : List Int) (w : World) (h : Nums w w.heap.size a n (0 :: l)) (hlim : n * 8 ≤ 140737488355328) :
    Calls Tryz.prog 12 #[.agg #[.string ⟨#[112]⟩, .slice xa 3 3, .slice xb 3 3], .slice a n c] w fun e w' => ProtIn (fun m => m = 2) ⟨#[112]⟩ w e w' ∧ Below w.heap.size w w' :=
  law8Prot_any (fun m => m = 2) 0 (fun W g ta tn tc hD hT => (prot0T_any g ⟨#[112]⟩ ta tn tc W hD hT).mono fun _ _ h => ⟨⟨2, rfl, h.1⟩, h.2⟩) _ ⟨#[112]⟩ xa 3 3 xb 3 3 rfl a n c l w w.heap.size (Nat.le_refl _) h hlim
end Go.Proofs.YtokgpdceckaddaaGreatDoor
