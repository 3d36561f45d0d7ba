/- Contract of reparteemake's arms. -/
import Derived.Test.YtbbdmipfbnfpfaaGreatTuMakeA
import Derived.Test.YtbbdmipfbnfpfaaGreatTuTrim
import Derived.Deep.RegionLaw
namespace Go.Proofs.YtbbdmipfbnfpfaaGreat
open Go.RowKit

theorem step_append_arm {ops : Array Oper} {o : Oper} {a : Act} {K : Act → World → Prop} {Q : Exit → Act → World → Prop} {E : Prop} {w1 : World} (W : World) (hgd : o.guard = none) (s x : Operand)
    (ho : o.op = .call { callee := .builtin .append, args := #[s, x], argTypes := #[42, 42] }) (base : Nat) (v : Value) (l : List ArmL) (t : AR)
    (hw1 : w1 = W.alloc (.cells #[.string t.s, .int .i64 t.k, .string t.u, .int .i64 t.x] 41)) (hs : a.eval s = v) (hx : a.eval x = .slice (some ⟨W.heap.size, 0, none⟩) 1 1)
    (hB : AOwn W base v l) (ht : okR t) (hb : base ≤ W.heap.size) (hlen : l.length + 1 ≤ 1000000) (w0 : World) (hw : Below base w0 W)
    (h : ∀ v' w', AOwn w' base v' (l ++ [armR t]) → Below base w0 w' → K (a.put o.dst v') w') : if Region.wanted o (yielded ops a.tmps) = true then Oper.wp Tryz.prog o a w1 K Q else E := by
  have hwant : Region.wanted o (yielded ops a.tmps) = true := by simp [Region.wanted, hgd]
  rw [if_pos hwant]
  subst hw1
  obtain ⟨v', w', hrun, hown, hbel⟩ := (hB.alloc (.cells #[.string t.s, .int .i64 t.k, .string t.u, .int .i64 t.x] 41)).add (by simp; omega) 1 (ARow.one (W := W) t rfl rfl ht) hlen o.type
  unfold Oper.wp execOp
  simp only [ho, resolve, invoke, builtin, Sem.run_bind, Sem.run_pure, Result.andThen_ok, List.map_toArray, List.map_cons, List.map_nil, hs, hx, hrun]
  exact h v' w' hown (hbel base (Nat.le_refl _) w0 (hw.alloc hb _))
theorem AOwn.beside {w w' : World} {base g : Nat} {v : Value} {l : List ArmL} (h : AOwn w base v l) (hb : Beside g w w') (hg : g < base) : AOwn w' base v l := by
  obtain ⟨ts, h, h2⟩ := h
  have hlt := h.lt
  refine ⟨ts, ⟨h.1, ?_⟩, h2⟩
  rcases h.2 with h0 | ⟨k, cap, cur, rfl, hbase, hh, h1, h2, h3, h4⟩
  · exact .inl h0
  · refine .inr ⟨k, cap, cur, rfl, hbase, ?_, h1, h2, h3, h4⟩
    rw [hb.block k (hlt k rfl).2 (by omega)]
    exact hh
/-- The label at a place of the four. -/
def labS (i : Nat) : Str := [UInt8.ofNat (119 + i % 4)]
theorem labS_may (i : Nat) : may (labS i) = true := by
  unfold labS
  have : i % 4 = 0 ∨ i % 4 = 1 ∨ i % 4 = 2 ∨ i % 4 = 3 := by omega
  rcases this with h | h | h | h <;> (rw [h]; decide)
theorem labS_nodup (f : Nat) (k : Nat) (hk : k ≤ 3) : ((List.range k).map fun i => labS (f + i)).Nodup := by
  unfold labS
  obtain ⟨r, hr, hlt⟩ : ∃ r, f % 4 = r ∧ r < 4 := ⟨f % 4, rfl, by omega⟩
  have e : ∀ i, (f + i) % 4 = (r + i) % 4 := fun i => by omega
  simp only [e]
  have hr4 : r = 0 ∨ r = 1 ∨ r = 2 ∨ r = 3 := by omega
  have hk4 : k = 0 ∨ k = 1 ∨ k = 2 ∨ k = 3 := by omega
  rcases hr4 with rfl | rfl | rfl | rfl <;> rcases hk4 with rfl | rfl | rfl | rfl <;> decide
def labB (i : Nat) : ByteArray := ⟨#[UInt8.ofNat (119 + i % 4)]⟩
theorem labB_list (i : Nat) : (labB i).toList = labS i := by rw [ByteArray.toList_eq]; rfl
theorem labObj_at (w : World) (i : Nat) : (w.alloc labObj).cell? ⟨w.heap.size, i % 4, none⟩ = some (.string (labB i)) := by
  have : i % 4 = 0 ∨ i % 4 = 1 ∨ i % 4 = 2 ∨ i % 4 = 3 := by omega
  unfold labObj
  rw [cell_of_row _ _ _ _ _ _ (heap_alloc_new w _)]
  unfold labB
  rcases this with h | h | h | h <;> (rw [h]; rfl)
set_option maxHeartbeats 16000000 in
set_option maxRecDepth 20000 in
theorem makeArms_any (g : Nat) (pl : Nat) (w : World) (hD : Dice w g) (hp1 : 1 ≤ pl) (hp2 : pl ≤ 1000) :
    Calls Tryz.prog 42 #[.pointer (some ⟨g, 0, none⟩), .slice none 0 0, .int .i64 (pl : Int)] w fun e w' => (∃ v l, e = .returned v ∧ AOwn w' w.heap.size v l ∧ armsB pl l = true) ∧ Dice w' g ∧ Beside g w w' := by
  have hgl := hD.lt
  have CP1 := Lib.hid (pick_at g 3 3 w rfl hD (by omega) (by omega))
  have CP2 := Lib.hid (fun (W : World) (h : Dice W g) => pick_at g 4 4 W rfl h (by omega) (by omega))
  have CP3 := Lib.hid (fun (W : World) (h : Dice W g) => pick_any g pl W h hp1 hp2)
  have CC := Lib.hid (fun (W : World) (h : Dice W g) => carries_any g W h)
  clear hD
  go_enter Tryz.func42, Tryz.ntmps42
  go_wp2_with (first
    | (go_at_call 40; (with_reducible refine CP1.out.mono ?_)
       rintro e w1 ⟨⟨m, hm, rfl⟩, hd1, hb1⟩
       have HD1 := Lib.hid hd1
       have HB1 := Lib.hid hb1
       clear hd1 hb1)
    | (go_at_call 40; (with_reducible refine (CP2.out _ HD1.out).mono ?_)
       rintro e w2 ⟨⟨f, hf, rfl⟩, hd2, hb2⟩
       have HD2 := Lib.hid hd2
       have HB2 := Lib.hid (HB1.out.trans hb2)
       clear hd2 hb2)
    | fail)
  go_loopw [7, 10] (fun o i wr => ∃ (k : Nat) (v : Value) (l : List ArmL), k ≤ m + 1 ∧ i = .int .i64 k ∧ v = o ∧ Hid (AOwn wr w.heap.size v l) ∧ Hid (l.map ArmL.label = (List.range k).map fun i => labS (f + i)) ∧ Hid (∀ a ∈ l, armB pl a = true) ∧ Hid (Dice wr g) ∧ Hid (Beside g w wr)) (fun _ i _ => m + 1 - (intOf i).toNat)
  case atStart => exact ⟨0, _, [], by omega, rfl, rfl, Lib.hid (AOwn.zero _ _), Lib.hid rfl, Lib.hid (by simp), HD2, HB2⟩
  case round =>
    obtain ⟨k, v, l, hk, rfl, hvo, HO, HLB, HG, HD, HBr⟩ := hrel
    subst hvo
    have hll : l.length = k := by have := congrArg List.length HLB.out; simpa using this
    have hzr := HBr.out.size
    by_cases hlt : k < m + 1
    · have d1 : decide ((k : Int) < 1 + (m : Int)) = true := decide_eq_true (by omega)
      obtain ⟨j, hj⟩ : ∃ j, j = (f + k) % 4 := ⟨_, rfl⟩
      have hmod : ((f : Int) + (k : Int)).tmod 4 = (j : Int) := by rw [Int.tmod_eq_emod_of_nonneg (by omega)]; omega
      have hj4 : j < 4 := by omega
      have i1 : (j : Int) < 4 := by omega
      have i2 : (0 : Int) ≤ (j : Int) := by omega
      have HA1 := Lib.hid (show (wr.drew.alloc labObj).cell? ⟨wr.heap.size, j, none⟩ = some (.string (labB (f + k))) by rw [hj]; exact labObj_at wr.drew (f + k))
      have CL := Lib.hid (labels_any wr.drew)
      have HDd := Lib.hid (HD.out.drew.on (tu1 wr.drew labObj))
      have HBd := Lib.hid (show Beside g w (wr.drew.alloc labObj) from (HBr.out.trans ⟨rfl, rfl, rfl, Nat.le_refl _, fun _ _ _ => rfl⟩ : Beside g w wr.drew).alloc labObj)
      have HOd := Lib.hid (show AOwn (wr.drew.alloc labObj) w.heap.size v l from AOwn.alloc (show AOwn wr.drew w.heap.size v l by obtain ⟨rs, h1, h2⟩ := HO.out; exact ⟨rs, h1.drew, h2⟩) _)
      have hsd : (wr.drew.alloc labObj).heap.size = wr.heap.size + 1 := by simp
      have hwr : IntKind.i64.wrap ((f : Int) + (k : Int)) = (f : Int) + (k : Int) := by simp [IntKind.wrap, IntKind.bits, IntKind.signed]; omega
      clear hj
      go_wp2
      go_region_law (first
        | (refine step_append_arm w4 (by rfl) (.tmp 21) (.tmp 36) (by rfl) w.heap.size v l ⟨labB (f + k), ck, ⟨#[]⟩, (nx : Int)⟩ (by rfl) (by rfl) (by rfl) HO4.out ⟨by simp [labB, maxLen, ByteArray.size], by simp [maxLen, ByteArray.size]⟩ (by have := HB4.out.size; omega) (by omega) w4 (Below.refl _ _) ?_
           intro v5 w5 hown hbel
           have HO5 := Lib.hid hown
           have HD5 := Lib.hid (HD4.out.below hbel hgl)
           have HB5 := Lib.hid (show Beside g w w5 from ⟨hbel.os.trans HB4.out.os, hbel.tape.trans HB4.out.tape, hbel.output.trans HB4.out.output, Nat.le_trans HB4.out.size hbel.size, fun k hk hne => (hbel.block k hk).trans (HB4.out.block k hk hne)⟩)
           clear hown hbel)
        | (go_simp; go_at_call 59; (with_reducible refine CL.out.mono ?_)
           rintro e wl ⟨rfl, hwl⟩
           have hcl : wl.cell? ⟨wr.heap.size, j, none⟩ = some (.string (labB (f + k))) := by rw [hwl]; exact HA1.out
           have HDl := Lib.hid (show Dice wl g by rw [hwl]; exact HDd.out)
           have HBl := Lib.hid (show Beside g w wl by rw [hwl]; exact HBd.out)
           have HOl := Lib.hid (show AOwn wl w.heap.size v l by rw [hwl]; exact HOd.out)
           have hsl : wl.heap.size = wr.heap.size + 1 := by rw [hwl]; exact hsd
           clear hwl)
        | (go_simp; go_at_call 60; (with_reducible refine (CC.out _ HDl.out).mono ?_)
           rintro e w3 ⟨⟨ck, hck0, hck5, rfl⟩, hd3, hb3⟩
           have hc3 := (hb3.cell (p := ⟨wr.heap.size, j, none⟩) (by show wr.heap.size < _; omega) (by show wr.heap.size ≠ g; omega)).trans hcl
           have HD3 := Lib.hid hd3
           have HB3 := Lib.hid (HBl.out.trans hb3)
           have HO3 := Lib.hid (HOl.out.beside hb3 hgl)
           have hs3 := hb3.size
           clear hd3 hb3)
        | (go_simp; go_at_call 40; (with_reducible refine (CP3.out _ HD3.out).mono ?_)
           rintro e w4 ⟨⟨nx, hnx, rfl⟩, hd4, hb4⟩
           have hc4 := (hb4.cell (p := ⟨wr.heap.size, j, none⟩) (by show wr.heap.size < _; omega) (by show wr.heap.size ≠ g; omega)).trans hc3
           have HD4 := Lib.hid hd4
           have HB4 := Lib.hid (HB3.out.trans hb4)
           have HO4 := Lib.hid (HO3.out.beside hb4 hgl)
           clear hd4 hb4)
        | fail)
      all_goals
        go_wp2
        have HL5 := Lib.hid (show (l ++ [armR ⟨labB (f + k), ck, ⟨#[]⟩, (nx : Int)⟩]).map ArmL.label = (List.range (k + 1)).map fun i => labS (f + i) by
          rw [List.map_append, HLB.out, List.range_succ, List.map_append]
          show _ ++ [(labB (f + k)).toList] = _
          rw [labB_list]
          rfl)
        have HG5 := Lib.hid (show ∀ a ∈ l ++ [armR ⟨labB (f + k), ck, ⟨#[]⟩, (nx : Int)⟩], armB pl a = true from fun a ha => by
          rcases List.mem_append.1 ha with ha | ha
          · exact HG.out a ha
          · rw [List.mem_singleton.1 ha]
            unfold armR
            rw [labB_list, armB_ways, labS_may, show carriesB ck (⟨#[]⟩ : ByteArray).toList = true by
              unfold carriesB
              rw [if_neg (by omega), decide_eq_true hck0, decide_eq_true hck5, ByteArray.toList_eq]
              rfl, decide_eq_true (show (0 : Int) ≤ (nx : Int) by omega), decide_eq_true (show (nx : Int) < (pl : Int) by omega)]
            rfl)
        go_roundw
        case rel => exact ⟨k + 1, v5, _, by omega, by go_num, rfl, HO5, HL5, HG5, HD5, HB5⟩
        case measure => simp [intOf]; omega
    · have d1 : decide ((k : Int) < 1 + (m : Int)) = false := decide_eq_false (by omega)
      have hok : armsB pl l = true := by
        unfold armsB
        rw [List.all_eq_true.2 HG.out, HLB.out, decide_eq_true (labS_nodup f k (by omega)), decide_eq_true (show 1 ≤ l.length by omega), decide_eq_true (show l.length ≤ 6 by omega)]
        rfl
      have HOK := Lib.hid hok
      clear hok
      go_wp2
      go_ret
      exact ⟨⟨v, l, rfl, HO.out, HOK.out⟩, HD.out, HBr.out⟩
end Go.Proofs.YtbbdmipfbnfpfaaGreat
