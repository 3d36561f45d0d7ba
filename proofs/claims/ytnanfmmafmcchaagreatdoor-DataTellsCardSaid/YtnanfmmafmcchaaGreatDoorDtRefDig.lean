/- Contract of the reference's Digits, at every number. -/
import Derived.Test.YtnanfmmafmcchaaGreatDoorDtShowL
import Derived.Test.YtnanfmmafmcchaaGreatDoorDtBox
import Derived.Test.YtnanfmmafmcchaaGreatDoorLxRefF
namespace Go.Proofs.YtnanfmmafmcchaaGreatDoor
open Go.RowKit

theorem Bytes.low {w : World} {base base' : Nat} {v : Value} {l : Str} (h : Bytes w base v l) (hb : base' ≤ base) : Bytes w base' v l := by
  rcases h.2 with h0 | ⟨g, cap, cur, rfl, hbase, hh, h1, h2, h3, h4⟩
  · exact ⟨h.1, .inl h0⟩
  · exact ⟨h.1, .inr ⟨g, cap, cur, rfl, Nat.le_trans hb hbase, hh, h1, h2, h3, h4⟩⟩
theorem Bytes.is {w : World} {base : Nat} {v : Value} {l : Str} (h : Bytes w base v l) : ∃ a cap, v = .slice a l.length cap := by
  rcases h.2 with ⟨h0, h1⟩ | ⟨g, cap, cur, rfl, _⟩
  · exact ⟨none, 0, by rw [h0, h1]⟩
  · exact ⟨_, cap, rfl⟩
theorem run_append_nothing {P : Program} (w : World) (base t ty e : Nat) (i : TypeInfo) (ht : P.underlying t = some (.slice e)) (hi : P.info? e = some i)
    (v : Value) (n : Nat) (xs : List Value) (hown : w.ownsRow base e 1 v n xs) (c : Nat) : (Builtin.append_ #[t, t] ty #[v, .slice none 0 c]).run P w = .ok v w := by
  rcases hown.2 with ⟨rfl, rfl⟩ | ⟨g, cap, cur, rfl, _, _, hnc, _⟩
  · simp [Builtin.append_, run_underlying ht, sizeOf, typeInfo, hi, Builtin.lenOf, Builtin.firstCells]
  · simp [Builtin.append_, run_underlying ht, sizeOf, typeInfo, hi, Builtin.lenOf, Builtin.firstCells, hnc, storeCells]
/-- A byte in front, which the world holds in a new array. -/
theorem Bytes.front {w : World} {base : Nat} {v : Value} {l : Str} (h : Bytes w base v l) (hb : base ≤ w.heap.size) (c : UInt8) (hlen : l.length ≤ 1000000) (ty : Nat) :
    ∃ v' w', (Builtin.append_ #[56, 56] ty #[.slice (some ⟨w.heap.size, 0, none⟩) 1 1, v]).run Tryz.prog (w.alloc (.cells #[encU8 c] 5)) = .ok v' w' ∧
      Bytes w' base v' (c :: l) ∧ ∀ w0, Below base w0 w → Below base w0 w' := by
  obtain ⟨i0, hi0, hzz⟩ := Option.map_eq_some_iff.1 info_byte
  simp only [Prod.mk.injEq] at hzz
  obtain ⟨hz, hs1, hb1⟩ := hzz
  have hown0 : Bytes (w.alloc (.cells #[encU8 c] 5)) w.heap.size (.slice (some ⟨w.heap.size, 0, none⟩) 1 1) [c] := Bytes.made w [c] (by unfold maxLen; simp)
  rcases h.2 with ⟨rfl, h0⟩ | ⟨g, cap, cur, rfl, hbase, hh, h1, h2, h3, h4⟩
  · have hl : l = [] := List.eq_nil_of_length_eq_zero h0
    subst hl
    refine ⟨_, _, run_append_nothing _ w.heap.size 56 ty 5 i0 Tryz.underlying56 hi0 _ _ _ hown0 0, hown0.low hb, fun w0 hw => hw.alloc hb _⟩
  · have hlt : g < w.heap.size := by
      rcases Nat.lt_or_ge g w.heap.size with h | h
      · exact h
      · rw [Array.getElem?_eq_none h] at hh; cases hh
    obtain ⟨v', w', hrun, hown, hgr, _, hat⟩ := run_append_own_at (P := Tryz.prog) (w.alloc (.cells #[encU8 c] 5)) w.heap.size 56 ty 5 i0 _ 1 1 Tryz.underlying56 hi0 hz hs1 hb1 rfl (by omega) _ 1 [encU8 c] hown0
      ⟨g, 0, none⟩ l.length cap (l.map encU8) (by simp)
      (fun j u hu => by
        have hj : j < l.length := by
          rcases Nat.lt_or_ge j l.length with h | h
          · exact h
          · rw [List.getElem?_eq_none (by simpa using h)] at hu; cases hu
        rw [Go.WideShapes.add_plain, World.cell?_alloc_lt _ _ _ (show (⟨g, 0 + j, none⟩ : Addr).block < w.heap.size from hlt), cell_of_row w g _ cur 5 (0, 0) hh]
        have : (cur.toList.take (l.length * 1))[j]? = (l.map encU8)[j]? := by rw [h4]
        rw [List.getElem?_take, if_pos (by omega), hu] at this
        rw [Nat.zero_add, ← Array.getElem?_toList, this])
      (fun u hu => by obtain ⟨c, _, rfl⟩ := List.mem_map.1 hu; rfl) (by unfold maxLen; omega) (by omega) (by simp)
    refine ⟨v', w', hrun, ?_, fun w0 hw => ?_⟩
    · have h5 : w'.ownsRow w.heap.size 5 1 v' (1 + l.length) ([encU8 c] ++ l.map encU8) := hown
      rw [Nat.add_comm] at h5
      exact Bytes.low (base := w.heap.size) h5 hb
    · exact (hw.alloc hb _).grown hgr (by simp; omega) (fun k hk => by simp [Value.ownBlock] at hk; omega)

/-- What is written so far: u is what is yet to be written of U. -/
def DigRel (U u : Nat) (l : Str) : Prop := (l = [] ∧ u = U) ∨ (l ≠ [] ∧ Lib.decDigits U = (if u = 0 then [] else Lib.decDigits u) ++ l)
theorem dec_step (u : Nat) : Lib.decDigits u = (if u / 10 = 0 then [] else Lib.decDigits (u / 10)) ++ [UInt8.ofNat (48 + u % 10)] := by
  conv => lhs; rw [Lib.decDigits]
  by_cases h : u < 10
  · rw [dif_pos h, if_pos (by omega), Nat.mod_eq_of_lt h]; rfl
  · rw [dif_neg h, if_neg (by omega)]
theorem DigRel.next {U u : Nat} {l : Str} (h : DigRel U u l) (hg : 0 < u ∨ l = []) : DigRel U (u / 10) (UInt8.ofNat (48 + u % 10) :: l) := by
  refine .inr ⟨by simp, ?_⟩
  rcases h with ⟨rfl, rfl⟩ | ⟨h1, h2⟩
  · exact dec_step _
  · have hu : u ≠ 0 := by
      rcases hg with h | h
      · omega
      · exact absurd h h1
    rw [h2, if_neg hu, dec_step u, List.append_assoc]
    rfl
theorem DigRel.over {U : Nat} {l : Str} (h : DigRel U 0 l) (hl : l ≠ []) : Lib.decDigits U = l := by
  rcases h with ⟨h1, _⟩ | ⟨_, h2⟩
  · exact absurd h1 hl
  · simpa using h2
theorem DigRel.len {U u : Nat} {l : Str} (h : DigRel U u l) : l.length ≤ (Lib.decDigits U).length := by
  rcases h with ⟨rfl, _⟩ | ⟨_, h2⟩
  · exact Nat.zero_le _
  · rw [h2, List.length_append]; omega
def sliceLen : Value → Nat
  | .slice _ n _ => n
  | _ => 0

theorem minus_cat (l : Str) : (⟨#[45]⟩ : ByteArray) ++ lxS l = lxS (45 :: l) := by
  apply lxS_inj
  rw [lxS_toList, cat_list, lxS_toList, lit_list [45]]
  rfl

set_option maxHeartbeats 4000000 in
set_option maxRecDepth 20000 in
theorem refDigits_any (n : Int) (w : World) (h0 : -9223372036854775808 ≤ n) (h1 : n ≤ 9223372036854775807) :
    Calls Tryz.prog 31 #[.int .i64 n] w fun e w' => e = .returned (.string (lxS (Lib.itoa n))) ∧ Below w.heap.size w w' := by
  by_cases hn : n < 0
  · obtain ⟨U, hU⟩ : ∃ U : Nat, n = -(U : Int) := ⟨n.natAbs, by omega⟩
    have d0 : decide (n < 0) = true := decide_eq_true hn
    obtain ⟨V, hV⟩ : ∃ V : Nat, (V : Int) = n + 18446744073709551616 := ⟨(n + 18446744073709551616).toNat, by omega⟩
    have hw : IntKind.u64.wrap n = (V : Int) := by rw [IntKind.wrap_u64]; omega
    have hw2 : IntKind.u64.wrap (-(V : Int)) = (U : Int) := by rw [IntKind.wrap_u64]; omega
    have hit := Lib.hid (show Lib.itoa n = 45 :: Lib.decDigits U by
      unfold Lib.itoa
      rw [if_pos hn, show n.natAbs = U by omega])
    have hU63 : (U : Int) ≤ 9223372036854775808 := by omega
    clear hV h1
    have h19 := dec_len U 18 (by have : (10 : Nat) ^ (18 + 1) = 10000000000000000000 := by decide
                                 omega)
    clear h0 hn hU
    go_enter Tryz.func31, Tryz.ntmps31
    go_wp2
    go_loopw [3, 4] (fun v3 v4 wr => ∃ (u : Nat) (l : Str), u ≤ U ∧ v3 = .int .u64 u ∧ Hid (Bytes wr w.heap.size v4 l) ∧ Hid (Below w.heap.size w wr) ∧ Hid (DigRel U u l)) (fun v3 v4 _ => (intOf v3).toNat + (if sliceLen v4 = 0 then 1 else 0))
    case atStart => exact ⟨U, [], Nat.le_refl _, rfl, Lib.hid (Bytes.zero _ _), Lib.hid (Below.refl _ _), Lib.hid (.inl ⟨rfl, rfl⟩)⟩
    case round =>
      obtain ⟨u, l, hu, rfl, HB, HW, HD⟩ := hrel
      obtain ⟨a, cap, hv⟩ := HB.out.is
      have hll := HD.out.len
      obtain ⟨m, hm⟩ : ∃ m, m = l.length := ⟨_, rfl⟩
      rw [← hm] at hv hll
      subst hv
      have HM := Lib.hid hm
      clear hm
      by_cases hpos : 0 < u ∨ m = 0
      · obtain ⟨q, hq⟩ : ∃ q : Nat, q = u / 10 := ⟨_, rfl⟩
        obtain ⟨r, hr⟩ : ∃ r : Nat, r = u % 10 := ⟨_, rfl⟩
        have f1 : (u : Int) / 10 = (q : Int) := by omega
        have f2 : (u : Int) % 10 = (r : Int) := by omega
        have r9 : (r : Int) ≤ 9 := by omega
        have qu : q ≤ U := by omega
        have HN := Lib.hid (show DigRel U q (UInt8.ofNat (48 + r) :: l) by
          rw [hq, hr]
          exact HD.out.next (by rcases hpos with h | h
                                · exact .inl h
                                · exact .inr (List.eq_nil_of_length_eq_zero (by rw [← HM.out]; exact h))))
        have HC := Lib.hid (show #[Value.int .u8 (48 + (r : Int))] = #[encU8 (UInt8.ofNat (48 + r))] by
          unfold encU8
          rw [UInt8.toNat_ofNat', Nat.mod_eq_of_lt (by omega)]
          rfl)
        obtain ⟨v', w', hrun, hown, hbel⟩ := HB.out.front HW.out.size (UInt8.ofNat (48 + r)) (by rw [← HM.out]; omega) 56
        rw [← HC.out] at hrun
        have HRUN := Lib.hid hrun
        have HO := Lib.hid hown
        have HE := Lib.hid (hbel w HW.out)
        have hqm : q < u ∨ (u = 0 ∧ q = 0 ∧ m = 0) := by omega
        have hsl : sliceLen v' ≠ 0 := by
          obtain ⟨a', cap', e⟩ := hown.is
          rw [e]
          show (UInt8.ofNat (48 + r) :: l).length ≠ 0
          simp
        clear hrun hown hbel hq hr
        cases c1 : decide (0 < u)
        · have c2 : (m == 0) = true := by rw [beq_iff_eq]; have := of_decide_eq_false c1; omega
          have c3 : ((m : Int) == 0) = true := by rw [beq_iff_eq]; have := of_decide_eq_false c1; omega
          go_wp2_with (first
            | (at_builtin; refine wpList_append_lx rfl (.tmp 22) (.tmp 23) _ rfl _ _ _ rfl rfl HRUN.out ?_)
            | fail)
          go_roundw
          case rel => exact ⟨q, _, qu, rfl, HO, HE, HN⟩
          case measure =>
            show (Int.toNat (q : Int)) + (if sliceLen v' = 0 then 1 else 0) < (Int.toNat (u : Int)) + (if m = 0 then 1 else 0)
            rw [if_neg hsl]
            split <;> omega
        · go_wp2_with (first
            | (at_builtin; refine wpList_append_lx rfl (.tmp 22) (.tmp 23) _ rfl _ _ _ rfl rfl HRUN.out ?_)
            | fail)
          go_roundw
          case rel => exact ⟨q, _, qu, rfl, HO, HE, HN⟩
          case measure =>
            show (Int.toNat (q : Int)) + (if sliceLen v' = 0 then 1 else 0) < (Int.toNat (u : Int)) + (if m = 0 then 1 else 0)
            rw [if_neg hsl]
            have := of_decide_eq_true c1
            split <;> omega
      · have hu0 : u = 0 := by omega
        subst hu0
        have c2 : (m == 0) = false := by rw [beq_eq_false_iff_ne]; omega
        have c3 : ((m : Int) == 0) = false := by rw [beq_eq_false_iff_ne]; omega
        have HF := Lib.hid (HD.out.over (fun e => by have := HM.out; rw [e] at this; simp at this; omega))
        have ec := HB.out.text
        obtain ⟨D, hD⟩ : ∃ D, D = lxS l := ⟨_, rfl⟩
        rw [← hD] at ec
        have HDD := Lib.hid hD
        have hDs : D.size ≤ 100 := by rw [hD, ← lxLen, lxS_toList, ← HM.out]; omega
        clear hD hpos
        go_wp2
        go_ret
        exact ⟨ret_str (by rw [hit.out, HF.out, HDD.out]; exact minus_cat l), HW.out⟩
  · obtain ⟨U, hU⟩ : ∃ U : Nat, n = (U : Int) := ⟨n.toNat, by omega⟩
    subst hU
    have d0 : decide ((U : Int) < 0) = false := decide_eq_false (by omega)
    have hw : IntKind.u64.wrap (U : Int) = (U : Int) := IntWalk.u64_in _ (by omega)
    have hit := Lib.hid (show Lib.itoa (U : Int) = Lib.decDigits U by unfold Lib.itoa; rw [if_neg hn]; rfl)
    have h19 := dec_len U 18 (by have : (10 : Nat) ^ (18 + 1) = 10000000000000000000 := by decide
                                 omega)
    clear h0 hn
    go_enter Tryz.func31, Tryz.ntmps31
    go_wp2
    go_loopw [3, 4] (fun v3 v4 wr => ∃ (u : Nat) (l : Str), u ≤ U ∧ v3 = .int .u64 u ∧ Hid (Bytes wr w.heap.size v4 l) ∧ Hid (Below w.heap.size w wr) ∧ Hid (DigRel U u l)) (fun v3 v4 _ => (intOf v3).toNat + (if sliceLen v4 = 0 then 1 else 0))
    case atStart => exact ⟨U, [], Nat.le_refl _, rfl, Lib.hid (Bytes.zero _ _), Lib.hid (Below.refl _ _), Lib.hid (.inl ⟨rfl, rfl⟩)⟩
    case round =>
      obtain ⟨u, l, hu, rfl, HB, HW, HD⟩ := hrel
      obtain ⟨a, cap, hv⟩ := HB.out.is
      have hll := HD.out.len
      obtain ⟨m, hm⟩ : ∃ m, m = l.length := ⟨_, rfl⟩
      rw [← hm] at hv hll
      subst hv
      have HM := Lib.hid hm
      clear hm
      by_cases hpos : 0 < u ∨ m = 0
      · obtain ⟨q, hq⟩ : ∃ q : Nat, q = u / 10 := ⟨_, rfl⟩
        obtain ⟨r, hr⟩ : ∃ r : Nat, r = u % 10 := ⟨_, rfl⟩
        have f1 : (u : Int) / 10 = (q : Int) := by omega
        have f2 : (u : Int) % 10 = (r : Int) := by omega
        have r9 : (r : Int) ≤ 9 := by omega
        have qu : q ≤ U := by omega
        have HN := Lib.hid (show DigRel U q (UInt8.ofNat (48 + r) :: l) by
          rw [hq, hr]
          exact HD.out.next (by rcases hpos with h | h
                                · exact .inl h
                                · exact .inr (List.eq_nil_of_length_eq_zero (by rw [← HM.out]; exact h))))
        have HC := Lib.hid (show #[Value.int .u8 (48 + (r : Int))] = #[encU8 (UInt8.ofNat (48 + r))] by
          unfold encU8
          rw [UInt8.toNat_ofNat', Nat.mod_eq_of_lt (by omega)]
          rfl)
        obtain ⟨v', w', hrun, hown, hbel⟩ := HB.out.front HW.out.size (UInt8.ofNat (48 + r)) (by rw [← HM.out]; omega) 56
        rw [← HC.out] at hrun
        have HRUN := Lib.hid hrun
        have HO := Lib.hid hown
        have HE := Lib.hid (hbel w HW.out)
        have hqm : q < u ∨ (u = 0 ∧ q = 0 ∧ m = 0) := by omega
        have hsl : sliceLen v' ≠ 0 := by
          obtain ⟨a', cap', e⟩ := hown.is
          rw [e]
          show (UInt8.ofNat (48 + r) :: l).length ≠ 0
          simp
        clear hrun hown hbel hq hr
        cases c1 : decide (0 < u)
        · have c2 : (m == 0) = true := by rw [beq_iff_eq]; have := of_decide_eq_false c1; omega
          have c3 : ((m : Int) == 0) = true := by rw [beq_iff_eq]; have := of_decide_eq_false c1; omega
          go_wp2_with (first
            | (at_builtin; refine wpList_append_lx rfl (.tmp 22) (.tmp 23) _ rfl _ _ _ rfl rfl HRUN.out ?_)
            | fail)
          go_roundw
          case rel => exact ⟨q, _, qu, rfl, HO, HE, HN⟩
          case measure =>
            show (Int.toNat (q : Int)) + (if sliceLen v' = 0 then 1 else 0) < (Int.toNat (u : Int)) + (if m = 0 then 1 else 0)
            rw [if_neg hsl]
            split <;> omega
        · go_wp2_with (first
            | (at_builtin; refine wpList_append_lx rfl (.tmp 22) (.tmp 23) _ rfl _ _ _ rfl rfl HRUN.out ?_)
            | fail)
          go_roundw
          case rel => exact ⟨q, _, qu, rfl, HO, HE, HN⟩
          case measure =>
            show (Int.toNat (q : Int)) + (if sliceLen v' = 0 then 1 else 0) < (Int.toNat (u : Int)) + (if m = 0 then 1 else 0)
            rw [if_neg hsl]
            have := of_decide_eq_true c1
            split <;> omega
      · have hu0 : u = 0 := by omega
        subst hu0
        have c2 : (m == 0) = false := by rw [beq_eq_false_iff_ne]; omega
        have c3 : ((m : Int) == 0) = false := by rw [beq_eq_false_iff_ne]; omega
        have HF := Lib.hid (HD.out.over (fun e => by have := HM.out; rw [e] at this; simp at this; omega))
        have ec := HB.out.text
        obtain ⟨D, hD⟩ : ∃ D, D = lxS l := ⟨_, rfl⟩
        rw [← hD] at ec
        have HDD := Lib.hid hD
        have hDs : D.size ≤ 100 := by rw [hD, ← lxLen, lxS_toList, ← HM.out]; omega
        clear hD hpos
        go_wp2
        go_ret
        exact ⟨ret_str (by rw [hit.out, HF.out, HDD.out]), HW.out⟩
end Go.Proofs.YtnanfmmafmcchaaGreatDoor
