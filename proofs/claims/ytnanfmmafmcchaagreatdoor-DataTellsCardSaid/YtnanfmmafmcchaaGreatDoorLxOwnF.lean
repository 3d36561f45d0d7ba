/- Contract of the program's Quoted. -/
import Derived.Test.YtnanfmmafmcchaaGreatDoorLxOwnE
import Derived.Test.YtnanfmmafmcchaaGreatDoorLxRefF
namespace Go.Proofs.YtnanfmmafmcchaaGreatDoor
open Go.RowKit

theorem made_bytes (n : Nat) (hn : n ≤ 10000000000000) (W : World) : (Instr.makeSlice 56 (.int .i64 0) (.int .i64 ((n : Int) + 2))).run Tryz.prog W =
    .ok (.slice (some ⟨W.heap.size, 0, none⟩) 0 (n + 2)) (W.alloc (.cells (madeCells #[.int .u8 0] (n + 2)) 5)) := by
  obtain ⟨i, hi, hzz⟩ := Option.map_eq_some_iff.1 info_byte
  simp only [Prod.mk.injEq] at hzz
  obtain ⟨hz, hs, hb⟩ := hzz
  have hr := run_make (P := Tryz.prog) W 56 5 i _ Tryz.underlying56 hi hz .i64 .i64 0 ((n : Int) + 2) (Int.le_refl 0) (by omega) (by rw [hb]; omega) (by omega)
  rw [hs, show (((n : Int) + 2).toNat) = n + 2 from by omega, Nat.mul_one] at hr
  exact hr
theorem Bytes.room (w : World) (n : Nat) (hn : n ≤ 10000000000000) : Bytes (w.alloc (.cells (madeCells #[.int .u8 0] (n + 2)) 5)) w.heap.size (.slice (some ⟨w.heap.size, 0, none⟩) 0 (n + 2)) [] :=
  ⟨rfl, .inr ⟨w.heap.size, n + 2, _, rfl, Nat.le_refl _, heap_alloc_new w _, by simp, by unfold maxLen; omega, by simp [madeCells], rfl⟩⟩

set_option maxHeartbeats 4000000 in
set_option maxRecDepth 20000 in
theorem ownQuoted_any (s : ByteArray) (w : World) (hs : s.size ≤ 10000000000000) :
    Calls Tryz.prog 20 #[.string s] w fun e w' => e = .returned (.string (lxS (quotedS s.toList))) ∧ Below w.heap.size w w' := by
  go_enter Tryz.func20, Tryz.ntmps20
  have hmk := fun W => made_bytes s.size hs W
  have HB0 := Lib.hid (Bytes.room w s.size hs)
  have HW0 := Lib.hid ((Below.refl w.heap.size w).alloc (Nat.le_refl _) (.cells (madeCells #[.int .u8 0] (s.size + 2)) 5))
  go_wp2_with (first
    | (at_builtin
       refine wpList_append_bytes rfl (.tmp 10) (.tmp 11) rfl w.heap.size (.slice (some ⟨w.heap.size, 0, none⟩) 0 (s.size + 2)) [] [34] rfl rfl (by show Value.slice (some ⟨w.heap.size + 1, 0, none⟩) 1 1 = _; simp) HB0.out HW0.out.size (by simp) w HW0.out ?_
       intro v0 w0 hown hbel
       have HO0 := Lib.hid hown
       have HE0 := Lib.hid hbel
       clear hown hbel)
    | fail)
  generalize hdg : (⟨#[48, 49, 50, 51, 52, 53, 54, 55, 56, 57, 97, 98, 99, 100, 101, 102]⟩ : ByteArray) = dg
  have hz : dg.size = 16 := by rw [← hdg]; rfl
  have hget : ∀ k, (hk : k < 16) → dg[k]'(by rw [hz]; exact hk) = hexD k := by subst hdg; exact digsB_get
  have HG := Lib.hid hget
  clear hget hdg HB0 HW0 hmk
  go_loopw [3, 15] (fun b i wr => ∃ (k : Nat) (acc : Str), k ≤ s.size ∧ acc.length ≤ 1 + 4 * k ∧ i = .int .i64 k ∧ Hid (Bytes wr w.heap.size b acc) ∧ Hid (Below w.heap.size w wr) ∧ Hid (acc = 34 :: escS (s.toList.take k))) (fun _ i _ => s.size - (intOf i).toNat)
  case atStart => exact ⟨0, [34], Nat.zero_le _, by simp, rfl, HO0, HE0, Lib.hid rfl⟩
  case round =>
    obtain ⟨k, acc, hk, hacc, rfl, HB, HW, HQ⟩ := hrel
    by_cases hlt : k < s.size
    · cases h34 : (s[k] == 34)
      · have e34 : (((s[k].toNat : Nat) : Int) == 34) = false := by rw [← h34]; exact byte_is s[k] 34 (by omega)
        cases h92 : (s[k] == 92)
        · have e92 : (((s[k].toNat : Nat) : Int) == 92) = false := by rw [← h92]; exact byte_is s[k] 92 (by omega)
          have HNO := Lib.hid (show (s[k] == 34 || s[k] == 92) = false by rw [h34, h92]; rfl)
          clear h34 h92
          cases h10 : (s[k] == 10)
          · have e10 : (((s[k].toNat : Nat) : Int) == 10) = false := by rw [← h10]; exact byte_is s[k] 10 (by omega)
            have H10 := Lib.hid h10
            clear h10
            have cp := fun W => ownPrintable_any (s[k].toNat : Int) W
            rw [prn_not] at cp
            cases hbad : (decide (s[k].toNat < 32) || decide (126 < s[k].toNat))
            · rw [hbad] at cp
              have CP := Lib.hid cp
              have HS := Lib.hid (esc_snoc s k hlt HQ.out (escB_same HNO.out H10.out hbad))
              clear hbad cp
              go_wp2_with (first
                | (go_at_call 36; (with_reducible refine (CP.out _).mono ?_); rintro e w1 ⟨rfl, rfl⟩)
                | (at_builtin
                   refine wpList_append_bytes rfl (.tmp 21) (.tmp 23) rfl w.heap.size _ acc [s[k]] rfl rfl rfl HB.out HW.out.size (by simp; omega) w HW.out ?_
                   intro v' w' hown hbel
                   have HO := Lib.hid hown
                   have HE := Lib.hid hbel
                   clear hown hbel)
                | fail)
              go_roundw
              case rel => exact ⟨k + 1, acc ++ [s[k]], by omega, by (rw [List.length_append]; show acc.length + 1 ≤ _; omega), by go_num, HO, HE, HS⟩
              case measure => simp [intOf]; omega
            · rw [hbad] at cp
              have CP := Lib.hid cp
              have HS := Lib.hid (esc_snoc s k hlt HQ.out (escB_hex HNO.out H10.out hbad))
              clear hbad cp
              obtain ⟨q, hq⟩ : ∃ q : Nat, q = s[k].toNat / 16 := ⟨_, rfl⟩
              obtain ⟨r, hr⟩ : ∃ r : Nat, r = s[k].toNat % 16 := ⟨_, rfl⟩
              have hc8 := s[k].toNat_lt
              have q16 : q < dg.size := by rw [hz]; omega
              have r16 : r < dg.size := by rw [hz]; omega
              have D1 : ((s[k].toNat : Nat) : Int) / 16 = (q : Int) := by omega
              have D2 : bits .and .u8 ((s[k].toNat : Nat) : Int) 15 = (r : Int) := by rw [hr]; exact and15 _ hc8
              have HD := Lib.hid (show #[Value.int .u8 92, .int .u8 120, .int .u8 (dg[q].toNat : Nat), .int .u8 (dg[r].toNat : Nat)] = ([92, 120, hexD (s[k].toNat / 16), hexD (s[k].toNat % 16)].map encU8).toArray by
                rw [HG.out q (by rw [← hz]; exact q16), HG.out r (by rw [← hz]; exact r16), ← hq, ← hr]; rfl)
              clear hq hr
              go_wp2_with (first
                | (go_at_call 36; (with_reducible refine (CP.out _).mono ?_); rintro e w1 ⟨rfl, rfl⟩)
                | fail)
              go_region_held3 (fun _ => True) (trivial) (first
                | (refine step_append_bytes wr.drew (by rfl) (.tmp 44) (.tmp 51) (by rfl) w.heap.size u3 acc [92, 120, hexD (s[k].toNat / 16), hexD (s[k].toNat % 16)] _ HD.out (by rfl) (by rfl) (by rfl) HB.out HW.out.size (by simp; omega) w HW.out.drew ?_
                   intro v' w' hown hbel
                   have HO := Lib.hid hown
                   have HE := Lib.hid hbel
                   clear hown hbel)
                | fail)
              all_goals
                go_wp2
                all_goals
                  go_roundw
                  case rel => exact ⟨k + 1, acc ++ [92, 120, hexD (s[k].toNat / 16), hexD (s[k].toNat % 16)], by omega, by (rw [List.length_append]; show acc.length + 4 ≤ _; omega), by go_num, HO, HE, HS⟩
                  case measure => simp [intOf]; omega
          · have e10 : (((s[k].toNat : Nat) : Int) == 10) = true := by rw [← h10]; exact byte_is s[k] 10 (by omega)
            have HS := Lib.hid (esc_snoc s k hlt HQ.out (escB_line HNO.out h10))
            clear h10
            go_wp2_with (first
              | (at_builtin
                 refine wpList_append_bytes rfl (.tmp 37) (.tmp 38) rfl w.heap.size _ acc [92, 110] rfl rfl rfl HB.out HW.out.size (by simp; omega) w HW.out ?_
                 intro v' w' hown hbel
                 have HO := Lib.hid hown
                 have HE := Lib.hid hbel
                 clear hown hbel)
              | fail)
            go_roundw
            case rel => exact ⟨k + 1, acc ++ [92, 110], by omega, by (rw [List.length_append]; show acc.length + 2 ≤ _; omega), by go_num, HO, HE, HS⟩
            case measure => simp [intOf]; omega
        · have e92 : (((s[k].toNat : Nat) : Int) == 92) = true := by rw [← h92]; exact byte_is s[k] 92 (by omega)
          have HS := Lib.hid (esc_snoc s k hlt HQ.out (escB_back (by rw [h92, Bool.or_true])))
          clear h92 h34
          go_wp2_with (first
            | (at_builtin
               refine wpList_append_bytes rfl (.tmp 30) (.tmp 32) rfl w.heap.size _ acc [92, s[k]] rfl rfl rfl HB.out HW.out.size (by simp; omega) w HW.out ?_
               intro v' w' hown hbel
               have HO := Lib.hid hown
               have HE := Lib.hid hbel
               clear hown hbel)
            | fail)
          go_roundw
          case rel => exact ⟨k + 1, acc ++ [92, s[k]], by omega, by (rw [List.length_append]; show acc.length + 2 ≤ _; omega), by go_num, HO, HE, HS⟩
          case measure => simp [intOf]; omega
      · have e34 : (((s[k].toNat : Nat) : Int) == 34) = true := by rw [← h34]; exact byte_is s[k] 34 (by omega)
        have HS := Lib.hid (esc_snoc s k hlt HQ.out (escB_back (by rw [h34, Bool.true_or])))
        clear h34
        go_wp2_with (first
          | (at_builtin
             refine wpList_append_bytes rfl (.tmp 30) (.tmp 32) rfl w.heap.size _ acc [92, s[k]] rfl rfl rfl HB.out HW.out.size (by simp; omega) w HW.out ?_
             intro v' w' hown hbel
             have HO := Lib.hid hown
             have HE := Lib.hid hbel
             clear hown hbel)
          | fail)
        go_roundw
        case rel => exact ⟨k + 1, acc ++ [92, s[k]], by omega, by (rw [List.length_append]; show acc.length + 2 ≤ _; omega), by go_num, HO, HE, HS⟩
        case measure => simp [intOf]; omega
    · have HF := Lib.hid (show acc ++ [34] = quotedS s.toList by
        rw [HQ.out, List.take_of_length_le (by rw [lxLen]; omega)]; rfl)
      go_wp2_with (first
        | (at_builtin
           refine wpList_append_bytes rfl (.tmp 54) (.tmp 55) rfl w.heap.size _ acc [34] rfl rfl rfl HB.out HW.out.size (by simp; omega) w HW.out ?_
           intro v' w' hown hbel
           have HE := Lib.hid hbel
           rw [HF.out] at hown
           have hcv := hown.text
           clear hown hbel)
        | fail)
      go_ret
      exact ⟨rfl, HE.out⟩
end Go.Proofs.YtnanfmmafmcchaaGreatDoor
