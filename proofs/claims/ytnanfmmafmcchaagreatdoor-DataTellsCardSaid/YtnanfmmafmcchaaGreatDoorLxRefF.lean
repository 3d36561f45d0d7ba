/- Contract of the reference's Quoted. -/
import Derived.Test.YtnanfmmafmcchaaGreatDoorRef0
import Derived.Test.YtnanfmmafmcchaaGreatDoorLxRefE
import Derived.Deep.RegionHeld3
import Derived.IntWalk
namespace Go.Proofs.YtnanfmmafmcchaaGreatDoor
open Go.RowKit

theorem esc_snoc (s : ByteArray) (k : Nat) (h : k < s.size) {acc d : Str} (ha : acc = 34 :: escS (s.toList.take k)) (hd : escB s[k] = d) : acc ++ d = 34 :: escS (s.toList.take (k + 1)) := by
  rw [ha, take_snocB s k h]
  unfold escS
  rw [List.flatMap_append, ← hd]
  simp
theorem escB_back {c : UInt8} (h : (c == 34 || c == 92) = true) : escB c = [92, c] := by unfold escB; rw [h]; rfl
theorem escB_line {c : UInt8} (h1 : (c == 34 || c == 92) = false) (h2 : (c == 10) = true) : escB c = [92, 110] := by unfold escB; rw [h1, h2]; rfl
theorem escB_hex {c : UInt8} (h1 : (c == 34 || c == 92) = false) (h2 : (c == 10) = false) (h3 : (decide (c.toNat < 32) || decide (126 < c.toNat)) = true) : escB c = [92, 120, hexD (c.toNat / 16), hexD (c.toNat % 16)] := by
  unfold escB; rw [h1, h2, h3]; rfl
theorem escB_same {c : UInt8} (h1 : (c == 34 || c == 92) = false) (h2 : (c == 10) = false) (h3 : (decide (c.toNat < 32) || decide (126 < c.toNat)) = false) : escB c = [c] := by
  unfold escB; rw [h1, h2, h3]; rfl

set_option maxRecDepth 100000 in
theorem and15 : ∀ n : Nat, n < 256 → bits .and .u8 (n : Int) 15 = ((n % 16 : Nat) : Int) := by decide
def digsB : ByteArray := ⟨#[48, 49, 50, 51, 52, 53, 54, 55, 56, 57, 97, 98, 99, 100, 101, 102]⟩
theorem digsB_get : ∀ k, (h : k < 16) → digsB[k]'(by show k < 16; exact h) = hexD k := by decide

set_option maxHeartbeats 4000000 in
set_option maxRecDepth 20000 in
theorem refQuoted_any (s : ByteArray) (w : World) (hs : s.size ≤ 10000000000000) :
    Calls Tryz.prog 32 #[.string s] w fun e w' => e = .returned (.string (lxS (quotedS s.toList))) ∧ Below w.heap.size w w' := by
  go_enter Tryz.func32, Tryz.ntmps32
  go_wp2
  generalize hdg : (⟨#[48, 49, 50, 51, 52, 53, 54, 55, 56, 57, 97, 98, 99, 100, 101, 102]⟩ : ByteArray) = dg
  have hz : dg.size = 16 := by rw [← hdg]; rfl
  have hget : ∀ k, (hk : k < 16) → dg[k]'(by rw [hz]; exact hk) = hexD k := by subst hdg; exact digsB_get
  have HG := Lib.hid hget
  clear hget hdg
  go_loopw [3, 5] (fun b i wr => ∃ (k : Nat) (acc : Str), k ≤ s.size ∧ acc.length ≤ 1 + 4 * k ∧ i = .int .i64 k ∧ Hid (Bytes wr w.heap.size b acc) ∧ Hid (Below w.heap.size w wr) ∧ Hid (acc = 34 :: escS (s.toList.take k))) (fun _ i _ => s.size - (intOf i).toNat)
  case atStart => exact ⟨0, [34], Nat.zero_le _, by simp, rfl, Lib.hid (Bytes.made w [34] (by unfold maxLen; simp)), Lib.hid ((Below.refl _ _).alloc (Nat.le_refl _) _), Lib.hid rfl⟩
  case round =>
    obtain ⟨k, acc, hk, hacc, rfl, HB, HW, HQ⟩ := hrel
    by_cases hlt : k < s.size
    · cases h34 : (s[k] == 34)
      · have e34 : (((s[k].toNat : Nat) : Int) == 34) = false := by rw [← h34]; exact byte_is s[k] 34 (by omega)
        cases h92 : (s[k] == 92)
        · have e92 : (((s[k].toNat : Nat) : Int) == 92) = false := by rw [← h92]; exact byte_is s[k] 92 (by omega)
          have HNO := Lib.hid (show (s[k] == 34 || s[k] == 92) = false by rw [h34, h92]; rfl)
          clear h34 h92
          cases h10 : (s[k] == 10)
          · have e10 : (((s[k].toNat : Nat) : Int) == 10) = false := by rw [← h10]; exact byte_is s[k] 10 (by omega)
            have H10 := Lib.hid h10
            clear h10
            cases hbad : (decide (s[k].toNat < 32) || decide (126 < s[k].toNat))
            · have g1 : ¬ s[k].toNat < 32 := fun h => by rw [decide_eq_true h] at hbad; cases hbad
              have g2 : ¬ 126 < s[k].toNat := fun h => by rw [decide_eq_true h, Bool.or_true] at hbad; cases hbad
              have b1 : decide (((s[k].toNat : Nat) : Int) < 32) = false := decide_eq_false (by omega)
              have b2 : decide ((126 : Int) < ((s[k].toNat : Nat) : Int)) = false := decide_eq_false (by omega)
              have HS := Lib.hid (esc_snoc s k hlt HQ.out (escB_same HNO.out H10.out hbad))
              clear hbad g1 g2
              go_wp2_with (first
                | (at_builtin
                   refine wpList_append_bytes rfl (.tmp 17) (.tmp 19) rfl w.heap.size _ acc [s[k]] rfl rfl rfl HB.out HW.out.size (by simp; omega) w HW.out ?_
                   intro v' w' hown hbel
                   have HO := Lib.hid hown
                   have HE := Lib.hid hbel
                   clear hown hbel)
                | fail)
              go_roundw
              case rel => exact ⟨k + 1, acc ++ [s[k]], by omega, by (rw [List.length_append]; show acc.length + 1 ≤ _; omega), by go_num, HO, HE, HS⟩
              case measure => simp [intOf]; omega
            · have HS := Lib.hid (esc_snoc s k hlt HQ.out (escB_hex HNO.out H10.out hbad))
              obtain ⟨q, hq⟩ : ∃ q : Nat, q = s[k].toNat / 16 := ⟨_, rfl⟩
              obtain ⟨r, hr⟩ : ∃ r : Nat, r = s[k].toNat % 16 := ⟨_, rfl⟩
              have hc8 := s[k].toNat_lt
              have q16 : q < dg.size := by rw [hz]; omega
              have r16 : r < dg.size := by rw [hz]; omega
              have D1 : ((s[k].toNat : Nat) : Int) / 16 = (q : Int) := by omega
              have D2 : bits .and .u8 ((s[k].toNat : Nat) : Int) 15 = (r : Int) := by rw [hr]; exact and15 _ hc8
              have HD := Lib.hid (show #[Value.int .u8 92, .int .u8 120, .int .u8 (dg[q].toNat : Nat), .int .u8 (dg[r].toNat : Nat)] = ([92, 120, hexD (s[k].toNat / 16), hexD (s[k].toNat % 16)].map encU8).toArray by
                rw [HG.out q (by rw [← hz]; exact q16), HG.out r (by rw [← hz]; exact r16), ← hq, ← hr]; rfl)
              clear hq hr
              by_cases hlo : s[k].toNat < 32
              · have b1 : decide (((s[k].toNat : Nat) : Int) < 32) = true := decide_eq_true (by omega)
                clear hbad
                go_wp2
                go_region_held3 (fun _ => True) (trivial) (first
                  | (refine step_append_bytes wr.drew (by rfl) (.tmp 45) (.tmp 54) (by rfl) w.heap.size u3 acc [92, 120, hexD (s[k].toNat / 16), hexD (s[k].toNat % 16)] _ HD.out (by rfl) (by rfl) (by rfl) HB.out HW.out.size (by simp; omega) w HW.out.drew ?_
                     intro v' w' hown hbel
                     have HO := Lib.hid hown
                     have HE := Lib.hid hbel
                     clear hown hbel)
                  | fail)
                all_goals
                  go_wp2
                  all_goals
                    go_roundw
                    case rel => exact ⟨k + 1, acc ++ [92, 120, hexD (s[k].toNat / 16), hexD (s[k].toNat % 16)], by omega, by (rw [List.length_append]; show acc.length + 4 ≤ _; omega), by go_num, HO, HE, HS⟩
                    case measure => simp [intOf]; omega
              · have b1 : decide (((s[k].toNat : Nat) : Int) < 32) = false := decide_eq_false (by omega)
                have b2 : decide ((126 : Int) < ((s[k].toNat : Nat) : Int)) = true := decide_eq_true (by rw [decide_eq_false hlo, Bool.false_or] at hbad; have := of_decide_eq_true hbad; omega)
                clear hbad hlo
                go_wp2
                go_region_held3 (fun _ => True) (trivial) (first
                  | (refine step_append_bytes wr.drew (by rfl) (.tmp 45) (.tmp 54) (by rfl) w.heap.size u3 acc [92, 120, hexD (s[k].toNat / 16), hexD (s[k].toNat % 16)] _ HD.out (by rfl) (by rfl) (by rfl) HB.out HW.out.size (by simp; omega) w HW.out.drew ?_
                     intro v' w' hown hbel
                     have HO := Lib.hid hown
                     have HE := Lib.hid hbel
                     clear hown hbel)
                  | fail)
                all_goals
                  go_wp2
                  all_goals
                    go_roundw
                    case rel => exact ⟨k + 1, acc ++ [92, 120, hexD (s[k].toNat / 16), hexD (s[k].toNat % 16)], by omega, by (rw [List.length_append]; show acc.length + 4 ≤ _; omega), by go_num, HO, HE, HS⟩
                    case measure => simp [intOf]; omega
          · have e10 : (((s[k].toNat : Nat) : Int) == 10) = true := by rw [← h10]; exact byte_is s[k] 10 (by omega)
            have HS := Lib.hid (esc_snoc s k hlt HQ.out (escB_line HNO.out h10))
            clear h10
            go_wp2_with (first
              | (at_builtin
                 refine wpList_append_bytes rfl (.tmp 35) (.tmp 36) rfl w.heap.size _ acc [92, 110] rfl rfl rfl HB.out HW.out.size (by simp; omega) w HW.out ?_
                 intro v' w' hown hbel
                 have HO := Lib.hid hown
                 have HE := Lib.hid hbel
                 clear hown hbel)
              | fail)
            go_roundw
            case rel => exact ⟨k + 1, acc ++ [92, 110], by omega, by (rw [List.length_append]; show acc.length + 2 ≤ _; omega), by go_num, HO, HE, HS⟩
            case measure => simp [intOf]; omega
        · have e92 : (((s[k].toNat : Nat) : Int) == 92) = true := by rw [← h92]; exact byte_is s[k] 92 (by omega)
          have HS := Lib.hid (esc_snoc s k hlt HQ.out (escB_back (by rw [h92, Bool.or_true])))
          clear h92 h34
          go_wp2_with (first
            | (at_builtin
               refine wpList_append_bytes rfl (.tmp 28) (.tmp 30) rfl w.heap.size _ acc [92, s[k]] rfl rfl rfl HB.out HW.out.size (by simp; omega) w HW.out ?_
               intro v' w' hown hbel
               have HO := Lib.hid hown
               have HE := Lib.hid hbel
               clear hown hbel)
            | fail)
          go_roundw
          case rel => exact ⟨k + 1, acc ++ [92, s[k]], by omega, by (rw [List.length_append]; show acc.length + 2 ≤ _; omega), by go_num, HO, HE, HS⟩
          case measure => simp [intOf]; omega
      · have e34 : (((s[k].toNat : Nat) : Int) == 34) = true := by rw [← h34]; exact byte_is s[k] 34 (by omega)
        have HS := Lib.hid (esc_snoc s k hlt HQ.out (escB_back (by rw [h34, Bool.true_or])))
        clear h34
        go_wp2_with (first
          | (at_builtin
             refine wpList_append_bytes rfl (.tmp 28) (.tmp 30) rfl w.heap.size _ acc [92, s[k]] rfl rfl rfl HB.out HW.out.size (by simp; omega) w HW.out ?_
             intro v' w' hown hbel
             have HO := Lib.hid hown
             have HE := Lib.hid hbel
             clear hown hbel)
          | fail)
        go_roundw
        case rel => exact ⟨k + 1, acc ++ [92, s[k]], by omega, by (rw [List.length_append]; show acc.length + 2 ≤ _; omega), by go_num, HO, HE, HS⟩
        case measure => simp [intOf]; omega
    · have HF := Lib.hid (show acc ++ [34] = quotedS s.toList by
        rw [HQ.out, List.take_of_length_le (by rw [lxLen]; omega)]; rfl)
      go_wp2_with (first
        | (at_builtin
           refine wpList_append_bytes rfl (.tmp 56) (.tmp 57) rfl w.heap.size _ acc [34] rfl rfl rfl HB.out HW.out.size (by simp; omega) w HW.out ?_
           intro v' w' hown hbel
           have HE := Lib.hid hbel
           rw [HF.out] at hown
           have hcv := hown.text
           clear hown hbel)
        | fail)
      go_ret
      exact ⟨rfl, HE.out⟩
end Go.Proofs.YtnanfmmafmcchaaGreatDoor
