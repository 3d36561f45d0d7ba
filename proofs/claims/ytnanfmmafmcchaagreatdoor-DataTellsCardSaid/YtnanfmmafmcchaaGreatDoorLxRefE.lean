/- Contract of the reference's quote. -/
import Derived.Test.YtnanfmmafmcchaaGreatDoorRef0
import Derived.OwnWalk
import Derived.BigRegion
import Derived.Deep.RegionHeld3
import Derived.IntWalk
namespace Go.Proofs.YtnanfmmafmcchaaGreatDoor
open Go.RowKit

def pre (acc : Str) (q : Str × Str) : Str × Str := (acc ++ q.1, q.2)
theorem pre_nil (o : Option (Str × Str)) : o.map (pre []) = o := by cases o <;> rfl
theorem pre_snoc (acc : Str) (d : UInt8) (o : Option (Str × Str)) : (o.map fun q => (d :: q.1, q.2)).map (pre acc) = o.map (pre (acc ++ [d])) := by
  cases o with
  | none => rfl
  | some q => show some (acc ++ (d :: q.1), q.2) = some (acc ++ [d] ++ q.1, q.2); rw [List.append_assoc]; rfl
theorem q_end {c : UInt8} {s : Str} (h : (c == 34) = true) : quoteS (c :: s) = some ([], s) := by unfold quoteS; rw [h]; rfl
theorem q_bad {c : UInt8} {s : Str} (h1 : (c == 34) = false) (h2 : (decide (c.toNat < 32) || decide (126 < c.toNat)) = true) : quoteS (c :: s) = none := by unfold quoteS; rw [h1, h2]; rfl
theorem q_one {c : UInt8} {s : Str} (h1 : (c == 34) = false) (h2 : (decide (c.toNat < 32) || decide (126 < c.toNat)) = false) (h3 : (c == 92) = false) : quoteS (c :: s) = (quoteS s).map fun q => (c :: q.1, q.2) := by
  rw [quoteS.eq_def]; dsimp only; unfold bne; rw [h1, h2, h3]; rfl
theorem q_cut : quoteS [92] = none := rfl
theorem q_same {d : UInt8} {s : Str} (h : (d == 34 || d == 92) = true) : quoteS (92 :: d :: s) = (quoteS s).map fun q => (d :: q.1, q.2) := by
  rw [quoteS.eq_def]; dsimp only
  rw [if_neg (by decide), if_neg (by decide), if_neg (by decide), if_pos h]
theorem q_line {s : Str} : quoteS (92 :: 110 :: s) = (quoteS s).map fun q => (10 :: q.1, q.2) := by
  rw [quoteS.eq_def]; rfl
theorem q_else {d : UInt8} {s : Str} (h1 : (d == 34 || d == 92) = false) (h2 : (d == 110) = false) (h3 : (d == 120) = false) : quoteS (92 :: d :: s) = none := by
  rw [quoteS.eq_def]; dsimp only
  rw [if_neg (by decide), if_neg (by decide), if_neg (by decide), h1, h2, h3]; rfl
theorem q_hex {h1 h2 : UInt8} {s : Str} {a b : Nat} (e1 : hexV h1 = some a) (e2 : hexV h2 = some b) : quoteS (92 :: 120 :: h1 :: h2 :: s) = (quoteS s).map fun q => (UInt8.ofNat (16 * a + b) :: q.1, q.2) := by
  rw [quoteS.eq_def]; dsimp only
  rw [if_neg (by decide), if_neg (by decide), if_neg (by decide), if_neg (by decide), if_neg (by decide), if_pos (by decide), e1, e2]
theorem q_hex1 {h1 h2 : UInt8} {s : Str} (e1 : hexV h1 = none) : quoteS (92 :: 120 :: h1 :: h2 :: s) = none := by
  rw [quoteS.eq_def]; dsimp only
  rw [if_neg (by decide), if_neg (by decide), if_neg (by decide), if_neg (by decide), if_neg (by decide), if_pos (by decide), e1]
theorem q_hex2 {h1 h2 : UInt8} {s : Str} (e2 : hexV h2 = none) : quoteS (92 :: 120 :: h1 :: h2 :: s) = none := by
  rw [quoteS.eq_def]; dsimp only
  rw [if_neg (by decide), if_neg (by decide), if_neg (by decide), if_neg (by decide), if_neg (by decide), if_pos (by decide), e2]
  cases hexV h1 <;> rfl
theorem q_hex0 : quoteS [92, 120] = none := rfl
theorem q_hex01 {h : UInt8} : quoteS [92, 120, h] = none := by
  rw [quoteS.eq_def]; dsimp only
  rw [if_neg (by decide), if_neg (by decide), if_neg (by decide), if_neg (by decide), if_neg (by decide), if_pos (by decide)]
theorem hexI_some {c : UInt8} {v : Nat} (h : hexV c = some v) : hexI c = (v : Int) := by unfold hexI; rw [h]
theorem hexI_none {c : UInt8} (h : hexV c = none) : hexI c = -1 := by unfold hexI; rw [h]
theorem hexV_lt {c : UInt8} {v : Nat} (h : hexV c = some v) : v < 16 := by
  unfold hexV digB isDig at h
  split at h
  · rename_i h1
    simp only [Bool.and_eq_true, decide_eq_true_eq] at h1
    injection h with h; omega
  · split at h
    · rename_i h1
      simp only [Bool.and_eq_true, decide_eq_true_eq] at h1
      injection h with h; omega
    · cases h

/-- What quote answers: the value and where the quote ends, or that there is none. -/
def QuoteAns (s : ByteArray) (p : Nat) : Option (Str × Str) → Ending → Prop
  | none, e => e = .returned (.tuple #[.string ⟨#[]⟩, .int .i64 0, .bool false])
  | some q, e => ∃ r : Nat, e = .returned (.tuple #[.string (lxS q.1), .int .i64 r, .bool true]) ∧ p < r ∧ r ≤ s.size ∧ s.toList.drop r = q.2

set_option maxHeartbeats 4000000 in
set_option maxRecDepth 20000 in
theorem refQuote_any (s : ByteArray) (p : Nat) (w : World) (hp : p < s.size) (hs : s.size ≤ 1100000) :
    Calls Tryz.prog 22 #[.string s, .int .i64 p] w fun e w' => Below w.heap.size w w' ∧ QuoteAns s p (quoteS (s.toList.drop (p + 1))) e := by
  go_enter Tryz.func22, Tryz.ntmps22
  go_wp2
  go_loopw [7, 8] (fun b i wr => ∃ (k : Nat) (acc : Str), p < k ∧ k ≤ s.size ∧ acc.length ≤ k ∧ i = .int .i64 k ∧ Hid (Bytes wr w.heap.size b acc) ∧ Hid (Below w.heap.size w wr) ∧ Hid (quoteS (s.toList.drop (p + 1)) = (quoteS (s.toList.drop k)).map (pre acc))) (fun _ i _ => s.size - (intOf i).toNat)
  case atStart => exact ⟨p + 1, [], by omega, by omega, Nat.zero_le _, by go_num, Lib.hid (Bytes.zero _ _), Lib.hid (Below.refl _ _), Lib.hid (pre_nil _).symm⟩
  case round =>
    obtain ⟨k, acc, hpk, hk, hacc, rfl, HB, HW, HQ⟩ := hrel
    by_cases hlt : k < s.size
    · have hd := Lib.hid (lxDrop s k hlt)
      cases h34 : (s[k] == 34)
      · have e34 : (((s[k].toNat : Nat) : Int) == 34) = false := by rw [← h34]; exact byte_is s[k] 34 (by omega)
        cases hbad : (decide (s[k].toNat < 32) || decide (126 < s[k].toNat))
        · have g1 : ¬ s[k].toNat < 32 := fun h => by rw [decide_eq_true h] at hbad; cases hbad
          have g2 : ¬ 126 < s[k].toNat := fun h => by rw [decide_eq_true h, Bool.or_true] at hbad; cases hbad
          have b1 : decide (((s[k].toNat : Nat) : Int) < 32) = false := decide_eq_false (by omega)
          have b2 : decide ((126 : Int) < ((s[k].toNat : Nat) : Int)) = false := decide_eq_false (by omega)
          have H34 := Lib.hid h34
          have HBAD := Lib.hid hbad
          clear h34 hbad g1 g2
          cases h92 : (s[k] == 92)
          · have e92 : (((s[k].toNat : Nat) : Int) != 92) = true := by
              have : (((s[k].toNat : Nat) : Int) == 92) = (s[k] == UInt8.ofNat 92) := byte_is s[k] 92 (by omega)
              unfold bne
              rw [this, show (s[k] == UInt8.ofNat 92) = false from h92]; rfl
            have HS := Lib.hid (show quoteS (s.toList.drop (p + 1)) = (quoteS (s.toList.drop (k + 1))).map (pre (acc ++ [s[k]])) by
              rw [HQ.out, hd.out, q_one H34.out HBAD.out h92, pre_snoc])
            clear h92
            go_wp2_with (first
              | (at_builtin
                 refine wpList_append_bytes rfl (.tmp 36) (.tmp 38) rfl w.heap.size _ acc [s[k]] rfl rfl rfl HB.out HW.out.size (by simp; omega) w HW.out ?_
                 intro v' w' hown hbel
                 have HO := Lib.hid hown
                 have HE := Lib.hid hbel
                 clear hown hbel))
            go_roundw
            case rel => exact ⟨k + 1, acc ++ [s[k]], by omega, by omega, by (rw [List.length_append]; show acc.length + 1 ≤ _; omega), by go_num, HO, HE, HS⟩
            case measure => simp [intOf]; omega
          · have e92 : (((s[k].toNat : Nat) : Int) != 92) = false := by
              have : (((s[k].toNat : Nat) : Int) == 92) = (s[k] == UInt8.ofNat 92) := byte_is s[k] 92 (by omega)
              unfold bne
              rw [this, show (s[k] == UInt8.ofNat 92) = true from h92]; rfl
            have hdk := Lib.hid (show s.toList.drop k = 92 :: s.toList.drop (k + 1) by rw [hd.out, eq_of_beq h92])
            clear h92
            by_cases hlt1 : k + 1 < s.size
            · have d1 : decide ((s.size : Int) ≤ (k : Int) + 1) = false := decide_eq_false (by omega)
              have i1 : (k : Int) + 1 < (s.size : Int) := by omega
              have hd1 := Lib.hid (lxDrop s (k + 1) hlt1)
              cases h34 : (s[k + 1] == 34)
              · have f34 : (((s[k + 1].toNat : Nat) : Int) == 34) = false := by rw [← h34]; exact byte_is s[k + 1] 34 (by omega)
                cases h92 : (s[k + 1] == 92)
                · have f92 : (((s[k + 1].toNat : Nat) : Int) == 92) = false := by rw [← h92]; exact byte_is s[k + 1] 92 (by omega)
                  have HNO := Lib.hid (show (s[k + 1] == 34 || s[k + 1] == 92) = false by rw [h34, h92]; rfl)
                  clear h34 h92
                  cases h110 : (s[k + 1] == 110)
                  · have f110 : (((s[k + 1].toNat : Nat) : Int) == 110) = false := by rw [← h110]; exact byte_is s[k + 1] 110 (by omega)
                    have H110 := Lib.hid h110
                    clear h110
                    cases h120 : (s[k + 1] == 120)
                    · have f120 : (((s[k + 1].toNat : Nat) : Int) == 120) = false := by rw [← h120]; exact byte_is s[k + 1] 120 (by omega)
                      have HF := Lib.hid (show quoteS (s.toList.drop (p + 1)) = none by rw [HQ.out, hdk.out, hd1.out, q_else HNO.out H110.out h120]; rfl)
                      clear h120
                      go_wp2
                      go_ret3
                      rw [HF.out]
                      exact ⟨HW.out, rfl⟩
                    · have f120 : (((s[k + 1].toNat : Nat) : Int) == 120) = true := by rw [← h120]; exact byte_is s[k + 1] 120 (by omega)
                      have hdx := Lib.hid (show s.toList.drop k = 92 :: 120 :: s.toList.drop (k + 2) by rw [hdk.out, hd1.out, eq_of_beq h120])
                      clear h120
                      by_cases hlt3 : k + 3 < s.size
                      · have d3 : decide ((s.size : Int) ≤ (k : Int) + 3) = false := decide_eq_false (by omega)
                        have hd2 := Lib.hid (show s.toList.drop (k + 2) = s[k + 2] :: s[k + 3] :: s.toList.drop (k + 4) by rw [lxDrop s (k + 2) (by omega), lxDrop s (k + 3) hlt3])
                        have i2 : (k : Int) + 2 < (s.size : Int) := by omega
                        have i3 : (k : Int) + 3 < (s.size : Int) := by omega
                        have ca := refHex_any s[k + 2]
                        have cb := refHex_any s[k + 3]
                        cases ha : hexV s[k + 2] with
                        | none =>
                          rw [hexI_none ha] at ca
                          have CA := Lib.hid ca
                          have HF := Lib.hid (show quoteS (s.toList.drop (p + 1)) = none by rw [HQ.out, hdx.out, hd2.out, q_hex1 ha]; rfl)
                          clear ca cb ha
                          go_wp2_with (first | (go_at_call 42; refine (CA.out _).mono ?_; rintro e w' ⟨rfl, rfl⟩))
                          go_ret3
                          rw [HF.out]
                          exact ⟨HW.out, rfl⟩
                        | some x =>
                          rw [hexI_some ha] at ca
                          have CA := Lib.hid ca
                          have x16 := hexV_lt ha
                          have dx : decide ((x : Int) < 0) = false := decide_eq_false (by omega)
                          cases hb : hexV s[k + 3] with
                          | none =>
                            rw [hexI_none hb] at cb
                            have CB := Lib.hid cb
                            have HF := Lib.hid (show quoteS (s.toList.drop (p + 1)) = none by rw [HQ.out, hdx.out, hd2.out, q_hex2 hb]; rfl)
                            clear ca cb ha hb
                            go_wp2_with (first | (go_at_call 42; first | ((with_reducible refine (CA.out _).mono ?_); rintro e w9 ⟨rfl, rfl⟩) | ((with_reducible refine (CB.out _).mono ?_); rintro e w9 ⟨rfl, rfl⟩)))
                            go_ret3
                            rw [HF.out]
                            exact ⟨HW.out, rfl⟩
                          | some y =>
                            rw [hexI_some hb] at cb
                            have CB := Lib.hid cb
                            have y16 := hexV_lt hb
                            have dy : decide ((y : Int) < 0) = false := decide_eq_false (by omega)
                            have HS := Lib.hid (show quoteS (s.toList.drop (p + 1)) = (quoteS (s.toList.drop (k + 4))).map (pre (acc ++ [UInt8.ofNat (16 * x + y)])) by
                              rw [HQ.out, hdx.out, hd2.out, q_hex ha hb, pre_snoc])
                            clear ca cb ha hb
                            have j2 : (0 : Int) ≤ (k : Int) + 2 := by omega
                            have j3 : (0 : Int) ≤ (k : Int) + 3 := by omega
                            have k2 : IntKind.i64.wrap ((k : Int) + 2) = (k : Int) + 2 := IntWalk.i64_in _ (by omega)
                            have k3 : IntKind.i64.wrap ((k : Int) + 3) = (k : Int) + 3 := IntWalk.i64_in _ (by omega)
                            have l2 : ((k : Int) + 2).toNat = k + 2 := by omega
                            have l3 : ((k : Int) + 3).toNat = k + 3 := by omega
                            have m2 : k + 2 < s.size := by omega
                            have k4 : IntKind.i64.wrap ((16 : Int) * (x : Int)) = (16 : Int) * (x : Int) := IntWalk.i64_in _ (by omega)
                            have k5 : IntKind.i64.wrap ((16 : Int) * (x : Int) + (y : Int)) = (16 : Int) * (x : Int) + (y : Int) := IntWalk.i64_in _ (by omega)
                            have k6 : IntKind.u8.wrap ((16 : Int) * (x : Int) + (y : Int)) = (16 : Int) * (x : Int) + (y : Int) := IntWalk.u8_in _ (by omega)
                            have b16 : (16 : Int) * (x : Int) ≤ 240 := by omega
                            have b17 : (16 : Int) * (x : Int) + (y : Int) ≤ 255 := by omega
                            have b18 : (0 : Int) ≤ (16 : Int) * (x : Int) + (y : Int) := by omega
                            have HD := Lib.hid (show #[Value.int .u8 ((16 : Int) * (x : Int) + (y : Int))] = ([UInt8.ofNat (16 * x + y)].map encU8).toArray by
                              show _ = #[Value.int .u8 ((UInt8.ofNat (16 * x + y)).toNat : Nat)]
                              rw [UInt8.toNat_ofNat_of_lt' (by show 16 * x + y < 256; omega)]
                              rfl)
                            generalize UInt8.ofNat (16 * x + y) = d at HS HD
                            go_wp2_with (first | (go_at_call 42; first | ((with_reducible refine (CA.out _).mono ?_); rintro e w9 ⟨rfl, rfl⟩) | ((with_reducible refine (CB.out _).mono ?_); rintro e w9 ⟨rfl, rfl⟩)))
                            go_region_held3 (fun _ => True) (trivial) (first
                              | (go_at_call 42; first | ((with_reducible refine (CA.out _).mono ?_); rintro e w9 ⟨rfl, rfl⟩) | ((with_reducible refine (CB.out _).mono ?_); rintro e w9 ⟨rfl, rfl⟩) | fail)
                              | (refine step_append_bytes wr.drew (by rfl) (.tmp 93) (.tmp 107) (by rfl) w.heap.size u7 acc [d] _ HD.out (by rfl) (by rfl) (by rfl) HB.out HW.out.size (by simp; omega) w HW.out.drew ?_
                                 intro v' w' hown hbel
                                 have HO := Lib.hid hown
                                 have HE := Lib.hid hbel
                                 clear hown hbel)
                              | fail)
                            all_goals
                              go_wp2
                              all_goals
                                go_roundw
                                case rel => exact ⟨k + 4, acc ++ [d], by omega, by omega, by (rw [List.length_append]; show acc.length + 1 ≤ _; omega), by go_num, HO, HE, HS⟩
                                case measure => simp [intOf]; omega
                      · have d3 : decide ((s.size : Int) ≤ (k : Int) + 3) = true := decide_eq_true (by omega)
                        have HF := Lib.hid (show quoteS (s.toList.drop (p + 1)) = none by
                          rw [HQ.out, hdx.out]
                          by_cases hl2 : k + 2 < s.size
                          · rw [lxDrop s (k + 2) hl2, lxEnd s (k + 3) (by omega), q_hex01]; rfl
                          · rw [lxEnd s (k + 2) (by omega), q_hex0]; rfl)
                        go_wp2
                        go_ret3
                        rw [HF.out]
                        exact ⟨HW.out, rfl⟩
                  · have f110 : (((s[k + 1].toNat : Nat) : Int) == 110) = true := by rw [← h110]; exact byte_is s[k + 1] 110 (by omega)
                    have HS := Lib.hid (show quoteS (s.toList.drop (p + 1)) = (quoteS (s.toList.drop (k + 2))).map (pre (acc ++ [10])) by
                      rw [HQ.out, hdk.out, hd1.out, eq_of_beq h110, q_line, pre_snoc])
                    clear h110
                    go_wp2_with (first
                      | (at_builtin
                         refine wpList_append_bytes rfl (.tmp 65) (.tmp 66) rfl w.heap.size _ acc [10] rfl rfl rfl HB.out HW.out.size (by simp; omega) w HW.out ?_
                         intro v' w' hown hbel
                         have HO := Lib.hid hown
                         have HE := Lib.hid hbel
                         clear hown hbel))
                    go_roundw
                    case rel => exact ⟨k + 2, acc ++ [10], by omega, by omega, by (rw [List.length_append]; show acc.length + 1 ≤ _; omega), by go_num, HO, HE, HS⟩
                    case measure => simp [intOf]; omega
                · have f92 : (((s[k + 1].toNat : Nat) : Int) == 92) = true := by rw [← h92]; exact byte_is s[k + 1] 92 (by omega)
                  have HS := Lib.hid (show quoteS (s.toList.drop (p + 1)) = (quoteS (s.toList.drop (k + 2))).map (pre (acc ++ [s[k + 1]])) by
                    rw [HQ.out, hdk.out, hd1.out, q_same (by rw [h92, Bool.or_true]), pre_snoc])
                  clear h92 h34
                  go_wp2_with (first
                    | (at_builtin
                       refine wpList_append_bytes rfl (.tmp 54) (.tmp 59) rfl w.heap.size _ acc [s[k + 1]] rfl rfl rfl HB.out HW.out.size (by simp; omega) w HW.out ?_
                       intro v' w' hown hbel
                       have HO := Lib.hid hown
                       have HE := Lib.hid hbel
                       clear hown hbel))
                  go_roundw
                  case rel => exact ⟨k + 2, acc ++ [s[k + 1]], by omega, by omega, by (rw [List.length_append]; show acc.length + 1 ≤ _; omega), by go_num, HO, HE, HS⟩
                  case measure => simp [intOf]; omega
              · have f34 : (((s[k + 1].toNat : Nat) : Int) == 34) = true := by rw [← h34]; exact byte_is s[k + 1] 34 (by omega)
                have HS := Lib.hid (show quoteS (s.toList.drop (p + 1)) = (quoteS (s.toList.drop (k + 2))).map (pre (acc ++ [s[k + 1]])) by
                  rw [HQ.out, hdk.out, hd1.out, q_same (by rw [h34, Bool.true_or]), pre_snoc])
                clear h34
                go_wp2_with (first
                  | (at_builtin
                     refine wpList_append_bytes rfl (.tmp 54) (.tmp 59) rfl w.heap.size _ acc [s[k + 1]] rfl rfl rfl HB.out HW.out.size (by simp; omega) w HW.out ?_
                     intro v' w' hown hbel
                     have HO := Lib.hid hown
                     have HE := Lib.hid hbel
                     clear hown hbel))
                go_roundw
                case rel => exact ⟨k + 2, acc ++ [s[k + 1]], by omega, by omega, by (rw [List.length_append]; show acc.length + 1 ≤ _; omega), by go_num, HO, HE, HS⟩
                case measure => simp [intOf]; omega
            · have d1 : decide ((s.size : Int) ≤ (k : Int) + 1) = true := decide_eq_true (by omega)
              have HF := Lib.hid (show quoteS (s.toList.drop (p + 1)) = none by rw [HQ.out, hdk.out, lxEnd s (k + 1) (by omega), q_cut]; rfl)
              go_wp2
              go_ret3
              rw [HF.out]
              exact ⟨HW.out, rfl⟩
        · have HF := Lib.hid (show quoteS (s.toList.drop (p + 1)) = none by rw [HQ.out, hd.out, q_bad h34 hbad]; rfl)
          clear h34
          by_cases hlo : s[k].toNat < 32
          · have b1 : decide (((s[k].toNat : Nat) : Int) < 32) = true := decide_eq_true (by omega)
            clear hbad
            go_wp2
            go_ret3
            rw [HF.out]
            exact ⟨HW.out, rfl⟩
          · have b1 : decide (((s[k].toNat : Nat) : Int) < 32) = false := decide_eq_false (by omega)
            have b2 : decide ((126 : Int) < ((s[k].toNat : Nat) : Int)) = true := decide_eq_true (by rw [decide_eq_false hlo, Bool.false_or] at hbad; have := of_decide_eq_true hbad; omega)
            clear hbad hlo
            go_wp2
            go_ret3
            rw [HF.out]
            exact ⟨HW.out, rfl⟩
      · have e34 : (((s[k].toNat : Nat) : Int) == 34) = true := by rw [← h34]; exact byte_is s[k] 34 (by omega)
        have HF := Lib.hid (show quoteS (s.toList.drop (p + 1)) = some (acc, s.toList.drop (k + 1)) by
          rw [HQ.out, hd.out, q_end h34]; show some (acc ++ [], _) = _; rw [List.append_nil])
        have hcv := HB.out.text
        clear h34
        go_wp2
        go_ret3
        rw [HF.out]
        exact ⟨HW.out, k + 1, rfl, by omega, by omega, rfl⟩
    · have HF := Lib.hid (show quoteS (s.toList.drop (p + 1)) = none by rw [HQ.out, lxEnd s k (by omega)]; rfl)
      go_wp2
      go_ret3
      rw [HF.out]
      exact ⟨HW.out, rfl⟩
end Go.Proofs.YtnanfmmafmcchaaGreatDoor
