/- Contracts of the program's hexByte, char, unquote. -/
import Derived.Test.YtnanfmmafmcchaaGreatDoorLxOwnC
import Derived.Test.YtnanfmmafmcchaaGreatDoorRef0
import Derived.IntWalk
import Derived.Deep.RegionHeld3
import Derived.BigRegion
import Derived.OwnWalk
namespace Go.Proofs.YtnanfmmafmcchaaGreatDoor
open Go.RowKit

def hexL : Str := [48, 49, 50, 51, 52, 53, 54, 55, 56, 57, 97, 98, 99, 100, 101, 102]
set_option maxRecDepth 100000 in
theorem hex_index : ∀ n, n < 256 → Lib.indexByte hexL (UInt8.ofNat n) = hexI (UInt8.ofNat n) := by decide
theorem hex_find (c : UInt8) : Lib.indexByte hexL c = hexI c := by
  have h := hex_index c.toNat c.toNat_lt
  rw [UInt8.ofNat_toNat] at h
  exact h
theorem hexV_small {c : UInt8} {a : Nat} (h : hexV c = some a) : a < 16 := by
  unfold hexV at h
  split at h
  · rename_i hd
    have := dig_range hd
    injection h with h
    omega
  · split at h
    · rename_i hd
      simp only [Bool.and_eq_true, decide_eq_true_eq] at hd
      injection h with h
      omega
    · cases h

set_option maxRecDepth 100000 in
theorem or_hex : ∀ a : Nat, a < 16 → ∀ b : Nat, b < 16 → bits .or .i64 ((a : Int) * 16) (b : Int) % 256 = ((UInt8.ofNat (16 * a + b)).toNat : Int) := by decide

/-- What stands at the beginning of a text within a quote: the byte, and how many bytes say it. -/
def hexS : Str → Option (UInt8 × Nat)
  | _ :: _ :: h1 :: h2 :: _ =>
    match hexV h1, hexV h2 with
    | some a, some b => some (UInt8.ofNat (16 * a + b), 4)
    | _, _ => none
  | _ => none
def charV : Option (UInt8 × Nat) → Value
  | none => .tuple #[.int .u8 0, .int .i64 0]
  | some (b, n) => .tuple #[.int .u8 b.toNat, .int .i64 n]

set_option maxHeartbeats 1100000 in
theorem hexByte_any (s : ByteArray) (w : World) (hs : s.size ≤ 1100000) :
    Calls Tryz.prog 87 #[.string s] w fun e w' => e = .returned (charV (hexS s.toList)) ∧ ∃ q, w' = w.drewN q := by
  by_cases h4 : 4 ≤ s.size
  · have d0 := lxDrop s 0 (by omega)
    have d1 := lxDrop s 1 (by omega)
    have d2 := lxDrop s 2 (by omega)
    have d3 := lxDrop s 3 (by omega)
    rw [List.drop_zero] at d0
    have b1 : decide ((s.size : Int) < 4) = false := decide_eq_false (by omega)
    have ch : ∀ (c : UInt8) W, Calls Tryz.prog 88 #[.string ⟨#[48, 49, 50, 51, 52, 53, 54, 55, 56, 57, 97, 98, 99, 100, 101, 102]⟩, .int .u8 c.toNat] W fun e w' => e = .returned (.int .i64 (hexI c)) ∧ w' = W := fun c W => by
      have h := Tryz.strings_IndexByte ⟨#[48, 49, 50, 51, 52, 53, 54, 55, 56, 57, 97, 98, 99, 100, 101, 102]⟩ (c.toNat : Nat) W
      rw [byte_back_int] at h
      rw [← hex_find]
      exact h
    have c2 := ch s[2]
    have c3 := ch s[3]
    cases h2 : hexV s[2] with
    | none =>
      have HF := Lib.hid (show none = hexS s.toList by rw [d0, d1, d2, d3]; show _ = (match hexV s[2], hexV s[3] with | some a, some b => _ | _, _ => none); rw [h2])
      have e2 : hexI s[2] = -1 := by unfold hexI; rw [h2]
      rw [e2] at c2
      obtain ⟨y, hy⟩ : ∃ y, y = hexI s[3] := ⟨_, rfl⟩
      rw [← hy] at c3
      have C2 := Lib.hid c2
      have C3 := Lib.hid c3
      clear c2 c3 ch d0 d1 d2 d3 h2 e2 hy
      go_enter Tryz.func87, Tryz.ntmps87
      go_wp2
      go_region_held3 (fun _ => True) (trivial) (first
        | (go_at_call 88; (with_reducible refine (C2.out _).mono ?_); rintro e w1 ⟨rfl, rfl⟩)
        | (go_at_call 88; (with_reducible refine (C3.out _).mono ?_); rintro e w1 ⟨rfl, rfl⟩)
        | fail)
      all_goals
        go_wp2
        go_ret2
        rw [← HF.out]
        exact ⟨rfl, 1, rfl⟩
    | some a =>
      have e2 : hexI s[2] = (a : Int) := by unfold hexI; rw [h2]
      rw [e2] at c2
      have C2 := Lib.hid c2
      have ha := hexV_small h2
      cases h3 : hexV s[3] with
      | none =>
        have HF := Lib.hid (show none = hexS s.toList by rw [d0, d1, d2, d3]; show _ = (match hexV s[2], hexV s[3] with | some a, some b => _ | _, _ => none); rw [h2, h3])
        have e3 : hexI s[3] = -1 := by unfold hexI; rw [h3]
        rw [e3] at c3
        have C3 := Lib.hid c3
        clear c2 c3 ch d0 d1 d2 d3 h2 h3 e2 e3
        have b2 : decide ((a : Int) < 0) = false := decide_eq_false (by omega)
        go_enter Tryz.func87, Tryz.ntmps87
        go_wp2
        go_region_held3 (fun _ => True) (trivial) (first
          | (go_at_call 88; (with_reducible refine (C2.out _).mono ?_); rintro e w1 ⟨rfl, rfl⟩)
          | (go_at_call 88; (with_reducible refine (C3.out _).mono ?_); rintro e w1 ⟨rfl, rfl⟩)
          | fail)
        all_goals
          go_wp2
          go_ret2
          rw [← HF.out]
          exact ⟨rfl, 1, rfl⟩
      | some b =>
        have HF := Lib.hid (show some (UInt8.ofNat (16 * a + b), 4) = hexS s.toList by rw [d0, d1, d2, d3]; show _ = (match hexV s[2], hexV s[3] with | some a, some b => _ | _, _ => none); rw [h2, h3])
        have e3 : hexI s[3] = (b : Int) := by unfold hexI; rw [h3]
        rw [e3] at c3
        have C3 := Lib.hid c3
        have hb := hexV_small h3
        clear c2 c3 ch d0 d1 d2 d3 h2 h3 e2 e3
        have b2 : decide ((a : Int) < 0) = false := decide_eq_false (by omega)
        have b3 : decide ((b : Int) < 0) = false := decide_eq_false (by omega)
        go_enter Tryz.func87, Tryz.ntmps87
        go_wp2
        go_region_held3 (fun _ => True) (trivial) (first
          | (go_at_call 88; (with_reducible refine (C2.out _).mono ?_); rintro e w1 ⟨rfl, rfl⟩)
          | (go_at_call 88; (with_reducible refine (C3.out _).mono ?_); rintro e w1 ⟨rfl, rfl⟩)
          | fail)
        all_goals
          go_wp2
          go_ret2
          rw [← HF.out]
          refine ⟨?_, 1, rfl⟩
          show Ending.returned (.tuple #[.int .u8 (bits .or .i64 ((a : Int) * 16) (b : Int) % 256), .int .i64 4]) = _
          rw [or_hex a ha b hb]
          rfl
  · have b1 : decide ((s.size : Int) < 4) = true := decide_eq_true (by omega)
    have HF := Lib.hid (show none = hexS s.toList by
      have hl := lxLen s
      match hm : s.toList with
      | [] => rfl
      | [_] => rfl
      | [_, _] => rfl
      | [_, _, _] => rfl
      | _ :: _ :: _ :: _ :: _ => rw [hm] at hl; simp at hl; omega)
    go_enter Tryz.func87, Tryz.ntmps87
    go_wp2
    go_ret2
    rw [← HF.out]
    exact ⟨rfl, 0, rfl⟩

/-- The byte for which the beginning of a text stands within a quote, and how many bytes say it. -/
def charS : Str → Option (UInt8 × Nat)
  | [] => none
  | c :: r =>
    if c != 92 then (if isPrn (c.toNat : Int) then some (c, 1) else none)
    else match r with
      | [] => none
      | d :: _ => if d == 34 || d == 92 then some (d, 2) else if d == 110 then some (10, 2) else if d == 120 then hexS (c :: r) else none

set_option maxHeartbeats 1100000 in
theorem char_any (s : ByteArray) (w : World) (h0 : 0 < s.size) (hs : s.size ≤ 1100000) :
    Calls Tryz.prog 69 #[.string s] w fun e w' => e = .returned (charV (charS s.toList)) ∧ ∃ q, w' = w.drewN q := by
  have d0 := lxDrop s 0 h0
  rw [List.drop_zero] at d0
  have e92 : (((s[0].toNat : Nat) : Int) == 92) = (s[0] == 92) := byte_is s[0] 92 (by omega)
  have n92 : (((s[0].toNat : Nat) : Int) != 92) = (s[0] != 92) := by unfold bne; rw [e92]
  clear e92
  cases h92 : (s[0] != 92)
  · rw [h92] at n92
    by_cases h2 : 2 ≤ s.size
    · have b1 : decide ((s.size : Int) < 2) = false := decide_eq_false (by omega)
      have d1 := lxDrop s 1 (by omega)
      have HC := Lib.hid (show charS s.toList = if s[1] == 34 || s[1] == 92 then some (s[1], 2) else if s[1] == 110 then some (10, 2) else if s[1] == 120 then hexS s.toList else none by
        conv => lhs; rw [d0, d1]
        conv => rhs; rw [d0, d1]
        unfold charS
        dsimp only
        rw [h92]; rfl)
      have e34 : (((s[1].toNat : Nat) : Int) == 34) = (s[1] == 34) := byte_is s[1] 34 (by omega)
      have e92 : (((s[1].toNat : Nat) : Int) == 92) = (s[1] == 92) := byte_is s[1] 92 (by omega)
      have e110 : (((s[1].toNat : Nat) : Int) == 110) = (s[1] == 110) := byte_is s[1] 110 (by omega)
      have e120 : (((s[1].toNat : Nat) : Int) == 120) = (s[1] == 120) := byte_is s[1] 120 (by omega)
      clear d0 d1 h92
      cases h34 : (s[1] == 34)
      · rw [h34] at e34 HC
        cases hb : (s[1] == 92)
        · rw [hb] at e92 HC
          cases hn : (s[1] == 110)
          · rw [hn] at e110 HC
            cases hx : (s[1] == 120)
            · rw [hx] at e120 HC
              have HF := Lib.hid (show none = charS s.toList from HC.out.symm)
              clear HC h34 hb hn hx
              go_enter Tryz.func69, Tryz.ntmps69
              go_wp2
              go_ret2
              rw [← HF.out]
              exact ⟨rfl, 0, rfl⟩
            · rw [hx] at e120 HC
              have HF := Lib.hid (show hexS s.toList = charS s.toList from HC.out.symm)
              have CH := Lib.hid (fun W => hexByte_any s W hs)
              clear HC h34 hb hn hx
              go_enter Tryz.func69, Tryz.ntmps69
              rw [HF.out] at CH
              clear HF
              generalize charS s.toList = R at CH ⊢
              cases R with
              | none =>
                have CH2 := Lib.hid (show ∀ W, Calls Tryz.prog 87 #[.string s] W fun e w' => e = .returned (.tuple #[.int .u8 0, .int .i64 0]) ∧ ∃ q, w' = W.drewN q from CH.out)
                clear CH
                go_wp2_with (first
                  | (go_at_call 87; (with_reducible refine (CH2.out _).mono ?_); rintro e w1 ⟨rfl, q, rfl⟩)
                  | fail)
                go_ret2
                exact ⟨rfl, q, rfl⟩
              | some R =>
                obtain ⟨rb, rn⟩ := R
                have CH2 := Lib.hid (show ∀ W, Calls Tryz.prog 87 #[.string s] W fun e w' => e = .returned (.tuple #[.int .u8 (rb.toNat : Nat), .int .i64 (rn : Nat)]) ∧ ∃ q, w' = W.drewN q from CH.out)
                clear CH
                go_wp2_with (first
                  | (go_at_call 87; (with_reducible refine (CH2.out _).mono ?_); rintro e w1 ⟨rfl, q, rfl⟩)
                  | fail)
                go_ret2
                exact ⟨rfl, q, rfl⟩
          · rw [hn] at e110 HC
            have HF := Lib.hid (show some (10, 2) = charS s.toList from HC.out.symm)
            clear HC h34 hb hn
            go_enter Tryz.func69, Tryz.ntmps69
            go_wp2
            go_ret2
            rw [← HF.out]
            exact ⟨rfl, 0, rfl⟩
        · rw [hb] at e92 HC
          have HF := Lib.hid (show some (s[1], 2) = charS s.toList from HC.out.symm)
          clear HC h34 hb
          go_enter Tryz.func69, Tryz.ntmps69
          go_wp2
          go_ret2
          rw [← HF.out]
          exact ⟨rfl, 0, rfl⟩
      · rw [h34] at e34 HC
        have HF := Lib.hid (show some (s[1], 2) = charS s.toList from HC.out.symm)
        clear HC h34
        go_enter Tryz.func69, Tryz.ntmps69
        go_wp2
        go_ret2
        rw [← HF.out]
        exact ⟨rfl, 0, rfl⟩
    · have b1 : decide ((s.size : Int) < 2) = true := decide_eq_true (by omega)
      have HF := Lib.hid (show none = charS s.toList by
        rw [d0, lxEnd s 1 (by omega)]
        unfold charS
        dsimp only
        rw [h92]; rfl)
      clear d0 h92
      go_enter Tryz.func69, Tryz.ntmps69
      go_wp2
      go_ret2
      rw [← HF.out]
      exact ⟨rfl, 0, rfl⟩
  · rw [h92] at n92
    have cp := fun W => ownPrintable_any (s[0].toNat : Int) W
    cases hp : isPrn ((s[0].toNat : Nat) : Int)
    · rw [hp] at cp
      have CP := Lib.hid cp
      have HF := Lib.hid (show none = charS s.toList by
        rw [d0]
        unfold charS
        dsimp only
        rw [h92, hp]; rfl)
      clear cp hp d0 h92
      go_enter Tryz.func69, Tryz.ntmps69
      go_wp2_with (first
        | (go_at_call 36; (with_reducible refine (CP.out _).mono ?_); rintro e w1 ⟨rfl, rfl⟩)
        | fail)
      go_ret2
      rw [← HF.out]
      exact ⟨rfl, 0, rfl⟩
    · rw [hp] at cp
      have CP := Lib.hid cp
      have HF := Lib.hid (show some (s[0], 1) = charS s.toList by
        rw [d0]
        unfold charS
        dsimp only
        rw [h92, hp]; rfl)
      clear cp hp d0 h92
      go_enter Tryz.func69, Tryz.ntmps69
      go_wp2_with (first
        | (go_at_call 36; (with_reducible refine (CP.out _).mono ?_); rintro e w1 ⟨rfl, rfl⟩)
        | fail)
      go_ret2
      rw [← HF.out]
      exact ⟨rfl, 0, rfl⟩
end Go.Proofs.YtnanfmmafmcchaaGreatDoor
