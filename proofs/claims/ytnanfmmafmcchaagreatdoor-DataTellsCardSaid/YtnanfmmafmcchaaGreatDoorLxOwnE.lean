/- Contract of the program's unquote. -/
import Derived.Test.YtnanfmmafmcchaaGreatDoorLxOwnD
namespace Go.Proofs.YtnanfmmafmcchaaGreatDoor
open Go.RowKit

theorem hexS_len {s : Str} {b : UInt8} {n : Nat} (h : hexS s = some (b, n)) : 1 ≤ n ∧ n ≤ s.length := by
  unfold hexS at h
  split at h
  · split at h
    · injection h with h
      simp only [Prod.mk.injEq] at h
      obtain ⟨_, rfl⟩ := h
      simp
    · cases h
  · cases h
theorem charS_len {s : Str} {b : UInt8} {n : Nat} (h : charS s = some (b, n)) : 1 ≤ n ∧ n ≤ s.length := by
  unfold charS at h
  split at h
  · cases h
  · split at h
    · split at h
      · injection h with h
        simp only [Prod.mk.injEq] at h
        obtain ⟨_, rfl⟩ := h
        simp
      · cases h
    · split at h
      · cases h
      · split at h
        · injection h with h
          simp only [Prod.mk.injEq] at h
          obtain ⟨_, rfl⟩ := h
          simp
        · split at h
          · injection h with h
            simp only [Prod.mk.injEq] at h
            obtain ⟨_, rfl⟩ := h
            simp
          · split at h
            · exact hexS_len h
            · cases h
theorem prn_not (c : UInt8) : isPrn (c.toNat : Int) = !(decide (c.toNat < 32) || decide (126 < c.toNat)) := by
  unfold isPrn
  rw [Bool.eq_iff_iff]
  simp only [Bool.and_eq_true, decide_eq_true_eq, Bool.not_eq_true', Bool.or_eq_false_iff, decide_eq_false_iff_not]
  omega
theorem quote_step {c : UInt8} {r : Str} (h : (c == 34) = false) :
    quoteS (c :: r) = match charS (c :: r) with | none => none | some (b, n) => (quoteS ((c :: r).drop n)).map fun p => (b :: p.1, p.2) := by
  conv => lhs; unfold quoteS
  rw [h]
  unfold charS
  dsimp only
  rw [prn_not]
  cases h92 : (c != 92)
  · have hc : c = 92 := by
      unfold bne at h92
      exact eq_of_beq (by simpa using h92)
    subst hc
    simp only [Bool.false_eq_true, if_false]
    rw [show (decide ((92 : UInt8).toNat < 32) || decide (126 < (92 : UInt8).toNat)) = false from rfl]
    simp only [Bool.false_eq_true, if_false]
    cases r with
    | nil => rfl
    | cons d t =>
      dsimp only
      cases h1 : (d == 34 || d == 92)
      · simp only [Bool.false_eq_true, if_false]
        cases h2 : d == 110
        · simp only [Bool.false_eq_true, if_false]
          cases h3 : d == 120
          · simp only [Bool.false_eq_true, if_false]
          · simp only [if_true]
            match t with
            | [] => rfl
            | [_] => rfl
            | a :: b :: u =>
              show (match hexV a, hexV b with | some x, some y => _ | _, _ => none) = (match (match hexV a, hexV b with | some x, some y => some (UInt8.ofNat (16 * x + y), 4) | _, _ => none) with | none => none | some (b, n) => _)
              cases hexV a with
              | none => rfl
              | some x => cases hexV b <;> rfl
        · simp only [if_true]; rfl
      · simp only [if_true]; rfl
  · simp only [if_true, Bool.false_eq_true, if_false]
    cases hp : (decide (c.toNat < 32) || decide (126 < c.toNat))
    · simp only [Bool.not_false, if_true, Bool.false_eq_true, if_false]; rfl
    · simp only [Bool.not_true, if_true, Bool.false_eq_true, if_false]

theorem below_drewN {B : Nat} {a w : World} (h : Below B a w) (q : Nat) : Below B a (w.drewN q) := ⟨h.os, h.tape, h.output, h.size, h.block⟩
theorem quote_end (r : Str) : quoteS (34 :: r) = some ([], r) := by unfold quoteS; rfl
/-- What unquote answers. -/
def UnqAns (s : Str) : Option (Str × Str) → Ending → Prop
  | none, e => e = .returned (.tuple #[.string ⟨#[]⟩, .int .i64 0])
  | some (v, u), e => ∃ n : Nat, e = .returned (.tuple #[.string (lxS v), .int .i64 n]) ∧ 2 ≤ n ∧ n ≤ s.length ∧ s.drop n = u

set_option maxHeartbeats 2000000 in
set_option maxRecDepth 20000 in
theorem unquote_any (s : ByteArray) (w : World) (h0 : 0 < s.size) (hs : s.size ≤ 1100000) :
    Calls Tryz.prog 53 #[.string s] w fun e w' => Below w.heap.size w w' ∧ UnqAns s.toList (quoteS (s.toList.drop 1)) e := by
  go_enter Tryz.func53, Tryz.ntmps53
  go_wp2
  go_loopw [4, 5] (fun v i wr => ∃ (k : Nat) (acc : Str), 1 ≤ k ∧ k ≤ s.size ∧ acc.length ≤ k ∧ i = .int .i64 k ∧ Hid (Bytes wr w.heap.size v acc) ∧ Hid (Below w.heap.size w wr) ∧ Hid (quoteS (s.toList.drop 1) = (quoteS (s.toList.drop k)).map fun p => (acc ++ p.1, p.2))) (fun _ i _ => s.size - (intOf i).toNat)
  case atStart => exact ⟨1, [], Nat.le_refl _, h0, Nat.zero_le _, rfl, Lib.hid (Bytes.zero _ _), Lib.hid (Below.refl _ _), Lib.hid (by cases quoteS (s.toList.drop 1) <;> rfl)⟩
  case round =>
    obtain ⟨k, acc, hk1, hk, hacc, rfl, HB, HW, HQ⟩ := hrel
    by_cases hlt : k < s.size
    · have hd := Lib.hid (lxDrop s k hlt)
      have e34 : (((s[k].toNat : Nat) : Int) == 34) = (s[k] == 34) := byte_is s[k] 34 (by omega)
      have n34 : (((s[k].toNat : Nat) : Int) != 34) = (s[k] != 34) := by unfold bne; rw [e34]
      clear e34
      cases h34 : (s[k] == 34)
      · have h34' : (s[k] != 34) = true := by unfold bne; rw [h34]; rfl
        rw [h34'] at n34
        have HQ2 := Lib.hid (quote_step (r := s.toList.drop (k + 1)) h34)
        rw [← hd.out] at HQ2
        have cc : ∀ W, Calls Tryz.prog 69 #[.string (s.extract k s.size)] W fun e w' => e = .returned (charV (charS (s.toList.drop k))) ∧ ∃ q, w' = W.drewN q := fun W => by
          have h := char_any (s.extract k s.size) W (by simp; omega) (by simp; omega)
          rw [toList_cut] at h
          exact h
        have hlen : ∀ b n, charS (s.toList.drop k) = some (b, n) → 1 ≤ n ∧ n ≤ (s.toList.drop k).length := fun b n h => charS_len h
        generalize charS (s.toList.drop k) = R at cc HQ2 hlen
        clear h34 h34'
        cases R with
        | none =>
          have CC := Lib.hid (show ∀ W, Calls Tryz.prog 69 #[.string (s.extract k s.size)] W fun e w' => e = .returned (.tuple #[.int .u8 0, .int .i64 0]) ∧ ∃ q, w' = W.drewN q from cc)
          have HF := Lib.hid (show quoteS (s.toList.drop 1) = none by rw [HQ.out, HQ2.out]; rfl)
          clear cc hlen
          go_wp2_with (first
            | (go_at_call 69; (with_reducible refine (CC.out _).mono ?_); rintro e w1 ⟨rfl, q, rfl⟩)
            | fail)
          go_ret2
          rw [HF.out]
          exact ⟨below_drewN HW.out q, rfl⟩
        | some R =>
          obtain ⟨rb, rn⟩ := R
          have CC := Lib.hid (show ∀ W, Calls Tryz.prog 69 #[.string (s.extract k s.size)] W fun e w' => e = .returned (.tuple #[.int .u8 (rb.toNat : Nat), .int .i64 (rn : Nat)]) ∧ ∃ q, w' = W.drewN q from cc)
          obtain ⟨hn1, hn2⟩ := hlen rb rn rfl
          rw [List.length_drop, lxLen] at hn2
          have bz : (((rn : Nat) : Int) == 0) = false := by rw [beq_eq_false_iff_ne]; omega
          have HS := Lib.hid (show quoteS (s.toList.drop 1) = (quoteS (s.toList.drop (k + rn))).map fun p => ((acc ++ [rb]) ++ p.1, p.2) by
            rw [HQ.out, HQ2.out]
            show ((quoteS ((s.toList.drop k).drop rn)).map _).map _ = _
            rw [List.drop_drop, Option.map_map]
            congr 1
            funext p
            show (acc ++ (rb :: p.1), p.2) = _
            rw [List.append_assoc]; rfl)
          clear cc hlen
          go_wp2_with (first
            | (go_at_call 69; (with_reducible refine (CC.out _).mono ?_); rintro e w1 ⟨rfl, q, rfl⟩)
            | (at_builtin
               refine wpList_append_bytes rfl (.tmp 27) (.tmp 29) rfl w.heap.size _ acc [rb] rfl rfl rfl (HB.out.drewN q) (below_drewN HW.out q).size (by simp; omega) w (below_drewN HW.out q) ?_
               intro v' w' hown hbel
               have HO := Lib.hid hown
               have HE := Lib.hid hbel
               clear hown hbel)
            | fail)
          go_roundw
          case rel => exact ⟨k + rn, acc ++ [rb], by omega, by omega, by (rw [List.length_append]; show acc.length + 1 ≤ _; omega), by go_num, HO, HE, HS⟩
          case measure => simp [intOf]; omega
      · have h34' : (s[k] != 34) = false := by unfold bne; rw [h34]; rfl
        rw [h34'] at n34
        have HF := Lib.hid (show quoteS (s.toList.drop 1) = some (acc, s.toList.drop (k + 1)) by
          rw [HQ.out, hd.out, eq_of_beq h34, quote_end]
          show some (acc ++ [], _) = _
          rw [List.append_nil])
        have hcv := HB.out.text
        have b2 : decide ((s.size : Int) ≤ (k : Int)) = false := decide_eq_false (by omega)
        clear h34 h34'
        go_wp2
        go_ret2
        rw [HF.out]
        exact ⟨HW.out, k + 1, rfl, by omega, by rw [lxLen]; omega, rfl⟩
    · have HF := Lib.hid (show quoteS (s.toList.drop 1) = none by rw [HQ.out, lxEnd s k (by omega)]; rfl)
      have b2 : decide ((s.size : Int) ≤ (k : Int)) = true := decide_eq_true (by omega)
      go_wp2
      go_ret2
      rw [HF.out]
      exact ⟨HW.out, rfl⟩
end Go.Proofs.YtnanfmmafmcchaaGreatDoor
