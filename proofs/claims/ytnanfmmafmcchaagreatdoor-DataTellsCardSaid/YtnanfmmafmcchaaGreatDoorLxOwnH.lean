/- Contract of the program's token. -/
import Derived.Test.YtnanfmmafmcchaaGreatDoorLxOwnG
namespace Go.Proofs.YtnanfmmafmcchaaGreatDoor
open Go.RowKit

/-- What token answers. -/
def OwnTok (s : Str) : Except Int (Nat × Str × Str) → Ending → Prop
  | .error c, e => e = .returned (.tuple #[.agg #[.int .i64 0, .string ⟨#[]⟩, .int .i64 0], .int .i64 0, .int .i64 c])
  | .ok (k, t, u), e => ∃ n : Nat, e = .returned (.tuple #[.agg #[.int .i64 k, .string (lxS t), .int .i64 0], .int .i64 n, .int .i64 0]) ∧ 1 ≤ n ∧ n ≤ s.length ∧ s.drop n = u

theorem tok1_quoted (after : Bool) (r : Str) : tok1 after (34 :: r) = match quoteS r with | some p => .ok (2, p.1, p.2) | none => .error 203 := by
  unfold tok1
  dsimp only
  rw [show letB 34 = false from by decide, show (digB 34 || ((34 : UInt8) == 45 && !after && nextDig r)) = false from by rw [show digB 34 = false from by decide]; rfl]
  rfl
theorem lx_head (s : ByteArray) (n : Nat) : s.extract 0 n = lxS (s.toList.take n) := by
  have h := lx_sub s 0 n
  rw [Nat.zero_add, List.drop_zero] at h
  exact h

set_option maxHeartbeats 2000000 in
theorem ownToken_quote (s : ByteArray) (neg : Bool) (w : World) (h0 : 0 < s.size) (hs : s.size ≤ 1100000) (h34 : (s[0] == 34) = true) :
    Calls Tryz.prog 34 #[.string s, .bool neg] w fun e w' => Below w.heap.size w w' ∧ OwnTok s.toList (tok1 (!neg) s.toList) e := by
  have d0 := lxDrop s 0 h0
  rw [List.drop_zero, Nat.zero_add] at d0
  have e34 : (((s[0].toNat : Nat) : Int) == 34) = true := by rw [← h34]; exact byte_is s[0] 34 (by omega)
  have HT := Lib.hid (show tok1 (!neg) s.toList = match quoteS (s.toList.drop 1) with | some p => .ok (2, p.1, p.2) | none => .error 203 by
    have h := tok1_quoted (!neg) (s.toList.drop 1)
    rw [← eq_of_beq h34, ← d0] at h
    exact h)
  have cq : ∀ W, Calls Tryz.prog 53 #[.string s] W fun e w' => Below W.heap.size W w' ∧ UnqAns s.toList (quoteS (s.toList.drop 1)) e := fun W => unquote_any s W h0 hs
  generalize quoteS (s.toList.drop 1) = R at HT cq
  clear d0 h34
  cases R with
  | none =>
    have CQ := Lib.hid (show ∀ W, Calls Tryz.prog 53 #[.string s] W fun e w' => Below W.heap.size W w' ∧ e = .returned (.tuple #[.string ⟨#[]⟩, .int .i64 0]) from cq)
    clear cq
    go_enter Tryz.func34, Tryz.ntmps34
    go_wp2_with (first
      | (go_at_call 53; (with_reducible refine (CQ.out _).mono ?_); rintro e w9 ⟨hb, rfl⟩
         obtain ⟨hcc, hff⟩ := bcell hb
         have HW := Lib.hid hb
         have hzz : w.heap.size < w9.heap.size := by have := hb.size; simp at this; omega
         clear hb)
      | fail)
    refine bodyPost_ret (v := .tuple #[.agg #[.int .i64 0, .string ⟨#[]⟩, .int .i64 0], .int .i64 0, .int .i64 203]) (by simp [results, go_sem, hcc]) rfl ?_
    exact ⟨((((((Below.refl _ _).alloc (Nat.le_refl _) _).trans (HW.out.mono (by simp))).setCell (Nat.le_refl _) _).setCell (Nat.le_refl _) _).setCell (Nat.le_refl _) _), by rw [HT.out]; rfl⟩
  | some q =>
    obtain ⟨t, u⟩ := q
    have CQ := Lib.hid (show ∀ W, Calls Tryz.prog 53 #[.string s] W fun e w' => Below W.heap.size W w' ∧ ∃ n : Nat, e = .returned (.tuple #[.string (lxS t), .int .i64 n]) ∧ 2 ≤ n ∧ n ≤ s.toList.length ∧ s.toList.drop n = u from cq)
    clear cq
    go_enter Tryz.func34, Tryz.ntmps34
    go_wp2_with (first
      | (go_at_call 53; (with_reducible refine (CQ.out _).mono ?_); rintro e w9 ⟨hb, ⟨n, rfl, hn2, hns, hdn⟩⟩
         obtain ⟨hcc, hff⟩ := bcell hb
         have HW := Lib.hid hb
         have hzz : w.heap.size < w9.heap.size := by have := hb.size; simp at this; omega
         have HDN := Lib.hid hdn
         have HNS := Lib.hid hns
         have bz : (((n : Nat) : Int) == 0) = false := by rw [beq_eq_false_iff_ne]; omega
         clear hb hdn hns)
      | fail)
    refine bodyPost_ret (v := .tuple #[.agg #[.int .i64 2, .string (lxS t), .int .i64 0], .int .i64 n, .int .i64 0]) (by simp [results, go_sem, hcc]) rfl ?_
    exact ⟨((((((Below.refl _ _).alloc (Nat.le_refl _) _).trans (HW.out.mono (by simp))).setCell (Nat.le_refl _) _).setCell (Nat.le_refl _) _).setCell (Nat.le_refl _) _), by rw [HT.out]; exact ⟨n, rfl, by omega, HNS.out, HDN.out⟩⟩

set_option maxHeartbeats 4000000 in
theorem ownToken_plain (s : ByteArray) (neg : Bool) (w : World) (h0 : 0 < s.size) (hs : s.size ≤ 1100000) (h34 : (s[0] == 34) = false) (he : ErrCell w) :
    Calls Tryz.prog 34 #[.string s, .bool neg] w fun e w' => Below w.heap.size w w' ∧ OwnTok s.toList (tok1 (!neg) s.toList) e := by
  have d0 := lxDrop s 0 h0
  rw [List.drop_zero, Nat.zero_add] at d0
  have e34 : (((s[0].toNat : Nat) : Int) == 34) = false := by rw [← h34]; exact byte_is s[0] 34 (by omega)
  obtain ⟨k, n, hkn⟩ : ∃ k n, plainS neg s.toList = (k, n) := ⟨_, _, rfl⟩
  have hT : tok1 (!neg) s.toList = if n = 0 then .error 201 else if k = 1 ∧ numeral (s.toList.take n) = false then .error 202 else .ok (k, s.toList.take n, s.toList.drop n) := by
    have h := tok1_plain (!neg) s[0] (s.toList.drop 1) h34
    rw [← d0, Bool.not_not, hkn] at h
    exact h
  have hle : n ≤ s.toList.length := by
    have := plain_le neg s.toList
    rw [hkn] at this
    exact this
  have hdig : k = 1 → digitsS (s.toList.take n) := fun h => by
    have := plain_digits (neg := neg) (c := s[0]) (r := s.toList.drop 1)
    rw [← d0, hkn] at this
    exact this h
  have cp : ∀ W, Calls Tryz.prog 54 #[.string s, .bool neg] W fun e w' => e = .returned (.tuple #[.int .i64 (k : Nat), .int .i64 (n : Nat)]) ∧ Below W.heap.size W w' := fun W => by
    have h := ownPlain_any s neg W hs
    rw [hkn] at h
    exact h
  have CP := Lib.hid cp
  have hns : n ≤ s.size := by rw [← lxLen]; exact hle
  have HX := Lib.hid (lx_head s n)
  clear cp hkn d0 h34
  by_cases hn0 : n = 0
  · subst hn0
    have HT := Lib.hid (show tok1 (!neg) s.toList = .error 201 from hT)
    have CP := Lib.hid (show ∀ W, Calls Tryz.prog 54 #[.string s, .bool neg] W fun e w' => e = .returned (.tuple #[.int .i64 (k : Nat), .int .i64 0]) ∧ Below W.heap.size W w' from CP.out)
    clear hT hle hdig HX hns
    go_enter Tryz.func34, Tryz.ntmps34
    go_wp2_with (first
      | (go_at_call 54; (with_reducible refine (CP.out _).mono ?_); rintro e w9 ⟨rfl, hb⟩
         obtain ⟨hcc, hff⟩ := bcell hb
         have HW := Lib.hid hb
         have hzz : w.heap.size < w9.heap.size := by have := hb.size; simp at this; omega
         clear hb)
      | fail)
    refine bodyPost_ret (v := .tuple #[.agg #[.int .i64 0, .string ⟨#[]⟩, .int .i64 0], .int .i64 0, .int .i64 201]) (by simp [results, go_sem, hcc]) rfl ?_
    exact ⟨((((((Below.refl _ _).alloc (Nat.le_refl _) _).trans (HW.out.mono (by simp))).setCell (Nat.le_refl _) _).setCell (Nat.le_refl _) _).setCell (Nat.le_refl _) _), by rw [HT.out]; rfl⟩
  · rw [if_neg hn0] at hT
    have bz : (((n : Nat) : Int) == 0) = false := by rw [beq_eq_false_iff_ne]; omega
    by_cases hk1 : k = 1
    · subst hk1
      have cc : ∀ W, ErrCell W → Calls Tryz.prog 55 #[.string (s.extract 0 n)] W fun e w' => e = .returned (.bool (numeral (s.toList.take n))) ∧ Below W.heap.size W w' := fun W hW => by
        have h := ownCanonical_any (s.extract 0 n) W (by simp; omega) (by rw [HX.out, lxS_toList]; exact hdig rfl) hW
        rw [HX.out, lxS_toList] at h
        rw [HX.out]
        exact h
      have HE := Lib.hid he
      clear hdig he
      cases hnum : numeral (s.toList.take n)
      · rw [hnum] at cc
        have CC := Lib.hid cc
        have HT := Lib.hid (show tok1 (!neg) s.toList = .error 202 by rw [hT, if_pos ⟨rfl, hnum⟩])
        clear cc hT hnum hle
        go_enter Tryz.func34, Tryz.ntmps34
        go_wp2_with (first
          | (go_at_call 54; (with_reducible refine (CP.out _).mono ?_); rintro e w8 ⟨rfl, hb⟩
             have HW1 := Lib.hid hb
             have HE1 := Lib.hid (HE.out.keep (((Below.refl _ _).alloc (Nat.le_refl _) _).trans (hb.mono (by simp))))
             clear hb)
          | (go_at_call 55; (with_reducible refine (CC.out _ HE1.out).mono ?_); rintro e w9 ⟨rfl, hb⟩
             have hb2 := HW1.out.trans (hb.mono HW1.out.size)
             obtain ⟨hcc, hff⟩ := bcell hb2
             have HW := Lib.hid hb2
             have hzz : w.heap.size < w9.heap.size := by have := hb2.size; simp at this; omega
             clear hb hb2)
          | fail)
        refine bodyPost_ret (v := .tuple #[.agg #[.int .i64 0, .string ⟨#[]⟩, .int .i64 0], .int .i64 0, .int .i64 202]) (by simp [results, go_sem, hcc]) rfl ?_
        exact ⟨((((((Below.refl _ _).alloc (Nat.le_refl _) _).trans (HW.out.mono (by simp))).setCell (Nat.le_refl _) _).setCell (Nat.le_refl _) _).setCell (Nat.le_refl _) _), by rw [HT.out]; rfl⟩
      · rw [hnum] at cc
        have CC := Lib.hid cc
        have HT := Lib.hid (show tok1 (!neg) s.toList = .ok (1, s.toList.take n, s.toList.drop n) by rw [hT, if_neg (fun h => by rw [hnum] at h; cases h.2)])
        have HL := Lib.hid hle
        clear cc hT hnum hle
        go_enter Tryz.func34, Tryz.ntmps34
        go_wp2_with (first
          | (go_at_call 54; (with_reducible refine (CP.out _).mono ?_); rintro e w8 ⟨rfl, hb⟩
             have HW1 := Lib.hid hb
             have HE1 := Lib.hid (HE.out.keep (((Below.refl _ _).alloc (Nat.le_refl _) _).trans (hb.mono (by simp))))
             clear hb)
          | (go_at_call 55; (with_reducible refine (CC.out _ HE1.out).mono ?_); rintro e w9 ⟨rfl, hb⟩
             have hb2 := HW1.out.trans (hb.mono HW1.out.size)
             obtain ⟨hcc, hff⟩ := bcell hb2
             have HW := Lib.hid hb2
             have hzz : w.heap.size < w9.heap.size := by have := hb2.size; simp at this; omega
             clear hb hb2)
          | fail)
        refine bodyPost_ret (v := .tuple #[.agg #[.int .i64 1, .string (s.extract 0 n), .int .i64 0], .int .i64 n, .int .i64 0]) (by simp [results, go_sem, hcc]) rfl ?_
        exact ⟨((((((Below.refl _ _).alloc (Nat.le_refl _) _).trans (HW.out.mono (by simp))).setCell (Nat.le_refl _) _).setCell (Nat.le_refl _) _).setCell (Nat.le_refl _) _), by rw [HT.out]; exact ⟨n, by rw [HX.out]; rfl, by omega, HL.out, rfl⟩⟩
    · have bk : (((k : Nat) : Int) == 1) = false := by rw [beq_eq_false_iff_ne]; omega
      have HT := Lib.hid (show tok1 (!neg) s.toList = .ok (k, s.toList.take n, s.toList.drop n) by rw [hT, if_neg (fun h => hk1 h.1)])
      have HL := Lib.hid hle
      clear hT hle hdig he
      go_enter Tryz.func34, Tryz.ntmps34
      go_wp2_with (first
        | (go_at_call 54; (with_reducible refine (CP.out _).mono ?_); rintro e w9 ⟨rfl, hb⟩
           obtain ⟨hcc, hff⟩ := bcell hb
           have HW := Lib.hid hb
           have hzz : w.heap.size < w9.heap.size := by have := hb.size; simp at this; omega
           clear hb)
        | fail)
      refine bodyPost_ret (v := .tuple #[.agg #[.int .i64 k, .string (s.extract 0 n), .int .i64 0], .int .i64 n, .int .i64 0]) (by simp [results, go_sem, hcc]) rfl ?_
      exact ⟨((((((Below.refl _ _).alloc (Nat.le_refl _) _).trans (HW.out.mono (by simp))).setCell (Nat.le_refl _) _).setCell (Nat.le_refl _) _).setCell (Nat.le_refl _) _), by rw [HT.out]; exact ⟨n, by rw [HX.out], by omega, HL.out, rfl⟩⟩

theorem ownToken_any (s : ByteArray) (neg : Bool) (w : World) (h0 : 0 < s.size) (hs : s.size ≤ 1100000) (he : ErrCell w) :
    Calls Tryz.prog 34 #[.string s, .bool neg] w fun e w' => Below w.heap.size w w' ∧ OwnTok s.toList (tok1 (!neg) s.toList) e := by
  cases h34 : (s[0] == 34)
  · exact ownToken_plain s neg w h0 hs h34 he
  · exact ownToken_quote s neg w h0 hs h34
end Go.Proofs.YtnanfmmafmcchaaGreatDoor
