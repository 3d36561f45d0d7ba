/- The law DataTexts returns true, whatever its arguments. -/
import Derived.Test.YtnanfmmafmcchaaGreatDoorDtBox
import Derived.WalkLawsBesides
namespace Go.Proofs.YtnanfmmafmcchaaGreatDoor
open Go.RowKit

theorem lxS_of' (s : ByteArray) : lxS s.toList = s := lxS_inj (by rw [lxS_toList])
theorem show_text {s : Str} (h : s.length ≤ 24) : showV ⟨3, 0, s, []⟩ = quotedS s := by
  have hm : mayV ⟨3, 0, s, []⟩ = true := by
    show ((0 : Int) == 0 && decide (s.length ≤ 24) && true) = true
    rw [decide_eq_true h]; rfl
  rw [showV_kind hm]; rfl
theorem show_text_long {s : Str} (h : ¬ s.length ≤ 24) : showV ⟨3, 0, s, []⟩ = [] := by
  have hm : mayV ⟨3, 0, s, []⟩ = false := by
    show ((0 : Int) == 0 && decide (s.length ≤ 24) && true) = false
    rw [decide_eq_false h]; rfl
  exact showV_may hm
theorem show_list {l : List Int} (h : l.length ≤ 16) : showV ⟨4, 0, [], l⟩ = showN l := by
  have hm : mayV ⟨4, 0, [], l⟩ = true := by
    show ((0 : Int) == 0 && true && decide (l.length ≤ 16)) = true
    rw [decide_eq_true h]; rfl
  rw [showV_kind hm]; rfl
theorem blanks_snoc (s : ByteArray) (k : Nat) (h : k < s.size) : blanks (s.toList.take (k + 1)) = blanks (s.toList.take k) + (if s[k] == 32 then 1 else 0) := by
  rw [take_snocB s k h]
  unfold blanks
  rw [List.countP_append, List.countP_singleton]
theorem blanks_le (s : Str) : blanks s ≤ s.length := List.countP_le_length ..

set_option maxHeartbeats 8000000 in
set_option maxRecDepth 20000 in
theorem dataTexts_walk (s : ByteArray) (a : Option Addr) (n c : Nat) (l : List Int) (w : World) (h : Nums w w.heap.size a n l) (hi : ∀ y ∈ l, inI64 y) (hm : Met w) :
    Calls Tryz.prog 7 #[.string s, .slice a n c] w fun e w' => e = .returned (.bool true) ∧ Below w.heap.size w w' := by
  have HM := Lib.hid hm
  have CF := Lib.hid (dataFirst_any w hm)
  have hlen : l.length = n := h.1
  have cst : ∀ W, Met W → Calls Tryz.prog 17 #[.agg #[.int .i64 3, .int .i64 0, .string s, .slice none 0 0]] W fun e w' => e = .returned (.string (lxS (showV ⟨3, 0, s.toList, []⟩))) ∧ Below W.heap.size W w' := fun W hW =>
    show_any 3 0 s none 0 0 [] W W.heap.size (Nat.le_refl _) (Nums.zero _ _ _) in0 (fun y hy => by cases hy) (fun _ h => by cases h) hW.pow
  by_cases h24 : s.size ≤ 24
  · have b0 : decide ((24 : Int) < (s.size : Int)) = false := decide_eq_false (by omega)
    have b1 : decide (24 < s.size) = false := decide_eq_false (by omega)
    rw [show_text (by rw [lxLen]; exact h24)] at cst
    by_cases h16 : n ≤ 16
    · have b2 : decide ((16 : Int) < (n : Int)) = false := decide_eq_false (by omega)
      have b3 : decide (16 < n) = false := decide_eq_false (by omega)
      have csl : ∀ W, Below w.heap.size w W → Calls Tryz.prog 17 #[.agg #[.int .i64 4, .int .i64 0, .string ⟨#[]⟩, .slice a n c]] W fun e w' => e = .returned (.string (lxS (showN l))) ∧ Below W.heap.size W w' := fun W hW => by
        have := show_any 4 0 ⟨#[]⟩ a n c l W w.heap.size hW.size (h.below hW) in0 hi (fun _ h => by cases h) (HM.out.keep hW).pow
        rw [lit_is [] ⟨#[]⟩ rfl, show_list (by rw [hlen]; exact h16)] at this
        exact this
      have hql := quoted_len s.toList
      rw [lxLen] at hql
      obtain ⟨T, hT⟩ : ∃ T, T = lxS (quotedS s.toList) := ⟨_, rfl⟩
      have hTl : T.toList = quotedS s.toList := by rw [hT, lxS_toList]
      have hTs : T.size ≤ 1100000 := by rw [← lxLen, hTl]; omega
      have hNs := showN_short hi
      obtain ⟨N, hN⟩ : ∃ N, N = lxS (showN l) := ⟨_, rfl⟩
      have hNl : N.toList = showN l := by rw [hN, lxS_toList]
      have hNb := blanks_show l
      rw [hlen] at hNb hNs
      have hNz : N.size ≤ 1000 ∧ 2 ≤ N.size := by
        rw [← lxLen, hNl]
        unfold showN
        simp only [List.length_cons, List.length_append, List.length_nil]
        omega
      obtain ⟨hN1, hN2⟩ := hNz
      have ct : ∀ W, ErrCell W → Calls Tryz.prog 19 #[.string T] W fun e w' => ∃ a1 c1, e = .returned (.tuple #[.slice a1 1 c1, .int .i64 0, .int .i64 0]) ∧ Sees w' w'.heap.size a1 1 [⟨2, s.toList, 0⟩] ∧ 1 ≤ c1 ∧ c1 ≤ maxLen ∧ Below W.heap.size W w' := fun W hW => by
        refine (tokens_ok (s := T) (w := W) hTs hW (by rw [hTl]; exact tokens_quote s.toList (by rw [lxLen]; omega)) (by simp)).mono ?_
        rintro e w' ⟨a1, c1, he, hs, h1, h2, hb, _⟩
        exact ⟨a1, c1, he, hs, h1, h2, hb⟩
      have cq : ∀ W, Calls Tryz.prog 20 #[.string s] W fun e w' => e = .returned (.string T) ∧ Below W.heap.size W w' := fun W => by
        rw [hT]
        exact ownQuoted_any s W (by omega)
      rw [← hT] at cst
      rw [← hN] at csl
      have CST := Lib.hid cst
      have CSL := Lib.hid csl
      have CT := Lib.hid ct
      have CQ := Lib.hid cq
      have HNB := Lib.hid (show blanks N.toList = n - 1 by rw [hNl]; exact hNb)
      have hnn : n ≤ 16 := h16
      clear hm h hlen hi cst csl ct cq hT hTl hN hNl hNb hql hNs
      go_enter Tryz.func7, Tryz.ntmps7
      go_wp2_with (first
        | (go_at_call 8; (with_reducible refine CF.out.mono ?_); rintro e w1 ⟨rfl, hb1⟩
           have HB1 := Lib.hid hb1
           clear hb1)
        | (go_at_call 17; (with_reducible refine (CST.out _ (HM.out.keep HB1.out)).mono ?_); rintro e w2 ⟨rfl, hb2⟩
           have HB2 := Lib.hid (below_next HB1.out hb2)
           clear hb2)
        | (go_at_call 19; (with_reducible refine (CT.out _ (HM.out.keep HB2.out).err).mono ?_)
           rintro e w3 ⟨a1, c1, rfl, hs1, hc1, hc2, hb3⟩
           have HB3 := Lib.hid (below_next HB2.out hb3)
           have HS1 := Lib.hid hs1
           clear hb3 hs1)
        | (go_at_call 17; (with_reducible refine (CSL.out _ HB3.out).mono ?_); rintro e w4 ⟨rfl, hb4⟩
           have HB4 := Lib.hid (below_next HB3.out hb4)
           have HS2 := Lib.hid ((HS1.out.below hb4).more hb4.size)
           clear hb4)
        | fail)
      go_loop [10, 11] (fun u i => ∃ k : Nat, k ≤ N.size ∧ i = .int .i64 k ∧ u = .int .i64 (blanks (N.toList.take k) : Nat)) (fun _ i => N.size - (intOf i).toNat)
      case atStart => exact ⟨0, Nat.zero_le _, rfl, rfl⟩
      case round =>
        obtain ⟨k, hk, rfl, rfl⟩ := hrel
        by_cases hlt : k < N.size
        · have HS := Lib.hid (blanks_snoc N k hlt)
          have hbl := blanks_le (N.toList.take k)
          have hbl2 : (N.toList.take k).length ≤ k := List.length_take_le ..
          obtain ⟨u, hu⟩ : ∃ u, u = blanks (N.toList.take k) := ⟨_, rfl⟩
          rw [← hu] at HS hbl
          rw [← hu]
          have hus : u ≤ 1000 := by omega
          clear hbl hbl2 hu
          cases h32 : (N[k] == 32)
          · have e32 : (((N[k].toNat : Nat) : Int) == 32) = false := by rw [← h32]; exact byte_is N[k] 32 (by omega)
            rw [h32] at HS
            clear h32
            go_wp2
            go_round
            case rel => exact ⟨k + 1, by omega, by go_num, by rw [HS.out]; rfl⟩
            case measure => simp [intOf]; omega
          · have e32 : (((N[k].toNat : Nat) : Int) == 32) = true := by rw [← h32]; exact byte_is N[k] 32 (by omega)
            rw [h32] at HS
            clear h32
            go_wp2
            go_round
            case rel => exact ⟨k + 1, by omega, by go_num, by rw [HS.out]; go_num⟩
            case measure => simp [intOf]; omega
        · have hkn : k = N.size := by omega
          have HF := Lib.hid (show blanks (N.toList.take k) = n - 1 by rw [List.take_of_length_le (by rw [lxLen]; omega)]; exact HNB.out)
          obtain ⟨u, hu⟩ : ∃ u, u = blanks (N.toList.take k) := ⟨_, rfl⟩
          rw [← hu] at HF ⊢
          obtain ⟨b, off, y, rfl, _, hy, y0, y1, y2⟩ := HS2.out.at_ (k := 0) (by omega)
          simp only [List.getElem?_cons_zero, Option.some.injEq] at hy
          subst hy
          dsimp only at y0 y1 y2
          rw [lxS_of'] at y1
          rw [Nat.zero_mul, Nat.add_zero] at y0 y1 y2
          have f2 : decide ((2 : Int) ≤ (N.size : Int)) = true := decide_eq_true (by omega)
          clear hu
          go_wp2_with (first
            | (go_at_call 20; (with_reducible refine (CQ.out _).mono ?_); rintro e w5 ⟨rfl, hb5⟩
               have HB5 := Lib.hid (below_next HB4.out hb5)
               obtain ⟨hcc, hff⟩ := bcell hb5
               clear hb5)
            | fail)
          go_ret
          exact ⟨ret_bool (by rw [beq_iff_eq]; have := HF.out; omega), HB5.out⟩
    · have b2 : decide ((16 : Int) < (n : Int)) = true := decide_eq_true (by omega)
      have b3 : decide (16 < n) = true := decide_eq_true (by omega)
      have e24 : decide ((s.size : Int) ≤ 24) = true := decide_eq_true (by omega)
      obtain ⟨T, hT⟩ : ∃ T, T = lxS (quotedS s.toList) := ⟨_, rfl⟩
      have hne : T.toList.isEmpty = false := by rw [hT, lxS_toList]; rfl
      rw [← hT] at cst
      have CST := Lib.hid cst
      clear hm h hlen hi cst hT
      go_enter Tryz.func7, Tryz.ntmps7
      go_wp2_with (first
        | (go_at_call 8; (with_reducible refine CF.out.mono ?_); rintro e w1 ⟨rfl, hb1⟩
           have HB1 := Lib.hid hb1
           clear hb1)
        | (go_at_call 17; (with_reducible refine (CST.out _ (HM.out.keep HB1.out)).mono ?_); rintro e w2 ⟨rfl, hb2⟩
           have HB2 := Lib.hid (below_next HB1.out hb2)
           clear hb2)
        | fail)
      go_ret
      exact ⟨rfl, HB2.out⟩
  · have b0 : decide ((24 : Int) < (s.size : Int)) = true := decide_eq_true (by omega)
    have b1 : decide (24 < s.size) = true := decide_eq_true (by omega)
    rw [show_text_long (by rw [lxLen]; exact h24)] at cst
    have CST := Lib.hid (show ∀ W, Met W → Calls Tryz.prog 17 #[.agg #[.int .i64 3, .int .i64 0, .string s, .slice none 0 0]] W fun e w' => e = .returned (.string ⟨#[]⟩) ∧ Below W.heap.size W w' from cst)
    clear hm h hlen hi cst
    go_enter Tryz.func7, Tryz.ntmps7
    go_wp2_with (first
      | (go_at_call 8; (with_reducible refine CF.out.mono ?_); rintro e w1 ⟨rfl, hb1⟩
         have HB1 := Lib.hid hb1
         clear hb1)
      | (go_at_call 17; (with_reducible refine (CST.out _ (HM.out.keep HB1.out)).mono ?_); rintro e w2 ⟨rfl, hb2⟩
         have HB2 := Lib.hid (below_next HB1.out hb2)
         clear hb2)
      | fail)
    go_ret
    exact ⟨rfl, HB2.out⟩
end Go.Proofs.YtnanfmmafmcchaaGreatDoor
