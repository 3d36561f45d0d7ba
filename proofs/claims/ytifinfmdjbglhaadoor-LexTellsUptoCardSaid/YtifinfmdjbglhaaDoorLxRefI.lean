/- Contract of the reference's token: quotes and signs. -/
import Derived.Test.YtifinfmdjbglhaaDoorLxRefH
namespace Go.Proofs.YtifinfmdjbglhaaDoor
open Go.RowKit

theorem bcell {W w1 : World} (hb : Below W.heap.size W w1) : (∀ b o, b < W.heap.size → w1.cell? ⟨b, o, none⟩ = W.cell? ⟨b, o, none⟩) ∧ (∀ b o, b < W.heap.size → w1.frozen? ⟨b, o, none⟩ = W.frozen? ⟨b, o, none⟩) :=
  ⟨fun b o h => hb.cell (p := ⟨b, o, none⟩) h, fun b o h => hb.frozen (p := ⟨b, o, none⟩) h⟩

set_option maxHeartbeats 1100000 in
theorem refToken_quote (s : ByteArray) (p : Nat) (b : Bool) (w : World) (hp : p < s.size) (hs : s.size ≤ 1100000) (h34 : (s[p] == 34) = true) :
    Calls Tryd.prog 24 #[.string s, .int .i64 p, .bool b] w fun e w' => Below w.heap.size w w' ∧ TokAns s p (tok1 b (s.toList.drop p)) e := by
  have ec := eq_of_beq h34
  have hc : letB s[p] = false := by rw [ec]; decide
  have hdg : digB s[p] = false := by rw [ec]; decide
  have h45 : (s[p] == 45) = false := by rw [ec]; decide
  have hn : (digB s[p] || (s[p] == 45 && !b && nextDig (s.toList.drop (p + 1)))) = false := by rw [hdg, h45]; rfl
  have cl : ∀ W, Calls Tryd.prog 39 #[.int .u8 s[p].toNat] W fun e w' => e = .returned (.bool (letB s[p])) ∧ W = w' := fun W => refLetter_any s[p].toNat W
  rw [hc] at cl
  have CL := Lib.hid cl
  have cd : ∀ W, Calls Tryd.prog 41 #[.int .u8 s[p].toNat] W fun e w' => e = .returned (.bool (digB s[p])) ∧ W = w' := fun W => refDigit_any s[p].toNat W
  rw [hdg] at cd
  have CD := Lib.hid cd
  have e45 : (((s[p].toNat : Nat) : Int) == 45) = false := by rw [← h45]; exact byte_is s[p] 45 (by omega)
  have e34 : (((s[p].toNat : Nat) : Int) == 34) = true := by rw [← h34]; exact byte_is s[p] 34 (by omega)
  cases hq : quoteS (s.toList.drop (p + 1)) with
  | none =>
    have cq : ∀ W, Calls Tryd.prog 43 #[.string s, .int .i64 p] W fun e w' => Below W.heap.size W w' ∧ QuoteAns s p (quoteS (s.toList.drop (p + 1))) e := fun W => refQuote_any s p W hp hs
    rw [hq] at cq
    have CQ := Lib.hid cq
    have HT := Lib.hid (show tok1 b (s.toList.drop p) = .error 203 by rw [lxDrop s p hp]; exact tok_noquote hc hn h34 hq)
    clear cq hq hn h45 hdg hc ec h34 cl cd
    go_enter Tryd.func24, Tryd.ntmps24
    go_wp2_with (first
      | (go_at_call 39; (with_reducible refine (CL.out _).mono ?_); rintro e w9 ⟨rfl, rfl⟩)
      | (go_at_call 41; (with_reducible refine (CD.out _).mono ?_); rintro e w9 ⟨rfl, rfl⟩)
      | (go_at_call 41; (with_reducible refine (CD2.out _).mono ?_); rintro e w9 ⟨rfl, rfl⟩)
      | (go_at_call 43; (with_reducible refine (CQ.out _).mono ?_); rintro e w9 ⟨hb, rfl⟩
         obtain ⟨hcc, hff⟩ := bcell hb
         have HW := Lib.hid hb
         have hzz : w.heap.size < w9.heap.size := by have := hb.size; simp at this; omega
         clear hb)
      | fail)
    refine bodyPost_ret (v := .tuple #[.agg #[.int .i64 0, .string ⟨#[]⟩, .int .i64 0], .int .i64 0, .int .i64 203]) (by simp [results, go_sem, hcc]) rfl ⟨((((((Below.refl _ _).alloc (Nat.le_refl _) _).trans (HW.out.mono (by simp))).setCell (Nat.le_refl _) _).setCell (Nat.le_refl _) _).setCell (Nat.le_refl _) _), ?_⟩
    rw [HT.out]
    rfl
  | some q =>
    obtain ⟨t, u⟩ := q
    have cq : ∀ W, Calls Tryd.prog 43 #[.string s, .int .i64 p] W fun e w' => Below W.heap.size W w' ∧ QuoteAns s p (quoteS (s.toList.drop (p + 1))) e := fun W => refQuote_any s p W hp hs
    rw [hq] at cq
    have CQ := Lib.hid cq
    have HT := Lib.hid (show tok1 b (s.toList.drop p) = .ok (2, t, u) by rw [lxDrop s p hp]; exact tok_quote hc hn h34 hq)
    clear cq hq hn h45 hdg hc ec h34 cl cd
    go_enter Tryd.func24, Tryd.ntmps24
    go_wp2_with (first
      | (go_at_call 39; (with_reducible refine (CL.out _).mono ?_); rintro e w9 ⟨rfl, rfl⟩)
      | (go_at_call 41; (with_reducible refine (CD.out _).mono ?_); rintro e w9 ⟨rfl, rfl⟩)
      | (go_at_call 41; (with_reducible refine (CD2.out _).mono ?_); rintro e w9 ⟨rfl, rfl⟩)
      | (go_at_call 43; (with_reducible refine (CQ.out _).mono ?_); rintro e w9 ⟨hb, ⟨r, rfl, hpr, hrs, hdr⟩⟩
         obtain ⟨hcc, hff⟩ := bcell hb
         have HW := Lib.hid hb
         have hzz : w.heap.size < w9.heap.size := by have := hb.size; simp at this; omega
         have HDR := Lib.hid hdr
         clear hb hdr)
      | fail)
    refine bodyPost_ret (v := .tuple #[.agg #[.int .i64 2, .string (lxS t), .int .i64 p], .int .i64 r, .int .i64 0]) (by simp [results, go_sem, hcc]) rfl ⟨((((((Below.refl _ _).alloc (Nat.le_refl _) _).trans (HW.out.mono (by simp))).setCell (Nat.le_refl _) _).setCell (Nat.le_refl _) _).setCell (Nat.le_refl _) _), ?_⟩
    rw [HT.out]
    exact ⟨r, rfl, hpr, hrs, HDR.out⟩

theorem lx_sub (s : ByteArray) (p n : Nat) : s.extract p (p + n) = lxS ((s.toList.drop p).take n) := by
  apply lxS_inj
  rw [lxS_toList, ByteArray.toList_eq, ByteArray.toList_eq, ByteArray.data_extract]
  simp [List.extract_eq_take_drop]

set_option maxHeartbeats 2000000 in
theorem refToken_sign (s : ByteArray) (p : Nat) (b : Bool) (w : World) (hp : p < s.size) (hs : s.size ≤ 1100000) (hc : letB s[p] = false) (hn : (digB s[p] || (s[p] == 45 && !b && nextDig (s.toList.drop (p + 1)))) = false) (h34 : (s[p] == 34) = false) :
    Calls Tryd.prog 24 #[.string s, .int .i64 p, .bool b] w fun e w' => (∃ q, Below w.heap.size (w.drewN q) w') ∧ TokAns s p (tok1 b (s.toList.drop p)) e := by
  have hdg : digB s[p] = false := by
    cases h : digB s[p]
    · rfl
    · rw [h] at hn; cases hn
  have hn2 : (s[p] == 45 && !b && nextDig (s.toList.drop (p + 1))) = false := by rw [hdg] at hn; exact hn
  have cl : ∀ W, Calls Tryd.prog 39 #[.int .u8 s[p].toNat] W fun e w' => e = .returned (.bool (letB s[p])) ∧ W = w' := fun W => refLetter_any s[p].toNat W
  rw [hc] at cl
  have CL := Lib.hid cl
  have cd : ∀ W, Calls Tryd.prog 41 #[.int .u8 s[p].toNat] W fun e w' => e = .returned (.bool (digB s[p])) ∧ W = w' := fun W => refDigit_any s[p].toNat W
  rw [hdg] at cd
  have CD := Lib.hid cd
  have e34 : (((s[p].toNat : Nat) : Int) == 34) = false := by rw [← h34]; exact byte_is s[p] 34 (by omega)
  obtain ⟨L, hL⟩ : ∃ L, L = signLen (s.toList.drop p) := ⟨_, rfl⟩
  have hle : L ≤ s.size - p := by
    have := sign_le (s.toList.drop p)
    rw [← hL, List.length_drop, lxLen] at this; exact this
  have cs : ∀ W, Calls Tryd.prog 44 #[.string s, .int .i64 p] W fun e w' => e = .returned (.int .i64 (L : Nat)) ∧ ∃ q, w' = W.drewN q := fun W => by
    have h := refSign_any s p W hp hs
    rwa [← hL] at h
  have HT := Lib.hid (show tok1 b (s.toList.drop p) = if L = 0 then .error 201 else .ok (3, (s.toList.drop p).take L, (s.toList.drop p).drop L) by
    rw [hL, lxDrop s p hp]
    by_cases h0 : signLen (s[p] :: s.toList.drop (p + 1)) = 0
    · rw [if_pos h0]; exact tok_nosign hc hn h34 h0
    · rw [if_neg h0]; exact tok_sign hc hn h34 h0)
  have ways : (s[p] == 45) = false ∨ ((s[p] == 45) = true ∧ b = true) ∨ ((s[p] == 45) = true ∧ b = false ∧ ¬ p + 1 < s.size) ∨ ((s[p] == 45) = true ∧ b = false ∧ ∃ h : p + 1 < s.size, digB s[p + 1] = false) := by
    cases h45 : (s[p] == 45)
    · exact .inl rfl
    · rw [h45] at hn2
      cases b
      · by_cases hsz : p + 1 < s.size
        · rw [lxDrop s (p + 1) hsz] at hn2
          exact .inr (.inr (.inr ⟨rfl, rfl, hsz, hn2⟩))
        · exact .inr (.inr (.inl ⟨rfl, rfl, hsz⟩))
      · exact .inr (.inl ⟨rfl, rfl⟩)
  have e45 : (((s[p].toNat : Nat) : Int) == 45) = (s[p] == 45) := byte_is s[p] 45 (by omega)
  clear hn hn2 hdg hc cl cd h34 hL
  by_cases h0 : L = 0
  · subst h0
    rw [if_pos rfl] at HT
    have CS := Lib.hid (show ∀ W, Calls Tryd.prog 44 #[.string s, .int .i64 p] W fun e w' => e = .returned (.int .i64 0) ∧ ∃ q, w' = W.drewN q from cs)
    clear cs hle
    rcases ways with h45 | ⟨h45, rfl⟩ | ⟨h45, rfl, hsz⟩ | ⟨h45, rfl, hsz, hd2⟩
    all_goals
      rw [h45] at e45
      clear h45
    · skip
      go_enter Tryd.func24, Tryd.ntmps24
      go_wp2_with (first
        | (go_at_call 39; (with_reducible refine (CL.out _).mono ?_); rintro e w9 ⟨rfl, rfl⟩)
        | (go_at_call 41; (with_reducible refine (CD.out _).mono ?_); rintro e w9 ⟨rfl, rfl⟩)
        | (go_at_call 41; (with_reducible refine (CD2.out _).mono ?_); rintro e w9 ⟨rfl, rfl⟩)
        | (go_at_call 44; (with_reducible refine (CS.out _).mono ?_); rintro e w9 ⟨rfl, q, rfl⟩)
        | fail)
      refine bodyPost_ret (v := .tuple #[.agg #[.int .i64 0, .string ⟨#[]⟩, .int .i64 0], .int .i64 0, .int .i64 201]) (by simp [results, go_sem]) rfl ⟨⟨q, ((((Below.refl w.heap.size (w.drewN q)).alloc (Nat.le_refl _) _).setCell (Nat.le_refl _) _).setCell (Nat.le_refl _) _).setCell (Nat.le_refl _) _⟩, ?_⟩
      rw [HT.out]
      rfl
    · skip
      go_enter Tryd.func24, Tryd.ntmps24
      go_wp2_with (first
        | (go_at_call 39; (with_reducible refine (CL.out _).mono ?_); rintro e w9 ⟨rfl, rfl⟩)
        | (go_at_call 41; (with_reducible refine (CD.out _).mono ?_); rintro e w9 ⟨rfl, rfl⟩)
        | (go_at_call 41; (with_reducible refine (CD2.out _).mono ?_); rintro e w9 ⟨rfl, rfl⟩)
        | (go_at_call 44; (with_reducible refine (CS.out _).mono ?_); rintro e w9 ⟨rfl, q, rfl⟩)
        | fail)
      refine bodyPost_ret (v := .tuple #[.agg #[.int .i64 0, .string ⟨#[]⟩, .int .i64 0], .int .i64 0, .int .i64 201]) (by simp [results, go_sem]) rfl ⟨⟨q, ((((Below.refl w.heap.size (w.drewN q)).alloc (Nat.le_refl _) _).setCell (Nat.le_refl _) _).setCell (Nat.le_refl _) _).setCell (Nat.le_refl _) _⟩, ?_⟩
      rw [HT.out]
      rfl
    · have d1 : decide ((p : Int) + 1 < (s.size : Int)) = false := decide_eq_false (by omega)
      clear hsz
      go_enter Tryd.func24, Tryd.ntmps24
      go_wp2_with (first
        | (go_at_call 39; (with_reducible refine (CL.out _).mono ?_); rintro e w9 ⟨rfl, rfl⟩)
        | (go_at_call 41; (with_reducible refine (CD.out _).mono ?_); rintro e w9 ⟨rfl, rfl⟩)
        | (go_at_call 41; (with_reducible refine (CD2.out _).mono ?_); rintro e w9 ⟨rfl, rfl⟩)
        | (go_at_call 44; (with_reducible refine (CS.out _).mono ?_); rintro e w9 ⟨rfl, q, rfl⟩)
        | fail)
      refine bodyPost_ret (v := .tuple #[.agg #[.int .i64 0, .string ⟨#[]⟩, .int .i64 0], .int .i64 0, .int .i64 201]) (by simp [results, go_sem]) rfl ⟨⟨q, ((((Below.refl w.heap.size (w.drewN q)).alloc (Nat.le_refl _) _).setCell (Nat.le_refl _) _).setCell (Nat.le_refl _) _).setCell (Nat.le_refl _) _⟩, ?_⟩
      rw [HT.out]
      rfl
    · have i1 : (p : Int) + 1 < (s.size : Int) := by omega
      have cd2 : ∀ W, Calls Tryd.prog 41 #[.int .u8 s[p + 1].toNat] W fun e w' => e = .returned (.bool false) ∧ W = w' := fun W => by
        have h := refDigit_any s[p + 1].toNat W
        rw [show isDig (s[p + 1].toNat : Int) = false from hd2] at h
        exact h
      have CD2 := Lib.hid cd2
      clear cd2 hd2
      go_enter Tryd.func24, Tryd.ntmps24
      go_wp2_with (first
        | (go_at_call 39; (with_reducible refine (CL.out _).mono ?_); rintro e w9 ⟨rfl, rfl⟩)
        | (go_at_call 41; (with_reducible refine (CD.out _).mono ?_); rintro e w9 ⟨rfl, rfl⟩)
        | (go_at_call 41; (with_reducible refine (CD2.out _).mono ?_); rintro e w9 ⟨rfl, rfl⟩)
        | (go_at_call 44; (with_reducible refine (CS.out _).mono ?_); rintro e w9 ⟨rfl, q, rfl⟩)
        | fail)
      refine bodyPost_ret (v := .tuple #[.agg #[.int .i64 0, .string ⟨#[]⟩, .int .i64 0], .int .i64 0, .int .i64 201]) (by simp [results, go_sem]) rfl ⟨⟨q, ((((Below.refl w.heap.size (w.drewN q)).alloc (Nat.le_refl _) _).setCell (Nat.le_refl _) _).setCell (Nat.le_refl _) _).setCell (Nat.le_refl _) _⟩, ?_⟩
      rw [HT.out]
      rfl
  · rw [if_neg h0] at HT
    have CS := Lib.hid cs
    have z0 : (((L : Nat) : Int) == 0) = false := by rw [beq_eq_false_iff_ne]; omega
    have hcut := run_cut 9 Tryd.underlying9 s (p : Int) ((p : Int) + (L : Int)) p (p + L) rfl (by omega) (by omega) (by omega)
    have HE := Lib.hid (show ∀ (x : Ending), x = Ending.returned (.tuple #[.agg #[.int .i64 3, .string (lxS ((s.toList.drop p).take L)), .int .i64 p], .int .i64 ((p : Int) + (L : Int)), .int .i64 0]) →
        TokAns s p (.ok (3, (s.toList.drop p).take L, (s.toList.drop p).drop L)) x from fun x hx =>
      ⟨p + L, by rw [hx]; rfl, by omega, by omega, by rw [List.drop_drop]⟩)
    clear cs h0
    rcases ways with h45 | ⟨h45, rfl⟩ | ⟨h45, rfl, hsz⟩ | ⟨h45, rfl, hsz, hd2⟩
    all_goals
      rw [h45] at e45
      clear h45
    · skip
      go_enter Tryd.func24, Tryd.ntmps24
      go_wp2_with (first
        | (go_at_call 39; (with_reducible refine (CL.out _).mono ?_); rintro e w9 ⟨rfl, rfl⟩)
        | (go_at_call 41; (with_reducible refine (CD.out _).mono ?_); rintro e w9 ⟨rfl, rfl⟩)
        | (go_at_call 41; (with_reducible refine (CD2.out _).mono ?_); rintro e w9 ⟨rfl, rfl⟩)
        | (go_at_call 44; (with_reducible refine (CS.out _).mono ?_); rintro e w9 ⟨rfl, q, rfl⟩)
        | fail)
      refine bodyPost_ret (v := .tuple #[.agg #[.int .i64 3, .string (s.extract p (p + L)), .int .i64 p], .int .i64 ((p : Int) + (L : Int)), .int .i64 0]) (by simp [results, go_sem]) rfl ⟨⟨q, ((((Below.refl w.heap.size (w.drewN q)).alloc (Nat.le_refl _) _).setCell (Nat.le_refl _) _).setCell (Nat.le_refl _) _).setCell (Nat.le_refl _) _⟩, ?_⟩
      rw [HT.out]
      rw [lx_sub]
      exact HE.out _ rfl
    · skip
      go_enter Tryd.func24, Tryd.ntmps24
      go_wp2_with (first
        | (go_at_call 39; (with_reducible refine (CL.out _).mono ?_); rintro e w9 ⟨rfl, rfl⟩)
        | (go_at_call 41; (with_reducible refine (CD.out _).mono ?_); rintro e w9 ⟨rfl, rfl⟩)
        | (go_at_call 41; (with_reducible refine (CD2.out _).mono ?_); rintro e w9 ⟨rfl, rfl⟩)
        | (go_at_call 44; (with_reducible refine (CS.out _).mono ?_); rintro e w9 ⟨rfl, q, rfl⟩)
        | fail)
      refine bodyPost_ret (v := .tuple #[.agg #[.int .i64 3, .string (s.extract p (p + L)), .int .i64 p], .int .i64 ((p : Int) + (L : Int)), .int .i64 0]) (by simp [results, go_sem]) rfl ⟨⟨q, ((((Below.refl w.heap.size (w.drewN q)).alloc (Nat.le_refl _) _).setCell (Nat.le_refl _) _).setCell (Nat.le_refl _) _).setCell (Nat.le_refl _) _⟩, ?_⟩
      rw [HT.out]
      rw [lx_sub]
      exact HE.out _ rfl
    · have d1 : decide ((p : Int) + 1 < (s.size : Int)) = false := decide_eq_false (by omega)
      clear hsz
      go_enter Tryd.func24, Tryd.ntmps24
      go_wp2_with (first
        | (go_at_call 39; (with_reducible refine (CL.out _).mono ?_); rintro e w9 ⟨rfl, rfl⟩)
        | (go_at_call 41; (with_reducible refine (CD.out _).mono ?_); rintro e w9 ⟨rfl, rfl⟩)
        | (go_at_call 41; (with_reducible refine (CD2.out _).mono ?_); rintro e w9 ⟨rfl, rfl⟩)
        | (go_at_call 44; (with_reducible refine (CS.out _).mono ?_); rintro e w9 ⟨rfl, q, rfl⟩)
        | fail)
      refine bodyPost_ret (v := .tuple #[.agg #[.int .i64 3, .string (s.extract p (p + L)), .int .i64 p], .int .i64 ((p : Int) + (L : Int)), .int .i64 0]) (by simp [results, go_sem]) rfl ⟨⟨q, ((((Below.refl w.heap.size (w.drewN q)).alloc (Nat.le_refl _) _).setCell (Nat.le_refl _) _).setCell (Nat.le_refl _) _).setCell (Nat.le_refl _) _⟩, ?_⟩
      rw [HT.out]
      rw [lx_sub]
      exact HE.out _ rfl
    · have i1 : (p : Int) + 1 < (s.size : Int) := by omega
      have cd2 : ∀ W, Calls Tryd.prog 41 #[.int .u8 s[p + 1].toNat] W fun e w' => e = .returned (.bool false) ∧ W = w' := fun W => by
        have h := refDigit_any s[p + 1].toNat W
        rw [show isDig (s[p + 1].toNat : Int) = false from hd2] at h
        exact h
      have CD2 := Lib.hid cd2
      clear cd2 hd2
      go_enter Tryd.func24, Tryd.ntmps24
      go_wp2_with (first
        | (go_at_call 39; (with_reducible refine (CL.out _).mono ?_); rintro e w9 ⟨rfl, rfl⟩)
        | (go_at_call 41; (with_reducible refine (CD.out _).mono ?_); rintro e w9 ⟨rfl, rfl⟩)
        | (go_at_call 41; (with_reducible refine (CD2.out _).mono ?_); rintro e w9 ⟨rfl, rfl⟩)
        | (go_at_call 44; (with_reducible refine (CS.out _).mono ?_); rintro e w9 ⟨rfl, q, rfl⟩)
        | fail)
      refine bodyPost_ret (v := .tuple #[.agg #[.int .i64 3, .string (s.extract p (p + L)), .int .i64 p], .int .i64 ((p : Int) + (L : Int)), .int .i64 0]) (by simp [results, go_sem]) rfl ⟨⟨q, ((((Below.refl w.heap.size (w.drewN q)).alloc (Nat.le_refl _) _).setCell (Nat.le_refl _) _).setCell (Nat.le_refl _) _).setCell (Nat.le_refl _) _⟩, ?_⟩
      rw [HT.out]
      rw [lx_sub]
      exact HE.out _ rfl
end Go.Proofs.YtifinfmdjbglhaaDoor
