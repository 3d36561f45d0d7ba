/- Plain laws on tokens: what is written is read back; the tokens of a text can be written, and are read back behind and ahead of white space; names and keywords. -/
import Derived.Test.YtifinfmdjbglhaaDoorLxBack
namespace Go.Proofs.YtifinfmdjbglhaaDoor
open Go.RowKit

def Tok.bare (t : Tok) : Nat × Str := (t.kind, t.text)
theorem render_head {k : Nat} {t : Str} (h : tokMay k t = true) : ∃ c r, renderT k t = c :: r ∧ blankB c = false ∧ (c == 35) = false := by
  unfold tokMay at h
  unfold renderT
  by_cases k2 : k = 2
  · subst k2
    exact ⟨34, escS t ++ [34], rfl, rfl, rfl⟩
  · have hk2 : (k == 2) = false := by simp [k2]
    rw [hk2] at h ⊢
    simp only [Bool.false_eq_true, if_false] at h ⊢
    by_cases k0 : k = 0
    · subst k0
      simp only [beq_self_eq_true, if_true, Bool.and_eq_true, decide_eq_true_eq] at h
      obtain ⟨⟨h1, h2⟩, _⟩ := h
      cases t with
      | nil => simp at h1
      | cons c r =>
        have hc : letB c = true := h2
        refine ⟨c, r, rfl, ?_, ?_⟩
        · unfold letB isLet at hc
          unfold blankB
          simp only [Bool.and_eq_true, decide_eq_true_eq] at hc
          simp only [Bool.or_eq_false_iff, beq_eq_false_iff_ne]
          refine ⟨⟨?_, ?_⟩, ?_⟩ <;> (rintro rfl; revert hc; decide)
        · rw [beq_eq_false_iff_ne]; rintro rfl; revert hc; decide
    · have hk0 : (k == 0) = false := by simp [k0]
      rw [hk0] at h
      simp only [Bool.false_eq_true, if_false] at h
      by_cases k1 : k = 1
      · subst k1
        obtain ⟨c, d, rfl, _, hc⟩ := numeral_all (show numeral t = true from h)
        refine ⟨c, d, rfl, ?_⟩
        rcases hc with hc | ⟨rfl, _⟩
        · constructor
          · unfold digB isDig at hc
            unfold blankB
            simp only [Bool.and_eq_true, decide_eq_true_eq] at hc
            simp only [Bool.or_eq_false_iff, beq_eq_false_iff_ne]
            refine ⟨⟨?_, ?_⟩, ?_⟩ <;> (rintro rfl; revert hc; decide)
          · rw [beq_eq_false_iff_ne]; rintro rfl; revert hc; decide
        · exact ⟨rfl, rfl⟩
      · have hk1 : (k == 1) = false := by simp [k1]
        rw [hk1] at h
        simp only [Bool.false_eq_true, if_false, Bool.and_eq_true, beq_iff_eq, decide_eq_true_eq] at h
        obtain ⟨⟨rfl, h1⟩, h2⟩ := h
        match t, h1, h2 with
        | [c], _, h2 =>
          have h' : (if signs.contains c then 1 else 0) = 1 := h2
          split at h'
          · rename_i hc
            have := sign_heads c (by simpa using hc)
            exact ⟨c, [], rfl, this.2.2.2.1, this.2.2.2.2⟩
          · cases h'
        | c :: d :: u, _, h2 =>
          have h' : (if (c == 61 && d == 61) || (c == 45 && d == 62) then 2 else if signs.contains c then 1 else 0) = u.length + 1 + 1 := h2
          split at h'
          · rename_i hc
            simp only [Bool.or_eq_true, Bool.and_eq_true, beq_iff_eq] at hc
            refine ⟨c, d :: u, rfl, ?_⟩
            rcases hc with ⟨rfl, _⟩ | ⟨rfl, _⟩ <;> exact ⟨rfl, rfl⟩
          · split at h' <;> omega
theorem lexF_blank2 (n f : Nat) (after : Bool) (s : Str) : lexF n (f + 1) after (32 :: s) = lexF n (f + 1) after s := by
  rw [lexF, lexF]; rfl
/-- What is written is read back, also with white space behind it. -/
theorem lexF_back (n : Nat) (tail : Str) (ht : Stops tail) (hs : skipF false tail = []) : ∀ (l : List (Nat × Str)) (after : Bool) (r : Str) (f : Nat), writeR after l = some r → (r ++ tail).length < f →
    ∃ l', lexF n f after (r ++ tail) = .ok l' ∧ l'.map Tok.bare = l
  | [], after, r, f, h, hf => by
    unfold writeR at h
    injection h with h
    subst h
    obtain ⟨g, rfl⟩ : ∃ g, f = g + 1 := ⟨f - 1, by omega⟩
    refine ⟨[], ?_, rfl⟩
    rw [List.nil_append, lexF, hs]
  | (k, t) :: l, after, r, f, h, hf => by
    unfold writeR at h
    split at h
    · rename_i hm
      obtain ⟨r', hr', rfl⟩ := Option.map_eq_some_iff.1 h
      obtain ⟨g, rfl⟩ : ∃ g, f = g + 1 := ⟨f - 1, by omega⟩
      have hmay : tokMay k t = true := by unfold mayHere at hm; rw [Bool.and_eq_true] at hm; exact hm.1
      obtain ⟨c, u, hcu, hb, h35⟩ := render_head hmay
      have hst : Stops (r' ++ tail) := by
        cases l with
        | nil =>
          unfold writeR at hr'
          injection hr' with hr'
          subst hr'
          exact ht
        | cons p l2 =>
          obtain ⟨k2, t2⟩ := p
          unfold writeR at hr'
          split at hr'
          · obtain ⟨q, _, rfl⟩ := Option.map_eq_some_iff.1 hr'
            exact .inr ⟨32, _, rfl, rfl⟩
          · cases hr'
      have h1 := tok1_render hm hst
      have hlen : (r' ++ tail).length < g := by
        simp only [List.cons_append, List.length_cons, List.length_append] at hf ⊢
        omega
      obtain ⟨l', hl', hmap⟩ := lexF_back n tail ht hs l (endsT k t) r' g hr' hlen
      rw [List.cons_append, lexF_blank2, List.append_assoc, lexF]
      rw [hcu] at h1 ⊢
      rw [List.cons_append] at h1 ⊢
      rw [skip_stay hb h35]
      dsimp only
      rw [h1]
      dsimp only
      rw [hl']
      exact ⟨_, rfl, by rw [List.map_cons, hmap]; rfl⟩
    · cases h

theorem sign_take : ∀ (s : Str), signLen s ≠ 0 → signLen (s.take (signLen s)) = signLen s ∧ (s.take (signLen s)).length = signLen s
  | [], h => absurd rfl h
  | [c], h => by
    have e : signLen [c] = if signs.contains c then 1 else 0 := rfl
    have h1 : signLen [c] = 1 := by
      rw [e] at h ⊢
      split
      · rfl
      · rename_i hc; rw [if_neg hc] at h; exact absurd rfl h
    rw [h1]
    exact ⟨h1, rfl⟩
  | c :: d :: r, h => by
    have e : signLen (c :: d :: r) = if (c == 61 && d == 61) || (c == 45 && d == 62) then 2 else if signs.contains c then 1 else 0 := rfl
    by_cases hc : ((c == 61 && d == 61) || (c == 45 && d == 62)) = true
    · rw [if_pos hc] at e
      rw [e]
      refine ⟨?_, rfl⟩
      show (if (c == 61 && d == 61) || (c == 45 && d == 62) then 2 else if signs.contains c then 1 else 0) = 2
      rw [if_pos hc]
    · rw [if_neg hc] at e
      by_cases hs : signs.contains c = true
      · rw [if_pos hs] at e
        rw [e]
        refine ⟨?_, rfl⟩
        show (if signs.contains c then 1 else 0) = 1
        rw [if_pos hs]
      · rw [if_neg hs] at e
        exact absurd e h
theorem all_take {p : UInt8 → Bool} : ∀ s : Str, (s.takeWhile p).all p = true
  | [] => rfl
  | c :: s => by
    by_cases hc : p c = true
    · rw [List.takeWhile_cons_of_pos hc, List.all_cons, hc, all_take s]; rfl
    · rw [List.takeWhile_cons_of_neg hc]; rfl
/-- A token of a text can be written where it stands. -/
theorem tok1_may {after : Bool} {c : UInt8} {r : Str} {k : Nat} {t u : Str} (h : tok1 after (c :: r) = .ok (k, t, u)) : mayHere after k t = true := by
  unfold tok1 at h
  dsimp only at h
  unfold mayHere tokMay
  split at h
  · rename_i hl
    injection h with h
    simp only [Prod.mk.injEq] at h
    obtain ⟨rfl, rfl, rfl⟩ := h
    have hok : okB c = true := by unfold okB; unfold letB at hl; rw [hl]; rfl
    have ha := all_take (p := okB) (c :: r)
    rw [List.takeWhile_cons_of_pos hok] at ha ⊢
    show (decide (1 ≤ (c :: r.takeWhile okB).length) && letB c && (c :: r.takeWhile okB).all okB && !(false && _ && after)) = true
    rw [hl, ha, decide_eq_true (by simp)]
    rfl
  · split at h
    · rename_i hc
      split at h
      · rename_i hn
        injection h with h
        simp only [Prod.mk.injEq] at h
        obtain ⟨rfl, rfl, rfl⟩ := h
        show (numeral (c :: r.takeWhile digB) && !(true && (some c == some 45) && after)) = true
        rw [hn]
        by_cases h45 : c = 45
        · subst h45
          have : after = false := by
            simp only [Bool.or_eq_true, Bool.and_eq_true] at hc
            rcases hc with hc | hc
            · exact absurd hc (by decide)
            · simpa using hc.1.2
          rw [this]; rfl
        · have : ((some c : Option UInt8) == some 45) = false := by simp [h45]
          rw [this]; rfl
      · cases h
    · split at h
      · split at h
        · injection h with h
          simp only [Prod.mk.injEq] at h
          obtain ⟨rfl, rfl, rfl⟩ := h
          rfl
        · cases h
      · split at h
        · cases h
        · rename_i h0
          injection h with h
          simp only [Prod.mk.injEq] at h
          obtain ⟨rfl, rfl, rfl⟩ := h
          have hs := sign_take (c :: r) h0
          show (true && decide (1 ≤ ((c :: r).take (signLen (c :: r))).length) && (signLen ((c :: r).take (signLen (c :: r))) == ((c :: r).take (signLen (c :: r))).length) && !(false && _ && after)) = true
          rw [hs.1, hs.2, decide_eq_true (by omega)]
          simp
theorem plain_esc {c : UInt8} (h1 : (c == 34) = false) (h2 : (decide (c.toNat < 32) || decide (126 < c.toNat)) = false) (h3 : (c != 92) = true) : escB c = [c] := by
  unfold escB
  have h4 : (c == 92) = false := by simpa using h3
  have h5 : (c == 10) = false := by
    rw [beq_eq_false_iff_ne]
    rintro rfl
    revert h2; decide
  rw [h1, h4, h5, h2]
  rfl
theorem esc_four (c : UInt8) : (escB c).length ≤ 4 := by
  unfold escB
  split
  · simp
  · split
    · simp
    · split <;> simp
/-- A quote is written in no more bytes than it was read from. -/
theorem quote_shrinks : ∀ (s : Str) (p : Str × Str), quoteS s = some p → (escS p.1).length + p.2.length + 1 ≤ s.length
  | [], p, h => by simp [quoteS] at h
  | c :: s, p, h => by
    unfold quoteS at h
    split at h
    · injection h with h; subst h; simp [escS]
    · rename_i h1
      split at h
      · cases h
      · rename_i h2
        split at h
        · rename_i h3
          obtain ⟨q, hq, rfl⟩ := Option.map_eq_some_iff.1 h
          have := quote_shrinks s q hq
          have e : escS (c :: q.1) = escB c ++ escS q.1 := rfl
          rw [e, plain_esc (by simpa using h1) (by simpa using h2) h3]
          simp; omega
        · split at h
          · cases h
          · rename_i d t
            split at h
            · rename_i h4
              obtain ⟨q, hq, rfl⟩ := Option.map_eq_some_iff.1 h
              have := quote_shrinks t q hq
              have e : escS (d :: q.1) = escB d ++ escS q.1 := rfl
              have e2 : escB d = [92, d] := by unfold escB; rw [h4]; rfl
              rw [e, e2]
              simp; omega
            · split at h
              · obtain ⟨q, hq, rfl⟩ := Option.map_eq_some_iff.1 h
                have := quote_shrinks t q hq
                have e : escS (10 :: q.1) = [92, 110] ++ escS q.1 := rfl
                rw [e]
                simp; omega
              · split at h
                · split at h
                  · rename_i x1 x2 u
                    split at h
                    · rename_i a b _ _
                      obtain ⟨q, hq, rfl⟩ := Option.map_eq_some_iff.1 h
                      have := quote_shrinks u q hq
                      have e : escS (UInt8.ofNat (16 * a + b) :: q.1) = escB (UInt8.ofNat (16 * a + b)) ++ escS q.1 := rfl
                      have h4 := esc_four (UInt8.ofNat (16 * a + b))
                      rw [e]
                      simp only [List.length_append, List.length_cons]
                      omega
                    · cases h
                  · cases h
                · cases h
theorem tok1_shrinks {after : Bool} {c : UInt8} {r : Str} {k : Nat} {t u : Str} (h : tok1 after (c :: r) = .ok (k, t, u)) : (renderT k t).length + u.length ≤ r.length + 1 := by
  rcases tok1_form h with ⟨hk, _, he⟩ | ⟨rfl, rfl, _⟩
  · have hk2 : (k == 2) = false := by simp [hk]
    unfold renderT
    rw [hk2]
    have := congrArg List.length he
    simp at this ⊢
    omega
  · unfold tok1 at h
    have h' : (match quoteS r with
      | some p => (.ok (2, p.1, p.2) : Except Int (Nat × Str × Str))
      | none => .error 203) = .ok (2, t, u) := by
      cases after <;> exact h
    split at h'
    · rename_i p hp
      injection h' with h'
      simp only [Prod.mk.injEq] at h'
      obtain ⟨_, rfl, rfl⟩ := h'
      have := quote_shrinks r p hp
      show (quotedS p.1).length + _ ≤ _
      unfold quotedS
      simp; omega
    · cases h'
/-- The tokens of a text can be written, in at most twice its bytes. -/
theorem lexF_write (n : Nat) : ∀ (f : Nat) (after : Bool) (s : Str) (l : List Tok), lexF n f after s = .ok l → ∃ r, writeR after (l.map Tok.bare) = some r ∧ r.length ≤ 2 * s.length
  | 0, after, s, l, h => by
    rw [lexF] at h
    injection h with h
    subst h
    exact ⟨[], by simp [writeR], by simp⟩
  | f + 1, after, s, l, h => by
    rw [lexF] at h
    have hle := skip_le false s
    cases hs : skipF false s with
    | nil =>
      rw [hs] at h
      injection h with h
      subst h
      exact ⟨[], by simp [writeR], by simp⟩
    | cons c r =>
      rw [hs] at h hle
      dsimp only at h
      cases ht : tok1 after (c :: r) with
      | error e => rw [ht] at h; cases h
      | ok p =>
        obtain ⟨k, t, u⟩ := p
        rw [ht] at h
        dsimp only at h
        cases hl : lexF n f (endsT k t) u with
        | error e => rw [hl] at h; cases h
        | ok l2 =>
          rw [hl] at h
          injection h with h
          subst h
          obtain ⟨q, hq, hql⟩ := lexF_write n f (endsT k t) u l2 hl
          have hsh := tok1_shrinks ht
          have hless := tok1_less ht
          refine ⟨32 :: (renderT k t ++ q), ?_, ?_⟩
          · show writeR after ((k, t) :: l2.map Tok.bare) = _
            unfold writeR
            rw [if_pos (tok1_may ht), hq]
            rfl
          · simp only [List.length_cons, List.length_append] at hle hless ⊢
            omega
end Go.Proofs.YtifinfmdjbglhaaDoor
