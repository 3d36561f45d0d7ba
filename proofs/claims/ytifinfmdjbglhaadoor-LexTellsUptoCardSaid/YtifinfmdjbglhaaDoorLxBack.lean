/- Plain laws on tokens: a quote of any string is read back; what is written is read back; names and keywords are single tokens. -/
import Derived.Test.YtifinfmdjbglhaaDoorLxLaws
namespace Go.Proofs.YtifinfmdjbglhaaDoor
open Go.RowKit

theorem hexV_hexD (n : Nat) (h : n < 16) : hexV (hexD n) = some n := by
  have : n = 0 ∨ n = 1 ∨ n = 2 ∨ n = 3 ∨ n = 4 ∨ n = 5 ∨ n = 6 ∨ n = 7 ∨ n = 8 ∨ n = 9 ∨ n = 10 ∨ n = 11 ∨ n = 12 ∨ n = 13 ∨ n = 14 ∨ n = 15 := by omega
  rcases this with h | h | h | h | h | h | h | h | h | h | h | h | h | h | h | h <;> subst h <;> rfl
theorem hexD_print (n : Nat) (h : n < 16) : 32 ≤ (hexD n).toNat ∧ (hexD n).toNat ≤ 126 := by
  have : n = 0 ∨ n = 1 ∨ n = 2 ∨ n = 3 ∨ n = 4 ∨ n = 5 ∨ n = 6 ∨ n = 7 ∨ n = 8 ∨ n = 9 ∨ n = 10 ∨ n = 11 ∨ n = 12 ∨ n = 13 ∨ n = 14 ∨ n = 15 := by omega
  rcases this with h | h | h | h | h | h | h | h | h | h | h | h | h | h | h | h <;> subst h <;> decide
theorem byte_back (c : UInt8) : UInt8.ofNat (16 * (c.toNat / 16) + c.toNat % 16) = c := by
  rw [Nat.div_add_mod]
  exact UInt8.ofNat_toNat
theorem quote_hex (a b : Nat) (ha : a < 16) (hb : b < 16) (r : Str) : quoteS (92 :: 120 :: hexD a :: hexD b :: r) = (quoteS r).map fun p => (UInt8.ofNat (16 * a + b) :: p.1, p.2) := by
  rw [quoteS.eq_def]
  dsimp only
  rw [hexV_hexD a ha, hexV_hexD b hb]
  rfl
theorem quote_back (r : Str) : ∀ v : Str, quoteS (escS v ++ 34 :: r) = some (v, r)
  | [] => by
    show quoteS (34 :: r) = _
    rw [quoteS.eq_def]
    rfl
  | c :: v => by
    have ih := quote_back r v
    have e : escS (c :: v) = escB c ++ escS v := rfl
    rw [e, List.append_assoc]
    unfold escB
    split
    · rename_i h
      rw [List.cons_append, List.cons_append, List.nil_append, quoteS.eq_def]
      dsimp only
      rw [h, ih]
      rfl
    · split
      · rename_i h
        have hc : c = 10 := by simpa using h
        subst hc
        rw [List.cons_append, List.cons_append, List.nil_append, quoteS.eq_def]
        dsimp only
        rw [ih]
        rfl
      · split
        · have h16 : c.toNat < 256 := c.toNat_lt
          rw [show ([92, 120, hexD (c.toNat / 16), hexD (c.toNat % 16)] : Str) ++ (escS v ++ 34 :: r) = 92 :: 120 :: hexD (c.toNat / 16) :: hexD (c.toNat % 16) :: (escS v ++ 34 :: r) from rfl,
            quote_hex _ _ (by omega) (by omega), ih, byte_back]
          rfl
        · rename_i h1 h2 h3
          simp only [Bool.or_eq_true, beq_iff_eq, not_or] at h1
          have e1 : (c == 34) = false := by simp [h1.1]
          have e2 : (c != 92) = true := by simp [h1.2]
          have e3 : (decide (c.toNat < 32) || decide (126 < c.toNat)) = false := by simpa using h3
          rw [List.cons_append, List.nil_append, quoteS.eq_def]
          dsimp only
          rw [e1, e2, e3, ih]
          rfl
theorem esc_print : ∀ v : Str, ∀ c ∈ escS v, 32 ≤ c.toNat ∧ c.toNat ≤ 126
  | [], _, h => by cases h
  | d :: v, c, h => by
    have e : escS (d :: v) = escB d ++ escS v := rfl
    rw [e] at h
    rcases List.mem_append.1 h with h | h
    · unfold escB at h
      split at h
      · rename_i hd
        simp only [Bool.or_eq_true, beq_iff_eq] at hd
        simp only [List.mem_cons, List.not_mem_nil, or_false] at h
        rcases h with rfl | rfl
        · decide
        · rcases hd with rfl | rfl <;> decide
      · split at h
        · simp only [List.mem_cons, List.not_mem_nil, or_false] at h
          rcases h with rfl | rfl <;> decide
        · split at h
          · have h16 : d.toNat < 256 := d.toNat_lt
            simp only [List.mem_cons, List.not_mem_nil, or_false] at h
            rcases h with rfl | rfl | rfl | rfl
            · decide
            · decide
            · exact hexD_print _ (by omega)
            · exact hexD_print _ (by omega)
          · rename_i h3
            rw [List.mem_singleton] at h
            subst h
            simp only [Bool.or_eq_true, decide_eq_true_eq, not_or] at h3
            omega
    · exact esc_print v c h
theorem esc_len : ∀ v : Str, v.length ≤ (escS v).length ∧ (escS v).length ≤ 4 * v.length
  | [] => by simp [escS]
  | d :: v => by
    have e : escS (d :: v) = escB d ++ escS v := rfl
    have ih := esc_len v
    have h1 : 1 ≤ (escB d).length ∧ (escB d).length ≤ 4 := by
      unfold escB
      split
      · simp
      · split
        · simp
        · split <;> simp
    rw [e, List.length_append, List.length_cons]
    omega
theorem quoted_print (v : Str) : ∀ c ∈ quotedS v, 32 ≤ c.toNat ∧ c.toNat ≤ 126 := by
  intro c h
  unfold quotedS at h
  rcases List.mem_cons.1 h with rfl | h
  · decide
  · rcases List.mem_append.1 h with h | h
    · exact esc_print v c h
    · rw [List.mem_singleton] at h; subst h; decide
theorem quoted_len (v : Str) : v.length + 2 ≤ (quotedS v).length ∧ (quotedS v).length ≤ 4 * v.length + 2 := by
  have := esc_len v
  unfold quotedS
  simp only [List.length_cons, List.length_append, List.length_nil]
  omega

theorem tok1_quote (after : Bool) (v r : Str) : tok1 after (quotedS v ++ r) = .ok (2, v, r) := by
  unfold quotedS
  rw [List.cons_append, List.append_assoc, List.singleton_append]
  unfold tok1
  dsimp only
  rw [quote_back]
  cases after <;> rfl
/-- A quote by itself. -/
theorem tokens_quote (v : Str) (h : v.length ≤ 2000) : tokensS (quotedS v) = .ok [⟨2, v, 0⟩] := by
  have hl := quoted_len v
  unfold tokensS
  rw [if_neg (by omega)]
  have e : quotedS v = 34 :: (escS v ++ [34]) := rfl
  have h1 := tok1_quote false v []
  rw [List.append_nil] at h1
  obtain ⟨n, hn⟩ : ∃ n, n = (quotedS v).length := ⟨_, rfl⟩
  have hn2 : n = (escS v ++ [34]).length + 1 := by rw [hn, e]; rfl
  rw [← hn, lexF, e, skip_stay (by rfl) (by rfl)]
  dsimp only
  rw [← e, h1]
  dsimp only
  rw [show lexF n n (endsT 2 v) [] = .ok [] from by cases n <;> rfl, ← hn2, Nat.sub_self]

/-- Nothing follows, or a byte at which a token stops. -/
def Stops (r : Str) : Prop := r = [] ∨ ∃ z u, r = z :: u ∧ stopB z = true
theorem take_all {p : UInt8 → Bool} : ∀ {s : Str}, s.all p = true → s.takeWhile p = s
  | [], _ => rfl
  | c :: s, h => by
    rw [List.all_cons, Bool.and_eq_true] at h
    rw [List.takeWhile_cons_of_pos h.1, take_all h.2]
theorem drop_all {p : UInt8 → Bool} : ∀ {s : Str}, s.all p = true → s.dropWhile p = []
  | [], _ => rfl
  | c :: s, h => by
    rw [List.all_cons, Bool.and_eq_true] at h
    rw [List.dropWhile_cons_of_pos h.1, drop_all h.2]
theorem take_stops {p : UInt8 → Bool} (hp : ∀ z, stopB z = true → p z = false) {s r : Str} (h : s.all p = true) (hr : Stops r) : (s ++ r).takeWhile p = s := by
  rcases hr with rfl | ⟨z, u, rfl, hz⟩
  · rw [List.append_nil, take_all h]
  · rw [take_app (hp z hz), take_all h]
theorem drop_stops {p : UInt8 → Bool} (hp : ∀ z, stopB z = true → p z = false) {s r : Str} (h : s.all p = true) (hr : Stops r) : (s ++ r).dropWhile p = r := by
  rcases hr with rfl | ⟨z, u, rfl, hz⟩
  · rw [List.append_nil, drop_all h]
  · rw [drop_app (hp z hz), drop_all h]; rfl
theorem ok_stop (z : UInt8) (h : stopB z = true) : okB z = false := (stop_parts h).1
theorem dig_stop (z : UInt8) (h : stopB z = true) : digB z = false := (stop_parts h).2.1

theorem tok1_word {t r : Str} (after : Bool) (h1 : 1 ≤ t.length) (h2 : letB (t.getD 0 0) = true) (h3 : t.all okB = true) (hr : Stops r) : tok1 after (t ++ r) = .ok (0, t, r) := by
  cases t with
  | nil => simp at h1
  | cons c t =>
    have e1 := take_stops (p := okB) ok_stop h3 hr
    have e2 := drop_stops (p := okB) ok_stop h3 hr
    rw [List.cons_append] at e1 e2 ⊢
    have hc : letB c = true := h2
    unfold tok1
    dsimp only
    rw [if_pos hc, e1, e2]
theorem numeral_all {t : Str} (h : numeral t = true) : ∃ c d, t = c :: d ∧ d.all digB = true ∧ (digB c = true ∨ (c = 45 ∧ ∃ e d', d = e :: d' ∧ digB e = true)) := by
  unfold numeral at h
  cases t with
  | nil => simp at h
  | cons c d =>
    by_cases hc : c = 45
    · subst hc
      simp only [List.head?_cons, beq_self_eq_true, if_true, List.tail_cons, Bool.and_eq_true, decide_eq_true_eq] at h
      refine ⟨45, d, rfl, h.1.2, .inr ⟨rfl, ?_⟩⟩
      cases d with
      | nil => simp at h
      | cons e d' =>
        have := h.1.2
        rw [List.all_cons, Bool.and_eq_true] at this
        exact ⟨e, d', rfl, this.1⟩
    · have hne : ((c :: d).head? == some 45) = false := by simp [hc]
      rw [hne] at h
      simp only [Bool.false_eq_true, if_false, Bool.and_eq_true, decide_eq_true_eq] at h
      have := h.1.2
      rw [List.all_cons, Bool.and_eq_true] at this
      exact ⟨c, d, rfl, this.2, .inl this.1⟩
theorem let_dig {c : UInt8} (h : digB c = true) : letB c = false := by
  unfold digB isDig at h
  unfold letB isLet
  simp only [Bool.and_eq_true, decide_eq_true_eq] at h
  rw [Bool.and_eq_false_iff]
  left
  simp
  omega
theorem tok1_number {t r : Str} {after : Bool} (h : numeral t = true) (ha : (t.head? == some 45 && after) = false) (hr : Stops r) : tok1 after (t ++ r) = .ok (1, t, r) := by
  obtain ⟨c, d, rfl, hd, hc⟩ := numeral_all h
  have e1 := take_stops (p := digB) dig_stop hd hr
  have e2 := drop_stops (p := digB) dig_stop hd hr
  have hl : letB c = false := by
    rcases hc with hc | ⟨rfl, _⟩
    · exact let_dig hc
    · rfl
  have hg : (digB c || (c == 45 && !after && nextDig (d ++ r))) = true := by
    rcases hc with hc | ⟨rfl, e, d', rfl, he⟩
    · rw [hc]; rfl
    · have : after = false := by simpa using ha
      subst this
      show (digB 45 || (true && true && digB e)) = true
      rw [he]; rfl
  rw [List.cons_append]
  unfold tok1
  dsimp only
  rw [if_neg (by rw [hl]; simp), if_pos hg, e1, e2, if_pos h]
theorem sign_heads : ∀ c ∈ signs, letB c = false ∧ digB c = false ∧ (c == 34) = false ∧ blankB c = false ∧ (c == 35) = false := by decide
theorem tok1_sign {t r : Str} {after : Bool} (h1 : 1 ≤ t.length) (h : signLen t = t.length) (hr : Stops r) : tok1 after (t ++ r) = .ok (3, t, r) := by
  have hform : (∃ c, t = [c] ∧ signs.contains c = true) ∨ t = [61, 61] ∨ t = [45, 62] := by
    match t, h1, h with
    | [c], _, h =>
      left
      refine ⟨c, rfl, ?_⟩
      have h' : (if signs.contains c then 1 else 0) = 1 := h
      split at h'
      · assumption
      · cases h'
    | c :: d :: u, _, h =>
      right
      have h' : (if (c == 61 && d == 61) || (c == 45 && d == 62) then 2 else if signs.contains c then 1 else 0) = u.length + 1 + 1 := h
      split at h'
      · rename_i hc
        have hu : u = [] := List.eq_nil_of_length_eq_zero (by omega)
        subst hu
        simp only [Bool.or_eq_true, Bool.and_eq_true, beq_iff_eq] at hc
        rcases hc with ⟨rfl, rfl⟩ | ⟨rfl, rfl⟩
        · exact .inl rfl
        · exact .inr rfl
      · split at h' <;> omega
  rcases hform with ⟨c, rfl, hc⟩ | rfl | rfl
  · obtain ⟨s1, s2, s3, _, _⟩ := sign_heads c (by simpa using hc)
    have hn : nextDig r = false := by
      rcases hr with rfl | ⟨z, u, rfl, hz⟩
      · rfl
      · exact dig_stop z hz
    have hsl : signLen (c :: r) = 1 := by
      rcases hr with rfl | ⟨z, u, rfl, hz⟩
      · exact h
      · have hz2 := stop_parts hz
        have := sign_app hz2.2.2.1 hz2.2.2.2 u [c] (by simp)
        rw [show ([c] : Str) ++ z :: u = c :: z :: u from rfl] at this
        rw [this]; exact h
    rw [List.singleton_append]
    unfold tok1
    dsimp only
    rw [if_neg (by rw [s1]; simp), if_neg (by rw [s2, hn]; simp), if_neg (by rw [s3]; simp), hsl, if_neg (by omega)]
    rfl
  · rw [show ([61, 61] : Str) ++ r = 61 :: 61 :: r from rfl]
    unfold tok1
    dsimp only
    rw [show signLen (61 :: 61 :: r) = 2 from rfl]
    cases after <;> rfl
  · rw [show ([45, 62] : Str) ++ r = 45 :: 62 :: r from rfl]
    unfold tok1
    dsimp only
    rw [show signLen (45 :: 62 :: r) = 2 from rfl]
    cases after <;> rfl

/-- What is written of a token is read as that token. -/
theorem tok1_render {after : Bool} {k : Nat} {t r : Str} (h : mayHere after k t = true) (hr : Stops r) : tok1 after (renderT k t ++ r) = .ok (k, t, r) := by
  unfold mayHere at h
  rw [Bool.and_eq_true] at h
  obtain ⟨hm, hn⟩ := h
  unfold tokMay at hm
  unfold renderT
  by_cases k0 : k = 0
  · subst k0
    simp only [beq_self_eq_true, if_true, Bool.and_eq_true, decide_eq_true_eq] at hm
    exact tok1_word after hm.1.1 hm.1.2 hm.2 hr
  · by_cases k1 : k = 1
    · subst k1
      have hm' : numeral t = true := hm
      exact tok1_number hm' (by rw [Bool.not_eq_true'] at hn; exact hn) hr
    · by_cases k2 : k = 2
      · subst k2
        exact tok1_quote after t r
      · have hk0 : (k == 0) = false := by simp [k0]
        have hk1 : (k == 1) = false := by simp [k1]
        have hk2 : (k == 2) = false := by simp [k2]
        rw [hk0, hk1, hk2] at hm
        simp only [Bool.false_eq_true, if_false, Bool.and_eq_true, beq_iff_eq, decide_eq_true_eq] at hm
        obtain ⟨⟨rfl, h1⟩, h2⟩ := hm
        exact tok1_sign h1 h2 hr
end Go.Proofs.YtifinfmdjbglhaaDoor
