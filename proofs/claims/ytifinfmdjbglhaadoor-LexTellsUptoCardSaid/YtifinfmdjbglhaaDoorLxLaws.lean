/- Plain laws on tokens: two texts with a sign between them; where tokens lie. -/
import Derived.Test.YtifinfmdjbglhaaDoorLxPlain
namespace Go.Proofs.YtifinfmdjbglhaaDoor
open Go.RowKit

/-- A byte at which words, numbers and signs stop. -/
def stopB (z : UInt8) : Bool := !okB z && !digB z && z != 61 && z != 62
theorem stop_parts {z : UInt8} (h : stopB z = true) : okB z = false ∧ digB z = false ∧ (z == 61) = false ∧ (z == 62) = false := by
  unfold stopB at h
  simp only [Bool.and_eq_true, Bool.not_eq_true', bne_iff_ne, ne_eq] at h
  exact ⟨h.1.1.1, h.1.1.2, by simpa using h.1.2, by simpa using h.2⟩

theorem skip_app (r : Str) : ∀ (b : Bool) (s : Str), skipF b (s ++ 10 :: r) = if skipF b s = [] then skipF false r else skipF b s ++ 10 :: r
  | true, [] => rfl
  | false, [] => rfl
  | true, c :: s => by
    have h1 := skip_app r false s
    have h2 := skip_app r true s
    simp only [List.cons_append, skipF]
    split
    · exact h1
    · exact h2
  | false, c :: s => by
    have h1 := skip_app r false s
    have h2 := skip_app r true s
    simp only [List.cons_append, skipF]
    split
    · exact h1
    · split
      · exact h2
      · rw [if_neg (by simp)]; rfl
theorem take_app {p : UInt8 → Bool} {z : UInt8} (hz : p z = false) (r : Str) : ∀ s : Str, (s ++ z :: r).takeWhile p = s.takeWhile p
  | [] => by simp [List.takeWhile, hz]
  | c :: s => by
    simp only [List.cons_append, List.takeWhile]
    split
    · rw [take_app hz r s]
    · rfl
theorem drop_app {p : UInt8 → Bool} {z : UInt8} (hz : p z = false) (r : Str) : ∀ s : Str, (s ++ z :: r).dropWhile p = s.dropWhile p ++ z :: r
  | [] => by simp [List.dropWhile, hz]
  | c :: s => by
    simp only [List.cons_append, List.dropWhile]
    split
    · rw [drop_app hz r s]
    · rfl
theorem next_app {z : UInt8} (hz : digB z = false) (r : Str) (s : Str) : nextDig (s ++ z :: r) = nextDig s := by
  cases s with
  | nil => exact hz
  | cons c s => rfl
theorem sign_app {z : UInt8} (h1 : (z == 61) = false) (h2 : (z == 62) = false) (r : Str) : ∀ s : Str, s ≠ [] → signLen (s ++ z :: r) = signLen s
  | [], h => absurd rfl h
  | [c], _ => by
    show (if (c == 61 && z == 61) || (c == 45 && z == 62) then 2 else if signs.contains c then 1 else 0) = if signs.contains c then 1 else 0
    rw [h1, h2]; simp
  | c :: d :: s, _ => rfl

theorem quote_app (r : Str) : ∀ s : Str, quoteS (s ++ 10 :: r) = (quoteS s).map fun p => (p.1, p.2 ++ 10 :: r)
  | [] => by
    show quoteS (10 :: r) = none
    unfold quoteS; rfl
  | c :: s => by
    have ih := quote_app r s
    rw [List.cons_append]
    unfold quoteS
    split
    · rfl
    · split
      · rfl
      · split
        · rw [ih]; cases quoteS s <;> rfl
        · match s with
          | [] => rfl
          | d :: t =>
            have ih2 := quote_app r t
            rw [List.cons_append]
            dsimp only
            split
            · rw [ih2]; cases quoteS t <;> rfl
            · split
              · rw [ih2]; cases quoteS t <;> rfl
              · split
                · match t with
                  | [] =>
                    cases r with
                    | nil => rfl
                    | cons h2 u =>
                      show (match hexV 10, hexV h2 with
                        | some a, some b => (quoteS u).map fun p => (UInt8.ofNat (16 * a + b) :: p.1, p.2)
                        | _, _ => none) = none
                      rw [show hexV 10 = none from rfl]
                  | [h1] =>
                    show (match hexV h1, hexV 10 with
                      | some a, some b => (quoteS r).map fun p => (UInt8.ofNat (16 * a + b) :: p.1, p.2)
                      | _, _ => none) = none
                    rw [show hexV 10 = none from rfl]
                    cases hexV h1 <;> rfl
                  | h1 :: h2 :: u =>
                    have ih3 := quote_app r u
                    rw [List.cons_append, List.cons_append]
                    dsimp only
                    rw [ih3]
                    cases hexV h1 <;> cases hexV h2 <;> cases quoteS u <;> rfl
                · rfl
theorem tok1_app (after : Bool) (r : Str) : ∀ s : Str, s ≠ [] → tok1 after (s ++ 10 :: r) = (tok1 after s).map fun p => (p.1, p.2.1, p.2.2 ++ 10 :: r)
  | [], h => absurd rfl h
  | c :: s, _ => by
    have e1 := take_app (p := okB) (z := 10) rfl r (c :: s)
    have e2 := drop_app (p := okB) (z := 10) rfl r (c :: s)
    have e3 := take_app (p := digB) (z := 10) rfl r s
    have e4 := drop_app (p := digB) (z := 10) rfl r s
    have e5 := next_app (z := 10) rfl r s
    have e6 := sign_app (z := 10) rfl rfl r (c :: s) (by simp)
    have e7 := quote_app r s
    have hsl := sign_le (c :: s)
    rw [List.cons_append] at e1 e2 e6
    simp only [List.cons_append, tok1, e1, e2, e3, e4, e5, e6, e7]
    split
    · rfl
    · split
      · split <;> rfl
      · split
        · cases quoteS s <;> rfl
        · split
          · rfl
          · rw [← List.cons_append, List.take_append_of_le_length hsl, List.drop_append_of_le_length hsl]
            rfl

theorem lexF_blank (n f : Nat) (after : Bool) (s : Str) : lexF n (f + 1) after (10 :: s) = lexF n (f + 1) after s := by
  rw [lexF, lexF]; rfl
/-- Two texts with a semicolon between them. -/
theorem lexF_joined (b : Str) (n : Nat) : ∀ (f : Nat) (after : Bool) (s : Str), s.length < f → s.length ≤ n →
    lexF (n + 3 + b.length) (f + 3 + b.length) after (s ++ 10 :: 59 :: 10 :: b) =
      match lexF n f after s with
      | .error e => .error e
      | .ok l =>
        match lexF (n + 3 + b.length) (b.length + 1) false b with
        | .error e => .error e
        | .ok l2 => .ok (l ++ ⟨3, [59], n + 1⟩ :: l2)
  | 0, _, s, h, _ => absurd h (Nat.not_lt_zero _)
  | f + 1, after, s, hf, hn => by
    have hle := skip_le false s
    rw [show f + 1 + 3 + b.length = (f + 3 + b.length) + 1 from by omega]
    rw [lexF, lexF, skip_app]
    cases hs : skipF false s with
    | nil =>
      rw [if_pos rfl, skip_stay (by rfl) (by rfl)]
      dsimp only
      rw [show tok1 after (59 :: 10 :: b) = .ok (3, [59], 10 :: b) from by
        simp [tok1, letB, digB, isLet, isDig, signLen, signs]]
      dsimp only
      have e1 : lexF (n + 3 + b.length) (f + 3 + b.length) (endsT 3 [59]) (10 :: b) = lexF (n + 3 + b.length) (b.length + 1) false b := by
        rw [show f + 3 + b.length = (f + 2 + b.length) + 1 from by omega, show endsT 3 [59] = false from rfl, lexF_blank]
        exact lexF_fuel _ _ _ _ _ (by omega) (by omega)
      rw [e1]
      simp only [List.length_cons]
      rw [show n + 3 + b.length - (b.length + 1 + 1) = n + 1 from by omega]
      rfl
    | cons c u =>
      rw [hs] at hle
      rw [if_neg (by simp), List.cons_append]
      dsimp only
      rw [← List.cons_append, tok1_app after _ (c :: u) (by simp)]
      have hp : n + 3 + b.length - ((u ++ 10 :: 59 :: 10 :: b).length + 1) = n - (u.length + 1) := by
        simp only [List.length_append, List.length_cons] at hle ⊢; omega
      rw [hp]
      cases ht : tok1 after (c :: u) with
      | error e => rfl
      | ok p =>
        obtain ⟨k, t, v⟩ := p
        have h2 := tok1_less ht
        have ih := lexF_joined b n f (endsT k t) v (by omega) (by omega)
        simp only [Except.map]
        rw [ih]
        cases lexF n f (endsT k t) v with
        | error e => rfl
        | ok l =>
          cases lexF (n + 3 + b.length) (b.length + 1) false b <;> rfl

def Tok.moved (d : Nat) (t : Tok) : Tok := ⟨t.kind, t.text, t.place + d⟩
/-- The same text further on. -/
theorem lexF_shift (n d : Nat) : ∀ (f : Nat) (after : Bool) (s : Str), s.length ≤ n →
    lexF (n + d) f after s = match lexF n f after s with
      | .error e => .error (e.1, e.2 + d)
      | .ok l => .ok (l.map (Tok.moved d))
  | 0, _, _, _ => rfl
  | f + 1, after, s, hn => by
    have hle := skip_le false s
    rw [lexF, lexF]
    cases hs : skipF false s with
    | nil => rfl
    | cons c u =>
      rw [hs] at hle
      dsimp only
      have hp : n + d - (u.length + 1) = n - (u.length + 1) + d := by simp only [List.length_cons] at hle; omega
      rw [hp]
      cases ht : tok1 after (c :: u) with
      | error e => rfl
      | ok p =>
        obtain ⟨k, t, v⟩ := p
        have h2 := tok1_less ht
        dsimp only
        rw [lexF_shift n d f (endsT k t) v (by omega)]
        cases lexF n f (endsT k t) v <;> rfl

theorem skip_suffix : ∀ (b : Bool) (s : Str), skipF b s <:+ s
  | true, [] => List.suffix_refl _
  | false, [] => List.suffix_refl _
  | true, c :: s => by
    unfold skipF
    split
    · exact (skip_suffix false s).trans (List.suffix_cons _ _)
    · exact (skip_suffix true s).trans (List.suffix_cons _ _)
  | false, c :: s => by
    unfold skipF
    split
    · exact (skip_suffix false s).trans (List.suffix_cons _ _)
    · split
      · exact (skip_suffix true s).trans (List.suffix_cons _ _)
      · exact List.suffix_refl _
theorem quote_suffix : ∀ (s : Str) (p : Str × Str), quoteS s = some p → p.2 <:+ s
  | [], p, h => by simp [quoteS] at h
  | c :: s, p, h => by
    unfold quoteS at h
    split at h
    · injection h with h; subst h; exact List.suffix_cons _ _
    · split at h
      · cases h
      · split at h
        · obtain ⟨q, hq, rfl⟩ := Option.map_eq_some_iff.1 h
          exact (quote_suffix s q hq).trans (List.suffix_cons _ _)
        · split at h
          · cases h
          · rename_i d t
            have hdt : t <:+ c :: d :: t := (List.suffix_cons _ _).trans (List.suffix_cons _ _)
            split at h
            · obtain ⟨q, hq, rfl⟩ := Option.map_eq_some_iff.1 h
              exact (quote_suffix t q hq).trans hdt
            · split at h
              · obtain ⟨q, hq, rfl⟩ := Option.map_eq_some_iff.1 h
                exact (quote_suffix t q hq).trans hdt
              · split at h
                · split at h
                  · rename_i h1 h2 u
                    split at h
                    · obtain ⟨q, hq, rfl⟩ := Option.map_eq_some_iff.1 h
                      exact (quote_suffix u q hq).trans (((List.suffix_cons _ _).trans (List.suffix_cons _ _)).trans hdt)
                    · cases h
                  · cases h
                · cases h
/-- What a token is of the text that it begins. -/
theorem tok1_form {after : Bool} {c : UInt8} {r : Str} {k : Nat} {t u : Str} (h : tok1 after (c :: r) = .ok (k, t, u)) :
    (k ≠ 2 ∧ t ≠ [] ∧ c :: r = t ++ u) ∨ (k = 2 ∧ c = 34 ∧ u <:+ r) := by
  unfold tok1 at h
  dsimp only at h
  split at h
  · rename_i hl
    injection h with h
    simp only [Prod.mk.injEq] at h
    obtain ⟨rfl, rfl, rfl⟩ := h
    have hok : okB c = true := by unfold okB; unfold letB at hl; rw [hl]; rfl
    exact .inl ⟨by omega, by rw [List.takeWhile_cons_of_pos hok]; simp, (List.takeWhile_append_dropWhile).symm⟩
  · split at h
    · split at h
      · injection h with h
        simp only [Prod.mk.injEq] at h
        obtain ⟨rfl, rfl, rfl⟩ := h
        exact .inl ⟨by omega, by simp, by rw [List.cons_append, List.takeWhile_append_dropWhile]⟩
      · cases h
    · split at h
      · rename_i hc
        split at h
        · rename_i p hp
          injection h with h
          simp only [Prod.mk.injEq] at h
          obtain ⟨rfl, rfl, rfl⟩ := h
          exact .inr ⟨rfl, by simpa using hc, quote_suffix r p hp⟩
        · cases h
      · split at h
        · cases h
        · rename_i h0
          injection h with h
          simp only [Prod.mk.injEq] at h
          obtain ⟨rfl, rfl, rfl⟩ := h
          refine .inl ⟨by omega, ?_, (List.take_append_drop _ _).symm⟩
          intro e
          have := congrArg List.length e
          rw [List.length_take] at this
          simp only [List.length_cons, List.length_nil] at this
          omega

/-- Each token lies at its place, none over another, and (but for quotes) its text stands there. -/
def placesOk (text : Str) : Nat → List Tok → Prop
  | _, [] => True
  | e, t :: l => e ≤ t.place ∧ t.place < text.length ∧
    if t.kind = 2 then text.getD t.place 0 = 34 ∧ placesOk text (t.place + 1) l
    else t.text ≠ [] ∧ t.text <+: text.drop t.place ∧ placesOk text (t.place + t.text.length) l
theorem places_less {text : Str} {e e' : Nat} {l : List Tok} (h : placesOk text e l) (he : e' ≤ e) : placesOk text e' l := by
  cases l with
  | nil => trivial
  | cons t l => exact ⟨Nat.le_trans he h.1, h.2⟩
theorem suffix_drop {s text : Str} (h : s <:+ text) : text.drop (text.length - s.length) = s := by
  obtain ⟨p, rfl⟩ := h
  rw [List.length_append, show p.length + s.length - s.length = p.length from by omega, List.drop_left]
theorem lexF_places (text : Str) : ∀ (f : Nat) (after : Bool) (s : Str) (l : List Tok), s <:+ text → lexF text.length f after s = .ok l → placesOk text (text.length - s.length) l
  | 0, _, _, l, _, h => by
    rw [lexF] at h
    injection h with h
    subst h
    trivial
  | f + 1, after, s, l, hsuf, h => by
    rw [lexF] at h
    cases hs : skipF false s with
    | nil => rw [hs] at h; injection h with h; subst h; trivial
    | cons c r =>
      rw [hs] at h
      have hsx := skip_suffix false s
      rw [hs] at hsx
      have hc := hsx.trans hsuf
      have hle := hsx.length_le
      have hle2 := hc.length_le
      simp only [List.length_cons] at hle hle2
      dsimp only at h
      cases ht : tok1 after (c :: r) with
      | error e => rw [ht] at h; cases h
      | ok p =>
        obtain ⟨k, t, u⟩ := p
        rw [ht] at h
        dsimp only at h
        have hd := suffix_drop hc
        simp only [List.length_cons] at hd
        cases hl : lexF text.length f (endsT k t) u with
        | error e => rw [hl] at h; cases h
        | ok l2 =>
          rw [hl] at h
          injection h with h
          subst h
          have hless := tok1_less ht
          simp only [List.length_cons] at hless
          refine ⟨by show _ ≤ text.length - (r.length + 1); omega, by show text.length - (r.length + 1) < _; omega, ?_⟩
          rcases tok1_form ht with ⟨hk, hne, he⟩ | ⟨hk, rfl, hu⟩
          · rw [if_neg hk]
            have hus : u <:+ c :: r := ⟨t, he.symm⟩
            have ih := lexF_places text f (endsT k t) u l2 (hus.trans hc) hl
            have hlen : t.length + u.length = r.length + 1 := by
              have := congrArg List.length he
              simpa using this.symm
            refine ⟨hne, ?_, ?_⟩
            · show t <+: text.drop (text.length - (r.length + 1))
              rw [hd, he]
              exact List.prefix_append _ _
            · show placesOk text (text.length - (r.length + 1) + t.length) l2
              rw [show text.length - (r.length + 1) + t.length = text.length - u.length from by omega]
              exact ih
          · rw [if_pos hk]
            have ih := lexF_places text f (endsT k t) u l2 ((hu.trans (List.suffix_cons _ _)).trans hc) hl
            refine ⟨?_, places_less ih ?_⟩
            · show text.getD (text.length - (r.length + 1)) 0 = 34
              have : (text.drop (text.length - (r.length + 1)))[0]? = some 34 := by rw [hd]; rfl
              rw [List.getElem?_drop, Nat.add_zero] at this
              rw [List.getD_eq_getElem?_getD, this]; rfl
            · show text.length - (r.length + 1) + 1 ≤ _
              omega
end Go.Proofs.YtifinfmdjbglhaaDoor
