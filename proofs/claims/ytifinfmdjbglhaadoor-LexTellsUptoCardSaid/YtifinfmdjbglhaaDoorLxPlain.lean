/- Plain: what the tokens of a text are, and how tokens are written. No program stands in this text. -/
import Derived.Test.YtifinfmdjbglhaaDoorNmPlain
namespace Go.Proofs.YtifinfmdjbglhaaDoor
open Go.RowKit

def letB (c : UInt8) : Bool := isLet c.toNat
def digB (c : UInt8) : Bool := isDig c.toNat
def blankB (c : UInt8) : Bool := c == 32 || c == 9 || c == 10

/-- A token: its kind, its text, where it begins. -/
structure Tok where
  kind : Nat
  text : Str
  place : Nat

/-- From white space on to what is none (true: within a comment). -/
def skipF : Bool → Str → Str
  | _, [] => []
  | true, c :: s => if c == 10 then skipF false s else skipF true s
  | false, c :: s => if blankB c then skipF false s else if c == 35 then skipF true s else c :: s

def hexV (c : UInt8) : Option Nat :=
  if digB c then some (c.toNat - 48) else if decide (97 ≤ c.toNat) && decide (c.toNat ≤ 102) then some (c.toNat - 87) else none

/-- What stands behind the first quotation mark: the value, and what follows the quote. -/
def quoteS : Str → Option (Str × Str)
  | [] => none
  | c :: s =>
    if c == 34 then some ([], s)
    else if decide (c.toNat < 32) || decide (126 < c.toNat) then none
    else if c != 92 then (quoteS s).map fun p => (c :: p.1, p.2)
    else match s with
      | [] => none
      | d :: t =>
        if d == 34 || d == 92 then (quoteS t).map fun p => (d :: p.1, p.2)
        else if d == 110 then (quoteS t).map fun p => (10 :: p.1, p.2)
        else if d == 120 then
          match t with
          | h1 :: h2 :: u =>
            match hexV h1, hexV h2 with
            | some a, some b => (quoteS u).map fun p => (UInt8.ofNat (16 * a + b) :: p.1, p.2)
            | _, _ => none
          | _ => none
        else none

def hexD (n : Nat) : UInt8 := if n < 10 then UInt8.ofNat (48 + n) else UInt8.ofNat (87 + n)
/-- How a byte stands in a quote. -/
def escB (c : UInt8) : Str :=
  if c == 34 || c == 92 then [92, c]
  else if c == 10 then [92, 110]
  else if decide (c.toNat < 32) || decide (126 < c.toNat) then [92, 120, hexD (c.toNat / 16), hexD (c.toNat % 16)]
  else [c]
def escS (s : Str) : Str := s.flatMap escB
def quotedS (s : Str) : Str := 34 :: (escS s ++ [34])

def signs : Str := [40, 41, 123, 125, 44, 59, 58, 46, 61, 60, 43, 45, 42, 47]
/-- How long the sign is that a text begins with; 0: it begins with none. -/
def signLen : Str → Nat
  | [] => 0
  | [c] => if signs.contains c then 1 else 0
  | c :: d :: _ => if (c == 61 && d == 61) || (c == 45 && d == 62) then 2 else if signs.contains c then 1 else 0

def valU (s : Str) : Nat := s.foldl (fun u c => u * 10 + (c.toNat - 48)) 0
/-- Is this the text of a number? -/
def numeral (s : Str) : Bool :=
  let d := if s.head? == some 45 then s.tail else s
  decide (1 ≤ d.length) && decide (d.length ≤ 19) && !(d.head? == some 48 && decide (1 < s.length)) && d.all digB &&
    (if d.length < s.length then decide (valU d ≤ 9223372036854775808) else decide (valU d < 9223372036854775808))

/-- Does a token end a term, so that a minus behind it is a sign? -/
def endsT (k : Nat) (t : Str) : Bool :=
  if k == 0 then !isKw t else if k == 1 || k == 2 then true else k == 3 && t == [41]

def nextDig : Str → Bool
  | [] => false
  | d :: _ => digB d

/-- The token that a text begins with: its kind, its text, what follows; or an error. -/
def tok1 (after : Bool) : Str → Except Int (Nat × Str × Str)
  | [] => .error 201
  | c :: r =>
    if letB c then .ok (0, (c :: r).takeWhile okB, (c :: r).dropWhile okB)
    else if digB c || (c == 45 && !after && nextDig r) then
      if numeral (c :: r.takeWhile digB) then .ok (1, c :: r.takeWhile digB, r.dropWhile digB) else .error 202
    else if c == 34 then
      match quoteS r with
      | some p => .ok (2, p.1, p.2)
      | none => .error 203
    else if signLen (c :: r) = 0 then .error 201
    else .ok (3, (c :: r).take (signLen (c :: r)), (c :: r).drop (signLen (c :: r)))

/-- The tokens of the rest of a text of n bytes. The first number bounds the steps. -/
def lexF (n : Nat) : Nat → Bool → Str → Except (Int × Nat) (List Tok)
  | 0, _, _ => .ok []
  | f + 1, after, s =>
    match skipF false s with
    | [] => .ok []
    | c :: r =>
      match tok1 after (c :: r) with
      | .error e => .error (e, n - (r.length + 1))
      | .ok (k, t, u) =>
        match lexF n f (endsT k t) u with
        | .error e => .error e
        | .ok l => .ok (⟨k, t, n - (r.length + 1)⟩ :: l)

/-- P2.1. -/
def tokensS (s : Str) : Except (Int × Nat) (List Tok) :=
  if 16384 < s.length then .error (200, 0) else lexF s.length (s.length + 1) false s

def tokMay (k : Nat) (t : Str) : Bool :=
  if k == 0 then decide (1 ≤ t.length) && letB (t.getD 0 0) && t.all okB
  else if k == 1 then numeral t
  else if k == 2 then true
  else k == 3 && decide (1 ≤ t.length) && signLen t == t.length
def renderT (k : Nat) (t : Str) : Str := if k == 2 then quotedS t else t
/-- May this token stand behind one that ends a term (or behind none)? -/
def mayHere (after : Bool) (k : Nat) (t : Str) : Bool := tokMay k t && !(k == 1 && t.head? == some 45 && after)
/-- Some tokens, each behind a blank. -/
def writeR : Bool → List (Nat × Str) → Option Str
  | _, [] => some []
  | after, (k, t) :: l => if mayHere after k t then (writeR (endsT k t) l).map fun r => 32 :: (renderT k t ++ r) else none
/-- P2.3. -/
def writeS (l : List (Nat × Str)) : Option Str := (writeR false l).map List.tail

/-! ### How much is read -/
theorem skip_le : ∀ (b : Bool) (s : Str), (skipF b s).length ≤ s.length
  | _, [] => by simp [skipF]
  | true, c :: s => by
    unfold skipF
    split
    · have := skip_le false s; simp; omega
    · have := skip_le true s; simp; omega
  | false, c :: s => by
    unfold skipF
    split
    · have := skip_le false s; simp; omega
    · split
      · have := skip_le true s; simp; omega
      · simp
theorem skip_head : ∀ (b : Bool) (s : Str) (c : UInt8) (r : Str), skipF b s = c :: r → blankB c = false ∧ (c == 35) = false
  | _, [], _, _, h => by simp [skipF] at h
  | true, d :: s, c, r, h => by
    unfold skipF at h
    split at h
    · exact skip_head false s c r h
    · exact skip_head true s c r h
  | false, d :: s, c, r, h => by
    unfold skipF at h
    split at h
    · exact skip_head false s c r h
    · split at h
      · exact skip_head true s c r h
      · injection h with h1 h2
        subst h1
        rename_i h3 h4
        exact ⟨by simpa using h3, by simpa using h4⟩
theorem skip_stay {c : UInt8} {r : Str} (h1 : blankB c = false) (h2 : (c == 35) = false) : skipF false (c :: r) = c :: r := by
  unfold skipF; rw [h1, h2]; rfl
theorem quote_le : ∀ (s : Str) (p : Str × Str), quoteS s = some p → p.2.length < s.length
  | [], p, h => by simp [quoteS] at h
  | c :: s, p, h => by
    unfold quoteS at h
    split at h
    · injection h with h; subst h; simp
    · split at h
      · cases h
      · split at h
        · obtain ⟨q, hq, rfl⟩ := Option.map_eq_some_iff.1 h
          have := quote_le s q hq
          simp; omega
        · split at h
          · cases h
          · rename_i d t
            split at h
            · obtain ⟨q, hq, rfl⟩ := Option.map_eq_some_iff.1 h
              have := quote_le t q hq
              simp; omega
            · split at h
              · obtain ⟨q, hq, rfl⟩ := Option.map_eq_some_iff.1 h
                have := quote_le t q hq
                simp; omega
              · split at h
                · split at h
                  · rename_i h1 h2 u
                    split at h
                    · obtain ⟨q, hq, rfl⟩ := Option.map_eq_some_iff.1 h
                      have := quote_le u q hq
                      simp; omega
                    · cases h
                  · cases h
                · cases h
theorem sign_le : ∀ (s : Str), signLen s ≤ s.length
  | [] => by simp [signLen]
  | [c] => by
    show (if signs.contains c then 1 else 0) ≤ 1
    split <;> omega
  | c :: d :: r => by
    show (if (c == 61 && d == 61) || (c == 45 && d == 62) then 2 else if signs.contains c then 1 else 0) ≤ r.length + 1 + 1
    split
    · omega
    · split <;> omega
theorem drop_while_le (p : UInt8 → Bool) (s : Str) : (s.dropWhile p).length ≤ s.length := (List.dropWhile_sublist p).length_le
theorem tok1_less {after : Bool} {s : Str} {k : Nat} {t u : Str} (h : tok1 after s = .ok (k, t, u)) : u.length < s.length := by
  cases s with
  | nil => simp [tok1] at h
  | cons c r =>
    unfold tok1 at h
    dsimp only at h
    split at h
    · rename_i hl
      injection h with h
      simp only [Prod.mk.injEq] at h
      obtain ⟨_, _, rfl⟩ := h
      have hok : okB c = true := by unfold okB; unfold letB at hl; rw [hl]; rfl
      rw [List.dropWhile_cons_of_pos hok]
      have := drop_while_le okB r
      simp; omega
    · split at h
      · split at h
        · injection h with h
          simp only [Prod.mk.injEq] at h
          obtain ⟨_, _, rfl⟩ := h
          have := drop_while_le digB r
          simp; omega
        · cases h
      · split at h
        · split at h
          · rename_i p hp
            injection h with h
            simp only [Prod.mk.injEq] at h
            obtain ⟨_, _, rfl⟩ := h
            have := quote_le r p hp
            simp; omega
          · cases h
        · split at h
          · cases h
          · rename_i h0
            injection h with h
            simp only [Prod.mk.injEq] at h
            obtain ⟨_, _, rfl⟩ := h
            rw [List.length_drop]
            simp; omega
/-- The bound on the steps does not matter if it is large enough. -/
theorem lexF_fuel (n : Nat) : ∀ (f g : Nat) (after : Bool) (s : Str), s.length < f → s.length < g → lexF n f after s = lexF n g after s
  | 0, _, _, s, h, _ => absurd h (Nat.not_lt_zero _)
  | _, 0, _, s, _, h => absurd h (Nat.not_lt_zero _)
  | f + 1, g + 1, after, s, hf, hg => by
    unfold lexF
    cases hs : skipF false s with
    | nil => rfl
    | cons c r =>
      have h1 := skip_le false s
      rw [hs] at h1
      dsimp only
      cases ht : tok1 after (c :: r) with
      | error e => rfl
      | ok p =>
        obtain ⟨k, t, u⟩ := p
        have h2 := tok1_less ht
        dsimp only
        rw [lexF_fuel n f g (endsT k t) u (by omega) (by omega)]
end Go.Proofs.YtifinfmdjbglhaaDoor
