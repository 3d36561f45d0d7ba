/- Plain facts on names, as lists of bytes: what a keyword and a name are. No program stands in this text. -/
import Derived.WalkKit
import Derived.Lib.ItoaNum
import Derived.Lib.Join
import Derived.Lib.Split
import Derived.Lib.ParseIntB
namespace Go.Proofs.Ytgefhgcpnfbigaa
open Go.RowKit

/-- A string as the list of its bytes. -/
abbrev Str := List UInt8

/-- The 39 keywords, in the order of the document. -/
def kws : List Str := [[97, 110, 100], [97, 115], [97, 116], [98, 111, 111, 108], [99, 97, 108, 108], [99, 104, 97, 110], [100, 114, 111, 112], [101, 108, 115, 101], [101, 109, 112, 116, 121], [101, 110, 100], [102, 97, 105, 108], [102, 97, 108, 115, 101], [102, 114, 111, 109], [104, 101, 97, 114], [105, 102], [105, 110, 116], [106, 111, 105, 110], [108, 101, 110], [108, 101, 116], [108, 105, 115, 116], [108, 111, 99, 97, 108], [108, 111, 115, 116], [109, 111, 100], [110, 111, 116], [111, 112, 101, 110], [111, 114], [112, 114, 105, 110, 116], [112, 114, 111, 99], [112, 114, 111, 116, 111, 99, 111, 108], [112, 117, 115, 104], [114, 111, 108, 101, 115], [115, 97, 121], [115, 112, 97, 119, 110], [115, 116, 111, 112], [116, 101, 120, 116], [116, 111], [116, 114, 117, 101], [117, 110, 105, 116], [119, 105, 116, 104]]

def isKw (s : Str) : Bool := kws.contains s
def isLet (n : Int) : Bool := decide (97 ≤ n) && decide (n ≤ 122)
def isDig (n : Int) : Bool := decide (48 ≤ n) && decide (n ≤ 57)
/-- A byte that a name may have. -/
def okB (c : UInt8) : Bool := isLet c.toNat || isDig c.toNat
def may (s : Str) : Bool := decide (1 ≤ s.length) && decide (s.length ≤ 12) && isLet (s.getD 0 0).toNat && s.all okB && !isKw s

theorem ret_int {k : IntKind} {a b : Int} (h : a = b) : Ending.returned (.int k a) = .returned (.int k b) := by rw [h]
theorem ret_bool {a b : Bool} (h : a = b) : Ending.returned (.bool a) = .returned (.bool b) := by rw [h]
theorem ret_str {a b : ByteArray} (h : a = b) : Ending.returned (.string a) = .returned (.string b) := by rw [h]
end Go.Proofs.Ytgefhgcpnfbigaa

/- Plain: what the tokens of a text are, and how tokens are written. No program stands in this text. -/
namespace Go.Proofs.Ytgefhgcpnfbigaa
open Go.RowKit

def letB (c : UInt8) : Bool := isLet c.toNat
def digB (c : UInt8) : Bool := isDig c.toNat
def blankB (c : UInt8) : Bool := c == 32 || c == 9 || c == 10

/-- A token: its kind, its text, where it begins. -/
structure Tok where
  kind : Nat
  text : Str
  place : Nat

/-- From white space on to what is none (true: within a comment). -/
def skipF : Bool → Str → Str
  | _, [] => []
  | true, c :: s => if c == 10 then skipF false s else skipF true s
  | false, c :: s => if blankB c then skipF false s else if c == 35 then skipF true s else c :: s

def hexV (c : UInt8) : Option Nat :=
  if digB c then some (c.toNat - 48) else if decide (97 ≤ c.toNat) && decide (c.toNat ≤ 102) then some (c.toNat - 87) else none

/-- What stands behind the first quotation mark: the value, and what follows the quote. -/
def quoteS : Str → Option (Str × Str)
  | [] => none
  | c :: s =>
    if c == 34 then some ([], s)
    else if decide (c.toNat < 32) || decide (126 < c.toNat) then none
    else if c != 92 then (quoteS s).map fun p => (c :: p.1, p.2)
    else match s with
      | [] => none
      | d :: t =>
        if d == 34 || d == 92 then (quoteS t).map fun p => (d :: p.1, p.2)
        else if d == 110 then (quoteS t).map fun p => (10 :: p.1, p.2)
        else if d == 120 then
          match t with
          | h1 :: h2 :: u =>
            match hexV h1, hexV h2 with
            | some a, some b => (quoteS u).map fun p => (UInt8.ofNat (16 * a + b) :: p.1, p.2)
            | _, _ => none
          | _ => none
        else none

def hexD (n : Nat) : UInt8 := if n < 10 then UInt8.ofNat (48 + n) else UInt8.ofNat (87 + n)
/-- How a byte stands in a quote. -/
def escB (c : UInt8) : Str :=
  if c == 34 || c == 92 then [92, c]
  else if c == 10 then [92, 110]
  else if decide (c.toNat < 32) || decide (126 < c.toNat) then [92, 120, hexD (c.toNat / 16), hexD (c.toNat % 16)]
  else [c]
def escS (s : Str) : Str := s.flatMap escB
def quotedS (s : Str) : Str := 34 :: (escS s ++ [34])

def signs : Str := [40, 41, 123, 125, 44, 59, 58, 46, 61, 60, 43, 45, 42, 47]
/-- How long the sign is that a text begins with; 0: it begins with none. -/
def signLen : Str → Nat
  | [] => 0
  | [c] => if signs.contains c then 1 else 0
  | c :: d :: _ => if (c == 61 && d == 61) || (c == 45 && d == 62) then 2 else if signs.contains c then 1 else 0

def valU (s : Str) : Nat := s.foldl (fun u c => u * 10 + (c.toNat - 48)) 0
/-- Is this the text of a number? -/
def numeral (s : Str) : Bool :=
  let d := if s.head? == some 45 then s.tail else s
  decide (1 ≤ d.length) && decide (d.length ≤ 19) && !(d.head? == some 48 && decide (1 < s.length)) && d.all digB &&
    (if d.length < s.length then decide (valU d ≤ 9223372036854775808) else decide (valU d < 9223372036854775808))

/-- Does a token end a term, so that a minus behind it is a sign? -/
def endsT (k : Nat) (t : Str) : Bool :=
  if k == 0 then !isKw t else if k == 1 || k == 2 then true else k == 3 && t == [41]

def nextDig : Str → Bool
  | [] => false
  | d :: _ => digB d

/-- The token that a text begins with: its kind, its text, what follows; or an error. -/
def tok1 (after : Bool) : Str → Except Int (Nat × Str × Str)
  | [] => .error 201
  | c :: r =>
    if letB c then .ok (0, (c :: r).takeWhile okB, (c :: r).dropWhile okB)
    else if digB c || (c == 45 && !after && nextDig r) then
      if numeral (c :: r.takeWhile digB) then .ok (1, c :: r.takeWhile digB, r.dropWhile digB) else .error 202
    else if c == 34 then
      match quoteS r with
      | some p => .ok (2, p.1, p.2)
      | none => .error 203
    else if signLen (c :: r) = 0 then .error 201
    else .ok (3, (c :: r).take (signLen (c :: r)), (c :: r).drop (signLen (c :: r)))

/-- The tokens of the rest of a text of n bytes. The first number bounds the steps. -/
def lexF (n : Nat) : Nat → Bool → Str → Except (Int × Nat) (List Tok)
  | 0, _, _ => .ok []
  | f + 1, after, s =>
    match skipF false s with
    | [] => .ok []
    | c :: r =>
      match tok1 after (c :: r) with
      | .error e => .error (e, n - (r.length + 1))
      | .ok (k, t, u) =>
        match lexF n f (endsT k t) u with
        | .error e => .error e
        | .ok l => .ok (⟨k, t, n - (r.length + 1)⟩ :: l)

/-- P2.1. -/
def tokensS (s : Str) : Except (Int × Nat) (List Tok) :=
  if 16384 < s.length then .error (200, 0) else lexF s.length (s.length + 1) false s

def tokMay (k : Nat) (t : Str) : Bool :=
  if k == 0 then decide (1 ≤ t.length) && letB (t.getD 0 0) && t.all okB
  else if k == 1 then numeral t
  else if k == 2 then true
  else k == 3 && decide (1 ≤ t.length) && signLen t == t.length
def renderT (k : Nat) (t : Str) : Str := if k == 2 then quotedS t else t
/-- May this token stand behind one that ends a term (or behind none)? -/
def mayHere (after : Bool) (k : Nat) (t : Str) : Bool := tokMay k t && !(k == 1 && t.head? == some 45 && after)
/-- Some tokens, each behind a blank. -/
def writeR : Bool → List (Nat × Str) → Option Str
  | _, [] => some []
  | after, (k, t) :: l => if mayHere after k t then (writeR (endsT k t) l).map fun r => 32 :: (renderT k t ++ r) else none
/-- P2.3. -/
def writeS (l : List (Nat × Str)) : Option Str := (writeR false l).map List.tail

/-! ### How much is read -/
theorem skip_le : ∀ (b : Bool) (s : Str), (skipF b s).length ≤ s.length
  | _, [] => by simp [skipF]
  | true, c :: s => by
    unfold skipF
    split
    · have := skip_le false s; simp; omega
    · have := skip_le true s; simp; omega
  | false, c :: s => by
    unfold skipF
    split
    · have := skip_le false s; simp; omega
    · split
      · have := skip_le true s; simp; omega
      · simp
theorem skip_head : ∀ (b : Bool) (s : Str) (c : UInt8) (r : Str), skipF b s = c :: r → blankB c = false ∧ (c == 35) = false
  | _, [], _, _, h => by simp [skipF] at h
  | true, d :: s, c, r, h => by
    unfold skipF at h
    split at h
    · exact skip_head false s c r h
    · exact skip_head true s c r h
  | false, d :: s, c, r, h => by
    unfold skipF at h
    split at h
    · exact skip_head false s c r h
    · split at h
      · exact skip_head true s c r h
      · injection h with h1 h2
        subst h1
        rename_i h3 h4
        exact ⟨by simpa using h3, by simpa using h4⟩
theorem skip_stay {c : UInt8} {r : Str} (h1 : blankB c = false) (h2 : (c == 35) = false) : skipF false (c :: r) = c :: r := by
  unfold skipF; rw [h1, h2]; rfl
theorem quote_le : ∀ (s : Str) (p : Str × Str), quoteS s = some p → p.2.length < s.length
  | [], p, h => by simp [quoteS] at h
  | c :: s, p, h => by
    unfold quoteS at h
    split at h
    · injection h with h; subst h; simp
    · split at h
      · cases h
      · split at h
        · obtain ⟨q, hq, rfl⟩ := Option.map_eq_some_iff.1 h
          have := quote_le s q hq
          simp; omega
        · split at h
          · cases h
          · rename_i d t
            split at h
            · obtain ⟨q, hq, rfl⟩ := Option.map_eq_some_iff.1 h
              have := quote_le t q hq
              simp; omega
            · split at h
              · obtain ⟨q, hq, rfl⟩ := Option.map_eq_some_iff.1 h
                have := quote_le t q hq
                simp; omega
              · split at h
                · split at h
                  · rename_i h1 h2 u
                    split at h
                    · obtain ⟨q, hq, rfl⟩ := Option.map_eq_some_iff.1 h
                      have := quote_le u q hq
                      simp; omega
                    · cases h
                  · cases h
                · cases h
theorem sign_le : ∀ (s : Str), signLen s ≤ s.length
  | [] => by simp [signLen]
  | [c] => by
    show (if signs.contains c then 1 else 0) ≤ 1
    split <;> omega
  | c :: d :: r => by
    show (if (c == 61 && d == 61) || (c == 45 && d == 62) then 2 else if signs.contains c then 1 else 0) ≤ r.length + 1 + 1
    split
    · omega
    · split <;> omega
theorem drop_while_le (p : UInt8 → Bool) (s : Str) : (s.dropWhile p).length ≤ s.length := (List.dropWhile_sublist p).length_le
theorem tok1_less {after : Bool} {s : Str} {k : Nat} {t u : Str} (h : tok1 after s = .ok (k, t, u)) : u.length < s.length := by
  cases s with
  | nil => simp [tok1] at h
  | cons c r =>
    unfold tok1 at h
    dsimp only at h
    split at h
    · rename_i hl
      injection h with h
      simp only [Prod.mk.injEq] at h
      obtain ⟨_, _, rfl⟩ := h
      have hok : okB c = true := by unfold okB; unfold letB at hl; rw [hl]; rfl
      rw [List.dropWhile_cons_of_pos hok]
      have := drop_while_le okB r
      simp; omega
    · split at h
      · split at h
        · injection h with h
          simp only [Prod.mk.injEq] at h
          obtain ⟨_, _, rfl⟩ := h
          have := drop_while_le digB r
          simp; omega
        · cases h
      · split at h
        · split at h
          · rename_i p hp
            injection h with h
            simp only [Prod.mk.injEq] at h
            obtain ⟨_, _, rfl⟩ := h
            have := quote_le r p hp
            simp; omega
          · cases h
        · split at h
          · cases h
          · rename_i h0
            injection h with h
            simp only [Prod.mk.injEq] at h
            obtain ⟨_, _, rfl⟩ := h
            rw [List.length_drop]
            simp; omega
/-- The bound on the steps does not matter if it is large enough. -/
theorem lexF_fuel (n : Nat) : ∀ (f g : Nat) (after : Bool) (s : Str), s.length < f → s.length < g → lexF n f after s = lexF n g after s
  | 0, _, _, s, h, _ => absurd h (Nat.not_lt_zero _)
  | _, 0, _, s, _, h => absurd h (Nat.not_lt_zero _)
  | f + 1, g + 1, after, s, hf, hg => by
    unfold lexF
    cases hs : skipF false s with
    | nil => rfl
    | cons c r =>
      have h1 := skip_le false s
      rw [hs] at h1
      dsimp only
      cases ht : tok1 after (c :: r) with
      | error e => rfl
      | ok p =>
        obtain ⟨k, t, u⟩ := p
        have h2 := tok1_less ht
        dsimp only
        rw [lexF_fuel n f g (endsT k t) u (by omega) (by omega)]
end Go.Proofs.Ytgefhgcpnfbigaa

/- Plain laws on tokens: two texts with a sign between them; where tokens lie. -/
namespace Go.Proofs.Ytgefhgcpnfbigaa
open Go.RowKit

/-- A byte at which words, numbers and signs stop. -/
def stopB (z : UInt8) : Bool := !okB z && !digB z && z != 61 && z != 62
theorem stop_parts {z : UInt8} (h : stopB z = true) : okB z = false ∧ digB z = false ∧ (z == 61) = false ∧ (z == 62) = false := by
  unfold stopB at h
  simp only [Bool.and_eq_true, Bool.not_eq_true', bne_iff_ne, ne_eq] at h
  exact ⟨h.1.1.1, h.1.1.2, by simpa using h.1.2, by simpa using h.2⟩

theorem skip_app (r : Str) : ∀ (b : Bool) (s : Str), skipF b (s ++ 10 :: r) = if skipF b s = [] then skipF false r else skipF b s ++ 10 :: r
  | true, [] => rfl
  | false, [] => rfl
  | true, c :: s => by
    have h1 := skip_app r false s
    have h2 := skip_app r true s
    simp only [List.cons_append, skipF]
    split
    · exact h1
    · exact h2
  | false, c :: s => by
    have h1 := skip_app r false s
    have h2 := skip_app r true s
    simp only [List.cons_append, skipF]
    split
    · exact h1
    · split
      · exact h2
      · rw [if_neg (by simp)]; rfl
theorem take_app {p : UInt8 → Bool} {z : UInt8} (hz : p z = false) (r : Str) : ∀ s : Str, (s ++ z :: r).takeWhile p = s.takeWhile p
  | [] => by simp [List.takeWhile, hz]
  | c :: s => by
    simp only [List.cons_append, List.takeWhile]
    split
    · rw [take_app hz r s]
    · rfl
theorem drop_app {p : UInt8 → Bool} {z : UInt8} (hz : p z = false) (r : Str) : ∀ s : Str, (s ++ z :: r).dropWhile p = s.dropWhile p ++ z :: r
  | [] => by simp [List.dropWhile, hz]
  | c :: s => by
    simp only [List.cons_append, List.dropWhile]
    split
    · rw [drop_app hz r s]
    · rfl
theorem next_app {z : UInt8} (hz : digB z = false) (r : Str) (s : Str) : nextDig (s ++ z :: r) = nextDig s := by
  cases s with
  | nil => exact hz
  | cons c s => rfl
theorem sign_app {z : UInt8} (h1 : (z == 61) = false) (h2 : (z == 62) = false) (r : Str) : ∀ s : Str, s ≠ [] → signLen (s ++ z :: r) = signLen s
  | [], h => absurd rfl h
  | [c], _ => by
    show (if (c == 61 && z == 61) || (c == 45 && z == 62) then 2 else if signs.contains c then 1 else 0) = if signs.contains c then 1 else 0
    rw [h1, h2]; simp
  | c :: d :: s, _ => rfl

theorem quote_app (r : Str) : ∀ s : Str, quoteS (s ++ 10 :: r) = (quoteS s).map fun p => (p.1, p.2 ++ 10 :: r)
  | [] => by
    show quoteS (10 :: r) = none
    unfold quoteS; rfl
  | c :: s => by
    have ih := quote_app r s
    rw [List.cons_append]
    unfold quoteS
    split
    · rfl
    · split
      · rfl
      · split
        · rw [ih]; cases quoteS s <;> rfl
        · match s with
          | [] => rfl
          | d :: t =>
            have ih2 := quote_app r t
            rw [List.cons_append]
            dsimp only
            split
            · rw [ih2]; cases quoteS t <;> rfl
            · split
              · rw [ih2]; cases quoteS t <;> rfl
              · split
                · match t with
                  | [] =>
                    cases r with
                    | nil => rfl
                    | cons h2 u =>
                      show (match hexV 10, hexV h2 with
                        | some a, some b => (quoteS u).map fun p => (UInt8.ofNat (16 * a + b) :: p.1, p.2)
                        | _, _ => none) = none
                      rw [show hexV 10 = none from rfl]
                  | [h1] =>
                    show (match hexV h1, hexV 10 with
                      | some a, some b => (quoteS r).map fun p => (UInt8.ofNat (16 * a + b) :: p.1, p.2)
                      | _, _ => none) = none
                    rw [show hexV 10 = none from rfl]
                    cases hexV h1 <;> rfl
                  | h1 :: h2 :: u =>
                    have ih3 := quote_app r u
                    rw [List.cons_append, List.cons_append]
                    dsimp only
                    rw [ih3]
                    cases hexV h1 <;> cases hexV h2 <;> cases quoteS u <;> rfl
                · rfl
theorem tok1_app (after : Bool) (r : Str) : ∀ s : Str, s ≠ [] → tok1 after (s ++ 10 :: r) = (tok1 after s).map fun p => (p.1, p.2.1, p.2.2 ++ 10 :: r)
  | [], h => absurd rfl h
  | c :: s, _ => by
    have e1 := take_app (p := okB) (z := 10) rfl r (c :: s)
    have e2 := drop_app (p := okB) (z := 10) rfl r (c :: s)
    have e3 := take_app (p := digB) (z := 10) rfl r s
    have e4 := drop_app (p := digB) (z := 10) rfl r s
    have e5 := next_app (z := 10) rfl r s
    have e6 := sign_app (z := 10) rfl rfl r (c :: s) (by simp)
    have e7 := quote_app r s
    have hsl := sign_le (c :: s)
    rw [List.cons_append] at e1 e2 e6
    simp only [List.cons_append, tok1, e1, e2, e3, e4, e5, e6, e7]
    split
    · rfl
    · split
      · split <;> rfl
      · split
        · cases quoteS s <;> rfl
        · split
          · rfl
          · rw [← List.cons_append, List.take_append_of_le_length hsl, List.drop_append_of_le_length hsl]
            rfl

theorem lexF_blank (n f : Nat) (after : Bool) (s : Str) : lexF n (f + 1) after (10 :: s) = lexF n (f + 1) after s := by
  rw [lexF, lexF]; rfl
/-- Two texts with a semicolon between them. -/
theorem lexF_joined (b : Str) (n : Nat) : ∀ (f : Nat) (after : Bool) (s : Str), s.length < f → s.length ≤ n →
    lexF (n + 3 + b.length) (f + 3 + b.length) after (s ++ 10 :: 59 :: 10 :: b) =
      match lexF n f after s with
      | .error e => .error e
      | .ok l =>
        match lexF (n + 3 + b.length) (b.length + 1) false b with
        | .error e => .error e
        | .ok l2 => .ok (l ++ ⟨3, [59], n + 1⟩ :: l2)
  | 0, _, s, h, _ => absurd h (Nat.not_lt_zero _)
  | f + 1, after, s, hf, hn => by
    have hle := skip_le false s
    rw [show f + 1 + 3 + b.length = (f + 3 + b.length) + 1 from by omega]
    rw [lexF, lexF, skip_app]
    cases hs : skipF false s with
    | nil =>
      rw [if_pos rfl, skip_stay (by rfl) (by rfl)]
      dsimp only
      rw [show tok1 after (59 :: 10 :: b) = .ok (3, [59], 10 :: b) from by
        simp [tok1, letB, digB, isLet, isDig, signLen, signs]]
      dsimp only
      have e1 : lexF (n + 3 + b.length) (f + 3 + b.length) (endsT 3 [59]) (10 :: b) = lexF (n + 3 + b.length) (b.length + 1) false b := by
        rw [show f + 3 + b.length = (f + 2 + b.length) + 1 from by omega, show endsT 3 [59] = false from rfl, lexF_blank]
        exact lexF_fuel _ _ _ _ _ (by omega) (by omega)
      rw [e1]
      simp only [List.length_cons]
      rw [show n + 3 + b.length - (b.length + 1 + 1) = n + 1 from by omega]
      rfl
    | cons c u =>
      rw [hs] at hle
      rw [if_neg (by simp), List.cons_append]
      dsimp only
      rw [← List.cons_append, tok1_app after _ (c :: u) (by simp)]
      have hp : n + 3 + b.length - ((u ++ 10 :: 59 :: 10 :: b).length + 1) = n - (u.length + 1) := by
        simp only [List.length_append, List.length_cons] at hle ⊢; omega
      rw [hp]
      cases ht : tok1 after (c :: u) with
      | error e => rfl
      | ok p =>
        obtain ⟨k, t, v⟩ := p
        have h2 := tok1_less ht
        have ih := lexF_joined b n f (endsT k t) v (by omega) (by omega)
        simp only [Except.map]
        rw [ih]
        cases lexF n f (endsT k t) v with
        | error e => rfl
        | ok l =>
          cases lexF (n + 3 + b.length) (b.length + 1) false b <;> rfl

def Tok.moved (d : Nat) (t : Tok) : Tok := ⟨t.kind, t.text, t.place + d⟩
/-- The same text further on. -/
theorem lexF_shift (n d : Nat) : ∀ (f : Nat) (after : Bool) (s : Str), s.length ≤ n →
    lexF (n + d) f after s = match lexF n f after s with
      | .error e => .error (e.1, e.2 + d)
      | .ok l => .ok (l.map (Tok.moved d))
  | 0, _, _, _ => rfl
  | f + 1, after, s, hn => by
    have hle := skip_le false s
    rw [lexF, lexF]
    cases hs : skipF false s with
    | nil => rfl
    | cons c u =>
      rw [hs] at hle
      dsimp only
      have hp : n + d - (u.length + 1) = n - (u.length + 1) + d := by simp only [List.length_cons] at hle; omega
      rw [hp]
      cases ht : tok1 after (c :: u) with
      | error e => rfl
      | ok p =>
        obtain ⟨k, t, v⟩ := p
        have h2 := tok1_less ht
        dsimp only
        rw [lexF_shift n d f (endsT k t) v (by omega)]
        cases lexF n f (endsT k t) v <;> rfl

theorem skip_suffix : ∀ (b : Bool) (s : Str), skipF b s <:+ s
  | true, [] => List.suffix_refl _
  | false, [] => List.suffix_refl _
  | true, c :: s => by
    unfold skipF
    split
    · exact (skip_suffix false s).trans (List.suffix_cons _ _)
    · exact (skip_suffix true s).trans (List.suffix_cons _ _)
  | false, c :: s => by
    unfold skipF
    split
    · exact (skip_suffix false s).trans (List.suffix_cons _ _)
    · split
      · exact (skip_suffix true s).trans (List.suffix_cons _ _)
      · exact List.suffix_refl _
theorem quote_suffix : ∀ (s : Str) (p : Str × Str), quoteS s = some p → p.2 <:+ s
  | [], p, h => by simp [quoteS] at h
  | c :: s, p, h => by
    unfold quoteS at h
    split at h
    · injection h with h; subst h; exact List.suffix_cons _ _
    · split at h
      · cases h
      · split at h
        · obtain ⟨q, hq, rfl⟩ := Option.map_eq_some_iff.1 h
          exact (quote_suffix s q hq).trans (List.suffix_cons _ _)
        · split at h
          · cases h
          · rename_i d t
            have hdt : t <:+ c :: d :: t := (List.suffix_cons _ _).trans (List.suffix_cons _ _)
            split at h
            · obtain ⟨q, hq, rfl⟩ := Option.map_eq_some_iff.1 h
              exact (quote_suffix t q hq).trans hdt
            · split at h
              · obtain ⟨q, hq, rfl⟩ := Option.map_eq_some_iff.1 h
                exact (quote_suffix t q hq).trans hdt
              · split at h
                · split at h
                  · rename_i h1 h2 u
                    split at h
                    · obtain ⟨q, hq, rfl⟩ := Option.map_eq_some_iff.1 h
                      exact (quote_suffix u q hq).trans (((List.suffix_cons _ _).trans (List.suffix_cons _ _)).trans hdt)
                    · cases h
                  · cases h
                · cases h
/-- What a token is of the text that it begins. -/
theorem tok1_form {after : Bool} {c : UInt8} {r : Str} {k : Nat} {t u : Str} (h : tok1 after (c :: r) = .ok (k, t, u)) :
    (k ≠ 2 ∧ t ≠ [] ∧ c :: r = t ++ u) ∨ (k = 2 ∧ c = 34 ∧ u <:+ r) := by
  unfold tok1 at h
  dsimp only at h
  split at h
  · rename_i hl
    injection h with h
    simp only [Prod.mk.injEq] at h
    obtain ⟨rfl, rfl, rfl⟩ := h
    have hok : okB c = true := by unfold okB; unfold letB at hl; rw [hl]; rfl
    exact .inl ⟨by omega, by rw [List.takeWhile_cons_of_pos hok]; simp, (List.takeWhile_append_dropWhile).symm⟩
  · split at h
    · split at h
      · injection h with h
        simp only [Prod.mk.injEq] at h
        obtain ⟨rfl, rfl, rfl⟩ := h
        exact .inl ⟨by omega, by simp, by rw [List.cons_append, List.takeWhile_append_dropWhile]⟩
      · cases h
    · split at h
      · rename_i hc
        split at h
        · rename_i p hp
          injection h with h
          simp only [Prod.mk.injEq] at h
          obtain ⟨rfl, rfl, rfl⟩ := h
          exact .inr ⟨rfl, by simpa using hc, quote_suffix r p hp⟩
        · cases h
      · split at h
        · cases h
        · rename_i h0
          injection h with h
          simp only [Prod.mk.injEq] at h
          obtain ⟨rfl, rfl, rfl⟩ := h
          refine .inl ⟨by omega, ?_, (List.take_append_drop _ _).symm⟩
          intro e
          have := congrArg List.length e
          rw [List.length_take] at this
          simp only [List.length_cons, List.length_nil] at this
          omega

/-- Each token lies at its place, none over another, and (but for quotes) its text stands there. -/
def placesOk (text : Str) : Nat → List Tok → Prop
  | _, [] => True
  | e, t :: l => e ≤ t.place ∧ t.place < text.length ∧
    if t.kind = 2 then text.getD t.place 0 = 34 ∧ placesOk text (t.place + 1) l
    else t.text ≠ [] ∧ t.text <+: text.drop t.place ∧ placesOk text (t.place + t.text.length) l
theorem places_less {text : Str} {e e' : Nat} {l : List Tok} (h : placesOk text e l) (he : e' ≤ e) : placesOk text e' l := by
  cases l with
  | nil => trivial
  | cons t l => exact ⟨Nat.le_trans he h.1, h.2⟩
theorem suffix_drop {s text : Str} (h : s <:+ text) : text.drop (text.length - s.length) = s := by
  obtain ⟨p, rfl⟩ := h
  rw [List.length_append, show p.length + s.length - s.length = p.length from by omega, List.drop_left]
theorem lexF_places (text : Str) : ∀ (f : Nat) (after : Bool) (s : Str) (l : List Tok), s <:+ text → lexF text.length f after s = .ok l → placesOk text (text.length - s.length) l
  | 0, _, _, l, _, h => by
    rw [lexF] at h
    injection h with h
    subst h
    trivial
  | f + 1, after, s, l, hsuf, h => by
    rw [lexF] at h
    cases hs : skipF false s with
    | nil => rw [hs] at h; injection h with h; subst h; trivial
    | cons c r =>
      rw [hs] at h
      have hsx := skip_suffix false s
      rw [hs] at hsx
      have hc := hsx.trans hsuf
      have hle := hsx.length_le
      have hle2 := hc.length_le
      simp only [List.length_cons] at hle hle2
      dsimp only at h
      cases ht : tok1 after (c :: r) with
      | error e => rw [ht] at h; cases h
      | ok p =>
        obtain ⟨k, t, u⟩ := p
        rw [ht] at h
        dsimp only at h
        have hd := suffix_drop hc
        simp only [List.length_cons] at hd
        cases hl : lexF text.length f (endsT k t) u with
        | error e => rw [hl] at h; cases h
        | ok l2 =>
          rw [hl] at h
          injection h with h
          subst h
          have hless := tok1_less ht
          simp only [List.length_cons] at hless
          refine ⟨by show _ ≤ text.length - (r.length + 1); omega, by show text.length - (r.length + 1) < _; omega, ?_⟩
          rcases tok1_form ht with ⟨hk, hne, he⟩ | ⟨hk, rfl, hu⟩
          · rw [if_neg hk]
            have hus : u <:+ c :: r := ⟨t, he.symm⟩
            have ih := lexF_places text f (endsT k t) u l2 (hus.trans hc) hl
            have hlen : t.length + u.length = r.length + 1 := by
              have := congrArg List.length he
              simpa using this.symm
            refine ⟨hne, ?_, ?_⟩
            · show t <+: text.drop (text.length - (r.length + 1))
              rw [hd, he]
              exact List.prefix_append _ _
            · show placesOk text (text.length - (r.length + 1) + t.length) l2
              rw [show text.length - (r.length + 1) + t.length = text.length - u.length from by omega]
              exact ih
          · rw [if_pos hk]
            have ih := lexF_places text f (endsT k t) u l2 ((hu.trans (List.suffix_cons _ _)).trans hc) hl
            refine ⟨?_, places_less ih ?_⟩
            · show text.getD (text.length - (r.length + 1)) 0 = 34
              have : (text.drop (text.length - (r.length + 1)))[0]? = some 34 := by rw [hd]; rfl
              rw [List.getElem?_drop, Nat.add_zero] at this
              rw [List.getD_eq_getElem?_getD, this]; rfl
            · show text.length - (r.length + 1) + 1 ≤ _
              omega
end Go.Proofs.Ytgefhgcpnfbigaa

/- Plain laws on tokens: a quote of any string is read back; what is written is read back; names and keywords are single tokens. -/
namespace Go.Proofs.Ytgefhgcpnfbigaa
open Go.RowKit

theorem hexV_hexD (n : Nat) (h : n < 16) : hexV (hexD n) = some n := by
  have : n = 0 ∨ n = 1 ∨ n = 2 ∨ n = 3 ∨ n = 4 ∨ n = 5 ∨ n = 6 ∨ n = 7 ∨ n = 8 ∨ n = 9 ∨ n = 10 ∨ n = 11 ∨ n = 12 ∨ n = 13 ∨ n = 14 ∨ n = 15 := by omega
  rcases this with h | h | h | h | h | h | h | h | h | h | h | h | h | h | h | h <;> subst h <;> rfl
theorem hexD_print (n : Nat) (h : n < 16) : 32 ≤ (hexD n).toNat ∧ (hexD n).toNat ≤ 126 := by
  have : n = 0 ∨ n = 1 ∨ n = 2 ∨ n = 3 ∨ n = 4 ∨ n = 5 ∨ n = 6 ∨ n = 7 ∨ n = 8 ∨ n = 9 ∨ n = 10 ∨ n = 11 ∨ n = 12 ∨ n = 13 ∨ n = 14 ∨ n = 15 := by omega
  rcases this with h | h | h | h | h | h | h | h | h | h | h | h | h | h | h | h <;> subst h <;> decide
theorem byte_back (c : UInt8) : UInt8.ofNat (16 * (c.toNat / 16) + c.toNat % 16) = c := by
  rw [Nat.div_add_mod]
  exact UInt8.ofNat_toNat
theorem quote_hex (a b : Nat) (ha : a < 16) (hb : b < 16) (r : Str) : quoteS (92 :: 120 :: hexD a :: hexD b :: r) = (quoteS r).map fun p => (UInt8.ofNat (16 * a + b) :: p.1, p.2) := by
  rw [quoteS.eq_def]
  dsimp only
  rw [hexV_hexD a ha, hexV_hexD b hb]
  rfl
theorem quote_back (r : Str) : ∀ v : Str, quoteS (escS v ++ 34 :: r) = some (v, r)
  | [] => by
    show quoteS (34 :: r) = _
    rw [quoteS.eq_def]
    rfl
  | c :: v => by
    have ih := quote_back r v
    have e : escS (c :: v) = escB c ++ escS v := rfl
    rw [e, List.append_assoc]
    unfold escB
    split
    · rename_i h
      rw [List.cons_append, List.cons_append, List.nil_append, quoteS.eq_def]
      dsimp only
      rw [h, ih]
      rfl
    · split
      · rename_i h
        have hc : c = 10 := by simpa using h
        subst hc
        rw [List.cons_append, List.cons_append, List.nil_append, quoteS.eq_def]
        dsimp only
        rw [ih]
        rfl
      · split
        · have h16 : c.toNat < 256 := c.toNat_lt
          rw [show ([92, 120, hexD (c.toNat / 16), hexD (c.toNat % 16)] : Str) ++ (escS v ++ 34 :: r) = 92 :: 120 :: hexD (c.toNat / 16) :: hexD (c.toNat % 16) :: (escS v ++ 34 :: r) from rfl,
            quote_hex _ _ (by omega) (by omega), ih, byte_back]
          rfl
        · rename_i h1 h2 h3
          simp only [Bool.or_eq_true, beq_iff_eq, not_or] at h1
          have e1 : (c == 34) = false := by simp [h1.1]
          have e2 : (c != 92) = true := by simp [h1.2]
          have e3 : (decide (c.toNat < 32) || decide (126 < c.toNat)) = false := by simpa using h3
          rw [List.cons_append, List.nil_append, quoteS.eq_def]
          dsimp only
          rw [e1, e2, e3, ih]
          rfl
theorem esc_print : ∀ v : Str, ∀ c ∈ escS v, 32 ≤ c.toNat ∧ c.toNat ≤ 126
  | [], _, h => by cases h
  | d :: v, c, h => by
    have e : escS (d :: v) = escB d ++ escS v := rfl
    rw [e] at h
    rcases List.mem_append.1 h with h | h
    · unfold escB at h
      split at h
      · rename_i hd
        simp only [Bool.or_eq_true, beq_iff_eq] at hd
        simp only [List.mem_cons, List.not_mem_nil, or_false] at h
        rcases h with rfl | rfl
        · decide
        · rcases hd with rfl | rfl <;> decide
      · split at h
        · simp only [List.mem_cons, List.not_mem_nil, or_false] at h
          rcases h with rfl | rfl <;> decide
        · split at h
          · have h16 : d.toNat < 256 := d.toNat_lt
            simp only [List.mem_cons, List.not_mem_nil, or_false] at h
            rcases h with rfl | rfl | rfl | rfl
            · decide
            · decide
            · exact hexD_print _ (by omega)
            · exact hexD_print _ (by omega)
          · rename_i h3
            rw [List.mem_singleton] at h
            subst h
            simp only [Bool.or_eq_true, decide_eq_true_eq, not_or] at h3
            omega
    · exact esc_print v c h
theorem esc_len : ∀ v : Str, v.length ≤ (escS v).length ∧ (escS v).length ≤ 4 * v.length
  | [] => by simp [escS]
  | d :: v => by
    have e : escS (d :: v) = escB d ++ escS v := rfl
    have ih := esc_len v
    have h1 : 1 ≤ (escB d).length ∧ (escB d).length ≤ 4 := by
      unfold escB
      split
      · simp
      · split
        · simp
        · split <;> simp
    rw [e, List.length_append, List.length_cons]
    omega
theorem quoted_print (v : Str) : ∀ c ∈ quotedS v, 32 ≤ c.toNat ∧ c.toNat ≤ 126 := by
  intro c h
  unfold quotedS at h
  rcases List.mem_cons.1 h with rfl | h
  · decide
  · rcases List.mem_append.1 h with h | h
    · exact esc_print v c h
    · rw [List.mem_singleton] at h; subst h; decide
theorem quoted_len (v : Str) : v.length + 2 ≤ (quotedS v).length ∧ (quotedS v).length ≤ 4 * v.length + 2 := by
  have := esc_len v
  unfold quotedS
  simp only [List.length_cons, List.length_append, List.length_nil]
  omega

theorem tok1_quote (after : Bool) (v r : Str) : tok1 after (quotedS v ++ r) = .ok (2, v, r) := by
  unfold quotedS
  rw [List.cons_append, List.append_assoc, List.singleton_append]
  unfold tok1
  dsimp only
  rw [quote_back]
  cases after <;> rfl
/-- A quote by itself. -/
theorem tokens_quote (v : Str) (h : v.length ≤ 2000) : tokensS (quotedS v) = .ok [⟨2, v, 0⟩] := by
  have hl := quoted_len v
  unfold tokensS
  rw [if_neg (by omega)]
  have e : quotedS v = 34 :: (escS v ++ [34]) := rfl
  have h1 := tok1_quote false v []
  rw [List.append_nil] at h1
  obtain ⟨n, hn⟩ : ∃ n, n = (quotedS v).length := ⟨_, rfl⟩
  have hn2 : n = (escS v ++ [34]).length + 1 := by rw [hn, e]; rfl
  rw [← hn, lexF, e, skip_stay (by rfl) (by rfl)]
  dsimp only
  rw [← e, h1]
  dsimp only
  rw [show lexF n n (endsT 2 v) [] = .ok [] from by cases n <;> rfl, ← hn2, Nat.sub_self]

/-- Nothing follows, or a byte at which a token stops. -/
def Stops (r : Str) : Prop := r = [] ∨ ∃ z u, r = z :: u ∧ stopB z = true
theorem take_all {p : UInt8 → Bool} : ∀ {s : Str}, s.all p = true → s.takeWhile p = s
  | [], _ => rfl
  | c :: s, h => by
    rw [List.all_cons, Bool.and_eq_true] at h
    rw [List.takeWhile_cons_of_pos h.1, take_all h.2]
theorem drop_all {p : UInt8 → Bool} : ∀ {s : Str}, s.all p = true → s.dropWhile p = []
  | [], _ => rfl
  | c :: s, h => by
    rw [List.all_cons, Bool.and_eq_true] at h
    rw [List.dropWhile_cons_of_pos h.1, drop_all h.2]
theorem take_stops {p : UInt8 → Bool} (hp : ∀ z, stopB z = true → p z = false) {s r : Str} (h : s.all p = true) (hr : Stops r) : (s ++ r).takeWhile p = s := by
  rcases hr with rfl | ⟨z, u, rfl, hz⟩
  · rw [List.append_nil, take_all h]
  · rw [take_app (hp z hz), take_all h]
theorem drop_stops {p : UInt8 → Bool} (hp : ∀ z, stopB z = true → p z = false) {s r : Str} (h : s.all p = true) (hr : Stops r) : (s ++ r).dropWhile p = r := by
  rcases hr with rfl | ⟨z, u, rfl, hz⟩
  · rw [List.append_nil, drop_all h]
  · rw [drop_app (hp z hz), drop_all h]; rfl
theorem ok_stop (z : UInt8) (h : stopB z = true) : okB z = false := (stop_parts h).1
theorem dig_stop (z : UInt8) (h : stopB z = true) : digB z = false := (stop_parts h).2.1

theorem tok1_word {t r : Str} (after : Bool) (h1 : 1 ≤ t.length) (h2 : letB (t.getD 0 0) = true) (h3 : t.all okB = true) (hr : Stops r) : tok1 after (t ++ r) = .ok (0, t, r) := by
  cases t with
  | nil => simp at h1
  | cons c t =>
    have e1 := take_stops (p := okB) ok_stop h3 hr
    have e2 := drop_stops (p := okB) ok_stop h3 hr
    rw [List.cons_append] at e1 e2 ⊢
    have hc : letB c = true := h2
    unfold tok1
    dsimp only
    rw [if_pos hc, e1, e2]
theorem numeral_all {t : Str} (h : numeral t = true) : ∃ c d, t = c :: d ∧ d.all digB = true ∧ (digB c = true ∨ (c = 45 ∧ ∃ e d', d = e :: d' ∧ digB e = true)) := by
  unfold numeral at h
  cases t with
  | nil => simp at h
  | cons c d =>
    by_cases hc : c = 45
    · subst hc
      simp only [List.head?_cons, beq_self_eq_true, if_true, List.tail_cons, Bool.and_eq_true, decide_eq_true_eq] at h
      refine ⟨45, d, rfl, h.1.2, .inr ⟨rfl, ?_⟩⟩
      cases d with
      | nil => simp at h
      | cons e d' =>
        have := h.1.2
        rw [List.all_cons, Bool.and_eq_true] at this
        exact ⟨e, d', rfl, this.1⟩
    · have hne : ((c :: d).head? == some 45) = false := by simp [hc]
      rw [hne] at h
      simp only [Bool.false_eq_true, if_false, Bool.and_eq_true, decide_eq_true_eq] at h
      have := h.1.2
      rw [List.all_cons, Bool.and_eq_true] at this
      exact ⟨c, d, rfl, this.2, .inl this.1⟩
theorem let_dig {c : UInt8} (h : digB c = true) : letB c = false := by
  unfold digB isDig at h
  unfold letB isLet
  simp only [Bool.and_eq_true, decide_eq_true_eq] at h
  rw [Bool.and_eq_false_iff]
  left
  simp
  omega
theorem tok1_number {t r : Str} {after : Bool} (h : numeral t = true) (ha : (t.head? == some 45 && after) = false) (hr : Stops r) : tok1 after (t ++ r) = .ok (1, t, r) := by
  obtain ⟨c, d, rfl, hd, hc⟩ := numeral_all h
  have e1 := take_stops (p := digB) dig_stop hd hr
  have e2 := drop_stops (p := digB) dig_stop hd hr
  have hl : letB c = false := by
    rcases hc with hc | ⟨rfl, _⟩
    · exact let_dig hc
    · rfl
  have hg : (digB c || (c == 45 && !after && nextDig (d ++ r))) = true := by
    rcases hc with hc | ⟨rfl, e, d', rfl, he⟩
    · rw [hc]; rfl
    · have : after = false := by simpa using ha
      subst this
      show (digB 45 || (true && true && digB e)) = true
      rw [he]; rfl
  rw [List.cons_append]
  unfold tok1
  dsimp only
  rw [if_neg (by rw [hl]; simp), if_pos hg, e1, e2, if_pos h]
theorem sign_heads : ∀ c ∈ signs, letB c = false ∧ digB c = false ∧ (c == 34) = false ∧ blankB c = false ∧ (c == 35) = false := by decide
theorem tok1_sign {t r : Str} {after : Bool} (h1 : 1 ≤ t.length) (h : signLen t = t.length) (hr : Stops r) : tok1 after (t ++ r) = .ok (3, t, r) := by
  have hform : (∃ c, t = [c] ∧ signs.contains c = true) ∨ t = [61, 61] ∨ t = [45, 62] := by
    match t, h1, h with
    | [c], _, h =>
      left
      refine ⟨c, rfl, ?_⟩
      have h' : (if signs.contains c then 1 else 0) = 1 := h
      split at h'
      · assumption
      · cases h'
    | c :: d :: u, _, h =>
      right
      have h' : (if (c == 61 && d == 61) || (c == 45 && d == 62) then 2 else if signs.contains c then 1 else 0) = u.length + 1 + 1 := h
      split at h'
      · rename_i hc
        have hu : u = [] := List.eq_nil_of_length_eq_zero (by omega)
        subst hu
        simp only [Bool.or_eq_true, Bool.and_eq_true, beq_iff_eq] at hc
        rcases hc with ⟨rfl, rfl⟩ | ⟨rfl, rfl⟩
        · exact .inl rfl
        · exact .inr rfl
      · split at h' <;> omega
  rcases hform with ⟨c, rfl, hc⟩ | rfl | rfl
  · obtain ⟨s1, s2, s3, _, _⟩ := sign_heads c (by simpa using hc)
    have hn : nextDig r = false := by
      rcases hr with rfl | ⟨z, u, rfl, hz⟩
      · rfl
      · exact dig_stop z hz
    have hsl : signLen (c :: r) = 1 := by
      rcases hr with rfl | ⟨z, u, rfl, hz⟩
      · exact h
      · have hz2 := stop_parts hz
        have := sign_app hz2.2.2.1 hz2.2.2.2 u [c] (by simp)
        rw [show ([c] : Str) ++ z :: u = c :: z :: u from rfl] at this
        rw [this]; exact h
    rw [List.singleton_append]
    unfold tok1
    dsimp only
    rw [if_neg (by rw [s1]; simp), if_neg (by rw [s2, hn]; simp), if_neg (by rw [s3]; simp), hsl, if_neg (by omega)]
    rfl
  · rw [show ([61, 61] : Str) ++ r = 61 :: 61 :: r from rfl]
    unfold tok1
    dsimp only
    rw [show signLen (61 :: 61 :: r) = 2 from rfl]
    cases after <;> rfl
  · rw [show ([45, 62] : Str) ++ r = 45 :: 62 :: r from rfl]
    unfold tok1
    dsimp only
    rw [show signLen (45 :: 62 :: r) = 2 from rfl]
    cases after <;> rfl

/-- What is written of a token is read as that token. -/
theorem tok1_render {after : Bool} {k : Nat} {t r : Str} (h : mayHere after k t = true) (hr : Stops r) : tok1 after (renderT k t ++ r) = .ok (k, t, r) := by
  unfold mayHere at h
  rw [Bool.and_eq_true] at h
  obtain ⟨hm, hn⟩ := h
  unfold tokMay at hm
  unfold renderT
  by_cases k0 : k = 0
  · subst k0
    simp only [beq_self_eq_true, if_true, Bool.and_eq_true, decide_eq_true_eq] at hm
    exact tok1_word after hm.1.1 hm.1.2 hm.2 hr
  · by_cases k1 : k = 1
    · subst k1
      have hm' : numeral t = true := hm
      exact tok1_number hm' (by rw [Bool.not_eq_true'] at hn; exact hn) hr
    · by_cases k2 : k = 2
      · subst k2
        exact tok1_quote after t r
      · have hk0 : (k == 0) = false := by simp [k0]
        have hk1 : (k == 1) = false := by simp [k1]
        have hk2 : (k == 2) = false := by simp [k2]
        rw [hk0, hk1, hk2] at hm
        simp only [Bool.false_eq_true, if_false, Bool.and_eq_true, beq_iff_eq, decide_eq_true_eq] at hm
        obtain ⟨⟨rfl, h1⟩, h2⟩ := hm
        exact tok1_sign h1 h2 hr
end Go.Proofs.Ytgefhgcpnfbigaa

/- Plain laws on tokens: what is written is read back; the tokens of a text can be written, and are read back behind and ahead of white space; names and keywords. -/
namespace Go.Proofs.Ytgefhgcpnfbigaa
open Go.RowKit

def Tok.bare (t : Tok) : Nat × Str := (t.kind, t.text)
theorem render_head {k : Nat} {t : Str} (h : tokMay k t = true) : ∃ c r, renderT k t = c :: r ∧ blankB c = false ∧ (c == 35) = false := by
  unfold tokMay at h
  unfold renderT
  by_cases k2 : k = 2
  · subst k2
    exact ⟨34, escS t ++ [34], rfl, rfl, rfl⟩
  · have hk2 : (k == 2) = false := by simp [k2]
    rw [hk2] at h ⊢
    simp only [Bool.false_eq_true, if_false] at h ⊢
    by_cases k0 : k = 0
    · subst k0
      simp only [beq_self_eq_true, if_true, Bool.and_eq_true, decide_eq_true_eq] at h
      obtain ⟨⟨h1, h2⟩, _⟩ := h
      cases t with
      | nil => simp at h1
      | cons c r =>
        have hc : letB c = true := h2
        refine ⟨c, r, rfl, ?_, ?_⟩
        · unfold letB isLet at hc
          unfold blankB
          simp only [Bool.and_eq_true, decide_eq_true_eq] at hc
          simp only [Bool.or_eq_false_iff, beq_eq_false_iff_ne]
          refine ⟨⟨?_, ?_⟩, ?_⟩ <;> (rintro rfl; revert hc; decide)
        · rw [beq_eq_false_iff_ne]; rintro rfl; revert hc; decide
    · have hk0 : (k == 0) = false := by simp [k0]
      rw [hk0] at h
      simp only [Bool.false_eq_true, if_false] at h
      by_cases k1 : k = 1
      · subst k1
        obtain ⟨c, d, rfl, _, hc⟩ := numeral_all (show numeral t = true from h)
        refine ⟨c, d, rfl, ?_⟩
        rcases hc with hc | ⟨rfl, _⟩
        · constructor
          · unfold digB isDig at hc
            unfold blankB
            simp only [Bool.and_eq_true, decide_eq_true_eq] at hc
            simp only [Bool.or_eq_false_iff, beq_eq_false_iff_ne]
            refine ⟨⟨?_, ?_⟩, ?_⟩ <;> (rintro rfl; revert hc; decide)
          · rw [beq_eq_false_iff_ne]; rintro rfl; revert hc; decide
        · exact ⟨rfl, rfl⟩
      · have hk1 : (k == 1) = false := by simp [k1]
        rw [hk1] at h
        simp only [Bool.false_eq_true, if_false, Bool.and_eq_true, beq_iff_eq, decide_eq_true_eq] at h
        obtain ⟨⟨rfl, h1⟩, h2⟩ := h
        match t, h1, h2 with
        | [c], _, h2 =>
          have h' : (if signs.contains c then 1 else 0) = 1 := h2
          split at h'
          · rename_i hc
            have := sign_heads c (by simpa using hc)
            exact ⟨c, [], rfl, this.2.2.2.1, this.2.2.2.2⟩
          · cases h'
        | c :: d :: u, _, h2 =>
          have h' : (if (c == 61 && d == 61) || (c == 45 && d == 62) then 2 else if signs.contains c then 1 else 0) = u.length + 1 + 1 := h2
          split at h'
          · rename_i hc
            simp only [Bool.or_eq_true, Bool.and_eq_true, beq_iff_eq] at hc
            refine ⟨c, d :: u, rfl, ?_⟩
            rcases hc with ⟨rfl, _⟩ | ⟨rfl, _⟩ <;> exact ⟨rfl, rfl⟩
          · split at h' <;> omega
theorem lexF_blank2 (n f : Nat) (after : Bool) (s : Str) : lexF n (f + 1) after (32 :: s) = lexF n (f + 1) after s := by
  rw [lexF, lexF]; rfl
/-- What is written is read back, also with white space behind it. -/
theorem lexF_back (n : Nat) (tail : Str) (ht : Stops tail) (hs : skipF false tail = []) : ∀ (l : List (Nat × Str)) (after : Bool) (r : Str) (f : Nat), writeR after l = some r → (r ++ tail).length < f →
    ∃ l', lexF n f after (r ++ tail) = .ok l' ∧ l'.map Tok.bare = l
  | [], after, r, f, h, hf => by
    unfold writeR at h
    injection h with h
    subst h
    obtain ⟨g, rfl⟩ : ∃ g, f = g + 1 := ⟨f - 1, by omega⟩
    refine ⟨[], ?_, rfl⟩
    rw [List.nil_append, lexF, hs]
  | (k, t) :: l, after, r, f, h, hf => by
    unfold writeR at h
    split at h
    · rename_i hm
      obtain ⟨r', hr', rfl⟩ := Option.map_eq_some_iff.1 h
      obtain ⟨g, rfl⟩ : ∃ g, f = g + 1 := ⟨f - 1, by omega⟩
      have hmay : tokMay k t = true := by unfold mayHere at hm; rw [Bool.and_eq_true] at hm; exact hm.1
      obtain ⟨c, u, hcu, hb, h35⟩ := render_head hmay
      have hst : Stops (r' ++ tail) := by
        cases l with
        | nil =>
          unfold writeR at hr'
          injection hr' with hr'
          subst hr'
          exact ht
        | cons p l2 =>
          obtain ⟨k2, t2⟩ := p
          unfold writeR at hr'
          split at hr'
          · obtain ⟨q, _, rfl⟩ := Option.map_eq_some_iff.1 hr'
            exact .inr ⟨32, _, rfl, rfl⟩
          · cases hr'
      have h1 := tok1_render hm hst
      have hlen : (r' ++ tail).length < g := by
        simp only [List.cons_append, List.length_cons, List.length_append] at hf ⊢
        omega
      obtain ⟨l', hl', hmap⟩ := lexF_back n tail ht hs l (endsT k t) r' g hr' hlen
      rw [List.cons_append, lexF_blank2, List.append_assoc, lexF]
      rw [hcu] at h1 ⊢
      rw [List.cons_append] at h1 ⊢
      rw [skip_stay hb h35]
      dsimp only
      rw [h1]
      dsimp only
      rw [hl']
      exact ⟨_, rfl, by rw [List.map_cons, hmap]; rfl⟩
    · cases h

theorem sign_take : ∀ (s : Str), signLen s ≠ 0 → signLen (s.take (signLen s)) = signLen s ∧ (s.take (signLen s)).length = signLen s
  | [], h => absurd rfl h
  | [c], h => by
    have e : signLen [c] = if signs.contains c then 1 else 0 := rfl
    have h1 : signLen [c] = 1 := by
      rw [e] at h ⊢
      split
      · rfl
      · rename_i hc; rw [if_neg hc] at h; exact absurd rfl h
    rw [h1]
    exact ⟨h1, rfl⟩
  | c :: d :: r, h => by
    have e : signLen (c :: d :: r) = if (c == 61 && d == 61) || (c == 45 && d == 62) then 2 else if signs.contains c then 1 else 0 := rfl
    by_cases hc : ((c == 61 && d == 61) || (c == 45 && d == 62)) = true
    · rw [if_pos hc] at e
      rw [e]
      refine ⟨?_, rfl⟩
      show (if (c == 61 && d == 61) || (c == 45 && d == 62) then 2 else if signs.contains c then 1 else 0) = 2
      rw [if_pos hc]
    · rw [if_neg hc] at e
      by_cases hs : signs.contains c = true
      · rw [if_pos hs] at e
        rw [e]
        refine ⟨?_, rfl⟩
        show (if signs.contains c then 1 else 0) = 1
        rw [if_pos hs]
      · rw [if_neg hs] at e
        exact absurd e h
theorem all_take {p : UInt8 → Bool} : ∀ s : Str, (s.takeWhile p).all p = true
  | [] => rfl
  | c :: s => by
    by_cases hc : p c = true
    · rw [List.takeWhile_cons_of_pos hc, List.all_cons, hc, all_take s]; rfl
    · rw [List.takeWhile_cons_of_neg hc]; rfl
/-- A token of a text can be written where it stands. -/
theorem tok1_may {after : Bool} {c : UInt8} {r : Str} {k : Nat} {t u : Str} (h : tok1 after (c :: r) = .ok (k, t, u)) : mayHere after k t = true := by
  unfold tok1 at h
  dsimp only at h
  unfold mayHere tokMay
  split at h
  · rename_i hl
    injection h with h
    simp only [Prod.mk.injEq] at h
    obtain ⟨rfl, rfl, rfl⟩ := h
    have hok : okB c = true := by unfold okB; unfold letB at hl; rw [hl]; rfl
    have ha := all_take (p := okB) (c :: r)
    rw [List.takeWhile_cons_of_pos hok] at ha ⊢
    show (decide (1 ≤ (c :: r.takeWhile okB).length) && letB c && (c :: r.takeWhile okB).all okB && !(false && _ && after)) = true
    rw [hl, ha, decide_eq_true (by simp)]
    rfl
  · split at h
    · rename_i hc
      split at h
      · rename_i hn
        injection h with h
        simp only [Prod.mk.injEq] at h
        obtain ⟨rfl, rfl, rfl⟩ := h
        show (numeral (c :: r.takeWhile digB) && !(true && (some c == some 45) && after)) = true
        rw [hn]
        by_cases h45 : c = 45
        · subst h45
          have : after = false := by
            simp only [Bool.or_eq_true, Bool.and_eq_true] at hc
            rcases hc with hc | hc
            · exact absurd hc (by decide)
            · simpa using hc.1.2
          rw [this]; rfl
        · have : ((some c : Option UInt8) == some 45) = false := by simp [h45]
          rw [this]; rfl
      · cases h
    · split at h
      · split at h
        · injection h with h
          simp only [Prod.mk.injEq] at h
          obtain ⟨rfl, rfl, rfl⟩ := h
          rfl
        · cases h
      · split at h
        · cases h
        · rename_i h0
          injection h with h
          simp only [Prod.mk.injEq] at h
          obtain ⟨rfl, rfl, rfl⟩ := h
          have hs := sign_take (c :: r) h0
          show (true && decide (1 ≤ ((c :: r).take (signLen (c :: r))).length) && (signLen ((c :: r).take (signLen (c :: r))) == ((c :: r).take (signLen (c :: r))).length) && !(false && _ && after)) = true
          rw [hs.1, hs.2, decide_eq_true (by omega)]
          simp
theorem plain_esc {c : UInt8} (h1 : (c == 34) = false) (h2 : (decide (c.toNat < 32) || decide (126 < c.toNat)) = false) (h3 : (c != 92) = true) : escB c = [c] := by
  unfold escB
  have h4 : (c == 92) = false := by simpa using h3
  have h5 : (c == 10) = false := by
    rw [beq_eq_false_iff_ne]
    rintro rfl
    revert h2; decide
  rw [h1, h4, h5, h2]
  rfl
theorem esc_four (c : UInt8) : (escB c).length ≤ 4 := by
  unfold escB
  split
  · simp
  · split
    · simp
    · split <;> simp
/-- A quote is written in no more bytes than it was read from. -/
theorem quote_shrinks : ∀ (s : Str) (p : Str × Str), quoteS s = some p → (escS p.1).length + p.2.length + 1 ≤ s.length
  | [], p, h => by simp [quoteS] at h
  | c :: s, p, h => by
    unfold quoteS at h
    split at h
    · injection h with h; subst h; simp [escS]
    · rename_i h1
      split at h
      · cases h
      · rename_i h2
        split at h
        · rename_i h3
          obtain ⟨q, hq, rfl⟩ := Option.map_eq_some_iff.1 h
          have := quote_shrinks s q hq
          have e : escS (c :: q.1) = escB c ++ escS q.1 := rfl
          rw [e, plain_esc (by simpa using h1) (by simpa using h2) h3]
          simp; omega
        · split at h
          · cases h
          · rename_i d t
            split at h
            · rename_i h4
              obtain ⟨q, hq, rfl⟩ := Option.map_eq_some_iff.1 h
              have := quote_shrinks t q hq
              have e : escS (d :: q.1) = escB d ++ escS q.1 := rfl
              have e2 : escB d = [92, d] := by unfold escB; rw [h4]; rfl
              rw [e, e2]
              simp; omega
            · split at h
              · obtain ⟨q, hq, rfl⟩ := Option.map_eq_some_iff.1 h
                have := quote_shrinks t q hq
                have e : escS (10 :: q.1) = [92, 110] ++ escS q.1 := rfl
                rw [e]
                simp; omega
              · split at h
                · split at h
                  · rename_i x1 x2 u
                    split at h
                    · rename_i a b _ _
                      obtain ⟨q, hq, rfl⟩ := Option.map_eq_some_iff.1 h
                      have := quote_shrinks u q hq
                      have e : escS (UInt8.ofNat (16 * a + b) :: q.1) = escB (UInt8.ofNat (16 * a + b)) ++ escS q.1 := rfl
                      have h4 := esc_four (UInt8.ofNat (16 * a + b))
                      rw [e]
                      simp only [List.length_append, List.length_cons]
                      omega
                    · cases h
                  · cases h
                · cases h
theorem tok1_shrinks {after : Bool} {c : UInt8} {r : Str} {k : Nat} {t u : Str} (h : tok1 after (c :: r) = .ok (k, t, u)) : (renderT k t).length + u.length ≤ r.length + 1 := by
  rcases tok1_form h with ⟨hk, _, he⟩ | ⟨rfl, rfl, _⟩
  · have hk2 : (k == 2) = false := by simp [hk]
    unfold renderT
    rw [hk2]
    have := congrArg List.length he
    simp at this ⊢
    omega
  · unfold tok1 at h
    have h' : (match quoteS r with
      | some p => (.ok (2, p.1, p.2) : Except Int (Nat × Str × Str))
      | none => .error 203) = .ok (2, t, u) := by
      cases after <;> exact h
    split at h'
    · rename_i p hp
      injection h' with h'
      simp only [Prod.mk.injEq] at h'
      obtain ⟨_, rfl, rfl⟩ := h'
      have := quote_shrinks r p hp
      show (quotedS p.1).length + _ ≤ _
      unfold quotedS
      simp; omega
    · cases h'
/-- The tokens of a text can be written, in at most twice its bytes. -/
theorem lexF_write (n : Nat) : ∀ (f : Nat) (after : Bool) (s : Str) (l : List Tok), lexF n f after s = .ok l → ∃ r, writeR after (l.map Tok.bare) = some r ∧ r.length ≤ 2 * s.length
  | 0, after, s, l, h => by
    rw [lexF] at h
    injection h with h
    subst h
    exact ⟨[], by simp [writeR], by simp⟩
  | f + 1, after, s, l, h => by
    rw [lexF] at h
    have hle := skip_le false s
    cases hs : skipF false s with
    | nil =>
      rw [hs] at h
      injection h with h
      subst h
      exact ⟨[], by simp [writeR], by simp⟩
    | cons c r =>
      rw [hs] at h hle
      dsimp only at h
      cases ht : tok1 after (c :: r) with
      | error e => rw [ht] at h; cases h
      | ok p =>
        obtain ⟨k, t, u⟩ := p
        rw [ht] at h
        dsimp only at h
        cases hl : lexF n f (endsT k t) u with
        | error e => rw [hl] at h; cases h
        | ok l2 =>
          rw [hl] at h
          injection h with h
          subst h
          obtain ⟨q, hq, hql⟩ := lexF_write n f (endsT k t) u l2 hl
          have hsh := tok1_shrinks ht
          have hless := tok1_less ht
          refine ⟨32 :: (renderT k t ++ q), ?_, ?_⟩
          · show writeR after ((k, t) :: l2.map Tok.bare) = _
            unfold writeR
            rw [if_pos (tok1_may ht), hq]
            rfl
          · simp only [List.length_cons, List.length_append] at hle hless ⊢
            omega
end Go.Proofs.Ytgefhgcpnfbigaa

/- Plain: values, which of them are valid, their order. No program stands in this text. -/
namespace Go.Proofs.Ytgefhgcpnfbigaa
open Go.RowKit

/-- A value as the program may hold it: any kind, any fields. -/
structure Val where
  kind : Int
  num : Int
  text : Str
  list : List Int

def mayV (v : Val) : Bool :=
  if v.kind == 0 then v.num == 0 && v.text.isEmpty && v.list.isEmpty
  else if v.kind == 1 then v.text.isEmpty && v.list.isEmpty
  else if v.kind == 2 then (v.num == 0 || v.num == 1) && v.text.isEmpty && v.list.isEmpty
  else if v.kind == 3 then v.num == 0 && decide (v.text.length ≤ 24) && v.list.isEmpty
  else if v.kind == 4 then v.num == 0 && v.text.isEmpty && decide (v.list.length ≤ 16)
  else v.kind == 5 && !v.text.isEmpty && decide (0 ≤ v.num) && decide (v.num < 5) && v.list.isEmpty

def sameN : List Int → List Int → Bool
  | [], [] => true
  | x :: xs, y :: ys => x == y && sameN xs ys
  | _, _ => false
def sameV (a b : Val) : Bool := a.kind == b.kind && a.num == b.num && a.text == b.text && sameN a.list b.list
def lessN : List Int → List Int → Bool
  | _, [] => false
  | [], _ :: _ => true
  | x :: xs, y :: ys => if x = y then lessN xs ys else decide (x < y)
def lessV (a b : Val) : Bool :=
  if a.kind = b.kind then (if a.num = b.num then (if a.text = b.text then lessN a.list b.list else Op.bytesLess a.text b.text) else decide (a.num < b.num)) else decide (a.kind < b.kind)

theorem sameN_iff : ∀ {a b : List Int}, sameN a b = true ↔ a = b
  | [], [] => by simp [sameN]
  | [], _ :: _ => by simp [sameN]
  | _ :: _, [] => by simp [sameN]
  | x :: xs, y :: ys => by rw [sameN, Bool.and_eq_true, beq_iff_eq, sameN_iff, List.cons.injEq]
theorem sameV_iff {a b : Val} : sameV a b = true ↔ a = b := by
  cases a
  cases b
  unfold sameV
  rw [Bool.and_eq_true, Bool.and_eq_true, Bool.and_eq_true, beq_iff_eq, beq_iff_eq, beq_iff_eq, sameN_iff, Val.mk.injEq]
  constructor
  · rintro ⟨⟨⟨h1, h2⟩, h3⟩, h4⟩; exact ⟨h1, h2, h3, h4⟩
  · rintro ⟨h1, h2, h3, h4⟩; exact ⟨⟨⟨h1, h2⟩, h3⟩, h4⟩

/-- A total order, strict. -/
structure Ranks {α : Type} (lt : α → α → Bool) : Prop where
  irr : ∀ a, lt a a = false
  tri : ∀ a b, lt a b = true ∨ a = b ∨ lt b a = true
  tr : ∀ a b c, lt a b = true → lt b c = true → lt a c = true
theorem ranks_int : Ranks (fun a b : Int => decide (a < b)) :=
  ⟨fun a => by simp, fun a b => by simp only [decide_eq_true_eq]; omega, fun a b c h1 h2 => by simp only [decide_eq_true_eq] at *; omega⟩
theorem u8_three (x y : UInt8) : x < y ∨ x = y ∨ y < x := by
  rcases Nat.lt_trichotomy x.toNat y.toNat with h | h | h
  · exact .inl h
  · exact .inr (.inl (UInt8.toNat_inj.1 h))
  · exact .inr (.inr h)
theorem ranks_bytes : Ranks Op.bytesLess where
  irr a := by
    induction a with
    | nil => rfl
    | cons x a ih => rw [Op.bytesLess, ih]; simp
  tri a := by
    induction a with
    | nil => intro b; cases b <;> simp [Op.bytesLess]
    | cons x a ih =>
      intro b
      cases b with
      | nil => simp [Op.bytesLess]
      | cons y b =>
        rw [Op.bytesLess, Op.bytesLess]
        rcases u8_three x y with h | h | h
        · simp [h]
        · subst h
          rcases ih b with h | h | h
          · simp [h]
          · simp [h]
          · simp [h]
        · simp [h]
  tr a := by
    induction a with
    | nil => intro b c h1 h2; cases b <;> cases c <;> simp [Op.bytesLess] at *
    | cons x a ih =>
      intro b c h1 h2
      cases b with
      | nil => simp [Op.bytesLess] at h1
      | cons y b =>
        cases c with
        | nil => simp [Op.bytesLess] at h2
        | cons z c =>
          rw [Op.bytesLess, Bool.or_eq_true, Bool.and_eq_true, decide_eq_true_eq, beq_iff_eq] at *
          rcases h1 with h1 | ⟨rfl, h1⟩
          · rcases h2 with h2 | ⟨rfl, h2⟩
            · exact .inl (UInt8.lt_trans h1 h2)
            · exact .inl h1
          · rcases h2 with h2 | ⟨rfl, h2⟩
            · exact .inl h2
            · exact .inr ⟨rfl, ih b c h1 h2⟩
theorem ranks_nums : Ranks lessN where
  irr a := by
    induction a with
    | nil => rfl
    | cons x a ih => rw [lessN, ih]; simp
  tri a := by
    induction a with
    | nil => intro b; cases b <;> simp [lessN]
    | cons x a ih =>
      intro b
      cases b with
      | nil => simp [lessN]
      | cons y b =>
        rw [lessN, lessN]
        by_cases h : x = y
        · subst h
          rcases ih b with h | h | h
          · simp [h]
          · simp [h]
          · simp [h]
        · rw [if_neg h, if_neg fun e => h e.symm, decide_eq_true_eq, decide_eq_true_eq]
          omega
  tr a := by
    induction a with
    | nil => intro b c h1 h2; cases b <;> cases c <;> simp [lessN] at *
    | cons x a ih =>
      intro b c h1 h2
      cases b with
      | nil => simp [lessN] at h1
      | cons y b =>
        cases c with
        | nil => simp [lessN] at h2
        | cons z c =>
          rw [lessN] at *
          by_cases h : x = y
          · subst h
            rw [if_pos rfl] at h1
            by_cases h' : x = z
            · rw [if_pos h'] at h2 ⊢
              exact ih b c h1 h2
            · rw [if_neg h'] at h2 ⊢
              exact h2
          · rw [if_neg h, decide_eq_true_eq] at h1
            by_cases h' : y = z
            · subst h'
              rw [if_neg h, decide_eq_true_eq]
              exact h1
            · rw [if_neg h', decide_eq_true_eq] at h2
              rw [if_neg (by omega), decide_eq_true_eq]
              omega
theorem Ranks.pair {α β γ : Type} [DecidableEq α] {f : α → α → Bool} {g : β → β → Bool} (p : γ → α) (q : γ → β) (hpq : ∀ a b, p a = p b → q a = q b → a = b) (hf : Ranks f) (hg : Ranks g) :
    Ranks (fun a b : γ => if p a = p b then g (q a) (q b) else f (p a) (p b)) where
  irr a := by simp [hg.irr]
  tri a b := by
    by_cases h : p a = p b
    · rw [if_pos h, if_pos h.symm]
      rcases hg.tri (q a) (q b) with h1 | h1 | h1
      · exact .inl h1
      · exact .inr (.inl (hpq _ _ h h1))
      · exact .inr (.inr h1)
    · rw [if_neg h, if_neg fun e => h e.symm]
      rcases hf.tri (p a) (p b) with h1 | h1 | h1
      · exact .inl h1
      · exact absurd h1 h
      · exact .inr (.inr h1)
  tr a b c h1 h2 := by
    by_cases h : p a = p b
    · rw [if_pos h] at h1
      by_cases h' : p b = p c
      · rw [if_pos h'] at h2
        rw [if_pos (h.trans h')]
        exact hg.tr _ _ _ h1 h2
      · rw [if_neg h'] at h2
        rw [if_neg (by rw [h]; exact h'), h]
        exact h2
    · rw [if_neg h] at h1
      by_cases h' : p b = p c
      · rw [if_neg (by rw [← h']; exact h), ← h']
        exact h1
      · rw [if_neg h'] at h2
        have h3 := hf.tr _ _ _ h1 h2
        rw [if_neg (fun e => by rw [e, hf.irr] at h3; cases h3)]
        exact h3
theorem ranks_vals : Ranks lessV := by
  have h1 : Ranks (fun a b : Str × List Int => if a.1 = b.1 then lessN a.2 b.2 else Op.bytesLess a.1 b.1) := Ranks.pair Prod.fst Prod.snd (fun a b h1 h2 => Prod.ext h1 h2) ranks_bytes ranks_nums
  have h2 : Ranks (fun a b : Int × Str × List Int => if a.1 = b.1 then (if a.2.1 = b.2.1 then lessN a.2.2 b.2.2 else Op.bytesLess a.2.1 b.2.1) else decide (a.1 < b.1)) := Ranks.pair Prod.fst Prod.snd (fun a b h1 h2 => Prod.ext h1 h2) ranks_int h1
  exact Ranks.pair Val.kind (fun v => (v.num, v.text, v.list)) (fun a b e1 e2 => by
    cases a
    cases b
    simp only [Prod.mk.injEq] at e1 e2
    obtain ⟨e2, e3, e4⟩ := e2
    subst e1 e2 e3 e4
    rfl) ranks_int h2
/-- The order of values is total and transitive. -/
theorem row_vals (a b c : Val) : (!(lessV a b && lessV b a) && ((lessV a b || lessV b a) == !sameV a b) && sameV a a && !lessV a a && (!lessV a b || !lessV b c || lessV a c)) = true := by
  have R := ranks_vals
  have haa : sameV a a = true := sameV_iff.2 rfl
  rw [haa, R.irr a]
  rcases R.tri a b with h | h | h
  · have h2 : lessV b a = false := by
      cases h3 : lessV b a
      · rfl
      · have := R.tr _ _ _ h h3; rw [R.irr] at this; cases this
    have h4 : sameV a b = false := by
      cases h3 : sameV a b
      · rfl
      · rw [sameV_iff] at h3; subst h3; rw [R.irr] at h; cases h
    rw [h, h2, h4]
    cases h5 : lessV b c
    · rfl
    · rw [R.tr _ _ _ h h5]; rfl
  · subst h
    rw [R.irr a, haa]; rfl
  · have h2 : lessV a b = false := by
      cases h3 : lessV a b
      · rfl
      · have := R.tr _ _ _ h h3; rw [R.irr] at this; cases this
    have h4 : sameV a b = false := by
      cases h3 : sameV a b
      · rfl
      · rw [sameV_iff] at h3; subst h3; rw [R.irr] at h; cases h
    rw [h, h2, h4]; rfl
end Go.Proofs.Ytgefhgcpnfbigaa

/- Plain: how values are shown; different valid values (but ends of sessions) are shown differently. No program stands in this text. -/
namespace Go.Proofs.Ytgefhgcpnfbigaa
open Go.RowKit

theorem valU_more (l : Str) (c : UInt8) : valU (l ++ [c]) = valU l * 10 + (c.toNat - 48) := by
  unfold valU
  rw [List.foldl_append]
  rfl
theorem u8_dig {k : Nat} (h : k < 10) : (UInt8.ofNat (48 + k)).toNat = 48 + k := by
  rw [UInt8.toNat_ofNat']
  exact Nat.mod_eq_of_lt (by omega)
theorem dec_val (u : Nat) : valU (Lib.decDigits u) = u := by
  induction u using Nat.strongRecOn with
  | ind u ih =>
    rw [Lib.decDigits]
    by_cases h : u < 10
    · rw [dif_pos h]
      have := valU_more [] (UInt8.ofNat (48 + u))
      rw [List.nil_append] at this
      rw [this, u8_dig h]
      show 0 * 10 + _ = u
      omega
    · rw [dif_neg h, valU_more, ih (u / 10) (by omega), u8_dig (by omega)]
      omega
theorem dec_mem (u : Nat) : Lib.decDigits u ≠ [] ∧ ∀ c ∈ Lib.decDigits u, 48 ≤ c.toNat ∧ c.toNat ≤ 57 := by
  induction u using Nat.strongRecOn with
  | ind u ih =>
    rw [Lib.decDigits]
    by_cases h : u < 10
    · rw [dif_pos h]
      refine ⟨by simp, fun c hc => ?_⟩
      rw [List.mem_singleton] at hc
      subst hc
      rw [u8_dig h]
      omega
    · rw [dif_neg h]
      refine ⟨by simp, fun c hc => ?_⟩
      rcases List.mem_append.1 hc with hc | hc
      · exact (ih (u / 10) (by omega)).2 c hc
      · rw [List.mem_singleton] at hc
        subst hc
        rw [u8_dig (by omega)]
        omega
theorem dec_inj {a b : Nat} (h : Lib.decDigits a = Lib.decDigits b) : a = b := by
  have := congrArg valU h
  rwa [dec_val, dec_val] at this
theorem itoa_head (n : Int) : ∃ c r, Lib.itoa n = c :: r ∧ (c.toNat = 45 ∨ (48 ≤ c.toNat ∧ c.toNat ≤ 57)) := by
  unfold Lib.itoa
  split
  · exact ⟨45, _, rfl, .inl rfl⟩
  · obtain ⟨h1, h2⟩ := dec_mem n.toNat
    cases h : Lib.decDigits n.toNat with
    | nil => exact absurd h h1
    | cons c r => exact ⟨c, r, rfl, .inr (h2 c (by rw [h]; exact List.mem_cons_self ..))⟩
theorem itoa_mem (n : Int) : ∀ c ∈ Lib.itoa n, c ≠ 32 := by
  intro c hc e
  subst e
  unfold Lib.itoa at hc
  split at hc
  · rcases List.mem_cons.1 hc with h | h
    · cases h
    · have h1 := (dec_mem _).2 _ h
      have h2 : (32 : UInt8).toNat = 32 := rfl
      omega
  · have h1 := (dec_mem _).2 _ hc
    have h2 : (32 : UInt8).toNat = 32 := rfl
    omega
theorem itoa_inj {a b : Int} (h : Lib.itoa a = Lib.itoa b) : a = b := by
  have key : ∀ u v : Nat, 45 :: Lib.decDigits u ≠ Lib.decDigits v := fun u v e => by
    have h1 := (dec_mem v).2 45 (by rw [← e]; exact List.mem_cons_self ..)
    have h2 : (45 : UInt8).toNat = 45 := rfl
    omega
  unfold Lib.itoa at h
  split at h
  · split at h
    · injection h with _ h
      have := dec_inj h
      omega
    · exact absurd h (key _ _)
  · split at h
    · exact absurd h.symm (key _ _)
    · have := dec_inj h
      omega

theorem cut_first : ∀ {p q x y : Str}, (∀ c ∈ p, c ≠ 32) → (∀ c ∈ q, c ≠ 32) → p ++ 32 :: x = q ++ 32 :: y → p = q ∧ x = y
  | [], [], x, y, _, _, h => by injection h with _ h; exact ⟨rfl, h⟩
  | [], d :: q, x, y, _, hq, h => by injection h with h _; exact absurd h.symm (hq d (List.mem_cons_self ..))
  | c :: p, [], x, y, hp, _, h => by injection h with h _; exact absurd h (hp c (List.mem_cons_self ..))
  | c :: p, d :: q, x, y, hp, hq, h => by
    injection h with h1 h2
    obtain ⟨e1, e2⟩ := cut_first (fun a ha => hp a (List.mem_cons_of_mem _ ha)) (fun a ha => hq a (List.mem_cons_of_mem _ ha)) h2
    rw [h1, e1]
    exact ⟨rfl, e2⟩
theorem join_two (p q : Str) (r : List Str) : Lib.join (p :: q :: r) [32] = p ++ 32 :: Lib.join (q :: r) [32] := by
  unfold Lib.join
  simp [List.intercalate, List.intersperse]
theorem join_single (p : Str) : Lib.join [p] [32] = p := by simp [Lib.join, List.intercalate]
theorem join_inj : ∀ {ps qs : List Str}, (∀ p ∈ ps, p ≠ [] ∧ ∀ c ∈ p, c ≠ 32) → (∀ p ∈ qs, p ≠ [] ∧ ∀ c ∈ p, c ≠ 32) → Lib.join ps [32] = Lib.join qs [32] → ps = qs
  | [], [], _, _, _ => rfl
  | [], [q], _, hq, h => by rw [join_single] at h; exact absurd h.symm (hq q (List.mem_cons_self ..)).1
  | [], q :: q2 :: qs, _, _, h => by rw [join_two] at h; exact absurd h.symm (show (q ++ 32 :: Lib.join (q2 :: qs) [32] : Str) ≠ [] by simp)
  | [p], [], hp, _, h => by rw [join_single] at h; exact absurd h (hp p (List.mem_cons_self ..)).1
  | p :: p2 :: ps, [], _, _, h => by rw [join_two] at h; exact absurd h (show (p ++ 32 :: Lib.join (p2 :: ps) [32] : Str) ≠ [] by simp)
  | [p], [q], _, _, h => by rw [join_single, join_single] at h; rw [h]
  | [p], q :: q2 :: qs, hp, _, h => by
    rw [join_single, join_two] at h
    exact absurd rfl ((hp p (List.mem_cons_self ..)).2 32 (by rw [h]; simp))
  | p :: p2 :: ps, [q], _, hq, h => by
    rw [join_single, join_two] at h
    exact absurd rfl ((hq q (List.mem_cons_self ..)).2 32 (by rw [← h]; simp))
  | p :: p2 :: ps, q :: q2 :: qs, hp, hq, h => by
    rw [join_two, join_two] at h
    obtain ⟨e1, e2⟩ := cut_first (hp p (List.mem_cons_self ..)).2 (hq q (List.mem_cons_self ..)).2 h
    rw [e1, join_inj (fun a ha => hp a (List.mem_cons_of_mem _ ha)) (fun a ha => hq a (List.mem_cons_of_mem _ ha)) e2]

def showN (l : List Int) : Str := 91 :: (Lib.join (l.map Lib.itoa) [32] ++ [93])
def showV (v : Val) : Str :=
  if mayV v then
    if v.kind == 0 then [117, 110, 105, 116]
    else if v.kind == 1 then Lib.itoa v.num
    else if v.kind == 2 then (if v.num == 1 then [116, 114, 117, 101] else [102, 97, 108, 115, 101])
    else if v.kind == 3 then quotedS v.text
    else if v.kind == 4 then showN v.list
    else v.text ++ 58 :: Lib.itoa v.num
  else []
theorem map_inj {α β : Type} {f : α → β} (hf : ∀ {a b}, f a = f b → a = b) : ∀ {l m : List α}, l.map f = m.map f → l = m
  | [], [], _ => rfl
  | [], _ :: _, h => by cases h
  | _ :: _, [], h => by cases h
  | a :: l, b :: m, h => by
    rw [List.map_cons, List.map_cons] at h
    injection h with h1 h2
    rw [hf h1, map_inj hf h2]
theorem showN_inj {l m : List Int} (h : showN l = showN m) : l = m := by
  unfold showN at h
  injection h with _ h
  have h := List.append_cancel_right h
  have each : ∀ l : List Int, ∀ p ∈ l.map Lib.itoa, p ≠ [] ∧ ∀ c ∈ p, c ≠ 32 := fun l p hp => by
    obtain ⟨n, _, rfl⟩ := List.mem_map.1 hp
    obtain ⟨c, r, e, _⟩ := itoa_head n
    exact ⟨by rw [e]; simp, itoa_mem n⟩
  exact map_inj itoa_inj (join_inj (each l) (each m) h)
theorem quotedS_inj {s t : Str} (h : quotedS s = quotedS t) : s = t := by
  unfold quotedS at h
  injection h with _ h
  have h1 := quote_back [] s
  rw [h, quote_back [] t] at h1
  injection h1 with h1
  injection h1 with h1 _
  exact h1.symm
theorem nil_of_empty {α : Type} {l : List α} (h : l.isEmpty = true) : l = [] := by cases l with
  | nil => rfl
  | cons a l => cases h
/-- Different valid values, ends of sessions aside, are shown differently. -/
theorem showV_inj {a b : Val} (ha : mayV a = true) (hb : mayV b = true) (ka : a.kind ≠ 5) (kb : b.kind ≠ 5) (h : showV a = showV b) : a = b := by
  obtain ⟨k, n, s, l⟩ := a
  obtain ⟨k', n', s', l'⟩ := b
  have ways : ∀ (k n : Int) (s : Str) (l : List Int), mayV ⟨k, n, s, l⟩ = true → k ≠ 5 →
      (k = 0 ∧ n = 0 ∧ s = [] ∧ l = [] ∧ showV ⟨k, n, s, l⟩ = [117, 110, 105, 116]) ∨
      (k = 1 ∧ s = [] ∧ l = [] ∧ showV ⟨k, n, s, l⟩ = Lib.itoa n) ∨
      (k = 2 ∧ n = 1 ∧ s = [] ∧ l = [] ∧ showV ⟨k, n, s, l⟩ = [116, 114, 117, 101]) ∨
      (k = 2 ∧ n = 0 ∧ s = [] ∧ l = [] ∧ showV ⟨k, n, s, l⟩ = [102, 97, 108, 115, 101]) ∨
      (k = 3 ∧ n = 0 ∧ l = [] ∧ showV ⟨k, n, s, l⟩ = quotedS s) ∨
      (k = 4 ∧ n = 0 ∧ s = [] ∧ showV ⟨k, n, s, l⟩ = showN l) := by
    intro k n s l hm hk
    have hs : showV ⟨k, n, s, l⟩ = if k == 0 then [117, 110, 105, 116] else if k == 1 then Lib.itoa n else if k == 2 then (if n == 1 then [116, 114, 117, 101] else [102, 97, 108, 115, 101]) else if k == 3 then quotedS s else if k == 4 then showN l else s ++ 58 :: Lib.itoa n := by
      unfold showV; rw [hm]; rfl
    rw [hs]
    unfold mayV at hm
    dsimp only at hm
    by_cases k0 : k = 0
    · subst k0
      simp only [beq_self_eq_true, if_true, Bool.and_eq_true, beq_iff_eq] at hm
      exact .inl ⟨rfl, hm.1.1, nil_of_empty hm.1.2, nil_of_empty hm.2, rfl⟩
    have z0 : (k == 0) = false := by rw [beq_eq_false_iff_ne]; exact k0
    by_cases k1 : k = 1
    · subst k1
      simp only [z0, beq_self_eq_true, if_true, Bool.and_eq_true, Bool.false_eq_true, if_false] at hm
      exact .inr (.inl ⟨rfl, nil_of_empty hm.1, nil_of_empty hm.2, rfl⟩)
    have z1 : (k == 1) = false := by rw [beq_eq_false_iff_ne]; exact k1
    by_cases k2 : k = 2
    · subst k2
      simp only [z0, z1, beq_self_eq_true, if_true, Bool.and_eq_true, Bool.or_eq_true, beq_iff_eq, Bool.false_eq_true, if_false] at hm
      rcases hm.1.1 with h | h
      · exact .inr (.inr (.inr (.inl ⟨rfl, h, nil_of_empty hm.1.2, nil_of_empty hm.2, by subst h; rfl⟩)))
      · exact .inr (.inr (.inl ⟨rfl, h, nil_of_empty hm.1.2, nil_of_empty hm.2, by subst h; rfl⟩))
    have z2 : (k == 2) = false := by rw [beq_eq_false_iff_ne]; exact k2
    by_cases k3 : k = 3
    · subst k3
      simp only [z0, z1, z2, beq_self_eq_true, if_true, Bool.and_eq_true, beq_iff_eq, Bool.false_eq_true, if_false] at hm
      exact .inr (.inr (.inr (.inr (.inl ⟨rfl, hm.1.1, nil_of_empty hm.2, rfl⟩))))
    have z3 : (k == 3) = false := by rw [beq_eq_false_iff_ne]; exact k3
    by_cases k4 : k = 4
    · subst k4
      simp only [z0, z1, z2, z3, beq_self_eq_true, if_true, Bool.and_eq_true, beq_iff_eq, Bool.false_eq_true, if_false] at hm
      exact .inr (.inr (.inr (.inr (.inr ⟨rfl, hm.1.1, nil_of_empty hm.1.2, rfl⟩))))
    have z4 : (k == 4) = false := by rw [beq_eq_false_iff_ne]; exact k4
    have z5 : (k == 5) = false := by rw [beq_eq_false_iff_ne]; exact hk
    simp only [z0, z1, z2, z3, z4, z5, Bool.false_and, Bool.false_eq_true, if_false] at hm
  have no : ∀ (n : Int) (c : UInt8) (r : Str), (c.toNat = 34 ∨ 58 ≤ c.toNat) → Lib.itoa n ≠ c :: r := fun n c r hc e => by
    obtain ⟨d, t, e2, hd⟩ := itoa_head n
    rw [e2] at e
    injection e with e _
    subst e
    omega
  have w1 := ways k n s l ha ka
  have w2 := ways k' n' s' l' hb kb
  clear ways ha hb ka kb
  rcases w1 with ⟨rfl, rfl, rfl, rfl, e1⟩ | ⟨rfl, rfl, rfl, e1⟩ | ⟨rfl, rfl, rfl, rfl, e1⟩ | ⟨rfl, rfl, rfl, rfl, e1⟩ | ⟨rfl, rfl, rfl, e1⟩ | ⟨rfl, rfl, rfl, e1⟩ <;>
  rcases w2 with ⟨rfl, rfl, rfl, rfl, e2⟩ | ⟨rfl, rfl, rfl, e2⟩ | ⟨rfl, rfl, rfl, rfl, e2⟩ | ⟨rfl, rfl, rfl, rfl, e2⟩ | ⟨rfl, rfl, rfl, e2⟩ | ⟨rfl, rfl, rfl, e2⟩ <;>
  replace h := e1.symm.trans (h.trans e2) <;>
  first
  | rfl
  | (rw [itoa_inj h])
  | (rw [quotedS_inj h])
  | (rw [showN_inj h])
  | (exact absurd h (no _ _ _ (by decide)))
  | (exact absurd h.symm (no _ _ _ (by decide)))
  | (unfold quotedS at h; injection h with h _; cases h)
  | (unfold showN at h; injection h with h _; cases h)
  | (injection h with h _; cases h)
end Go.Proofs.Ytgefhgcpnfbigaa

/- Plain: the value that a text shows, if there is one. No program stands in this text. -/
namespace Go.Proofs.Ytgefhgcpnfbigaa
open Go.RowKit

def inI64 (n : Int) : Prop := -9223372036854775808 ≤ n ∧ n < 9223372036854775808
/-- Its numbers are as a program may hold them. -/
def okNums (v : Val) : Prop := inI64 v.num ∧ ∀ n ∈ v.list, inI64 n
/-- Is the text what this value, which is valid and no end of a session, is shown as? -/
def Shows (s : Str) (v : Val) : Prop := mayV v = true ∧ v.kind ≠ 5 ∧ showV v = s ∧ okNums v
open Classical in
noncomputable def readV (s : Str) : Option Val := if h : ∃ v, Shows s v then some h.choose else none
theorem readV_of {s : Str} {v : Val} (h : Shows s v) : readV s = some v := by
  have hex : ∃ v, Shows s v := ⟨v, h⟩
  unfold readV
  rw [dif_pos hex]
  have hc := hex.choose_spec
  rw [showV_inj hc.1 h.1 hc.2.1 h.2.1 (hc.2.2.1.trans h.2.2.1.symm)]
theorem readV_show {v : Val} (hm : mayV v = true) (hk : v.kind ≠ 5) (hn : okNums v) : readV (showV v) = some v := readV_of ⟨hm, hk, rfl, hn⟩
theorem readV_is {s : Str} {v : Val} (h : readV s = some v) : Shows s v := by
  unfold readV at h
  split at h
  · rename_i hex
    injection h with h
    subst h
    exact hex.choose_spec
  · cases h
theorem readV_none {s : Str} (h : ∀ v, ¬ Shows s v) : readV s = none := by
  cases hr : readV s with
  | none => rfl
  | some v => exact absurd (readV_is hr) (h v)
/-- A guess that is right wherever there is a value: the text shows it, or shows none. -/
theorem readV_guess {s : Str} (g : Val) (hg : ∀ v, Shows s v → v = g) [Decidable (Shows s g)] : readV s = if Shows s g then some g else none := by
  split
  · rename_i h; exact readV_of h
  · rename_i h
    exact readV_none fun v hv => h (by rw [← hg v hv]; exact hv)
theorem itoa_len (n : Int) : (Lib.itoa n) ≠ [] := by obtain ⟨c, r, e, _⟩ := itoa_head n; rw [e]; simp
/-- What each kind is shown as. -/
theorem shows_ways {s : Str} {v : Val} (h : Shows s v) :
    (v = ⟨0, 0, [], []⟩ ∧ s = [117, 110, 105, 116]) ∨ (∃ n, inI64 n ∧ v = ⟨1, n, [], []⟩ ∧ s = Lib.itoa n) ∨ (v = ⟨2, 1, [], []⟩ ∧ s = [116, 114, 117, 101]) ∨ (v = ⟨2, 0, [], []⟩ ∧ s = [102, 97, 108, 115, 101]) ∨
    (∃ t : Str, t.length ≤ 24 ∧ v = ⟨3, 0, t, []⟩ ∧ s = quotedS t) ∨ ∃ l : List Int, l.length ≤ 16 ∧ (∀ n ∈ l, inI64 n) ∧ v = ⟨4, 0, [], l⟩ ∧ s = showN l := by
  obtain ⟨hm, hk, rfl, hn, hl⟩ := h
  obtain ⟨k, n, s, l⟩ := v
  have hs : showV ⟨k, n, s, l⟩ = if k == 0 then [117, 110, 105, 116] else if k == 1 then Lib.itoa n else if k == 2 then (if n == 1 then [116, 114, 117, 101] else [102, 97, 108, 115, 101]) else if k == 3 then quotedS s else if k == 4 then showN l else s ++ 58 :: Lib.itoa n := by
    unfold showV; rw [hm]; rfl
  rw [hs]
  unfold mayV at hm
  dsimp only at hm hk hn hl
  by_cases k0 : k = 0
  · subst k0
    simp only [beq_self_eq_true, if_true, Bool.and_eq_true, beq_iff_eq] at hm
    obtain ⟨⟨rfl, h1⟩, h2⟩ := hm
    rw [nil_of_empty h1, nil_of_empty h2]
    exact .inl ⟨rfl, rfl⟩
  have z0 : (k == 0) = false := by rw [beq_eq_false_iff_ne]; exact k0
  by_cases k1 : k = 1
  · subst k1
    simp only [z0, beq_self_eq_true, if_true, Bool.and_eq_true, Bool.false_eq_true, if_false] at hm
    rw [nil_of_empty hm.1, nil_of_empty hm.2]
    exact .inr (.inl ⟨n, hn, rfl, rfl⟩)
  have z1 : (k == 1) = false := by rw [beq_eq_false_iff_ne]; exact k1
  by_cases k2 : k = 2
  · subst k2
    simp only [z0, z1, beq_self_eq_true, if_true, Bool.and_eq_true, Bool.or_eq_true, beq_iff_eq, Bool.false_eq_true, if_false] at hm
    obtain ⟨⟨h, h1⟩, h2⟩ := hm
    rw [nil_of_empty h1, nil_of_empty h2]
    rcases h with rfl | rfl
    · exact .inr (.inr (.inr (.inl ⟨rfl, rfl⟩)))
    · exact .inr (.inr (.inl ⟨rfl, rfl⟩))
  have z2 : (k == 2) = false := by rw [beq_eq_false_iff_ne]; exact k2
  by_cases k3 : k = 3
  · subst k3
    simp only [z0, z1, z2, beq_self_eq_true, if_true, Bool.and_eq_true, beq_iff_eq, decide_eq_true_eq, Bool.false_eq_true, if_false] at hm
    obtain ⟨⟨rfl, h1⟩, h2⟩ := hm
    rw [nil_of_empty h2]
    exact .inr (.inr (.inr (.inr (.inl ⟨s, h1, rfl, rfl⟩))))
  have z3 : (k == 3) = false := by rw [beq_eq_false_iff_ne]; exact k3
  by_cases k4 : k = 4
  · subst k4
    simp only [z0, z1, z2, z3, beq_self_eq_true, if_true, Bool.and_eq_true, beq_iff_eq, decide_eq_true_eq, Bool.false_eq_true, if_false] at hm
    obtain ⟨⟨rfl, h1⟩, h2⟩ := hm
    rw [nil_of_empty h1]
    exact .inr (.inr (.inr (.inr (.inr ⟨l, h2, hl, rfl, rfl⟩))))
  have z4 : (k == 4) = false := by rw [beq_eq_false_iff_ne]; exact k4
  have z5 : (k == 5) = false := by rw [beq_eq_false_iff_ne]; exact hk
  simp only [z0, z1, z2, z3, z4, z5, Bool.false_and, Bool.false_eq_true, if_false] at hm
end Go.Proofs.Ytgefhgcpnfbigaa

/- Plain: what the reference reads off a number's text and off a list's. No program stands in this text. -/
namespace Go.Proofs.Ytgefhgcpnfbigaa
open Go.RowKit

def two64 : Nat := 18446744073709551616
/-- The digits of a text as a number, modulo 2^64. -/
def magS (s : Str) : Nat := s.foldl (fun u c => if digB c then (u * 10 + (c.toNat - 48)) % two64 else u) 0
def negU (u : Nat) : Nat := if u = 0 then 0 else two64 - u
def asI64 (u : Nat) : Int := if u < 9223372036854775808 then (u : Int) else (u : Int) - 18446744073709551616
def intS (s : Str) : Int := asI64 (if s.head? == some 45 then negU (magS s) else magS s)

theorem mag_snoc (l : Str) (c : UInt8) (h : digB c = true) : magS (l ++ [c]) = (magS l * 10 + (c.toNat - 48)) % two64 := by
  unfold magS
  rw [List.foldl_append]
  show (if digB c then _ else _) = _
  rw [h]
  rfl
theorem mag_minus (l : Str) : magS (45 :: l) = magS l := rfl
theorem dig_ten {k : Nat} (h : k < 10) : digB (UInt8.ofNat (48 + k)) = true := by
  rcases (show k = 0 ∨ k = 1 ∨ k = 2 ∨ k = 3 ∨ k = 4 ∨ k = 5 ∨ k = 6 ∨ k = 7 ∨ k = 8 ∨ k = 9 by omega) with rfl | rfl | rfl | rfl | rfl | rfl | rfl | rfl | rfl | rfl <;> rfl
theorem mag_dec (u : Nat) (hu : u < two64) : magS (Lib.decDigits u) = u := by
  induction u using Nat.strongRecOn with
  | ind u ih =>
    rw [Lib.decDigits]
    by_cases h : u < 10
    · rw [dif_pos h]
      have := mag_snoc [] (UInt8.ofNat (48 + u)) (dig_ten h)
      rw [List.nil_append] at this
      rw [this, u8_dig h]
      show (0 * 10 + _) % _ = u
      rw [Nat.mod_eq_of_lt (by unfold two64 at *; omega)]
      omega
    · rw [dif_neg h, mag_snoc _ _ (dig_ten (by omega)), ih (u / 10) (by omega) (by unfold two64 at *; omega), u8_dig (by omega), Nat.mod_eq_of_lt (by unfold two64 at *; omega)]
      omega
/-- What is read off a number's text is the number. -/
theorem int_itoa {n : Int} (h : inI64 n) : intS (Lib.itoa n) = n := by
  obtain ⟨h1, h2⟩ := h
  unfold intS Lib.itoa
  by_cases hn : n < 0
  · rw [if_pos hn, mag_minus, mag_dec _ (by unfold two64; omega)]
    show asI64 (negU n.natAbs) = n
    have e : negU n.natAbs = 18446744073709551616 - n.natAbs := by
      unfold negU
      exact if_neg (by omega)
    rw [e]
    unfold asI64
    split <;> omega
  · rw [if_neg hn, mag_dec _ (by unfold two64; omega)]
    have hh : ((Lib.decDigits n.toNat).head? == some 45) = false := by
      obtain ⟨e1, e2⟩ := dec_mem n.toNat
      cases he : Lib.decDigits n.toNat with
      | nil => exact absurd he e1
      | cons c r =>
        have h3 := e2 c (by rw [he]; exact List.mem_cons_self ..)
        show (some c == some 45) = false
        rw [beq_eq_false_iff_ne]
        intro e
        injection e with e
        subst e
        have h4 : (45 : UInt8).toNat = 45 := rfl
        omega
    rw [hh]
    show asI64 n.toNat = n
    unfold asI64
    split <;> omega

/-- The numbers of a list's text, as the reference reads them: word by word. -/
def numsF : List Int → Str → Str → List Int
  | acc, _, [] => acc
  | acc, word, c :: r => if c != 32 && c != 93 then numsF acc (word ++ [c]) r else numsF (if word != [] && decide (acc.length ≤ 16) then acc ++ [intS word] else acc) [] r
theorem nums_word (acc : List Int) : ∀ (p word r : Str), (∀ c ∈ p, c ≠ 32 ∧ c ≠ 93) → numsF acc word (p ++ r) = numsF acc (word ++ p) r
  | [], word, r, _ => by rw [List.nil_append, List.append_nil]
  | c :: p, word, r, h => by
    obtain ⟨h1, h2⟩ := h c (List.mem_cons_self ..)
    rw [List.cons_append, numsF, if_pos (by simp [h1, h2]), nums_word acc p _ r fun a ha => h a (List.mem_cons_of_mem _ ha), List.append_assoc]
    rfl
theorem itoa_no (n : Int) : ∀ c ∈ Lib.itoa n, c ≠ 32 ∧ c ≠ 93 := by
  intro c hc
  refine ⟨itoa_mem n c hc, fun e => ?_⟩
  subst e
  have h2 : (93 : UInt8).toNat = 93 := rfl
  unfold Lib.itoa at hc
  split at hc
  · rcases List.mem_cons.1 hc with h | h
    · cases h
    · have h1 := (dec_mem _).2 _ h
      omega
  · have h1 := (dec_mem _).2 _ hc
    omega
theorem nums_end (acc : List Int) (n : Int) (b : UInt8) (r : Str) (hb : b = 32 ∨ b = 93) (hn : inI64 n) (ha : acc.length ≤ 16) : numsF acc (Lib.itoa n) (b :: r) = numsF (acc ++ [n]) [] r := by
  rw [numsF, if_neg (by rcases hb with rfl | rfl <;> decide), if_pos (by simp [itoa_len, ha]), int_itoa hn]
theorem nums_join : ∀ (l acc : List Int), (∀ n ∈ l, inI64 n) → acc.length + l.length ≤ 17 → numsF acc [] (Lib.join (l.map Lib.itoa) [32] ++ [93]) = acc ++ l
  | [], acc, _, _ => by
    show numsF acc [] [93] = acc ++ []
    rw [List.append_nil]
    rfl
  | [n], acc, h, ha => by
    simp only [List.length_singleton] at ha
    rw [List.map_cons, List.map_nil, join_single, nums_word _ _ _ _ (itoa_no n), List.nil_append, nums_end _ _ _ _ (.inr rfl) (h n (List.mem_cons_self ..)) (by omega)]
    rfl
  | n :: m :: l, acc, h, ha => by
    simp only [List.length_cons] at ha
    rw [List.map_cons, List.map_cons, join_two, List.append_assoc, nums_word _ _ _ _ (itoa_no n), List.nil_append, List.cons_append, nums_end _ _ _ _ (.inl rfl) (h n (List.mem_cons_self ..)) (by omega)]
    have := nums_join (m :: l) (acc ++ [n]) (fun a ha => h a (List.mem_cons_of_mem _ ha)) (by simp only [List.length_append, List.length_cons, List.length_nil]; omega)
    rw [List.map_cons] at this
    rw [this, List.append_assoc]
    rfl
/-- What is read off a list's text, behind its bracket, is the list. -/
theorem nums_show {l : List Int} (h : ∀ n ∈ l, inI64 n) (hl : l.length ≤ 16) : numsF [] [] (showN l).tail = l := by
  have := nums_join l [] h (by simp only [List.length_nil]; omega)
  rwa [List.nil_append] at this
/-- What the reference guesses a text to show (a quote's value is asked of quoteS). -/
def guessS (s : Str) : Option Val :=
  if s = [116, 114, 117, 101] then some ⟨2, 1, [], []⟩
  else if s = [102, 97, 108, 115, 101] then some ⟨2, 0, [], []⟩
  else match s with
    | 34 :: r => (quoteS r).bind fun p => if p.2 = [] then some ⟨3, 0, p.1, []⟩ else none
    | 91 :: r => some ⟨4, 0, [], numsF [] [] r⟩
    | s => if s = [117, 110, 105, 116] then some ⟨0, 0, [], []⟩ else some ⟨1, intS s, [], []⟩
/-- The guess is right wherever there is a value. -/
theorem guess_right {s : Str} {v : Val} (h : Shows s v) : guessS s = some v := by
  rcases shows_ways h with ⟨rfl, rfl⟩ | ⟨n, hn, rfl, rfl⟩ | ⟨rfl, rfl⟩ | ⟨rfl, rfl⟩ | ⟨t, ht, rfl, rfl⟩ | ⟨l, hl, hn, rfl, rfl⟩
  · rfl
  · obtain ⟨c, r, e, hc⟩ := itoa_head n
    have hi := int_itoa hn
    rw [e] at hi ⊢
    have n1 : c ≠ 116 := fun h => by subst h; have : (116 : UInt8).toNat = 116 := rfl; omega
    have n2 : c ≠ 102 := fun h => by subst h; have : (102 : UInt8).toNat = 102 := rfl; omega
    have n3 : c ≠ 34 := fun h => by subst h; have : (34 : UInt8).toNat = 34 := rfl; omega
    have n4 : c ≠ 91 := fun h => by subst h; have : (91 : UInt8).toNat = 91 := rfl; omega
    have n5 : c ≠ 117 := fun h => by subst h; have : (117 : UInt8).toNat = 117 := rfl; omega
    unfold guessS
    rw [if_neg (fun h => by injection h with h _; exact n1 h), if_neg (fun h => by injection h with h _; exact n2 h)]
    split
    · rename_i h; injection h with h _; exact absurd h n3
    · rename_i h; injection h with h _; exact absurd h n4
    · rw [if_neg (fun h => by injection h with h _; exact n5 h), hi]
  · rfl
  · rfl
  · have hb := quote_back [] t
    unfold guessS quotedS
    rw [if_neg (fun h => by injection h with h _; cases h), if_neg (fun h => by injection h with h _; cases h)]
    show (quoteS (escS t ++ [34])).bind _ = _
    rw [hb]
    rfl
  · have hb := nums_show hn hl
    unfold guessS showN at *
    rw [if_neg (fun h => by injection h with h _; cases h), if_neg (fun h => by injection h with h _; cases h)]
    rw [List.tail_cons] at hb
    show some (Val.mk 4 0 [] (numsF [] [] (Lib.join (l.map Lib.itoa) [32] ++ [93]))) = _
    rw [hb]
open Classical in
/-- What a text shows: the guess, if it is shown so. -/
theorem readV_guessed (s : Str) : readV s = (guessS s).bind fun v => if Shows s v then some v else none := by
  cases hr : readV s with
  | some v =>
    have h := readV_is hr
    rw [guess_right h]
    show _ = if Shows s v then some v else none
    rw [if_pos h]
  | none =>
    cases hg : guessS s with
    | none => rfl
    | some v =>
      show _ = if Shows s v then some v else none
      rw [if_neg fun h => by rw [readV_of h] at hr; cases hr]
end Go.Proofs.Ytgefhgcpnfbigaa

/- Plain: a field that a kind does not have makes a value invalid; the blanks of a list's text. No program stands in this text. -/
namespace Go.Proofs.Ytgefhgcpnfbigaa
open Go.RowKit

/-- What a valid value is, kind by kind. -/
theorem may_ways {v : Val} (h : mayV v = true) :
    (v.kind = 0 ∧ v.num = 0 ∧ v.text = [] ∧ v.list = []) ∨ (v.kind = 1 ∧ v.text = [] ∧ v.list = []) ∨ (v.kind = 2 ∧ (v.num = 0 ∨ v.num = 1) ∧ v.text = [] ∧ v.list = []) ∨
    (v.kind = 3 ∧ v.num = 0 ∧ v.text.length ≤ 24 ∧ v.list = []) ∨ (v.kind = 4 ∧ v.num = 0 ∧ v.text = [] ∧ v.list.length ≤ 16) ∨ (v.kind = 5 ∧ v.text ≠ [] ∧ 0 ≤ v.num ∧ v.num < 5 ∧ v.list = []) := by
  obtain ⟨k, n, s, l⟩ := v
  unfold mayV at h
  dsimp only at h ⊢
  by_cases k0 : k = 0
  · subst k0
    simp only [beq_self_eq_true, if_true, Bool.and_eq_true, beq_iff_eq] at h
    exact .inl ⟨rfl, h.1.1, nil_of_empty h.1.2, nil_of_empty h.2⟩
  have z0 : (k == 0) = false := by rw [beq_eq_false_iff_ne]; exact k0
  by_cases k1 : k = 1
  · subst k1
    simp only [z0, beq_self_eq_true, if_true, Bool.and_eq_true, Bool.false_eq_true, if_false] at h
    exact .inr (.inl ⟨rfl, nil_of_empty h.1, nil_of_empty h.2⟩)
  have z1 : (k == 1) = false := by rw [beq_eq_false_iff_ne]; exact k1
  by_cases k2 : k = 2
  · subst k2
    simp only [z0, z1, beq_self_eq_true, if_true, Bool.and_eq_true, Bool.or_eq_true, beq_iff_eq, Bool.false_eq_true, if_false] at h
    exact .inr (.inr (.inl ⟨rfl, h.1.1, nil_of_empty h.1.2, nil_of_empty h.2⟩))
  have z2 : (k == 2) = false := by rw [beq_eq_false_iff_ne]; exact k2
  by_cases k3 : k = 3
  · subst k3
    simp only [z0, z1, z2, beq_self_eq_true, if_true, Bool.and_eq_true, beq_iff_eq, decide_eq_true_eq, Bool.false_eq_true, if_false] at h
    exact .inr (.inr (.inr (.inl ⟨rfl, h.1.1, h.1.2, nil_of_empty h.2⟩)))
  have z3 : (k == 3) = false := by rw [beq_eq_false_iff_ne]; exact k3
  by_cases k4 : k = 4
  · subst k4
    simp only [z0, z1, z2, z3, beq_self_eq_true, if_true, Bool.and_eq_true, beq_iff_eq, decide_eq_true_eq, Bool.false_eq_true, if_false] at h
    exact .inr (.inr (.inr (.inr (.inl ⟨rfl, h.1.1, nil_of_empty h.1.2, h.2⟩))))
  have z4 : (k == 4) = false := by rw [beq_eq_false_iff_ne]; exact k4
  simp only [z0, z1, z2, z3, z4, Bool.and_eq_true, beq_iff_eq, decide_eq_true_eq, Bool.false_eq_true, if_false] at h
  obtain ⟨⟨⟨⟨h1, h2⟩, h3⟩, h4⟩, h5⟩ := h
  exact .inr (.inr (.inr (.inr (.inr ⟨h1, fun e => (by subst e; cases h2), h3, h4, nil_of_empty h5⟩))))
theorem not_may {v : Val} (h : mayV v = true → False) : mayV v = false := by
  cases hm : mayV v
  · rfl
  · exact absurd hm h
theorem kinds_num {v : Val} (h1 : v.kind ≠ 1) (h2 : v.kind ≠ 2) (h5 : v.kind ≠ 5) : mayV { v with num := 1 } = false :=
  not_may fun h => by rcases may_ways h with h | h | h | h | h | h <;> dsimp only at h <;> omega
theorem kinds_nums {v : Val} (n : Int) (h : v.kind = 3 ∨ v.kind = 5) : mayV { v with list := [n] } = false :=
  not_may fun hm => by
    rcases may_ways hm with h | h | h | h | h | h <;> dsimp only at h
    · omega
    · omega
    · omega
    · cases h.2.2.2
    · omega
    · cases h.2.2.2.2
theorem kinds_text {v : Val} (c : UInt8) (h3 : v.kind ≠ 3) (h5 : v.kind ≠ 5) : mayV { v with text := [c] } = false :=
  not_may fun hm => by
    rcases may_ways hm with h | h | h | h | h | h <;> dsimp only at h
    · cases h.2.2.1
    · cases h.2.1
    · cases h.2.2.1
    · omega
    · cases h.2.2.1
    · omega
theorem kinds_list {v : Val} (n : Int) (h4 : v.kind ≠ 4) : mayV { v with list := [n] } = false :=
  not_may fun hm => by
    rcases may_ways hm with h | h | h | h | h | h <;> dsimp only at h
    · cases h.2.2.2
    · cases h.2.2
    · cases h.2.2.2
    · cases h.2.2.2
    · omega
    · cases h.2.2.2.2
theorem kinds_long {v : Val} {l : List Int} (h4 : v.kind = 4) (hl : 16 < l.length) : mayV { v with list := l } = false :=
  not_may fun hm => by
    rcases may_ways hm with h | h | h | h | h | h <;> dsimp only at h <;> omega
theorem kinds_kind {v : Val} {k : Int} (h : k < 0 ∨ 5 < k) : mayV { v with kind := k } = false :=
  not_may fun hm => by
    rcases may_ways hm with h | h | h | h | h | h <;> dsimp only at h <;> omega
theorem kinds_other {v w : Val} (hv : mayV v = true) (hw : mayV w = false) : sameV v w = false ∧ showV w = [] := by
  refine ⟨?_, by unfold showV; rw [hw]; rfl⟩
  cases h : sameV v w
  · rfl
  · rw [sameV_iff] at h
    rw [h, hw] at hv
    cases hv

/-- How many blanks a text has. -/
def blanks (s : Str) : Nat := s.countP (· == 32)
theorem blanks_itoa (n : Int) : blanks (Lib.itoa n) = 0 := by
  unfold blanks
  rw [List.countP_eq_zero]
  intro c hc
  simpa using itoa_mem n c hc
theorem blanks_join : ∀ l : List Int, blanks (Lib.join (l.map Lib.itoa) [32]) = l.length - 1
  | [] => rfl
  | [n] => by rw [List.map_cons, List.map_nil, join_single, blanks_itoa]; rfl
  | n :: m :: l => by
    have ih := blanks_join (m :: l)
    have h0 := blanks_itoa n
    rw [List.map_cons] at ih
    rw [List.map_cons, List.map_cons, join_two]
    unfold blanks at *
    rw [List.countP_append, List.countP_cons, h0, ih]
    simp
theorem blanks_show (l : List Int) : blanks (showN l) = l.length - 1 := by
  have h := blanks_join l
  unfold blanks showN at *
  rw [List.countP_cons, List.countP_append, h]
  simp
end Go.Proofs.Ytgefhgcpnfbigaa

/- Plain: how the program compares values, and what it guesses a text to show. No program stands in this text. -/
namespace Go.Proofs.Ytgefhgcpnfbigaa
open Go.RowKit

def cmpI (a b : Int) : Int := if a < b then -1 else if b < a then 1 else 0
def cmpS (a b : Str) : Int := if Op.bytesLess a b then -1 else if !Op.bytesLess a b && !(a == b) then 1 else 0
def cmpN : List Int → List Int → Int
  | [], [] => 0
  | [], _ :: _ => -1
  | _ :: _, [] => 1
  | x :: xs, y :: ys => if x = y then cmpN xs ys else cmpI x y
def cmpV (a b : Val) : Int := if a.kind = b.kind then (if a.num = b.num then (if a.text = b.text then cmpN a.list b.list else cmpS a.text b.text) else cmpI a.num b.num) else cmpI a.kind b.kind
theorem cmpI_less (a b : Int) : decide (cmpI a b < 0) = decide (a < b) := by
  unfold cmpI
  by_cases h : a < b
  · rw [if_pos h]; simp [h]
  · rw [if_neg h]
    split <;> simp [h]
theorem cmpI_ne {a b : Int} (h : a ≠ b) : (cmpI a b == 0) = false := by
  unfold cmpI
  by_cases h1 : a < b
  · rw [if_pos h1]; rfl
  · rw [if_neg h1, if_pos (by omega)]; rfl
theorem cmpS_less {a b : Str} : decide (cmpS a b < 0) = Op.bytesLess a b := by
  unfold cmpS
  cases h : Op.bytesLess a b
  · simp only [Bool.false_eq_true, if_false]
    split <;> rfl
  · rfl
theorem cmpS_ne {a b : Str} (h : a ≠ b) : (cmpS a b == 0) = false := by
  unfold cmpS
  have h2 : (a == b) = false := by rw [beq_eq_false_iff_ne]; exact h
  rw [h2]
  cases h : Op.bytesLess a b <;> rfl
theorem cmpN_less : ∀ a b : List Int, decide (cmpN a b < 0) = lessN a b
  | [], [] => rfl
  | [], _ :: _ => rfl
  | _ :: _, [] => rfl
  | x :: xs, y :: ys => by
    rw [cmpN, lessN]
    by_cases h : x = y
    · rw [if_pos h, if_pos h, cmpN_less]
    · rw [if_neg h, if_neg h, cmpI_less]
theorem cmpN_same : ∀ a b : List Int, (cmpN a b == 0) = sameN a b
  | [], [] => rfl
  | [], _ :: _ => rfl
  | _ :: _, [] => rfl
  | x :: xs, y :: ys => by
    rw [cmpN, sameN]
    by_cases h : x = y
    · rw [if_pos h, cmpN_same, beq_iff_eq.2 h, Bool.true_and]
    · have h2 : (x == y) = false := by rw [beq_eq_false_iff_ne]; exact h
      rw [if_neg h, cmpI_ne h, h2, Bool.false_and]
theorem cmpV_less (a b : Val) : decide (cmpV a b < 0) = lessV a b := by
  unfold cmpV lessV
  split
  · split
    · split
      · exact cmpN_less _ _
      · exact cmpS_less
    · exact cmpI_less _ _
  · exact cmpI_less _ _
theorem cmpV_same (a b : Val) : (cmpV a b == 0) = sameV a b := by
  unfold cmpV sameV
  by_cases h1 : a.kind = b.kind
  · rw [if_pos h1, beq_iff_eq.2 h1, Bool.true_and]
    by_cases h2 : a.num = b.num
    · rw [if_pos h2, beq_iff_eq.2 h2, Bool.true_and]
      by_cases h3 : a.text = b.text
      · rw [if_pos h3, beq_iff_eq.2 h3, Bool.true_and]
        exact cmpN_same _ _
      · have e3 : (a.text == b.text) = false := by rw [beq_eq_false_iff_ne]; exact h3
        rw [if_neg h3, cmpS_ne h3, e3]; rfl
    · have e2 : (a.num == b.num) = false := by rw [beq_eq_false_iff_ne]; exact h2
      rw [if_neg h2, cmpI_ne h2, e2]; rfl
  · have e1 : (a.kind == b.kind) = false := by rw [beq_eq_false_iff_ne]; exact h1
    rw [if_neg h1, cmpI_ne h1, e1]; rfl

/-! ### What a text is guessed to show -/
def numP (s : Str) : Int := match Lib.parseIntB 64 s with
  | .ok v => v
  | .range => Lib.intSat 64 s
  | .syntax => 0
def numsP (s : Str) : List Int := if s = [] then [] else (Lib.splitN s [32] 17).map numP
def firstQ (s : Str) : Str := match tokensS s with
  | .ok (t :: _) => t.text
  | _ => []
def guessP (s : Str) : Val :=
  if s = [117, 110, 105, 116] then ⟨0, 0, [], []⟩
  else if s = [102, 97, 108, 115, 101] then ⟨2, 0, [], []⟩
  else if s = [116, 114, 117, 101] then ⟨2, 1, [], []⟩
  else if Lib.hasPrefix s [34] then ⟨3, 0, firstQ s, []⟩
  else if Lib.hasPrefix s [91] then ⟨4, 0, [], numsP (Lib.trimSuffix (s.drop 1) [93])⟩
  else ⟨1, numP s, [], []⟩

theorem parseM_dec (M : Nat) (hM : M < 18446744073709551616) : ∀ (l : Str) (acc : Nat), (∀ c ∈ l, 48 ≤ c.toNat ∧ c.toNat ≤ 57) → l.foldl (fun u c => u * 10 + (c.toNat - 48)) acc ≤ M →
    Lib.parseUintM M acc l = .ok (l.foldl (fun u c => u * 10 + (c.toNat - 48)) acc)
  | [], acc, _, _ => rfl
  | c :: l, acc, h, hb => by
    have hr := h c (List.mem_cons_self ..)
    have ge : ∀ (l : Str) (u : Nat), u ≤ l.foldl (fun u c => u * 10 + (c.toNat - 48)) u := by
      intro l
      induction l with
      | nil => intro u; exact Nat.le_refl _
      | cons c l ih => intro u; rw [List.foldl_cons]; have := ih (u * 10 + (c.toNat - 48)); omega
    rw [List.foldl_cons] at hb ⊢
    have hg := ge l (acc * 10 + (c.toNat - 48))
    unfold Lib.parseUintM
    rw [if_pos hr, if_neg (by omega), if_neg (by omega)]
    exact parseM_dec M hM l _ (fun x hx => h x (List.mem_cons_of_mem _ hx)) hb
theorem parseB_dec {u : Nat} (h : u < 18446744073709551616) : Lib.parseUintB 64 (Lib.decDigits u) = .ok u := by
  obtain ⟨h1, h2⟩ := dec_mem u
  unfold Lib.parseUintB
  have hv : valU (Lib.decDigits u) = u := dec_val u
  unfold valU at hv
  rw [if_neg h1, parseM_dec _ (by decide) _ 0 h2 (by rw [hv]; have : (2 : Nat) ^ 64 - 1 = 18446744073709551615 := by decide
                                                     omega), hv]
/-- What the program reads off a number's text is the number. -/
theorem num_itoa {n : Int} (h : inI64 n) : numP (Lib.itoa n) = n := by
  obtain ⟨h1, h2⟩ := h
  have e63 : (2 : Nat) ^ (64 - 1) = 9223372036854775808 := by decide
  unfold numP
  have key : Lib.parseIntB 64 (Lib.itoa n) = .ok n := by
    unfold Lib.itoa
    by_cases hn : n < 0
    · rw [if_pos hn]
      unfold Lib.parseIntB
      dsimp only
      rw [if_pos (show (45 : UInt8).toNat = 43 ∨ (45 : UInt8).toNat = 45 from .inr rfl), parseB_dec (by omega)]
      dsimp only
      rw [if_neg (fun h => h.1 rfl), if_neg (fun h => by rw [e63] at h; omega), if_pos (show UInt8.toNat 45 = 45 from rfl)]
      congr 1
      omega
    · rw [if_neg hn]
      have hp := parseB_dec (u := n.toNat) (by omega)
      obtain ⟨e1, e2⟩ := dec_mem n.toNat
      cases he : Lib.decDigits n.toNat with
      | nil => exact absurd he e1
      | cons c r =>
        have hc := e2 c (by rw [he]; exact List.mem_cons_self ..)
        rw [he] at hp
        unfold Lib.parseIntB
        dsimp only
        rw [if_neg (by omega), hp]
        dsimp only
        rw [if_neg (fun h => by rw [e63] at h; omega), if_neg (fun h => by omega), if_neg (by omega)]
        congr 1
        omega
  rw [key]
/-- A number is read, whatever the text. -/
theorem num_in (s : Str) : inI64 (numP s) := by
  have e63 : ((2 ^ (64 - 1) : Nat) : Int) = 9223372036854775808 := by decide
  have e63' : ((2 ^ (64 - 1) - 1 : Nat) : Int) = 9223372036854775807 := by decide
  unfold numP inI64
  cases h : Lib.parseIntB 64 s with
  | ok v =>
    have e : (2 : Nat) ^ (64 - 1) = 9223372036854775808 := by decide
    unfold Lib.parseIntB at h
    cases s with
    | nil => cases h
    | cons c r =>
      dsimp only at h
      split at h
      · cases h
      · cases h
      · rw [e] at h
        by_cases h45 : c.toNat = 45
        · rw [if_neg (fun h => h.1 h45)] at h
          split at h
          · cases h
          · rename_i u _ hu
            injection h with h
            dsimp only
            omega
        · split at h
          · cases h
          · rename_i u _ hu
            rw [if_neg (fun h => h45 h.1)] at h
            injection h with h
            dsimp only
            omega
  | range =>
    dsimp only
    unfold Lib.intSat
    split
    · rw [e63]; omega
    · rw [e63']; omega
  | «syntax» => dsimp only; omega
theorem pre32 (c : UInt8) (l : Str) : ([32] : Str).isPrefixOf (c :: l) = (32 == c) := by
  show (32 == c && List.isPrefixOf [] l) = _
  rw [List.isPrefixOf_nil_left, Bool.and_true]
theorem index_word : ∀ (p r : Str), (∀ c ∈ p, c ≠ 32) → Lib.index (p ++ 32 :: r) [32] = p.length
  | [], r, _ => by
    show Lib.index (32 :: r) [32] = _
    unfold Lib.index
    rw [pre32]
    rfl
  | c :: p, r, h => by
    have hc : (32 == c) = false := by
      rw [beq_eq_false_iff_ne]
      exact fun e => h c (List.mem_cons_self ..) e.symm
    have ih := index_word p r fun a ha => h a (List.mem_cons_of_mem _ ha)
    rw [List.cons_append]
    unfold Lib.index
    rw [pre32, hc, ih]
    have hn : (((p.length : Nat) : Int) == -1) = false := by rw [beq_eq_false_iff_ne]; omega
    rw [hn]
    simp
theorem index_word_none : ∀ (p : Str), (∀ c ∈ p, c ≠ 32) → Lib.index p [32] = -1
  | [], _ => rfl
  | c :: p, h => by
    have hc : (32 == c) = false := by
      rw [beq_eq_false_iff_ne]
      exact fun e => h c (List.mem_cons_self ..) e.symm
    have ih := index_word_none p fun a ha => h a (List.mem_cons_of_mem _ ha)
    unfold Lib.index
    rw [pre32, hc, ih]
    rfl
theorem split_join : ∀ (ps : List Str) (k : Nat), ps ≠ [] → ps.length ≤ k + 1 → (∀ p ∈ ps, ∀ c ∈ p, c ≠ 32) → Lib.splitK [32] 0 k (Lib.join ps [32]) = ps
  | [], _, h, _, _ => absurd rfl h
  | [p], 0, _, _, _ => by rw [join_single]; rfl
  | [p], k + 1, _, _, h => by
    rw [join_single]
    unfold Lib.splitK
    rw [index_word_none p (h p (List.mem_cons_self ..))]
    rfl
  | p :: q :: r, 0, _, hk, _ => by simp at hk
  | p :: q :: r, k + 1, _, hk, h => by
    have hi := index_word p (Lib.join (q :: r) [32]) (h p (List.mem_cons_self ..))
    rw [join_two]
    unfold Lib.splitK
    rw [hi]
    have hn : (((p.length : Nat) : Int) == -1) = false := by rw [beq_eq_false_iff_ne]; omega
    rw [hn]
    simp only [Bool.false_eq_true, if_false, Int.toNat_natCast, Nat.add_zero]
    rw [List.take_left', show (p ++ 32 :: Lib.join (q :: r) [32]).drop (p.length + ([32] : Str).length) = Lib.join (q :: r) [32] from by
      rw [← List.append_cancel_left_eq (p ++ [32])] 
      simp]
    · rw [split_join (q :: r) k (by simp) (by simpa using hk) fun a ha => h a (List.mem_cons_of_mem _ ha)]
    · rfl
theorem join_more : ∀ (ps : List Str), (∀ p ∈ ps, p ≠ []) → ps.length ≤ (Lib.join ps [32]).length + 1
  | [], _ => by simp
  | [p], _ => by simp
  | p :: q :: r, h => by
    have ih := join_more (q :: r) fun a ha => h a (List.mem_cons_of_mem _ ha)
    rw [join_two]
    simp only [List.length_append, List.length_cons] at *
    omega
theorem splitK_len : ∀ (k : Nat) (s : Str), (Lib.splitK [32] 0 k s).length ≤ k + 1
  | 0, s => by unfold Lib.splitK; simp
  | k + 1, s => by
    unfold Lib.splitK
    split
    · simp
    · have := splitK_len k (s.drop ((Lib.index s [32]).toNat + ([32] : Str).length))
      rw [List.length_cons]
      omega
theorem nums_few (s : Str) : (numsP s).length ≤ 17 := by
  unfold numsP
  split
  · simp
  · rw [List.length_map]
    have := splitK_len (min 17 (s.length + 1) - 1) s
    unfold Lib.splitN
    omega
theorem nums_in (s : Str) : ∀ n ∈ numsP s, inI64 n := by
  intro n hn
  unfold numsP at hn
  split at hn
  · cases hn
  · obtain ⟨p, _, rfl⟩ := List.mem_map.1 hn
    exact num_in p
theorem nums_join_p {l : List Int} (h : ∀ n ∈ l, inI64 n) (hl : l.length ≤ 17) : numsP (Lib.join (l.map Lib.itoa) [32]) = l := by
  cases l with
  | nil => rfl
  | cons n r =>
    have hne : Lib.join ((n :: r).map Lib.itoa) [32] ≠ [] := by
      have := itoa_len n
      cases r with
      | nil => rw [List.map_cons, List.map_nil, join_single]; exact this
      | cons m r => rw [List.map_cons, List.map_cons, join_two]; simp
    have hmore := join_more ((n :: r).map Lib.itoa) fun p hp => by
      obtain ⟨m, _, rfl⟩ := List.mem_map.1 hp
      exact itoa_len m
    rw [List.length_map] at hmore
    unfold numsP Lib.splitN
    rw [if_neg hne, split_join _ _ (by simp) (by rw [List.length_map]; omega) (fun p hp => by
      obtain ⟨m, _, rfl⟩ := List.mem_map.1 hp
      exact itoa_mem m), List.map_map]
    conv => rhs; rw [← List.map_id (n :: r)]
    exact List.map_congr_left fun x hx => num_itoa (h x hx)
theorem trim_bracket (t : Str) : Lib.trimSuffix (t ++ [93]) [93] = t := by
  unfold Lib.trimSuffix Lib.hasSuffix
  rw [if_pos (by rw [List.isSuffixOf_iff_suffix]; exact List.suffix_append _ _)]
  simp
/-- The guess is right wherever there is a value. -/
theorem guessP_right {s : Str} {v : Val} (h : Shows s v) : guessP s = v := by
  rcases shows_ways h with ⟨rfl, rfl⟩ | ⟨n, hn, rfl, rfl⟩ | ⟨rfl, rfl⟩ | ⟨rfl, rfl⟩ | ⟨t, ht, rfl, rfl⟩ | ⟨l, hl, hn, rfl, rfl⟩
  · rfl
  · obtain ⟨c, r, e, hc⟩ := itoa_head n
    have hi := num_itoa hn
    rw [e] at hi ⊢
    have n1 : c ≠ 116 := fun h => by subst h; have : (116 : UInt8).toNat = 116 := rfl; omega
    have n2 : c ≠ 102 := fun h => by subst h; have : (102 : UInt8).toNat = 102 := rfl; omega
    have n3 : c ≠ 34 := fun h => by subst h; have : (34 : UInt8).toNat = 34 := rfl; omega
    have n4 : c ≠ 91 := fun h => by subst h; have : (91 : UInt8).toNat = 91 := rfl; omega
    have n5 : c ≠ 117 := fun h => by subst h; have : (117 : UInt8).toNat = 117 := rfl; omega
    have p1 : ∀ d : UInt8, c ≠ d → Lib.hasPrefix (c :: r) [d] = false := fun d hd => by
      unfold Lib.hasPrefix
      show (d == c && _) = false
      have : (d == c) = false := by rw [beq_eq_false_iff_ne]; exact fun e => hd e.symm
      rw [this]; rfl
    unfold guessP
    rw [if_neg (fun h => by injection h with h _; exact n5 h), if_neg (fun h => by injection h with h _; exact n2 h), if_neg (fun h => by injection h with h _; exact n1 h), p1 _ n3, p1 _ n4, hi]
    rfl
  · rfl
  · rfl
  · have hb := tokens_quote t (by omega)
    have hp : Lib.hasPrefix (quotedS t) [34] = true := by unfold Lib.hasPrefix quotedS; rfl
    unfold guessP
    rw [if_neg (fun h => by unfold quotedS at h; injection h with h _; cases h), if_neg (fun h => by unfold quotedS at h; injection h with h _; cases h), if_neg (fun h => by unfold quotedS at h; injection h with h _; cases h), hp]
    unfold firstQ
    rw [hb]
    rfl
  · have hb := nums_join_p hn (by omega)
    have hp : Lib.hasPrefix (showN l) [34] = false := by unfold Lib.hasPrefix showN; rfl
    have hq : Lib.hasPrefix (showN l) [91] = true := by unfold Lib.hasPrefix showN; rfl
    unfold guessP
    rw [if_neg (fun h => by unfold showN at h; injection h with h _; cases h), if_neg (fun h => by unfold showN at h; injection h with h _; cases h), if_neg (fun h => by unfold showN at h; injection h with h _; cases h), hp, hq]
    unfold showN
    rw [List.drop_succ_cons, List.drop_zero, trim_bracket, hb]
    rfl
open Classical in
/-- What a text shows: the guess, if it is shown so. -/
theorem readV_guessP (s : Str) : readV s = if Shows s (guessP s) then some (guessP s) else none :=
  readV_guess (guessP s) fun _ h => (guessP_right h).symm
/-- What the guess holds may be held. -/
theorem guessP_ok (s : Str) : okNums (guessP s) ∧ (guessP s).kind ≠ 5 ∧ (guessP s).list.length ≤ 17 := by
  have z : inI64 0 := by unfold inI64; omega
  have o : inI64 1 := by unfold inI64; omega
  unfold guessP
  split
  · exact ⟨⟨z, fun n h => by cases h⟩, by dsimp only; omega, Nat.zero_le _⟩
  · split
    · exact ⟨⟨z, fun n h => by cases h⟩, by dsimp only; omega, Nat.zero_le _⟩
    · split
      · exact ⟨⟨o, fun n h => by cases h⟩, by dsimp only; omega, Nat.zero_le _⟩
      · split
        · exact ⟨⟨z, fun n h => by cases h⟩, by dsimp only; omega, Nat.zero_le _⟩
        · split
          · exact ⟨⟨z, nums_in _⟩, by dsimp only; omega, nums_few _⟩
          · exact ⟨⟨num_in _, fun n h => by cases h⟩, by dsimp only; omega, Nat.zero_le _⟩
theorem readV_shown (s : Str) : readV s = if showV (guessP s) = s ∧ mayV (guessP s) = true then some (guessP s) else none := by
  obtain ⟨h1, h2, _⟩ := guessP_ok s
  rw [readV_guessP]
  by_cases h : Shows s (guessP s)
  · rw [if_pos h, if_pos ⟨h.2.2.1, h.1⟩]
  · rw [if_neg h, if_neg fun e => h ⟨e.2, h2, e.1, h1⟩]
end Go.Proofs.Ytgefhgcpnfbigaa
