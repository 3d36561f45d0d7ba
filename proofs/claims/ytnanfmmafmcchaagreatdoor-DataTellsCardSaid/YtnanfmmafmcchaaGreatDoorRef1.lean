/- Contracts of the reference's ends, tokenMay. -/
import Derived.Test.YtnanfmmafmcchaaGreatDoorLxRefF
namespace Go.Proofs.YtnanfmmafmcchaaGreatDoor
open Go.RowKit

/-- endsT, with the kind as an int. -/
def endsI (k : Int) (t : Str) : Bool :=
  if k == 0 then !isKw t else if k == 1 || k == 2 then true else k == 3 && t == [41]
theorem endsI_nat (k : Nat) (t : Str) : endsI k t = endsT k t := by
  unfold endsI endsT
  have h : ∀ n : Nat, (((k : Nat) : Int) == (n : Int)) = (k == n) := fun n => by
    rw [Bool.eq_iff_iff, beq_iff_eq, beq_iff_eq]; omega
  rw [show (((k : Nat) : Int) == 0) = (k == 0) from h 0, show (((k : Nat) : Int) == 1) = (k == 1) from h 1, show (((k : Nat) : Int) == 2) = (k == 2) from h 2, show (((k : Nat) : Int) == 3) = (k == 3) from h 3]

/-- tokMay, with the kind as an int. -/
def tokMayI (k : Int) (t : Str) : Bool :=
  if k == 0 then decide (1 ≤ t.length) && letB (t.getD 0 0) && t.all okB
  else if k == 1 then numeral t
  else if k == 2 then true
  else k == 3 && decide (1 ≤ t.length) && signLen t == t.length
theorem tokMayI_nat (k : Nat) (t : Str) : tokMayI k t = tokMay k t := by
  unfold tokMayI tokMay
  have h : ∀ n : Nat, (((k : Nat) : Int) == (n : Int)) = (k == n) := fun n => by
    rw [Bool.eq_iff_iff, beq_iff_eq, beq_iff_eq]; omega
  rw [show (((k : Nat) : Int) == 0) = (k == 0) from h 0, show (((k : Nat) : Int) == 1) = (k == 1) from h 1, show (((k : Nat) : Int) == 2) = (k == 2) from h 2, show (((k : Nat) : Int) == 3) = (k == 3) from h 3]
theorem dropWhile_end {p : UInt8 → Bool} : ∀ (l : Str), (l.dropWhile p = []) ↔ l.all p = true
  | [] => by simp
  | c :: l => by
    cases h : p c
    · rw [List.dropWhile_cons_of_neg (by rw [h]; simp)]; simp [h]
    · rw [List.dropWhile_cons_of_pos h, dropWhile_end l]; simp [h]

theorem list_empty_false {s : ByteArray} (h : 0 < s.size) : s.toList.isEmpty = false ∧ (s.toList == []) = false := by
  have := lxLen s
  cases h2 : s.toList with
  | nil => rw [h2] at this; simp at this; omega
  | cons c r => exact ⟨rfl, rfl⟩

end Go.Proofs.YtnanfmmafmcchaaGreatDoor

/- Contract of the reference's token. -/
namespace Go.Proofs.YtnanfmmafmcchaaGreatDoor
open Go.RowKit


def TokAns (s : ByteArray) (p : Nat) : Except Int (Nat × Str × Str) → Ending → Prop
  | .error c, e => e = .returned (.tuple #[.agg #[.int .i64 0, .string ⟨#[]⟩, .int .i64 0], .int .i64 0, .int .i64 c])
  | .ok (k, t, u), e => ∃ r : Nat, e = .returned (.tuple #[.agg #[.int .i64 k, .string (lxS t), .int .i64 p], .int .i64 r, .int .i64 0]) ∧ p < r ∧ r ≤ s.size ∧ s.toList.drop r = u

theorem lxS_inj {a b : ByteArray} (h : a.toList = b.toList) : a = b := by
  rw [ByteArray.toList_eq, ByteArray.toList_eq] at h
  cases a; cases b
  congr 1
  exact Array.toList_inj.1 h
theorem lx_cut (s : ByteArray) (p r : Nat) (h1 : p ≤ r) (h2 : r ≤ s.size) {P : UInt8 → Bool} (h : s.toList.drop r = (s.toList.drop p).dropWhile P) : s.extract p r = lxS ((s.toList.drop p).takeWhile P) := by
  have e : (s.extract p r).toList = (s.toList.drop p).take (r - p) := by
    rw [ByteArray.toList_eq, ByteArray.toList_eq, ByteArray.data_extract]
    simp [List.extract_eq_take_drop]
  have hl := List.takeWhile_append_dropWhile (p := P) (l := s.toList.drop p)
  rw [← h] at hl
  have hlen : ((s.toList.drop p).takeWhile P).length = r - p := by
    have := congrArg List.length hl
    rw [List.length_append, List.length_drop, List.length_drop, lxLen] at this
    omega
  have e2 : (s.toList.drop p).take (r - p) = (s.toList.drop p).takeWhile P := by
    conv => lhs; rw [← hl]
    rw [← hlen, List.take_left']
    rfl
  apply lxS_inj
  rw [e, e2, lxS_toList]

theorem tok_word {b : Bool} {c : UInt8} {r : Str} (h : letB c = true) : tok1 b (c :: r) = .ok (0, (c :: r).takeWhile okB, (c :: r).dropWhile okB) := by
  unfold tok1; dsimp only; rw [if_pos h]
theorem tok_num {b : Bool} {c : UInt8} {r : Str} (h : letB c = false) (h2 : (digB c || (c == 45 && !b && nextDig r)) = true) (h3 : numeral (c :: r.takeWhile digB) = true) : tok1 b (c :: r) = .ok (1, c :: r.takeWhile digB, r.dropWhile digB) := by
  unfold tok1; dsimp only; rw [if_neg (by rw [h]; simp), if_pos h2, if_pos h3]
theorem tok_nonum {b : Bool} {c : UInt8} {r : Str} (h : letB c = false) (h2 : (digB c || (c == 45 && !b && nextDig r)) = true) (h3 : numeral (c :: r.takeWhile digB) = false) : tok1 b (c :: r) = .error 202 := by
  unfold tok1; dsimp only; rw [if_neg (by rw [h]; simp), if_pos h2, if_neg (by rw [h3]; simp)]
theorem tok_quote {b : Bool} {c : UInt8} {r : Str} {q : Str × Str} (h : letB c = false) (h2 : (digB c || (c == 45 && !b && nextDig r)) = false) (h3 : (c == 34) = true) (h4 : quoteS r = some q) : tok1 b (c :: r) = .ok (2, q.1, q.2) := by
  unfold tok1; dsimp only; rw [if_neg (by rw [h]; simp), if_neg (by rw [h2]; simp), if_pos h3, h4]
theorem tok_noquote {b : Bool} {c : UInt8} {r : Str} (h : letB c = false) (h2 : (digB c || (c == 45 && !b && nextDig r)) = false) (h3 : (c == 34) = true) (h4 : quoteS r = none) : tok1 b (c :: r) = .error 203 := by
  unfold tok1; dsimp only; rw [if_neg (by rw [h]; simp), if_neg (by rw [h2]; simp), if_pos h3, h4]
theorem tok_sign {b : Bool} {c : UInt8} {r : Str} (h : letB c = false) (h2 : (digB c || (c == 45 && !b && nextDig r)) = false) (h3 : (c == 34) = false) (h4 : signLen (c :: r) ≠ 0) : tok1 b (c :: r) = .ok (3, (c :: r).take (signLen (c :: r)), (c :: r).drop (signLen (c :: r))) := by
  unfold tok1; dsimp only; rw [if_neg (by rw [h]; simp), if_neg (by rw [h2]; simp), if_neg (by rw [h3]; simp), if_neg h4]
theorem tok_nosign {b : Bool} {c : UInt8} {r : Str} (h : letB c = false) (h2 : (digB c || (c == 45 && !b && nextDig r)) = false) (h3 : (c == 34) = false) (h4 : signLen (c :: r) = 0) : tok1 b (c :: r) = .error 201 := by
  unfold tok1; dsimp only; rw [if_neg (by rw [h]; simp), if_neg (by rw [h2]; simp), if_neg (by rw [h3]; simp), if_pos h4]
theorem lx_num (s : ByteArray) (p r : Nat) (hp : p < s.size) (h1 : p + 1 ≤ r) (h2 : r ≤ s.size) (h : s.toList.drop r = (s.toList.drop (p + 1)).dropWhile digB) : s.extract p r = lxS (s[p] :: (s.toList.drop (p + 1)).takeWhile digB) := by
  have e := lx_cut s (p + 1) r h1 h2 h
  have e3 : (s.extract p r).toList = s[p] :: (s.extract (p + 1) r).toList := by
    rw [ByteArray.toList_eq, ByteArray.toList_eq, ByteArray.data_extract, ByteArray.data_extract]
    simp only [Array.toList_extract, List.extract_eq_take_drop]
    have hd := lxDrop s p hp
    rw [ByteArray.toList_eq] at hd
    rw [hd, show r - p = (r - (p + 1)) + 1 by omega, List.take_succ_cons]
  apply lxS_inj
  rw [e3, e, lxS_toList, lxS_toList]

end Go.Proofs.YtnanfmmafmcchaaGreatDoor

/- Contract of the reference's token: quotes and signs. -/
namespace Go.Proofs.YtnanfmmafmcchaaGreatDoor
open Go.RowKit

theorem bcell {W w1 : World} (hb : Below W.heap.size W w1) : (∀ b o, b < W.heap.size → w1.cell? ⟨b, o, none⟩ = W.cell? ⟨b, o, none⟩) ∧ (∀ b o, b < W.heap.size → w1.frozen? ⟨b, o, none⟩ = W.frozen? ⟨b, o, none⟩) :=
  ⟨fun b o h => hb.cell (p := ⟨b, o, none⟩) h, fun b o h => hb.frozen (p := ⟨b, o, none⟩) h⟩

theorem lx_sub (s : ByteArray) (p n : Nat) : s.extract p (p + n) = lxS ((s.toList.drop p).take n) := by
  apply lxS_inj
  rw [lxS_toList, ByteArray.toList_eq, ByteArray.toList_eq, ByteArray.data_extract]
  simp [List.extract_eq_take_drop]

end Go.Proofs.YtnanfmmafmcchaaGreatDoor

/- A slice of tokens that the call made. -/
namespace Go.Proofs.YtnanfmmafmcchaaGreatDoor
open Go.RowKit

def encTok (t : Tok) : List Value := [.int .i64 t.kind, .string (lxS t.text), .int .i64 t.place]
def encToks (l : List Tok) : List Value := l.flatMap encTok
theorem encToks_len (l : List Tok) : (encToks l).length = l.length * 3 := by
  unfold encToks
  induction l with
  | nil => rfl
  | cons t l ih => rw [List.flatMap_cons, List.length_append, ih, List.length_cons]; show 3 + _ = _; omega
/-- The slice v, which the call made (its array lies at base or above), holds just these tokens. -/
def Toks (w : World) (base : Nat) (v : Value) (l : List Tok) : Prop := w.ownsRow base 41 3 v l.length (encToks l)

theorem Toks.zero (w : World) (base : Nat) : Toks w base (.slice none 0 0) [] := World.ownsRow_nil w base 41 3
theorem Toks.alloc {w : World} {base : Nat} {v : Value} {l : List Tok} (h : Toks w base v l) (o : Obj) : Toks (w.alloc o) base v l := World.ownsRow.alloc h o
theorem Toks.drewN {w : World} {base : Nat} {v : Value} {l : List Tok} (h : Toks w base v l) (k : Nat) : Toks (w.drewN k) base v l := h
theorem Toks.below {w w' : World} {base B : Nat} {v : Value} {l : List Tok} (h : Toks w base v l) (hb : Below B w w') (hB : w.heap.size ≤ B) : Toks w' base v l := by
  have hlt := h.lt
  rcases h.2 with h0 | ⟨g, cap, cur, rfl, hbase, hh, h1, h2, h3, h4⟩
  · exact ⟨h.1, .inl h0⟩
  · refine ⟨h.1, .inr ⟨g, cap, cur, rfl, hbase, ?_, h1, h2, h3, h4⟩⟩
    have := (hlt g rfl).2
    rw [hb.block g (by omega)]
    exact hh
/-- The slice of one token or more, and the cells of the last. -/
theorem Toks.last {w : World} {base : Nat} {v : Value} {l : List Tok} {t : Tok} (h : Toks w base v (l ++ [t])) :
    ∃ g cap, v = .slice (some ⟨g, 0, none⟩) (l.length + 1) cap ∧ g < w.heap.size ∧ l.length + 1 ≤ cap ∧ cap ≤ maxLen ∧ w.cell? ⟨g, l.length * 3, none⟩ = some (.int .i64 t.kind) ∧ w.cell? ⟨g, l.length * 3 + 1, none⟩ = some (.string (lxS t.text)) ∧ w.cell? ⟨g, l.length * 3 + 2, none⟩ = some (.int .i64 t.place) := by
  have hlt := h.lt
  rcases h.2 with ⟨_, h0⟩ | ⟨g, cap, cur, rfl, hbase, hh, h1, h2, h3, h4⟩
  · simp at h0
  · have hl : (l ++ [t]).length = l.length + 1 := by simp
    rw [hl] at h1 h4
    have hc : ∀ j, j < 3 → w.cell? ⟨g, l.length * 3 + j, none⟩ = (encTok t)[j]? := fun j hj => by
      rw [cell_of_row w g _ cur 41 (0, 0) hh]
      have : (cur.toList.take ((l.length + 1) * 3))[l.length * 3 + j]? = (encToks (l ++ [t]))[l.length * 3 + j]? := by rw [h4]
      rw [List.getElem?_take, if_pos (by omega)] at this
      rw [← Array.getElem?_toList, this]
      unfold encToks
      rw [List.flatMap_append, List.getElem?_append_right (by show (encToks l).length ≤ _; rw [encToks_len]; omega)]
      show (List.flatMap encTok [t])[_ - (encToks l).length]? = _
      rw [encToks_len, Nat.add_sub_cancel_left, List.flatMap_cons, List.flatMap_nil, List.append_nil]
    refine ⟨g, cap, by rw [hl], (hlt g rfl).2, h1, h2, ?_, ?_, ?_⟩
    · have := hc 0 (by omega); rw [Nat.add_zero] at this; rw [this]; rfl
    · rw [hc 1 (by omega)]; rfl
    · rw [hc 2 (by omega)]; rfl

theorem info_tok : (Tryz.prog.info? 41).map (fun i => (i.zero, i.size, i.bytes)) = some (some (.agg #[.int .i64 0, .string ⟨#[]⟩, .int .i64 0]), 3, 32) := by kernel_rfl

/-- One token more, which the statement just laid into a new array. -/
theorem Toks.more {w : World} {base : Nat} {v : Value} {l : List Tok} (h : Toks w base v l) (hb : base ≤ w.heap.size) (t : Tok) (hlen : l.length ≤ 1000000000000) (ty : Nat) :
    ∃ v' w', (Builtin.append_ #[36, 36] ty #[v, .slice (some ⟨w.heap.size, 0, none⟩) 1 1]).run Tryz.prog (w.alloc (.cells (encTok t).toArray 41)) = .ok v' w' ∧
      Toks w' base v' (l ++ [t]) ∧ ∀ B, B ≤ base → ∀ w0, Below B w0 w → Below B w0 w' := by
  obtain ⟨i0, hi0, hzz⟩ := Option.map_eq_some_iff.1 info_tok
  simp only [Prod.mk.injEq] at hzz
  obtain ⟨hz, hs1, hb1⟩ := hzz
  obtain ⟨v', w', hrun, hown, hgr, _, hat⟩ := run_append_own_at (P := Tryz.prog) (w.alloc (.cells (encTok t).toArray 41)) base 36 ty 41 i0 _ 3 32 Tryz.underlying36 hi0 hz hs1 hb1 rfl (by omega) v l.length (encToks l) (h.alloc _)
    ⟨w.heap.size, 0, none⟩ 1 1 (encTok t) rfl
    (fun j u hu => by
      have hj : j < (encTok t).length := by
        rcases Nat.lt_or_ge j (encTok t).length with h | h
        · exact h
        · rw [List.getElem?_eq_none h] at hu; cases hu
      rw [cell_alloc j (by simpa using hj)]
      rw [← hu, List.getElem?_eq_getElem hj]
      simp)
    (fun u hu => by
      unfold encTok at hu
      simp only [List.mem_cons, List.not_mem_nil, or_false] at hu
      rcases hu with rfl | rfl | rfl <;> rfl) (by unfold maxLen; omega) (by omega) (by simp; omega)
  refine ⟨v', w', hrun, ?_, fun B hB w0 hw0 => ?_⟩
  · unfold Toks encToks
    rw [List.length_append, List.flatMap_append, List.flatMap_cons, List.flatMap_nil, List.append_nil]
    exact hown
  · exact (hw0.alloc (by omega) _).grown hgr (by simp; omega) (fun k hk => by
      have := (h.alloc (.cells (encTok t).toArray 41)).lt k hk
      omega)
theorem wpList_append_toks {ops : Array Oper} {rest : List Oper} {o : Oper} {a : Act} {Q : Exit → Act → World → Prop} {W : World} {cells : Array Value} (hgd : o.guard = none) (s x : Operand)
    (ho : o.op = .call { callee := .builtin .append, args := #[s, x], argTypes := #[36, 36] }) (base : Nat) (v : Value) (l : List Tok) (t : Tok) (hc : cells = (encTok t).toArray)
    (hs : a.eval s = v) {g : Nat} (hx : a.eval x = .slice (some ⟨g, 0, none⟩) 1 1) (hg : g = W.heap.size) (hB : Toks W base v l) (hb : base ≤ W.heap.size) (hlen : l.length ≤ 1000000000000)
    (w0 : World) (hw : Below base w0 W)
    (h : ∀ v' w', Toks w' base v' (l ++ [t]) → Below base w0 w' → wpList Tryz.prog ops Q rest (a.put o.dst v') w') : wpList Tryz.prog ops Q (o :: rest) a (W.alloc (.cells cells 41)) := by
  subst hc hg
  obtain ⟨v', w', hrun, hown, hbel⟩ := hB.more hb t hlen o.type
  exact wpList_append_lx hgd s x _ ho _ _ _ hs hx hrun (h v' w' hown (hbel base (Nat.le_refl _) w0 hw))
end Go.Proofs.YtnanfmmafmcchaaGreatDoor

/- Contract of the reference's Tokens. -/
namespace Go.Proofs.YtnanfmmafmcchaaGreatDoor
open Go.RowKit

theorem Below.undrew {B : Nat} {w w' : World} {q : Nat} (h : Below B (w.drewN q) w') : Below B w w' := ⟨h.os, h.tape, h.output, h.size, h.block⟩
/-- Does what was read end a term? -/
def afterL (l : List Tok) : Bool := match l.getLast? with | none => false | some t => endsT t.kind t.text
theorem afterL_snoc (l : List Tok) (t : Tok) : afterL (l ++ [t]) = endsT t.kind t.text := by unfold afterL; rw [List.getLast?_concat]
/-- Where the loop stands: at place k, behind the tokens acc. -/
def LexRel (s : Str) (k : Nat) (acc : List Tok) : Prop :=
  ∃ rest, s.drop k = skipF false rest ∧ rest.length ≤ s.length ∧ lexF s.length (s.length + 1) false s = (lexF s.length (rest.length + 1) (afterL acc) rest).map (acc ++ ·)
theorem lex_start {s : Str} {k : Nat} (h : s.drop k = skipF false s) : LexRel s k [] := ⟨s, h, Nat.le_refl _, by rw [show afterL [] = false from rfl]; cases lexF s.length (s.length + 1) false s <;> rfl⟩
theorem lex_stop {s : Str} {k : Nat} {acc : List Tok} (h : LexRel s k acc) (hk : s.length ≤ k) : lexF s.length (s.length + 1) false s = .ok acc := by
  obtain ⟨rest, h1, h2, h3⟩ := h
  rw [h3, lexF, ← h1, List.drop_of_length_le hk]
  show Except.ok (acc ++ []) = _
  rw [List.append_nil]
theorem lex_err {s : Str} {k : Nat} {acc : List Tok} {b : Bool} {e : Int} (hb : afterL acc = b) (h : LexRel s k acc) (hk : k < s.length) (ht : tok1 b (s.drop k) = .error e) : lexF s.length (s.length + 1) false s = .error (e, k) := by
  obtain ⟨rest, h1, h2, h3⟩ := h
  have hl : (s.drop k).length = s.length - k := List.length_drop
  rw [h3, lexF, ← h1, hb]
  cases hd : s.drop k with
  | nil => rw [hd] at hl; simp at hl; omega
  | cons c r =>
    rw [hd] at ht hl
    dsimp only
    rw [ht]
    show Except.error _ = _
    simp only [List.length_cons] at hl
    rw [show s.length - (r.length + 1) = k by omega]
theorem lex_ok {s : Str} {k k2 : Nat} {acc : List Tok} {b : Bool} {kd : Nat} {tx u : Str} (hb : afterL acc = b) (h : LexRel s k acc) (hk : k < s.length) (ht : tok1 b (s.drop k) = .ok (kd, tx, u)) (h2 : s.drop k2 = skipF false u) : LexRel s k2 (acc ++ [⟨kd, tx, k⟩]) := by
  obtain ⟨rest, h1, hle, h3⟩ := h
  have hl : (s.drop k).length = s.length - k := List.length_drop
  have hu := tok1_less ht
  refine ⟨u, h2, by omega, ?_⟩
  rw [h3, lexF, ← h1, hb]
  cases hd : s.drop k with
  | nil => rw [hd] at hl; simp at hl; omega
  | cons c r =>
    rw [hd] at ht hl hu
    dsimp only
    rw [ht, afterL_snoc]
    dsimp only
    simp only [List.length_cons] at hl hu
    have hsk := skip_le false rest
    rw [← h1, hd] at hsk
    simp only [List.length_cons] at hsk
    rw [show s.length - (r.length + 1) = k by omega, lexF_fuel s.length rest.length (u.length + 1) _ u (by omega) (by omega)]
    cases lexF s.length (u.length + 1) (endsT kd tx) u with
    | error e => rfl
    | ok l => show Except.ok (acc ++ (_ :: l)) = Except.ok (acc ++ [_] ++ l); rw [List.append_assoc]; rfl
theorem tok_code {b : Bool} {s : Str} {c : Int} (h : tok1 b s = .error c) : c ≠ 0 := by
  unfold tok1 at h
  split at h
  · injection h with h; omega
  · split at h
    · cases h
    · split at h
      · split at h
        · cases h
        · injection h with h; omega
      · split at h
        · split at h
          · cases h
          · injection h with h; omega
        · split at h
          · injection h with h; omega
          · cases h

def TokensAns (w : World) (base : Nat) : Except (Int × Nat) (List Tok) → Ending → Prop
  | .error (c, p), e => e = .returned (.tuple #[.slice none 0 0, .int .i64 p, .int .i64 c])
  | .ok l, e => ∃ v, e = .returned (.tuple #[v, .int .i64 0, .int .i64 0]) ∧ Toks w base v l

end Go.Proofs.YtnanfmmafmcchaaGreatDoor
