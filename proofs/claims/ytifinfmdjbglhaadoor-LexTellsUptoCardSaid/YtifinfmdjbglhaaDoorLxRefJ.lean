/- Contract of the reference's Tokens. -/
import Derived.Test.YtifinfmdjbglhaaDoorLxToks
namespace Go.Proofs.YtifinfmdjbglhaaDoor
open Go.RowKit

theorem Below.undrew {B : Nat} {w w' : World} {q : Nat} (h : Below B (w.drewN q) w') : Below B w w' := ⟨h.os, h.tape, h.output, h.size, h.block⟩
theorem refToken_any (s : ByteArray) (p : Nat) (b : Bool) (w : World) (hp : p < s.size) (hs : s.size ≤ 1100000) :
    Calls Tryd.prog 24 #[.string s, .int .i64 p, .bool b] w fun e w' => Below w.heap.size w w' ∧ TokAns s p (tok1 b (s.toList.drop p)) e := by
  cases hc : letB s[p]
  · cases hn : (digB s[p] || (s[p] == 45 && !b && nextDig (s.toList.drop (p + 1))))
    · cases h34 : (s[p] == 34)
      · exact (refToken_sign s p b w hp hs hc hn h34).mono fun e w' h => ⟨h.1.elim fun q hq => Below.undrew hq, h.2⟩
      · exact refToken_quote s p b w hp hs h34
    · exact refToken_num s p b w hp hs hc hn
  · exact refToken_word s p b w hp hs hc

/-- Does what was read end a term? -/
def afterL (l : List Tok) : Bool := match l.getLast? with | none => false | some t => endsT t.kind t.text
theorem afterL_snoc (l : List Tok) (t : Tok) : afterL (l ++ [t]) = endsT t.kind t.text := by unfold afterL; rw [List.getLast?_concat]
/-- Where the loop stands: at place k, behind the tokens acc. -/
def LexRel (s : Str) (k : Nat) (acc : List Tok) : Prop :=
  ∃ rest, s.drop k = skipF false rest ∧ rest.length ≤ s.length ∧ lexF s.length (s.length + 1) false s = (lexF s.length (rest.length + 1) (afterL acc) rest).map (acc ++ ·)
theorem lex_start {s : Str} {k : Nat} (h : s.drop k = skipF false s) : LexRel s k [] := ⟨s, h, Nat.le_refl _, by rw [show afterL [] = false from rfl]; cases lexF s.length (s.length + 1) false s <;> rfl⟩
theorem lex_stop {s : Str} {k : Nat} {acc : List Tok} (h : LexRel s k acc) (hk : s.length ≤ k) : lexF s.length (s.length + 1) false s = .ok acc := by
  obtain ⟨rest, h1, h2, h3⟩ := h
  rw [h3, lexF, ← h1, List.drop_of_length_le hk]
  show Except.ok (acc ++ []) = _
  rw [List.append_nil]
theorem lex_err {s : Str} {k : Nat} {acc : List Tok} {b : Bool} {e : Int} (hb : afterL acc = b) (h : LexRel s k acc) (hk : k < s.length) (ht : tok1 b (s.drop k) = .error e) : lexF s.length (s.length + 1) false s = .error (e, k) := by
  obtain ⟨rest, h1, h2, h3⟩ := h
  have hl : (s.drop k).length = s.length - k := List.length_drop
  rw [h3, lexF, ← h1, hb]
  cases hd : s.drop k with
  | nil => rw [hd] at hl; simp at hl; omega
  | cons c r =>
    rw [hd] at ht hl
    dsimp only
    rw [ht]
    show Except.error _ = _
    simp only [List.length_cons] at hl
    rw [show s.length - (r.length + 1) = k by omega]
theorem lex_ok {s : Str} {k k2 : Nat} {acc : List Tok} {b : Bool} {kd : Nat} {tx u : Str} (hb : afterL acc = b) (h : LexRel s k acc) (hk : k < s.length) (ht : tok1 b (s.drop k) = .ok (kd, tx, u)) (h2 : s.drop k2 = skipF false u) : LexRel s k2 (acc ++ [⟨kd, tx, k⟩]) := by
  obtain ⟨rest, h1, hle, h3⟩ := h
  have hl : (s.drop k).length = s.length - k := List.length_drop
  have hu := tok1_less ht
  refine ⟨u, h2, by omega, ?_⟩
  rw [h3, lexF, ← h1, hb]
  cases hd : s.drop k with
  | nil => rw [hd] at hl; simp at hl; omega
  | cons c r =>
    rw [hd] at ht hl hu
    dsimp only
    rw [ht, afterL_snoc]
    dsimp only
    simp only [List.length_cons] at hl hu
    have hsk := skip_le false rest
    rw [← h1, hd] at hsk
    simp only [List.length_cons] at hsk
    rw [show s.length - (r.length + 1) = k by omega, lexF_fuel s.length rest.length (u.length + 1) _ u (by omega) (by omega)]
    cases lexF s.length (u.length + 1) (endsT kd tx) u with
    | error e => rfl
    | ok l => show Except.ok (acc ++ (_ :: l)) = Except.ok (acc ++ [_] ++ l); rw [List.append_assoc]; rfl
theorem tok_code {b : Bool} {s : Str} {c : Int} (h : tok1 b s = .error c) : c ≠ 0 := by
  unfold tok1 at h
  split at h
  · injection h with h; omega
  · split at h
    · cases h
    · split at h
      · split at h
        · cases h
        · injection h with h; omega
      · split at h
        · split at h
          · cases h
          · injection h with h; omega
        · split at h
          · injection h with h; omega
          · cases h

def TokensAns (w : World) (base : Nat) : Except (Int × Nat) (List Tok) → Ending → Prop
  | .error (c, p), e => e = .returned (.tuple #[.slice none 0 0, .int .i64 p, .int .i64 c])
  | .ok l, e => ∃ v, e = .returned (.tuple #[v, .int .i64 0, .int .i64 0]) ∧ Toks w base v l

set_option maxHeartbeats 4000000 in
theorem refTokens_any (s : ByteArray) (w : World) (hs : s.size ≤ 1100000) :
    Calls Tryd.prog 12 #[.string s] w fun e w' => Below w.heap.size w w' ∧ TokensAns w' w.heap.size (tokensS s.toList) e := by
  by_cases hbig : 16384 < s.size
  · have HF := Lib.hid (show tokensS s.toList = .error (200, 0) by unfold tokensS; rw [if_pos (by rw [lxLen]; exact hbig)])
    have b1 : decide ((16384 : Int) < (s.size : Int)) = true := decide_eq_true (by omega)
    go_enter Tryd.func12, Tryd.ntmps12
    go_wp2
    go_ret3
    rw [HF.out]
    exact ⟨Below.refl _ _, rfl⟩
  have HT := Lib.hid (show tokensS s.toList = lexF s.toList.length (s.toList.length + 1) false s.toList by unfold tokensS; rw [if_neg (by rw [lxLen]; exact hbig)])
  have b1 : decide ((16384 : Int) < (s.size : Int)) = false := decide_eq_false (by omega)
  have c0 : ∀ W, Calls Tryd.prog 22 #[.string s, .int .i64 0] W fun e w' => ∃ r : Nat, e = .returned (.int .i64 r) ∧ 0 ≤ r ∧ r ≤ s.size ∧ s.toList.drop r = skipF false (s.toList.drop 0) ∧ W = w' := fun W => refSkip_any s 0 W (Nat.zero_le _) hs
  have C0 := Lib.hid c0
  have cskip : ∀ r : Nat, r ≤ s.size → ∀ W, Calls Tryd.prog 22 #[.string s, .int .i64 r] W fun e w' => ∃ r2 : Nat, e = .returned (.int .i64 r2) ∧ r ≤ r2 ∧ r2 ≤ s.size ∧ s.toList.drop r2 = skipF false (s.toList.drop r) ∧ W = w' := fun r hr W => refSkip_any s r W hr hs
  have CSKIP := Lib.hid cskip
  clear c0 cskip
  go_enter Tryd.func12, Tryd.ntmps12
  go_wp2_with (first
    | (go_at_call 22; (with_reducible refine (C0.out _).mono ?_); rintro e w4 ⟨r0, rfl, _, hr0, hd0, rfl⟩
       have HD0 := Lib.hid hd0
       clear hd0)
    | fail)
  go_loopw [5, 6] (fun v i wr => ∃ (k : Nat) (acc : List Tok), k ≤ s.size ∧ acc.length ≤ k ∧ i = .int .i64 k ∧ Hid (Toks wr w.heap.size v acc) ∧ Hid (Below w.heap.size w wr) ∧ Hid (LexRel s.toList k acc)) (fun _ i _ => s.size - (intOf i).toNat)
  case atStart => exact ⟨r0, [], hr0, Nat.zero_le _, rfl, Lib.hid (Toks.zero _ _), Lib.hid (Below.refl _ _), Lib.hid (lex_start HD0.out)⟩
  case round =>
    obtain ⟨k, acc, hk, hacc, rfl, HB, HW, HR⟩ := hrel
    by_cases hlt : k < s.size
    · have cskip := CSKIP.out
      rcases List.eq_nil_or_concat acc with rfl | ⟨acc', t, rfl⟩
      · skip
        have hbo : afterL [] = false := rfl
        obtain ⟨sa, sc, rfl⟩ : ∃ sa sc, u5 = .slice sa 0 sc := by
          rcases HB.out.2 with ⟨h, _⟩ | ⟨g, cap, cur, h, _⟩
          · exact ⟨_, _, h⟩
          · exact ⟨_, _, h⟩
        have ct : ∀ W, Calls Tryd.prog 24 #[.string s, .int .i64 k, .bool false] W fun e w' => Below W.heap.size W w' ∧ TokAns s k (tok1 false (s.toList.drop k)) e := fun W => refToken_any s k false W hlt (by omega)
        cases ht : tok1 false (s.toList.drop k) with
        | error c =>
          rw [ht] at ct
          have CT := Lib.hid ct
          have HF := Lib.hid (lex_err hbo HR.out (by rw [lxLen]; exact hlt) ht)
          have hc0 := tok_code ht
          clear ct ht hbo
          have hcz : ((c : Int) == 0) = false := by rw [beq_eq_false_iff_ne]; exact hc0
          go_wp2_with (first
            | (go_at_call 24; (with_reducible refine (CT.out _).mono ?_); rintro e w2 ⟨hb2, rfl⟩
               have HB2 := Lib.hid (HB.out.below hb2 (Nat.le_refl _))
               have HW2 := Lib.hid (HW.out.trans (hb2.mono HW.out.size))
               clear hb2)
            | fail)
          go_ret3
          rw [HT.out, HF.out]
          exact ⟨HW2.out.alloc HW2.out.size _, rfl⟩
        | ok res =>
          obtain ⟨kd, tx, u⟩ := res
          rw [ht] at ct
          have CT := Lib.hid ct
          have HS := Lib.hid (fun r h => lex_ok (k2 := r) hbo HR.out (by rw [lxLen]; exact hlt) ht h)
          clear ct ht hbo
          go_wp2_with (first
            | (go_at_call 24; (with_reducible refine (CT.out _).mono ?_); rintro e w2 ⟨hb2, ⟨r, rfl, hpr, hrs, hdr⟩⟩
               have HB2 := Lib.hid (HB.out.below hb2 (Nat.le_refl _))
               have HW2 := Lib.hid (HW.out.trans (hb2.mono HW.out.size))
               have CK := Lib.hid (cskip r hrs)
               have HDR := Lib.hid hdr
               clear hb2 hdr)
            | (at_builtin
               refine wpList_append_toks rfl (.tmp 44) (.tmp 46) rfl w.heap.size _ [] ⟨kd, tx, k⟩ rfl rfl rfl (by simp) (HB2.out.alloc _) (by have := HW2.out.size; simp <;> omega) (by simp <;> omega) w (HW2.out.alloc (HW2.out.size) _) ?_
               intro v3 w3 hown hbel
               have HB3 := Lib.hid hown
               have HW3 := Lib.hid hbel
               clear hown hbel)
            | (go_at_call 22; (with_reducible refine (CK.out _).mono ?_); rintro e w4 ⟨r2, rfl, hr2, hs2, hd2, rfl⟩
               have HD2 := Lib.hid hd2
               clear hd2)
            | fail)
          go_roundw
          case rel => exact ⟨r2, [] ++ [⟨kd, tx, k⟩], hs2, by simp <;> omega, rfl, HB3, HW3, Lib.hid (HS.out r2 (by rw [HD2.out, HDR.out]))⟩
          case measure => simp [intOf]; omega
      · skip
        rw [List.concat_eq_append] at hacc HB HR
        rw [List.length_append] at hacc
        obtain ⟨bo, hbo⟩ : ∃ bo, afterL (acc' ++ [t]) = bo := ⟨_, rfl⟩
        have ce : ∀ W, Calls Tryd.prog 23 #[.agg #[.int .i64 t.kind, .string (lxS t.text), .int .i64 t.place]] W fun e w' => e = .returned (.bool bo) ∧ Below W.heap.size W w' := fun W => by
          have h := refEnds_any t.kind (lxS t.text) t.place W
          rw [endsI_nat, lxS_toList, ← afterL_snoc acc', hbo] at h
          exact h
        have CE := Lib.hid ce
        clear ce
        obtain ⟨g, cap, rfl, hg, hcap, hcm, l0, l1, l2⟩ := HB.out.last
        unfold maxLen at hcm
        simp only [List.length_cons, List.length_nil, Nat.zero_add] at hacc
        have ct : ∀ W, Calls Tryd.prog 24 #[.string s, .int .i64 k, .bool bo] W fun e w' => Below W.heap.size W w' ∧ TokAns s k (tok1 bo (s.toList.drop k)) e := fun W => refToken_any s k bo W hlt (by omega)
        cases ht : tok1 bo (s.toList.drop k) with
        | error c =>
          rw [ht] at ct
          have CT := Lib.hid ct
          have HF := Lib.hid (lex_err hbo HR.out (by rw [lxLen]; exact hlt) ht)
          have hc0 := tok_code ht
          clear ct ht hbo
          have hcz : ((c : Int) == 0) = false := by rw [beq_eq_false_iff_ne]; exact hc0
          go_wp2_with (first
            | (go_at_call 23; (with_reducible refine (CE.out _).mono ?_); rintro e w1 ⟨rfl, hb1⟩
               have HB1 := Lib.hid (HB.out.below hb1 (Nat.le_refl _))
               have HW1 := Lib.hid (HW.out.trans (hb1.mono HW.out.size))
               clear hb1)
            | (go_at_call 24; (with_reducible refine (CT.out _).mono ?_); rintro e w2 ⟨hb2, rfl⟩
               have HB2 := Lib.hid (HB1.out.below hb2 (Nat.le_refl _))
               have HW2 := Lib.hid (HW1.out.trans (hb2.mono HW1.out.size))
               clear hb2)
            | fail)
          go_ret3
          rw [HT.out, HF.out]
          exact ⟨HW2.out.alloc HW2.out.size _, rfl⟩
        | ok res =>
          obtain ⟨kd, tx, u⟩ := res
          rw [ht] at ct
          have CT := Lib.hid ct
          have HS := Lib.hid (fun r h => lex_ok (k2 := r) hbo HR.out (by rw [lxLen]; exact hlt) ht h)
          clear ct ht hbo
          go_wp2_with (first
            | (go_at_call 23; (with_reducible refine (CE.out _).mono ?_); rintro e w1 ⟨rfl, hb1⟩
               have HB1 := Lib.hid (HB.out.below hb1 (Nat.le_refl _))
               have HW1 := Lib.hid (HW.out.trans (hb1.mono HW.out.size))
               clear hb1)
            | (go_at_call 24; (with_reducible refine (CT.out _).mono ?_); rintro e w2 ⟨hb2, ⟨r, rfl, hpr, hrs, hdr⟩⟩
               have HB2 := Lib.hid (HB1.out.below hb2 (Nat.le_refl _))
               have HW2 := Lib.hid (HW1.out.trans (hb2.mono HW1.out.size))
               have CK := Lib.hid (cskip r hrs)
               have HDR := Lib.hid hdr
               clear hb2 hdr)
            | (at_builtin
               refine wpList_append_toks rfl (.tmp 44) (.tmp 46) rfl w.heap.size _ (acc' ++ [t]) ⟨kd, tx, k⟩ rfl rfl rfl (by simp) (HB2.out.alloc _) (by have := HW2.out.size; simp <;> omega) (by simp <;> omega) w (HW2.out.alloc (HW2.out.size) _) ?_
               intro v3 w3 hown hbel
               have HB3 := Lib.hid hown
               have HW3 := Lib.hid hbel
               clear hown hbel)
            | (go_at_call 22; (with_reducible refine (CK.out _).mono ?_); rintro e w4 ⟨r2, rfl, hr2, hs2, hd2, rfl⟩
               have HD2 := Lib.hid hd2
               clear hd2)
            | fail)
          go_roundw
          case rel => exact ⟨r2, (acc' ++ [t]) ++ [⟨kd, tx, k⟩], hs2, by simp <;> omega, rfl, HB3, HW3, Lib.hid (HS.out r2 (by rw [HD2.out, HDR.out]))⟩
          case measure => simp [intOf]; omega
    · have HF := Lib.hid (lex_stop HR.out (by rw [lxLen]; omega))
      go_wp2
      go_ret3
      rw [HT.out, HF.out]
      exact ⟨HW.out, _, rfl, HB.out⟩
end Go.Proofs.YtifinfmdjbglhaaDoor
