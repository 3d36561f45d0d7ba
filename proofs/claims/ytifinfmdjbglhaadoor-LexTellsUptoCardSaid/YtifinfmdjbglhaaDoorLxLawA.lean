/- The law LexAgain returns true for every text: its tokens, written and read again, are the same. -/
import Derived.Test.YtifinfmdjbglhaaDoorLxLawP
import Derived.Test.YtifinfmdjbglhaaDoorLxOwnN
namespace Go.Proofs.YtifinfmdjbglhaaDoor
open Go.RowKit

theorem kind_eq (k n : Nat) : (((k : Nat) : Int) == (n : Int)) = (k == n) := by rw [Bool.eq_iff_iff, beq_iff_eq, beq_iff_eq]; omega
theorem mayHereI_nat (after : Bool) (k : Nat) (t : Str) : mayHereI after k t = mayHere after k t := by
  unfold mayHereI mayHere
  rw [tokMayI_nat, show (((k : Nat) : Int) == 1) = (k == 1) from kind_eq k 1]
theorem render_nat (t : Tok) : renderI t.asI = renderT t.kind t.text := by
  unfold renderI renderT
  show (if ((t.kind : Nat) : Int) == 2 then _ else _) = _
  rw [show (((t.kind : Nat) : Int) == 2) = (t.kind == 2) from kind_eq t.kind 2]
  rfl
theorem write_parts : ∀ (l : List Tok) (after : Bool), writeR after (l.map Tok.bare) = (partsI after (l.map Tok.asI)).map fun ps => ps.flatMap (32 :: ·)
  | [], _ => rfl
  | t :: l, after => by
    rw [List.map_cons, List.map_cons, partsI]
    show (if mayHere after t.kind t.text then (writeR (endsT t.kind t.text) (l.map Tok.bare)).map fun r => 32 :: (renderT t.kind t.text ++ r) else none) = _
    show _ = (if mayHereI after ((t.kind : Nat) : Int) t.text then (partsI (endsI ((t.kind : Nat) : Int) t.text) (l.map Tok.asI)).map (renderI t.asI :: ·) else none).map _
    rw [mayHereI_nat, endsI_nat, write_parts l]
    cases mayHere after t.kind t.text
    · rfl
    · simp only [if_true, Option.map_map]
      congr 1
      funext ps
      show 32 :: (renderT t.kind t.text ++ ps.flatMap (32 :: ·)) = (renderI t.asI :: ps).flatMap (32 :: ·)
      rw [List.flatMap_cons, render_nat]; rfl
theorem join_flat : ∀ (ps : List Str) (u : Str), ps ≠ [] → ps.flatMap (32 :: ·) ++ u = 32 :: (Lib.join ps [32] ++ u)
  | [], _, h => absurd rfl h
  | [p], u, _ => by simp [Lib.join, List.intercalate]
  | p :: q :: r, u, _ => by
    have ih := join_flat (q :: r) u (by simp)
    rw [List.flatMap_cons, List.append_assoc, ih, join_cons]
    simp
theorem skip_note (u : Str) : skipF false (32 :: 35 :: 32 :: 120 :: 10 :: u) = skipF false u := rfl
theorem lexF_note (n f : Nat) (after : Bool) (u : Str) : lexF n (f + 1) after (32 :: 35 :: 32 :: 120 :: 10 :: u) = lexF n (f + 1) after u := by
  rw [lexF, lexF, skip_note]
theorem sameB_bare : ∀ {l m : List Tok}, l.map Tok.bare = m.map Tok.bare → sameB false (l.map Tok.asI) (m.map Tok.asI) = true
  | [], [], _ => rfl
  | [], _ :: _, h => by cases h
  | _ :: _, [], h => by cases h
  | x :: l, y :: m, h => by
    rw [List.map_cons, List.map_cons] at h
    injection h with h1 h2
    injection h1 with h3 h4
    rw [List.map_cons, List.map_cons, sameB, sameB_bare h2]
    simp [Tok.asI, h3, h4]
/-- The tokens of a text, written, between a comment and another, are the tokens of what stands there. -/
theorem lex_again {s : Str} {l : List Tok} (hs : s.length ≤ 2000) (h : tokensS s = .ok l) :
    ∃ ps l', partsI false (l.map Tok.asI) = some ps ∧ (Lib.join ps [32]).length ≤ 4000 ∧ tokensS (32 :: 35 :: 32 :: 120 :: 10 :: (Lib.join ps [32] ++ [9, 35, 121])) = .ok l' ∧ l'.map Tok.bare = l.map Tok.bare := by
  unfold tokensS at h
  rw [if_neg (by omega)] at h
  obtain ⟨r, hr, hrl⟩ := lexF_write _ _ _ _ _ h
  rw [write_parts] at hr
  obtain ⟨ps, hps, rfl⟩ := Option.map_eq_some_iff.1 hr
  have hr' : writeR false (l.map Tok.bare) = some (ps.flatMap (32 :: ·)) := by rw [write_parts, hps]; rfl
  have hst : Stops [9, 35, 121] := .inr ⟨9, [35, 121], rfl, by decide⟩
  have hlen : (Lib.join ps [32]).length ≤ 4000 := by
    cases ps with
    | nil => simp [Lib.join, List.intercalate]
    | cons p q =>
      have := congrArg List.length (join_flat (p :: q) [] (by simp))
      rw [List.append_nil, List.append_nil, List.length_cons] at this
      omega
  have hbig : (32 :: 35 :: 32 :: 120 :: 10 :: (Lib.join ps [32] ++ [9, 35, 121])).length = (Lib.join ps [32]).length + 8 := by simp
  obtain ⟨l', hl', hb'⟩ := lexF_back (32 :: 35 :: 32 :: 120 :: 10 :: (Lib.join ps [32] ++ [9, 35, 121])).length [9, 35, 121] hst rfl (l.map Tok.bare) false _ ((Lib.join ps [32]).length + 8 + 1) hr' (by
    cases ps with
    | nil => simp [Lib.join, List.intercalate]
    | cons p q =>
      rw [join_flat (p :: q) _ (by simp)]
      simp)
  refine ⟨ps, l', hps, hlen, ?_, hb'⟩
  unfold tokensS
  rw [if_neg (by omega), hbig, lexF_note]
  rw [hbig] at hl'
  cases ps with
  | nil => exact hl'
  | cons p q =>
    rw [join_flat (p :: q) _ (by simp), lexF_blank2] at hl'
    exact hl'

theorem lexF_texts (n : Nat) : ∀ (f : Nat) (after : Bool) (s : Str) (l : List Tok), lexF n f after s = .ok l → ∀ t ∈ l, t.text.length ≤ s.length
  | 0, _, _, l, h => by rw [lexF] at h; injection h with h; subst h; intro t ht; cases ht
  | f + 1, after, s, l, h => by
    rw [lexF] at h
    have hle := skip_le false s
    cases hs : skipF false s with
    | nil => rw [hs] at h; injection h with h; subst h; intro t ht; cases ht
    | cons x r =>
      rw [hs] at h hle
      dsimp only at h
      simp only [List.length_cons] at hle
      cases ht : tok1 after (x :: r) with
      | error e => rw [ht] at h; cases h
      | ok q =>
        obtain ⟨k, t, u⟩ := q
        rw [ht] at h
        dsimp only at h
        have hu := tok1_shrinks ht
        have hren : t.length ≤ (renderT k t).length := by
          unfold renderT
          split
          · have := (quoted_len t).1; omega
          · exact Nat.le_refl _
        cases hl : lexF n f (endsT k t) u with
        | error e => rw [hl] at h; cases h
        | ok l2 =>
          rw [hl] at h
          injection h with h
          subst h
          intro y hy
          rcases List.mem_cons.1 hy with rfl | hy
          · show t.length ≤ _; omega
          · have := lexF_texts n f _ u l2 hl y hy; omega
theorem tokens_texts {s : Str} {l : List Tok} (h : tokensS s = .ok l) : ∀ t ∈ l, t.text.length ≤ s.length := by
  unfold tokensS at h
  split at h
  · cases h
  · exact lexF_texts _ _ _ _ _ h

set_option maxHeartbeats 2000000 in
set_option maxRecDepth 20000 in
theorem lexAgain_walk (s : ByteArray) (w : World) (he : ErrCell w) : Calls Tryd.prog 5 #[.string s] w fun e w' => e = .returned (.bool true) ∧ Below w.heap.size w w' := by
  have HE := Lib.hid he
  clear he
  by_cases hs : s.size ≤ 2000
  · have b1 : decide ((2000 : Int) < (s.size : Int)) = false := decide_eq_false (by omega)
    cases ht : tokensS s.toList with
    | error q =>
      obtain ⟨c, p⟩ := q
      obtain ⟨hp, hc⟩ := tokens_errs (by rw [lxLen]; omega) ht
      have hcz : ((c : Int) == 0) = false := by rw [beq_eq_false_iff_ne]; exact hc
      have hcn : ((c : Int) != 0) = true := by unfold bne; rw [hcz]; rfl
      have CT := Lib.hid (fun W (hW : ErrCell W) => tokens_err (s := s) (w := W) (by omega) hW ht)
      clear ht hc hp
      go_enter Tryd.func5, Tryd.ntmps5
      go_wp2_with (first
        | (go_at_call 10; (with_reducible refine (lexFirst_any _ HE.out).mono ?_); rintro e w1 ⟨rfl, hb1⟩
           have HB1 := Lib.hid hb1
           clear hb1)
        | (go_at_call 11; (with_reducible refine (CT.out _ (HE.out.keep HB1.out)).mono ?_); rintro e w2 ⟨rfl, hb2⟩
           have HB2 := Lib.hid (HB1.out.trans (hb2.mono HB1.out.size))
           clear hb2)
        | fail)
      go_ret
      exact ⟨rfl, HB2.out⟩
    | ok l =>
      obtain ⟨ps, l', hps, hlen, ht', hbare⟩ := lex_again (by rw [lxLen]; exact hs) ht
      have n1 := tokens_count ht
      rw [lxLen] at n1
      have n2 : l'.length = l.length := by have := congrArg List.length hbare; simpa using this
      obtain ⟨J, hJ⟩ : ∃ J, J = lxS (Lib.join ps [32]) := ⟨_, rfl⟩
      have hJl : J.toList = Lib.join ps [32] := by rw [hJ, lxS_toList]
      have hJs : J.size ≤ 4000 := by rw [← lxLen, hJl]; exact hlen
      have hx : (⟨#[32, 35, 32, 120, 10]⟩ ++ J ++ ⟨#[9, 35, 121]⟩ : ByteArray).toList = 32 :: 35 :: 32 :: 120 :: 10 :: (Lib.join ps [32] ++ [9, 35, 121]) := by
        rw [ByteArray.toList_eq, ByteArray.data_append, ByteArray.data_append, ← hJl, ByteArray.toList_eq]
        simp
      rw [← hx] at ht'
      have hz : (⟨#[32, 35, 32, 120, 10]⟩ ++ J ++ ⟨#[9, 35, 121]⟩ : ByteArray).size ≤ 1100000 := by
        rw [← lxLen, hx]; simp; omega
      have htexts : ∀ x ∈ l.map Tok.asI, x.text.length ≤ 1100000 := fun x hx' => by
        obtain ⟨t, hm, rfl⟩ := List.mem_map.1 hx'
        have := tokens_texts ht t hm
        rw [lxLen] at this
        exact Nat.le_trans this (by omega)
      have c1 := fun W (hW : ErrCell W) => tokens_ok (s := s) (w := W) (by omega) hW ht (by omega)
      have c3 := fun W (hW : ErrCell W) => tokens_ok (s := ⟨#[32, 35, 32, 120, 10]⟩ ++ J ++ ⟨#[9, 35, 121]⟩) (w := W) hz hW ht' (by omega)
      rw [n2] at c3
      have cw : ∀ (a : Option Addr) (cap : Nat) (W : World), l.length ≤ cap → cap ≤ maxLen → Sees W W.heap.size a l.length (l.map Tok.asI) → ErrCell W → Calls Tryd.prog 13 #[.slice a l.length cap] W fun e w' => e = .returned (.tuple #[.string J, .int .i64 0]) ∧ Below W.heap.size W w' := fun a cap W h1 h2 h3 h4 => by
        refine (ownWrite_any a l.length cap (l.map Tok.asI) W W.heap.size (by omega) (Nat.le_refl _) h3 h1 (by unfold maxLen at h2; exact h2) htexts h4).mono ?_
        rintro e w' ⟨hb, hw⟩
        rw [hps] at hw
        rw [hJ]
        exact ⟨hw, hb⟩
      have C1 := Lib.hid c1
      have C3 := Lib.hid c3
      have CW := Lib.hid cw
      have HSB := Lib.hid (sameB_bare hbare.symm)
      clear c1 c3 cw ht ht' hps hlen hbare hJ hJl hx hz htexts
      obtain ⟨n, hnl⟩ : ∃ n, n = l.length := ⟨_, rfl⟩
      rw [← hnl] at C1 C3 CW n1
      clear hnl n2
      go_enter Tryd.func5, Tryd.ntmps5
      go_wp2_with (first
        | (go_at_call 10; (with_reducible refine (lexFirst_any _ HE.out).mono ?_); rintro e w1 ⟨rfl, hb1⟩
           have HB1 := Lib.hid hb1
           clear hb1)
        | (go_at_call 11; (with_reducible refine (C1.out _ (HE.out.keep HB1.out)).mono ?_)
           rintro e w2 ⟨a1, cap1, rfl, hs2, hc2, hm2, hb2, _⟩
           have HB2 := Lib.hid (HB1.out.trans (hb2.mono HB1.out.size))
           have HS2 := Lib.hid hs2
           clear hb2 hs2)
        | (go_at_call 13; (with_reducible refine (CW.out _ _ _ hc2 hm2 HS2.out (HE.out.keep HB2.out)).mono ?_)
           rintro e w3 ⟨rfl, hb3⟩
           have HB3 := Lib.hid (HB2.out.trans (hb3.mono HB2.out.size))
           have HS3 := Lib.hid ((HS2.out.below hb3).more hb3.size)
           clear hb3)
        | (go_at_call 11; (with_reducible refine (C3.out _ (HE.out.keep HB3.out)).mono ?_)
           rintro e w4 ⟨a3, cap3, rfl, hs4, hc4, hm4, hb4, _⟩
           have HB4 := Lib.hid (HB3.out.trans (hb4.mono HB3.out.size))
           have S5 := Lib.hid (lawSame_any a1 a3 n n cap1 cap3 _ _ false w4 w4.heap.size ((HS3.out.below hb4).more hb4.size) hs4)
           rw [HSB.out] at S5
           clear hb4 hs4)
        | (go_at_call 15; (with_reducible refine S5.out.mono ?_)
           rintro e w5 ⟨rfl, q5, rfl⟩)
        | fail)
      go_ret
      exact ⟨rfl, below_drewN HB4.out q5⟩
  · have b1 : decide ((2000 : Int) < (s.size : Int)) = true := decide_eq_true (by omega)
    go_enter Tryd.func5, Tryd.ntmps5
    go_wp2_with (first
      | (go_at_call 10; (with_reducible refine (lexFirst_any _ HE.out).mono ?_); rintro e w1 ⟨rfl, hb1⟩
         have HB1 := Lib.hid hb1
         clear hb1)
      | fail)
    go_ret
    exact ⟨rfl, HB1.out⟩
end Go.Proofs.YtifinfmdjbglhaaDoor
