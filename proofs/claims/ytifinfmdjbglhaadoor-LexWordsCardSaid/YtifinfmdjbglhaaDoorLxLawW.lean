/- The law LexWords returns true for all strings: two names and a keyword, blanks between, are three words. -/
import Derived.Test.YtifinfmdjbglhaaDoorLxFirst
import Derived.Test.YtifinfmdjbglhaaDoorLxMay
namespace Go.Proofs.YtifinfmdjbglhaaDoor
open Go.RowKit

/-- A word ahead of what stops one. -/
theorem lexF_word (n f : Nat) (after : Bool) {t r : Str} (h1 : 1 ≤ t.length) (h2 : letB (t.getD 0 0) = true) (h3 : t.all okB = true) (hr : Stops r) :
    lexF n (f + 1) after (t ++ r) = match lexF n f (endsT 0 t) r with | .error e => .error e | .ok l => .ok (⟨0, t, n - (t.length + r.length)⟩ :: l) := by
  have ht := tok1_word after h1 h2 h3 hr
  cases t with
  | nil => simp at h1
  | cons c t =>
    have hc : letB c = true := h2
    have hb : blankB c = false := by
      cases h : blankB c
      · rfl
      · rcases blank_cases h with rfl | rfl | rfl <;> revert hc <;> decide
    have h35 : (c == 35) = false := by
      cases h : c == 35
      · rfl
      · rw [eq_of_beq h] at hc; revert hc; decide
    rw [lexF]
    rw [show skipF false (c :: t ++ r) = c :: (t ++ r) from skip_stay hb h35]
    dsimp only
    rw [show c :: (t ++ r) = c :: t ++ r from rfl, ht]
    dsimp only
    rw [show (t ++ r).length + 1 = (c :: t).length + r.length by simp; omega]
    cases lexF n f (endsT 0 (c :: t)) r <;> rfl
theorem may_word {t : Str} (h : may t = true) : 1 ≤ t.length ∧ t.length ≤ 12 ∧ letB (t.getD 0 0) = true ∧ t.all okB = true := by
  unfold may at h
  simp only [Bool.and_eq_true, decide_eq_true_eq] at h
  exact ⟨h.1.1.1.1, h.1.1.1.2, h.1.1.2, h.1.2⟩
theorem lex_words {a b : Str} (ha : may a = true) (hb : may b = true) :
    tokensS (a ++ (32 :: (b ++ [32, 115, 97, 121]))) = .ok [⟨0, a, 0⟩, ⟨0, b, a.length + 1⟩, ⟨0, [115, 97, 121], a.length + b.length + 2⟩] := by
  obtain ⟨a1, a2, a3, a4⟩ := may_word ha
  obtain ⟨b1, b2, b3, b4⟩ := may_word hb
  have hl : (a ++ (32 :: (b ++ [32, 115, 97, 121]))).length = a.length + b.length + 5 := by simp; omega
  unfold tokensS
  rw [if_neg (by omega), hl]
  have s1 : Stops (32 :: (b ++ [32, 115, 97, 121])) := .inr ⟨32, _, rfl, by decide⟩
  have s2 : Stops [32, 115, 97, 121] := .inr ⟨32, [115, 97, 121], rfl, by decide⟩
  rw [lexF_word _ _ _ a1 a3 a4 s1]
  rw [show a.length + b.length + 5 = (a.length + b.length + 3 + 1) + 1 from by omega, lexF_blank2, lexF_word _ _ _ b1 b3 b4 s2]
  rw [show a.length + b.length + 3 + 1 = (a.length + b.length + 2 + 1) + 1 from by omega]
  rw [lexF_blank2]
  rw [show ([115, 97, 121] : Str) = [115, 97, 121] ++ [] from rfl, lexF_word _ _ _ (by decide) (by decide) (by decide) (.inl rfl)]
  rw [show lexF (a.length + b.length + 2 + 1 + 1 + 1) (a.length + b.length + 2 + 1) (endsT 0 [115, 97, 121]) [] = .ok [] from rfl]
  dsimp only
  congr 1
  simp only [List.length_append, List.length_cons, List.length_nil, List.cons.injEq, Tok.mk.injEq, true_and, and_true]
  refine ⟨by omega, by omega, by simp, by omega⟩

set_option maxHeartbeats 2000000 in
theorem lexWords_walk (a b : ByteArray) (w : World) (he : ErrCell w) (hsa : a.size ≤ maxLen) (hsb : b.size ≤ maxLen) : Calls Tryd.prog 9 #[.string a, .string b] w fun e w' => e = .returned (.bool true) ∧ Below w.heap.size w w' := by
  have HE := Lib.hid he
  clear he
  have ca := fun W => may_any a W hsa
  have cb := fun W => may_any b W hsb
  clear hsa hsb
  cases ha : may a.toList
  · rw [ha] at ca
    have CA := Lib.hid ca
    clear ca cb ha
    go_enter Tryd.func9, Tryd.ntmps9
    go_wp2_with (first
      | (go_at_call 10; (with_reducible refine (lexFirst_any _ HE.out).mono ?_); rintro e w1 ⟨rfl, hb1⟩
         have HB1 := Lib.hid hb1
         clear hb1)
      | (go_at_call 18; (with_reducible refine (CA.out _).mono ?_); rintro e w2 ⟨rfl, rfl⟩)
      | fail)
    go_ret
    exact ⟨rfl, HB1.out⟩
  · cases hb : may b.toList
    · rw [ha] at ca
      rw [hb] at cb
      have CA := Lib.hid ca
      have CB := Lib.hid cb
      clear ca cb ha hb
      go_enter Tryd.func9, Tryd.ntmps9
      go_wp2_with (first
        | (go_at_call 10; (with_reducible refine (lexFirst_any _ HE.out).mono ?_); rintro e w1 ⟨rfl, hb1⟩
           have HB1 := Lib.hid hb1
           clear hb1)
        | (go_at_call 18; (with_reducible refine (CA.out _).mono ?_); rintro e w2 ⟨rfl, rfl⟩)
        | (go_at_call 18; (with_reducible refine (CB.out _).mono ?_); rintro e w2 ⟨rfl, rfl⟩)
        | fail)
      go_ret
      exact ⟨rfl, HB1.out⟩
    · have hlw := lex_words ha hb
      have hsa : a.size ≤ 12 := by rw [← lxLen]; exact (may_word ha).2.1
      have hsb : b.size ≤ 12 := by rw [← lxLen]; exact (may_word hb).2.1
      rw [ha] at ca
      rw [hb] at cb
      have CA := Lib.hid ca
      have CB := Lib.hid cb
      clear ca cb ha hb
      have hx : (a ++ ⟨#[32]⟩ ++ b ++ ⟨#[32, 115, 97, 121]⟩ : ByteArray).toList = a.toList ++ (32 :: (b.toList ++ [32, 115, 97, 121])) := by
        rw [ByteArray.toList_eq, ByteArray.data_append, ByteArray.data_append, ByteArray.data_append, ByteArray.toList_eq, ByteArray.toList_eq]
        simp
      have ct : ∀ W, ErrCell W → Calls Tryd.prog 11 #[.string (a ++ ⟨#[32]⟩ ++ b ++ ⟨#[32, 115, 97, 121]⟩)] W fun e w' => ∃ a1 cap, e = .returned (.tuple #[.slice a1 3 cap, .int .i64 0, .int .i64 0]) ∧ Sees w' w'.heap.size a1 3 [⟨0, a.toList, 0⟩, ⟨0, b.toList, (a.toList.length + 1 : Nat)⟩, ⟨0, [115, 97, 121], (a.toList.length + b.toList.length + 2 : Nat)⟩] ∧ Below W.heap.size W w' := fun W hW => by
        have hz : (a ++ ⟨#[32]⟩ ++ b ++ ⟨#[32, 115, 97, 121]⟩ : ByteArray).size ≤ 1000000 := by rw [← lxLen, hx]; simp [lxLen]; omega
        have h := tokens_ok (s := a ++ ⟨#[32]⟩ ++ b ++ ⟨#[32, 115, 97, 121]⟩) (w := W) (l := [⟨0, a.toList, 0⟩, ⟨0, b.toList, a.toList.length + 1⟩, ⟨0, [115, 97, 121], a.toList.length + b.toList.length + 2⟩]) hz hW (by rw [hx]; exact hlw) (by simp)
        refine h.mono ?_
        rintro e w' ⟨a1, cap, h1, h2, _, _, h5, _⟩
        exact ⟨a1, cap, h1, h2, h5⟩
      have CT := Lib.hid ct
      have hlit : (#[.int .i64 0, .string a, .int .i64 0, .int .i64 0, .string b, .int .i64 ((a.size : Int) + 1), .int .i64 0, .string ⟨#[115, 97, 121]⟩, .int .i64 ((a.size : Int) + (b.size : Int) + 2)] : Array Value) = (([⟨0, a.toList, 0⟩, ⟨0, b.toList, (a.toList.length + 1 : Nat)⟩, ⟨0, [115, 97, 121], (a.toList.length + b.toList.length + 2 : Nat)⟩] : List TokI).flatMap encI).toArray := by
        have e1 : a = lxS a.toList := lxS_inj (by rw [lxS_toList])
        have e2 : b = lxS b.toList := lxS_inj (by rw [lxS_toList])
        rw [lxLen, lxLen]
        simp only [List.flatMap_cons, List.flatMap_nil, encI, List.append_nil, List.cons_append, List.nil_append, ← e1, ← e2]
        congr 1
      have HLIT := Lib.hid hlit
      clear ct hx hlw hlit
      go_enter Tryd.func9, Tryd.ntmps9
      go_wp2_with (first
        | (go_at_call 10; (with_reducible refine (lexFirst_any _ HE.out).mono ?_); rintro e w1 ⟨rfl, hb1⟩
           have HB1 := Lib.hid hb1
           clear hb1)
        | (go_at_call 18; (with_reducible refine (CA.out _).mono ?_); rintro e w2 ⟨rfl, rfl⟩)
        | (go_at_call 18; (with_reducible refine (CB.out _).mono ?_); rintro e w2 ⟨rfl, rfl⟩)
        | (go_at_call 11; (with_reducible refine (CT.out _ (HE.out.keep HB1.out)).mono ?_)
           rintro e w3 ⟨a1, cap, rfl, hs3, hb3⟩
           have HB3 := Lib.hid (HB1.out.trans (hb3.mono HB1.out.size))
           have S3 := Lib.hid (same_lit w3 a1 3 cap 3 w3.heap.size w3.heap.size _ _ _ true HLIT.out rfl (by omega) hs3 (Nat.le_refl _) rfl)
           rw [sameB_refl] at S3
           clear hs3 hb3)
        | (go_at_call 15; (with_reducible refine S3.out.mono ?_)
           rintro e w4 ⟨rfl, q4, rfl⟩)
        | fail)
      go_ret
      exact ⟨rfl, below_drewN (HB3.out.alloc HB3.out.size _) q4⟩
end Go.Proofs.YtifinfmdjbglhaaDoor
