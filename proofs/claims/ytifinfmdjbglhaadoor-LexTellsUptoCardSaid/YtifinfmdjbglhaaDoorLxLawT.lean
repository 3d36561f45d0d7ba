/- The law LexTells returns true: the program answers as the reference does. The texts of the tokens are bounded. -/
import Derived.Test.YtifinfmdjbglhaaDoorLxLawA
import Derived.Test.YtifinfmdjbglhaaDoorLxRefK
namespace Go.Proofs.YtifinfmdjbglhaaDoor
open Go.RowKit

theorem writeAns_is (o : Option (List Str)) : ∃ (J : ByteArray) (g : Int), ∀ e, WriteAns o e → e = .returned (.tuple #[.string J, .int .i64 g]) := by
  cases o with
  | none => exact ⟨_, _, fun e h => h⟩
  | some ps => exact ⟨_, _, fun e h => h⟩
/-- Both read the same off a text. -/
theorem both_tokens (s : ByteArray) (hs : s.size ≤ 3000) : ∃ (n : Nat) (x c : Int) (L : List TokI),
    (∀ W, ErrCell W → Calls Tryd.prog 11 #[.string s] W fun e w' => ∃ a cap, e = .returned (.tuple #[.slice a n cap, .int .i64 x, .int .i64 c]) ∧ Sees w' w'.heap.size a n L ∧ Below W.heap.size W w') ∧
    (∀ W, Calls Tryd.prog 12 #[.string s] W fun e w' => ∃ a cap, e = .returned (.tuple #[.slice a n cap, .int .i64 x, .int .i64 c]) ∧ Sees w' w'.heap.size a n L ∧ Below W.heap.size W w') := by
  cases ht : tokensS s.toList with
  | error q =>
    obtain ⟨c, p⟩ := q
    refine ⟨0, p, c, [], fun W hW => ?_, fun W => ?_⟩
    · refine (tokens_err (s := s) (w := W) (by omega) hW ht).mono ?_
      rintro e w' ⟨rfl, hb⟩
      exact ⟨_, _, rfl, Sees.zero _ _ _, hb⟩
    · refine (refTokens_any s W (by omega)).mono ?_
      rintro e w' ⟨hb, ha⟩
      rw [ht] at ha
      have ha' : e = .returned (.tuple #[.slice none 0 0, .int .i64 p, .int .i64 c]) := ha
      subst ha'
      exact ⟨_, _, rfl, Sees.zero _ _ _, hb⟩
  | ok l =>
    have hl := tokens_count ht
    rw [lxLen] at hl
    refine ⟨l.length, 0, 0, l.map Tok.asI, fun W hW => ?_, fun W => ?_⟩
    · refine (tokens_ok (s := s) (w := W) (by omega) hW ht (by omega)).mono ?_
      rintro e w' ⟨a, cap, rfl, h1, _, _, hb, _⟩
      exact ⟨a, cap, rfl, h1, hb⟩
    · refine (refTokens_any s W (by omega)).mono ?_
      rintro e w' ⟨hb, ha⟩
      rw [ht] at ha
      obtain ⟨v, rfl, hv⟩ := ha
      obtain ⟨a, cap, rfl, _, _, h3⟩ := hv.sees (by omega)
      exact ⟨a, cap, rfl, h3, hb⟩

set_option maxHeartbeats 4000000 in
set_option maxRecDepth 20000 in
theorem lexTells_walk (s : ByteArray) (a : Option Addr) (n cap : Nat) (l : List TokI) (w : World) (hl : Sees w w.heap.size a n l) (hcap : n ≤ cap) (hcm : cap ≤ maxLen) (hsz : ∀ x ∈ l, x.text.length ≤ 1100000) (he : ErrCell w) :
    Calls Tryd.prog 3 #[.string s, .slice a n cap] w fun e w' => e = .returned (.bool true) ∧ Below w.heap.size w w' := by
  have HE := Lib.hid he
  have HL := Lib.hid hl
  have hlen : l.length = n := hl.1
  have hn32 := hl.2.1
  clear he hl
  unfold maxLen at hcm
  by_cases hs : s.size ≤ 3000
  · have b1 : decide ((3000 : Int) < (s.size : Int)) = false := decide_eq_false (by omega)
    have b1' : decide (3000 < s.size) = false := decide_eq_false (by omega)
    by_cases hn : n ≤ 200
    · have b2 : decide ((200 : Int) < (n : Int)) = false := decide_eq_false (by omega)
      have b2' : decide (200 < n) = false := decide_eq_false (by omega)
      obtain ⟨tn, x, c, L, ct1, ct2⟩ := both_tokens s hs
      obtain ⟨J, g, hJ⟩ := writeAns_is (partsI false l)
      have cw1 : ∀ W, ErrCell W → Sees W W.heap.size a n l → Calls Tryd.prog 13 #[.slice a n cap] W fun e w' => e = .returned (.tuple #[.string J, .int .i64 g]) ∧ Below W.heap.size W w' := fun W hW hS => by
        refine (ownWrite_any a n cap l W W.heap.size (by omega) (Nat.le_refl _) hS hcap hcm hsz hW).mono ?_
        rintro e w' ⟨hb, ha⟩
        exact ⟨hJ e ha, hb⟩
      have cw2 : ∀ W, Sees W W.heap.size a n l → Calls Tryd.prog 14 #[.slice a n cap] W fun e w' => e = .returned (.tuple #[.string J, .int .i64 g]) ∧ Below W.heap.size W w' := fun W hS => by
        refine (refWrite_any a n cap l W W.heap.size (by omega) (Nat.le_refl _) hS hcap hcm hsz).mono ?_
        rintro e w' ⟨hb, ha⟩
        exact ⟨hJ e ha, hb⟩
      obtain ⟨Q, hQ⟩ : ∃ Q, Q = lxS (quotedS s.toList) := ⟨_, rfl⟩
      have cq1 : ∀ W, Calls Tryd.prog 16 #[.string s] W fun e w' => e = .returned (.string Q) ∧ Below W.heap.size W w' := fun W => by rw [hQ]; exact ownQuoted_any s W (by omega)
      have cq2 : ∀ W, Calls Tryd.prog 17 #[.string s] W fun e w' => e = .returned (.string Q) ∧ Below W.heap.size W w' := fun W => by rw [hQ]; exact refQuoted_any s W (by omega)
      have CT1 := Lib.hid ct1
      have CT2 := Lib.hid ct2
      have CW1 := Lib.hid cw1
      have CW2 := Lib.hid cw2
      have CQ1 := Lib.hid cq1
      have CQ2 := Lib.hid cq2
      have x1 : (x == x) = true := by simp
      have c1 : (c == c) = true := by simp
      have g1 : (g == g) = true := by simp
      clear ct1 ct2 cw1 cw2 cq1 cq2 hJ hQ
      go_enter Tryd.func3, Tryd.ntmps3
      go_wp2_with (first
        | (go_at_call 10; (with_reducible refine (lexFirst_any _ HE.out).mono ?_); rintro e w1 ⟨rfl, hb1⟩
           have HB1 := Lib.hid hb1
           have HL1 := Lib.hid ((HL.out.below hb1).more hb1.size)
           clear hb1)
        | (go_at_call 11; (with_reducible refine (CT1.out _ (HE.out.keep HB1.out)).mono ?_)
           rintro e w2 ⟨a1, cap1, rfl, hs2, hb2⟩
           have HB2 := Lib.hid (HB1.out.trans (hb2.mono HB1.out.size))
           have HL2 := Lib.hid ((HL1.out.below hb2).more hb2.size)
           have HS2 := Lib.hid hs2
           clear hb2 hs2)
        | (go_at_call 12; (with_reducible refine (CT2.out _).mono ?_)
           rintro e w3 ⟨a2, cap2, rfl, hs3, hb3⟩
           have HB3 := Lib.hid (HB2.out.trans (hb3.mono HB2.out.size))
           have HL3 := Lib.hid ((HL2.out.below hb3).more hb3.size)
           have HS3 := Lib.hid ((HS2.out.below hb3).more hb3.size)
           have HT3 := Lib.hid hs3
           clear hb3 hs3)
        | (go_at_call 13; (with_reducible refine (CW1.out _ (HE.out.keep HB3.out) HL3.out).mono ?_); rintro e w4 ⟨rfl, hb4⟩
           have HB4 := Lib.hid (HB3.out.trans (hb4.mono HB3.out.size))
           have HL4 := Lib.hid ((HL3.out.below hb4).more hb4.size)
           have HS4 := Lib.hid ((HS3.out.below hb4).more hb4.size)
           have HT4 := Lib.hid ((HT3.out.below hb4).more hb4.size)
           clear hb4)
        | (go_at_call 14; (with_reducible refine (CW2.out _ HL4.out).mono ?_); rintro e w5 ⟨rfl, hb5⟩
           have HB5 := Lib.hid (HB4.out.trans (hb5.mono HB4.out.size))
           have S6 := Lib.hid (lawSame_any a1 a2 tn tn cap1 cap2 L L true w5 w5.heap.size ((HS4.out.below hb5).more hb5.size) ((HT4.out.below hb5).more hb5.size))
           rw [sameB_refl] at S6
           clear hb5)
        | (go_at_call 15; (with_reducible refine S6.out.mono ?_)
           rintro e w6 ⟨rfl, q6, rfl⟩
           have HB6 := Lib.hid (below_drewN HB5.out q6))
        | (go_at_call 16; (with_reducible refine (CQ1.out _).mono ?_); rintro e w7 ⟨rfl, hb7⟩
           have HB7 := Lib.hid (HB6.out.trans (hb7.mono HB6.out.size))
           clear hb7)
        | (go_at_call 17; (with_reducible refine (CQ2.out _).mono ?_); rintro e w8 ⟨rfl, hb8⟩
           have HB8 := Lib.hid (HB7.out.trans (hb8.mono HB7.out.size))
           clear hb8)
        | fail)
      go_ret
      exact ⟨rfl, HB8.out⟩
    · have b2 : decide ((200 : Int) < (n : Int)) = true := decide_eq_true (by omega)
      have b2' : decide (200 < n) = true := decide_eq_true (by omega)
      go_enter Tryd.func3, Tryd.ntmps3
      go_wp2_with (first
        | (go_at_call 10; (with_reducible refine (lexFirst_any _ HE.out).mono ?_); rintro e w1 ⟨rfl, hb1⟩
           have HB1 := Lib.hid hb1
           clear hb1)
        | fail)
      go_ret
      exact ⟨rfl, HB1.out⟩
  · have b1 : decide ((3000 : Int) < (s.size : Int)) = true := decide_eq_true (by omega)
    have b1' : decide (3000 < s.size) = true := decide_eq_true (by omega)
    go_enter Tryd.func3, Tryd.ntmps3
    go_wp2_with (first
      | (go_at_call 10; (with_reducible refine (lexFirst_any _ HE.out).mono ?_); rintro e w1 ⟨rfl, hb1⟩
         have HB1 := Lib.hid hb1
         clear hb1)
      | fail)
    go_ret
    exact ⟨rfl, HB1.out⟩
end Go.Proofs.YtifinfmdjbglhaaDoor
