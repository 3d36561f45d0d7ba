/- Contract of the laws' first: the chapter's examples come out as it says. -/
import Derived.Test.YtifinfmdjbglhaaDoorLxSame
import Derived.Test.YtifinfmdjbglhaaDoorLxOwnJ
namespace Go.Proofs.YtifinfmdjbglhaaDoor
open Go.RowKit

theorem lit_is (l : Str) (x : ByteArray) (h : x = lxS l) : x.toList = l := by rw [h, lxS_toList]
theorem lex1 : tokensS [120, 45, 49] = .ok [⟨0, [120], 0⟩, ⟨3, [45], 1⟩, ⟨1, [49], 2⟩] := by rfl
theorem lex2 : tokensS [61, 32, 45, 49] = .ok [⟨3, [61], 0⟩, ⟨1, [45, 49], 2⟩] := by rfl
theorem quo1 : quotedS [97, 34, 10] = [34, 97, 92, 34, 92, 110, 34] := by rfl

/-- Tokens at a text whose tokens are known. -/
theorem tokens_ok {s : ByteArray} {w : World} {l : List Tok} (hs : s.size ≤ 1100000) (he : ErrCell w) (h : tokensS s.toList = .ok l) (hl : l.length ≤ 1100000) :
    Calls Tryd.prog 11 #[.string s] w fun e w' => ∃ a cap, e = .returned (.tuple #[.slice a l.length cap, .int .i64 0, .int .i64 0]) ∧ Sees w' w'.heap.size a l.length (l.map Tok.asI) ∧ l.length ≤ cap ∧ cap ≤ maxLen ∧ Below w.heap.size w w' ∧ Toks w' w.heap.size (.slice a l.length cap) l := by
  refine (ownTokens_any s w hs he).mono ?_
  rintro e w' ⟨hb, ha⟩
  rw [h] at ha
  obtain ⟨v, rfl, ht⟩ := ha
  obtain ⟨a, cap, rfl, h1, h2, h3⟩ := ht.sees (by omega)
  exact ⟨a, cap, rfl, h3, h1, h2, hb, ht⟩
theorem tokens_err {s : ByteArray} {w : World} {c : Int} {p : Nat} (hs : s.size ≤ 1100000) (he : ErrCell w) (h : tokensS s.toList = .error (c, p)) :
    Calls Tryd.prog 11 #[.string s] w fun e w' => e = .returned (.tuple #[.slice none 0 0, .int .i64 p, .int .i64 c]) ∧ Below w.heap.size w w' := by
  refine (ownTokens_any s w hs he).mono ?_
  rintro e w' ⟨hb, ha⟩
  rw [h] at ha
  exact ⟨ha, hb⟩

theorem toks1 (w : World) (he : ErrCell w) : Calls Tryd.prog 11 #[.string ⟨#[120, 45, 49]⟩] w fun e w' => ∃ a cap, e = .returned (.tuple #[.slice a 3 cap, .int .i64 0, .int .i64 0]) ∧ Sees w' w'.heap.size a 3 [⟨0, [120], 0⟩, ⟨3, [45], 1⟩, ⟨1, [49], 2⟩] ∧ Below w.heap.size w w' := by
  have h := tokens_ok (s := ⟨#[120, 45, 49]⟩) (w := w) (l := [⟨0, [120], 0⟩, ⟨3, [45], 1⟩, ⟨1, [49], 2⟩]) (by show 3 ≤ 1100000; omega) he (by rw [lit_is [120, 45, 49] ⟨#[120, 45, 49]⟩ rfl]; exact lex1) (by show 3 ≤ 1100000; omega)
  refine h.mono ?_
  rintro e w' ⟨a, cap, h1, h2, _, _, h5, _⟩
  exact ⟨a, cap, h1, h2, h5⟩
theorem toks2 (w : World) (he : ErrCell w) : Calls Tryd.prog 11 #[.string ⟨#[61, 32, 45, 49]⟩] w fun e w' => ∃ a cap, e = .returned (.tuple #[.slice a 2 cap, .int .i64 0, .int .i64 0]) ∧ Sees w' w'.heap.size a 2 [⟨3, [61], 0⟩, ⟨1, [45, 49], 2⟩] ∧ Below w.heap.size w w' := by
  have h := tokens_ok (s := ⟨#[61, 32, 45, 49]⟩) (w := w) (l := [⟨3, [61], 0⟩, ⟨1, [45, 49], 2⟩]) (by show 4 ≤ 1100000; omega) he (by rw [lit_is [61, 32, 45, 49] ⟨#[61, 32, 45, 49]⟩ rfl]; exact lex2) (by show 2 ≤ 1100000; omega)
  refine h.mono ?_
  rintro e w' ⟨a, cap, h1, h2, _, _, h5, _⟩
  exact ⟨a, cap, h1, h2, h5⟩
theorem quot1 (w : World) : Calls Tryd.prog 16 #[.string ⟨#[97, 34, 10]⟩] w fun e w' => e = .returned (.string ⟨#[34, 97, 92, 34, 92, 110, 34]⟩) ∧ Below w.heap.size w w' := by
  have h := ownQuoted_any ⟨#[97, 34, 10]⟩ w (by show 3 ≤ 10000000000000; omega)
  rw [lit_is [97, 34, 10] ⟨#[97, 34, 10]⟩ rfl, quo1] at h
  exact h

theorem sameB_refl (at_ : Bool) : ∀ l : List TokI, sameB at_ l l = true
  | [] => rfl
  | x :: l => by rw [sameB, sameB_refl at_ l]; simp
/-- A slice of tokens held against one that the statement just lays. -/
theorem same_lit (w : World) (a : Option Addr) (n ca m bound b : Nat) (cs : Array Value) (l1 l2 : List TokI) (at_ : Bool) (hc : cs = (l2.flatMap encI).toArray) (hm : l2.length = m) (hm2 : m ≤ 100000) (h : Sees w bound a n l1) (hb : bound ≤ w.heap.size) (hw : w.heap.size = b) :
    Calls Tryd.prog 15 #[.slice a n ca, .slice (some ⟨b, 0, none⟩) m m, .bool at_] (w.alloc (.cells cs 35)) fun e w' => e = .returned (.bool (sameB at_ l1 l2)) ∧ ∃ q, w' = (w.alloc (.cells cs 35)).drewN q := by
  subst hw
  exact lawSame_any a _ n m ca m l1 l2 at_ _ _ ((h.below ((Below.refl _ w).alloc hb _)).more (by simp <;> omega)) (Sees.made w cs l2 m hc hm hm2)

set_option maxHeartbeats 2000000 in
theorem lexFirst_any (w : World) (he : ErrCell w) : Calls Tryd.prog 10 #[] w fun e w' => e = .returned (.bool true) ∧ Below w.heap.size w w' := by
  have HE := Lib.hid he
  clear he
  go_enter Tryd.func10, Tryd.ntmps10
  go_wp2_with (first
    | (go_at_call 11; (with_reducible refine (toks1 _ HE.out).mono ?_)
       rintro e w1 ⟨a1, cap1, rfl, hs1, hb1⟩
       have HS1 := Lib.hid hs1
       have HB1 := Lib.hid hb1
       have HE1 := Lib.hid (HE.out.keep hb1)
       clear hs1 hb1)
    | (go_at_call 11; (with_reducible refine (toks2 _ HE1.out).mono ?_)
       rintro e w2 ⟨a2, cap2, rfl, hs2, hb2⟩
       have HS2 := Lib.hid hs2
       have HB2 := Lib.hid hb2
       have S1 := Lib.hid (same_lit w2 a1 3 cap1 3 w1.heap.size w2.heap.size #[.int .i64 0, .string ⟨#[120]⟩, .int .i64 0, .int .i64 3, .string ⟨#[45]⟩, .int .i64 1, .int .i64 1, .string ⟨#[49]⟩, .int .i64 2] _ [⟨0, [120], 0⟩, ⟨3, [45], 1⟩, ⟨1, [49], 2⟩] true rfl rfl (by omega) (HS1.out.below HB2.out) HB2.out.size rfl)
       rw [sameB_refl] at S1
       clear hs2 hb2)
    | (go_at_call 15; (with_reducible refine S1.out.mono ?_)
       rintro e w3 ⟨rfl, q3, rfl⟩
       have S2 := Lib.hid (same_lit ((w2.alloc (.cells #[.int .i64 0, .string ⟨#[120]⟩, .int .i64 0, .int .i64 3, .string ⟨#[45]⟩, .int .i64 1, .int .i64 1, .string ⟨#[49]⟩, .int .i64 2] 35)).drewN q3) a2 2 cap2 2 w2.heap.size (w2.heap.size + 1) #[.int .i64 3, .string ⟨#[61]⟩, .int .i64 0, .int .i64 1, .string ⟨#[45, 49]⟩, .int .i64 2] _ [⟨3, [61], 0⟩, ⟨1, [45, 49], 2⟩] true rfl rfl (by omega) ((HS2.out.below ((Below.refl _ w2).alloc (Nat.le_refl _) _)).drewN q3) (by simp) (by simp))
       rw [sameB_refl] at S2)
    | (go_at_call 15; (with_reducible refine S2.out.mono ?_)
       rintro e w4 ⟨rfl, q4, rfl⟩)
    | (go_at_call 16; (with_reducible refine (quot1 _).mono ?_)
       rintro e w5 ⟨rfl, hb5⟩
       have HB5 := Lib.hid hb5
       clear hb5)
    | fail)
  go_ret
  have b2 := HB1.out.trans (HB2.out.mono HB1.out.size)
  have b3 := below_drewN (b2.alloc b2.size (.cells #[.int .i64 0, .string ⟨#[120]⟩, .int .i64 0, .int .i64 3, .string ⟨#[45]⟩, .int .i64 1, .int .i64 1, .string ⟨#[49]⟩, .int .i64 2] 35)) q3
  have b4 := below_drewN (b3.alloc b3.size (.cells #[.int .i64 3, .string ⟨#[61]⟩, .int .i64 0, .int .i64 1, .string ⟨#[45, 49]⟩, .int .i64 2] 35)) q4
  exact ⟨rfl, b4.trans (HB5.out.mono b4.size)⟩
end Go.Proofs.YtifinfmdjbglhaaDoor
