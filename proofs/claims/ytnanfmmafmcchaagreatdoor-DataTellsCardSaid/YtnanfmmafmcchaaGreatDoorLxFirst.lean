/- Contract of the laws' first: the chapter's examples come out as it says. -/
import Derived.Test.YtnanfmmafmcchaaGreatDoorLxSame
import Derived.Test.YtnanfmmafmcchaaGreatDoorLxOwnJ
namespace Go.Proofs.YtnanfmmafmcchaaGreatDoor
open Go.RowKit

theorem lit_is (l : Str) (x : ByteArray) (h : x = lxS l) : x.toList = l := by rw [h, lxS_toList]
theorem lex1 : tokensS [120, 45, 49] = .ok [⟨0, [120], 0⟩, ⟨3, [45], 1⟩, ⟨1, [49], 2⟩] := by rfl
theorem lex2 : tokensS [61, 32, 45, 49] = .ok [⟨3, [61], 0⟩, ⟨1, [45, 49], 2⟩] := by rfl
theorem quo1 : quotedS [97, 34, 10] = [34, 97, 92, 34, 92, 110, 34] := by rfl

/-- Tokens at a text whose tokens are known. -/
theorem tokens_ok {s : ByteArray} {w : World} {l : List Tok} (hs : s.size ≤ 1100000) (he : ErrCell w) (h : tokensS s.toList = .ok l) (hl : l.length ≤ 1100000) :
    Calls Tryz.prog 19 #[.string s] w fun e w' => ∃ a cap, e = .returned (.tuple #[.slice a l.length cap, .int .i64 0, .int .i64 0]) ∧ Sees w' w'.heap.size a l.length (l.map Tok.asI) ∧ l.length ≤ cap ∧ cap ≤ maxLen ∧ Below w.heap.size w w' ∧ Toks w' w.heap.size (.slice a l.length cap) l := by
  refine (ownTokens_any s w hs he).mono ?_
  rintro e w' ⟨hb, ha⟩
  rw [h] at ha
  obtain ⟨v, rfl, ht⟩ := ha
  obtain ⟨a, cap, rfl, h1, h2, h3⟩ := ht.sees (by omega)
  exact ⟨a, cap, rfl, h3, h1, h2, hb, ht⟩
theorem tokens_err {s : ByteArray} {w : World} {c : Int} {p : Nat} (hs : s.size ≤ 1100000) (he : ErrCell w) (h : tokensS s.toList = .error (c, p)) :
    Calls Tryz.prog 19 #[.string s] w fun e w' => e = .returned (.tuple #[.slice none 0 0, .int .i64 p, .int .i64 c]) ∧ Below w.heap.size w w' := by
  refine (ownTokens_any s w hs he).mono ?_
  rintro e w' ⟨hb, ha⟩
  rw [h] at ha
  exact ⟨ha, hb⟩

theorem toks1 (w : World) (he : ErrCell w) : Calls Tryz.prog 19 #[.string ⟨#[120, 45, 49]⟩] w fun e w' => ∃ a cap, e = .returned (.tuple #[.slice a 3 cap, .int .i64 0, .int .i64 0]) ∧ Sees w' w'.heap.size a 3 [⟨0, [120], 0⟩, ⟨3, [45], 1⟩, ⟨1, [49], 2⟩] ∧ Below w.heap.size w w' := by
  have h := tokens_ok (s := ⟨#[120, 45, 49]⟩) (w := w) (l := [⟨0, [120], 0⟩, ⟨3, [45], 1⟩, ⟨1, [49], 2⟩]) (by show 3 ≤ 1100000; omega) he (by rw [lit_is [120, 45, 49] ⟨#[120, 45, 49]⟩ rfl]; exact lex1) (by show 3 ≤ 1100000; omega)
  refine h.mono ?_
  rintro e w' ⟨a, cap, h1, h2, _, _, h5, _⟩
  exact ⟨a, cap, h1, h2, h5⟩
theorem toks2 (w : World) (he : ErrCell w) : Calls Tryz.prog 19 #[.string ⟨#[61, 32, 45, 49]⟩] w fun e w' => ∃ a cap, e = .returned (.tuple #[.slice a 2 cap, .int .i64 0, .int .i64 0]) ∧ Sees w' w'.heap.size a 2 [⟨3, [61], 0⟩, ⟨1, [45, 49], 2⟩] ∧ Below w.heap.size w w' := by
  have h := tokens_ok (s := ⟨#[61, 32, 45, 49]⟩) (w := w) (l := [⟨3, [61], 0⟩, ⟨1, [45, 49], 2⟩]) (by show 4 ≤ 1100000; omega) he (by rw [lit_is [61, 32, 45, 49] ⟨#[61, 32, 45, 49]⟩ rfl]; exact lex2) (by show 2 ≤ 1100000; omega)
  refine h.mono ?_
  rintro e w' ⟨a, cap, h1, h2, _, _, h5, _⟩
  exact ⟨a, cap, h1, h2, h5⟩
theorem quot1 (w : World) : Calls Tryz.prog 20 #[.string ⟨#[97, 34, 10]⟩] w fun e w' => e = .returned (.string ⟨#[34, 97, 92, 34, 92, 110, 34]⟩) ∧ Below w.heap.size w w' := by
  have h := ownQuoted_any ⟨#[97, 34, 10]⟩ w (by show 3 ≤ 10000000000000; omega)
  rw [lit_is [97, 34, 10] ⟨#[97, 34, 10]⟩ rfl, quo1] at h
  exact h

theorem sameB_refl (at_ : Bool) : ∀ l : List TokI, sameB at_ l l = true
  | [] => rfl
  | x :: l => by rw [sameB, sameB_refl at_ l]; simp
end Go.Proofs.YtnanfmmafmcchaaGreatDoor
