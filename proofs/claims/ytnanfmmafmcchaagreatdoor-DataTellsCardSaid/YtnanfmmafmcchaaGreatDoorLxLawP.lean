/- The law LexPlaces returns true for every text: each token lies at its place, none over another. -/
import Derived.Test.YtnanfmmafmcchaaGreatDoorLxFirst
import Derived.IntWalk
import Derived.Deep.RegionHeld3
namespace Go.Proofs.YtnanfmmafmcchaaGreatDoor
open Go.RowKit

theorem lexF_errs (n : Nat) : ∀ (f : Nat) (after : Bool) (s : Str) (c : Int) (p : Nat), s.length ≤ n → lexF n f after s = .error (c, p) → p < n ∧ c ≠ 0
  | 0, _, _, _, _, _, h => by rw [lexF] at h; cases h
  | f + 1, after, s, c, p, hn, h => by
    rw [lexF] at h
    have hle := skip_le false s
    cases hs : skipF false s with
    | nil => rw [hs] at h; cases h
    | cons x r =>
      rw [hs] at h hle
      dsimp only at h
      simp only [List.length_cons] at hle
      cases ht : tok1 after (x :: r) with
      | error e =>
        rw [ht] at h
        injection h with h
        simp only [Prod.mk.injEq] at h
        refine ⟨by omega, ?_⟩
        rw [← h.1]
        exact tok_code ht
      | ok q =>
        obtain ⟨k, t, u⟩ := q
        rw [ht] at h
        dsimp only at h
        have hu := tok1_less ht
        simp only [List.length_cons] at hu
        cases hl : lexF n f (endsT k t) u with
        | error e =>
          rw [hl] at h
          injection h with h
          subst h
          exact lexF_errs n f _ u c p (by omega) hl
        | ok l => rw [hl] at h; cases h
theorem tokens_errs {s : Str} {c : Int} {p : Nat} (hs : s.length ≤ 16384) (h : tokensS s = .error (c, p)) : p < s.length ∧ c ≠ 0 := by
  unfold tokensS at h
  rw [if_neg (by omega)] at h
  exact lexF_errs _ _ _ _ c p (Nat.le_refl _) h
theorem lexF_count (n : Nat) : ∀ (f : Nat) (after : Bool) (s : Str) (l : List Tok), lexF n f after s = .ok l → l.length ≤ s.length
  | 0, _, _, l, h => by rw [lexF] at h; injection h with h; subst h; simp
  | f + 1, after, s, l, h => by
    rw [lexF] at h
    have hle := skip_le false s
    cases hs : skipF false s with
    | nil => rw [hs] at h; injection h with h; subst h; simp
    | cons x r =>
      rw [hs] at h hle
      dsimp only at h
      simp only [List.length_cons] at hle
      cases ht : tok1 after (x :: r) with
      | error e => rw [ht] at h; cases h
      | ok q =>
        obtain ⟨k, t, u⟩ := q
        rw [ht] at h
        dsimp only at h
        have hu := tok1_less ht
        simp only [List.length_cons] at hu
        cases hl : lexF n f (endsT k t) u with
        | error e => rw [hl] at h; cases h
        | ok l2 =>
          rw [hl] at h
          injection h with h
          subst h
          have := lexF_count n f _ u l2 hl
          simp only [List.length_cons]
          omega
theorem tokens_count {s : Str} {l : List Tok} (h : tokensS s = .ok l) : l.length ≤ s.length := by
  unfold tokensS at h
  split at h
  · cases h
  · exact lexF_count _ _ _ _ _ h
theorem tokens_places {s : Str} {l : List Tok} (h : tokensS s = .ok l) : placesOk s 0 l := by
  unfold tokensS at h
  split at h
  · cases h
  · have := lexF_places s _ false s l (List.suffix_refl _) h
    rwa [Nat.sub_self] at this
theorem placesOk_at {text : Str} {e : Nat} {l : List Tok} {t : Tok} {k : Nat} (h : placesOk text e (l.drop k)) (ht : l[k]? = some t) :
    e ≤ t.place ∧ t.place < text.length ∧ if t.kind = 2 then text.getD t.place 0 = 34 ∧ placesOk text (t.place + 1) (l.drop (k + 1)) else t.text ≠ [] ∧ t.text <+: text.drop t.place ∧ placesOk text (t.place + t.text.length) (l.drop (k + 1)) := by
  have h1 : l.drop k = t :: l.drop (k + 1) := by
    obtain ⟨hk, e⟩ := List.getElem?_eq_some_iff.1 ht
    rw [List.drop_eq_getElem_cons hk, e]
  rw [h1] at h
  exact h

end Go.Proofs.YtnanfmmafmcchaaGreatDoor
