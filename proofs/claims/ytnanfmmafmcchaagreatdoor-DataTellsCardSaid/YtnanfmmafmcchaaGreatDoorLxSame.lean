/- Slices of tokens that may be read; contract of the laws' same. -/
import Derived.Test.YtnanfmmafmcchaaGreatDoorRef1
import Derived.Test.YtnanfmmafmcchaaGreatDoorPlain
namespace Go.Proofs.YtnanfmmafmcchaaGreatDoor
open Go.RowKit

/-- A token as the program may hold it: kind and place are whatever an int is. -/
structure TokI where
  kind : Int
  text : Str
  place : Int
def encI (t : TokI) : List Value := [.int .i64 t.kind, .string (lxS t.text), .int .i64 t.place]
def Tok.asI (t : Tok) : TokI := ⟨t.kind, t.text, t.place⟩
theorem encI_asI (t : Tok) : encI t.asI = encTok t := rfl

/-- The slice with this address and length reads as these tokens; its cells lie in a block below bound. -/
def Sees (w : World) (bound : Nat) (a : Option Addr) (n : Nat) (l : List TokI) : Prop :=
  l.length = n ∧ n * 32 ≤ 140737488351232 ∧
  (0 < n → ∃ b off, a = some ⟨b, off, none⟩ ∧ b < bound ∧ ∀ (j : Nat) (t : TokI), l[j]? = some t →
    w.cell? ⟨b, off + j * 3, none⟩ = some (.int .i64 t.kind) ∧ w.cell? ⟨b, off + j * 3 + 1, none⟩ = some (.string (lxS t.text)) ∧ w.cell? ⟨b, off + j * 3 + 2, none⟩ = some (.int .i64 t.place))

section
variable {w w' : World} {bound bound' : Nat} {a : Option Addr} {n : Nat} {l : List TokI}
theorem Sees.keep (h : Sees w bound a n l) (hk : ∀ p : Addr, p.block < bound → w'.cell? p = w.cell? p) : Sees w' bound a n l :=
  ⟨h.1, h.2.1, fun hn => by
    obtain ⟨b, off, e, hb, hc⟩ := h.2.2 hn
    refine ⟨b, off, e, hb, fun j t hj => ?_⟩
    obtain ⟨h0, h1, h2⟩ := hc j t hj
    exact ⟨(hk _ hb).trans h0, (hk _ hb).trans h1, (hk _ hb).trans h2⟩⟩
theorem Sees.below (h : Sees w bound a n l) (hb : Below bound w w') : Sees w' bound a n l := h.keep fun _ hp => hb.cell hp
theorem Sees.more (h : Sees w bound a n l) (hb : bound ≤ bound') : Sees w bound' a n l :=
  ⟨h.1, h.2.1, fun hn => by
    obtain ⟨b, off, e, hlt, hc⟩ := h.2.2 hn
    exact ⟨b, off, e, by omega, hc⟩⟩
theorem Sees.drewN (h : Sees w bound a n l) (k : Nat) : Sees (w.drewN k) bound a n l := h
theorem Sees.zero (w : World) (bound : Nat) (a : Option Addr) : Sees w bound a 0 [] := ⟨rfl, by omega, fun h => absurd h (Nat.lt_irrefl 0)⟩
theorem Sees.at_ (h : Sees w bound a n l) {k : Nat} (hk : k < n) : ∃ b off t, a = some ⟨b, off, none⟩ ∧ b < bound ∧ l[k]? = some t ∧
    w.cell? ⟨b, off + k * 3, none⟩ = some (.int .i64 t.kind) ∧ w.cell? ⟨b, off + k * 3 + 1, none⟩ = some (.string (lxS t.text)) ∧ w.cell? ⟨b, off + k * 3 + 2, none⟩ = some (.int .i64 t.place) := by
  obtain ⟨b, off, e, hb, hc⟩ := h.2.2 (by omega)
  have hk' : k < l.length := by rw [h.1]; exact hk
  exact ⟨b, off, l[k], e, hb, List.getElem?_eq_getElem hk', hc k _ (List.getElem?_eq_getElem hk')⟩
end
/-- A row of cells that was just made for these tokens. -/
theorem Sees.made (w : World) (cs : Array Value) (l : List TokI) (n : Nat) (hc : cs = (l.flatMap encI).toArray) (hn : l.length = n) (hl : n ≤ 100000) :
    Sees (w.alloc (.cells cs 41)) (w.alloc (.cells cs 41)).heap.size (some ⟨w.heap.size, 0, none⟩) n l := by
  refine ⟨hn, by omega, fun _ => ⟨w.heap.size, 0, rfl, by simp, fun j t hj => ?_⟩⟩
  have hget : ∀ (l : List TokI) (j : Nat) (t : TokI), l[j]? = some t → ∀ i, i < 3 → (l.flatMap encI)[j * 3 + i]? = (encI t)[i]? := by
    intro l
    induction l with
    | nil => intro j t h; cases h
    | cons x l ih =>
      intro j t h i hi
      rw [List.flatMap_cons]
      cases j with
      | zero =>
        injection h with h
        subst h
        rw [Nat.zero_mul, Nat.zero_add, List.getElem?_append_left (by show i < 3; exact hi)]
      | succ j =>
        rw [List.getElem?_append_right (by show 3 ≤ _; omega)]
        show (l.flatMap encI)[(j + 1) * 3 + i - 3]? = _
        rw [show (j + 1) * 3 + i - 3 = j * 3 + i by omega]
        exact ih j t h i hi
  have hcell : ∀ i, i < 3 → (w.alloc (.cells cs 41)).cell? ⟨w.heap.size, 0 + j * 3 + i, none⟩ = (encI t)[i]? := fun i hi => by
    rw [cell_of_row _ _ _ _ _ _ (heap_alloc_new w _), hc, Nat.zero_add]
    rw [List.getElem?_toArray]
    exact hget l j t hj i hi
  exact ⟨hcell 0 (by omega), hcell 1 (by omega), hcell 2 (by omega)⟩
/-- A slice of tokens that the call made may be read. -/
theorem Toks.sees {w : World} {base : Nat} {v : Value} {l : List Tok} (h : Toks w base v l) (hl : l.length * 32 ≤ 140737488351232) :
    ∃ a cap, v = .slice a l.length cap ∧ l.length ≤ cap ∧ cap ≤ maxLen ∧ Sees w w.heap.size a l.length (l.map Tok.asI) := by
  have hlt := h.lt
  rcases h.2 with ⟨h0, h1⟩ | ⟨g, cap, cur, rfl, hbase, hh, h1, h2, h3, h4⟩
  · have hz : l = [] := by
      cases l with
      | nil => rfl
      | cons x l => simp at h1
    subst hz
    exact ⟨none, 0, h0, Nat.le_refl _, Nat.zero_le _, Sees.zero _ _ _⟩
  · refine ⟨_, cap, rfl, h1, h2, by simp, hl, fun _ => ⟨g, 0, rfl, (hlt g rfl).2, fun j t hj => ?_⟩⟩
    rw [List.getElem?_map] at hj
    obtain ⟨x, hx, rfl⟩ := Option.map_eq_some_iff.1 hj
    have hj' : j < l.length := by
      rcases Nat.lt_or_ge j l.length with h | h
      · exact h
      · rw [List.getElem?_eq_none h] at hx; cases hx
    have hget : ∀ (l : List Tok) (j : Nat) (t : Tok), l[j]? = some t → ∀ i, i < 3 → (encToks l)[j * 3 + i]? = (encTok t)[i]? := by
      intro l
      induction l with
      | nil => intro j t h; cases h
      | cons x l ih =>
        intro j t h i hi
        show (List.flatMap encTok (x :: l))[_]? = _
        rw [List.flatMap_cons]
        cases j with
        | zero =>
          injection h with h
          subst h
          rw [Nat.zero_mul, Nat.zero_add, List.getElem?_append_left (by show i < 3; exact hi)]
        | succ j =>
          rw [List.getElem?_append_right (by show 3 ≤ _; omega)]
          show (encToks l)[(j + 1) * 3 + i - 3]? = _
          rw [show (j + 1) * 3 + i - 3 = j * 3 + i by omega]
          exact ih j t h i hi
    have hc : ∀ i, i < 3 → w.cell? ⟨g, 0 + j * 3 + i, none⟩ = (encTok x)[i]? := fun i hi => by
      rw [cell_of_row w g _ cur 41 (0, 0) hh]
      have : (cur.toList.take (l.length * 3))[j * 3 + i]? = (encToks l)[j * 3 + i]? := by rw [h4]
      rw [List.getElem?_take, if_pos (by omega)] at this
      rw [Nat.zero_add, ← Array.getElem?_toList, this]
      exact hget l j x hx i hi
    exact ⟨hc 0 (by omega), hc 1 (by omega), hc 2 (by omega)⟩

/-- Are these the same tokens (with their places, if so asked)? -/
def sameB (at_ : Bool) : List TokI → List TokI → Bool
  | [], [] => true
  | x :: xs, y :: ys => x.kind == y.kind && x.text == y.text && (!at_ || x.place == y.place) && sameB at_ xs ys
  | _, _ => false
theorem sameB_len {at_ : Bool} : ∀ {l m : List TokI}, l.length ≠ m.length → sameB at_ l m = false
  | [], [], h => absurd rfl h
  | [], _ :: _, _ => rfl
  | _ :: _, [], _ => rfl
  | x :: xs, y :: ys, h => by
    rw [sameB, sameB_len (l := xs) (m := ys) (by simpa using h), Bool.and_false]
theorem sameB_step {at_ : Bool} {l m : List TokI} {k : Nat} {x y : TokI} (hx : l[k]? = some x) (hy : m[k]? = some y) :
    sameB at_ (l.drop k) (m.drop k) = (x.kind == y.kind && x.text == y.text && (!at_ || x.place == y.place) && sameB at_ (l.drop (k + 1)) (m.drop (k + 1))) := by
  have h1 : l.drop k = x :: l.drop (k + 1) := by
    obtain ⟨h, e⟩ := List.getElem?_eq_some_iff.1 hx
    rw [List.drop_eq_getElem_cons h, e]
  have h2 : m.drop k = y :: m.drop (k + 1) := by
    obtain ⟨h, e⟩ := List.getElem?_eq_some_iff.1 hy
    rw [List.drop_eq_getElem_cons h, e]
  rw [h1, h2]
  rfl

end Go.Proofs.YtnanfmmafmcchaaGreatDoor
