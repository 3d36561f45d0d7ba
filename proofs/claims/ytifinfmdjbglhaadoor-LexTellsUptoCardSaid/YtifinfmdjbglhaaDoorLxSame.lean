/- Slices of tokens that may be read; contract of the laws' same. -/
import Derived.Test.YtifinfmdjbglhaaDoorLxToks
import Derived.Test.YtifinfmdjbglhaaDoorLxAgain
namespace Go.Proofs.YtifinfmdjbglhaaDoor
open Go.RowKit

/-- A token as the program may hold it: kind and place are whatever an int is. -/
structure TokI where
  kind : Int
  text : Str
  place : Int
def encI (t : TokI) : List Value := [.int .i64 t.kind, .string (lxS t.text), .int .i64 t.place]
def Tok.asI (t : Tok) : TokI := ⟨t.kind, t.text, t.place⟩
theorem encI_asI (t : Tok) : encI t.asI = encTok t := rfl

/-- The slice with this address and length reads as these tokens; its cells lie in a block below bound. -/
def Sees (w : World) (bound : Nat) (a : Option Addr) (n : Nat) (l : List TokI) : Prop :=
  l.length = n ∧ n * 32 ≤ 140737488351232 ∧
  (0 < n → ∃ b off, a = some ⟨b, off, none⟩ ∧ b < bound ∧ ∀ (j : Nat) (t : TokI), l[j]? = some t →
    w.cell? ⟨b, off + j * 3, none⟩ = some (.int .i64 t.kind) ∧ w.cell? ⟨b, off + j * 3 + 1, none⟩ = some (.string (lxS t.text)) ∧ w.cell? ⟨b, off + j * 3 + 2, none⟩ = some (.int .i64 t.place))

section
variable {w w' : World} {bound bound' : Nat} {a : Option Addr} {n : Nat} {l : List TokI}
theorem Sees.keep (h : Sees w bound a n l) (hk : ∀ p : Addr, p.block < bound → w'.cell? p = w.cell? p) : Sees w' bound a n l :=
  ⟨h.1, h.2.1, fun hn => by
    obtain ⟨b, off, e, hb, hc⟩ := h.2.2 hn
    refine ⟨b, off, e, hb, fun j t hj => ?_⟩
    obtain ⟨h0, h1, h2⟩ := hc j t hj
    exact ⟨(hk _ hb).trans h0, (hk _ hb).trans h1, (hk _ hb).trans h2⟩⟩
theorem Sees.below (h : Sees w bound a n l) (hb : Below bound w w') : Sees w' bound a n l := h.keep fun _ hp => hb.cell hp
theorem Sees.more (h : Sees w bound a n l) (hb : bound ≤ bound') : Sees w bound' a n l :=
  ⟨h.1, h.2.1, fun hn => by
    obtain ⟨b, off, e, hlt, hc⟩ := h.2.2 hn
    exact ⟨b, off, e, by omega, hc⟩⟩
theorem Sees.drewN (h : Sees w bound a n l) (k : Nat) : Sees (w.drewN k) bound a n l := h
theorem Sees.zero (w : World) (bound : Nat) (a : Option Addr) : Sees w bound a 0 [] := ⟨rfl, by omega, fun h => absurd h (Nat.lt_irrefl 0)⟩
theorem Sees.at_ (h : Sees w bound a n l) {k : Nat} (hk : k < n) : ∃ b off t, a = some ⟨b, off, none⟩ ∧ b < bound ∧ l[k]? = some t ∧
    w.cell? ⟨b, off + k * 3, none⟩ = some (.int .i64 t.kind) ∧ w.cell? ⟨b, off + k * 3 + 1, none⟩ = some (.string (lxS t.text)) ∧ w.cell? ⟨b, off + k * 3 + 2, none⟩ = some (.int .i64 t.place) := by
  obtain ⟨b, off, e, hb, hc⟩ := h.2.2 (by omega)
  have hk' : k < l.length := by rw [h.1]; exact hk
  exact ⟨b, off, l[k], e, hb, List.getElem?_eq_getElem hk', hc k _ (List.getElem?_eq_getElem hk')⟩
end
/-- A row of cells that was just made for these tokens. -/
theorem Sees.made (w : World) (cs : Array Value) (l : List TokI) (n : Nat) (hc : cs = (l.flatMap encI).toArray) (hn : l.length = n) (hl : n ≤ 100000) :
    Sees (w.alloc (.cells cs 35)) (w.alloc (.cells cs 35)).heap.size (some ⟨w.heap.size, 0, none⟩) n l := by
  refine ⟨hn, by omega, fun _ => ⟨w.heap.size, 0, rfl, by simp, fun j t hj => ?_⟩⟩
  have hget : ∀ (l : List TokI) (j : Nat) (t : TokI), l[j]? = some t → ∀ i, i < 3 → (l.flatMap encI)[j * 3 + i]? = (encI t)[i]? := by
    intro l
    induction l with
    | nil => intro j t h; cases h
    | cons x l ih =>
      intro j t h i hi
      rw [List.flatMap_cons]
      cases j with
      | zero =>
        injection h with h
        subst h
        rw [Nat.zero_mul, Nat.zero_add, List.getElem?_append_left (by show i < 3; exact hi)]
      | succ j =>
        rw [List.getElem?_append_right (by show 3 ≤ _; omega)]
        show (l.flatMap encI)[(j + 1) * 3 + i - 3]? = _
        rw [show (j + 1) * 3 + i - 3 = j * 3 + i by omega]
        exact ih j t h i hi
  have hcell : ∀ i, i < 3 → (w.alloc (.cells cs 35)).cell? ⟨w.heap.size, 0 + j * 3 + i, none⟩ = (encI t)[i]? := fun i hi => by
    rw [cell_of_row _ _ _ _ _ _ (heap_alloc_new w _), hc, Nat.zero_add]
    rw [List.getElem?_toArray]
    exact hget l j t hj i hi
  exact ⟨hcell 0 (by omega), hcell 1 (by omega), hcell 2 (by omega)⟩
/-- A slice of tokens that the call made may be read. -/
theorem Toks.sees {w : World} {base : Nat} {v : Value} {l : List Tok} (h : Toks w base v l) (hl : l.length * 32 ≤ 140737488351232) :
    ∃ a cap, v = .slice a l.length cap ∧ l.length ≤ cap ∧ cap ≤ maxLen ∧ Sees w w.heap.size a l.length (l.map Tok.asI) := by
  have hlt := h.lt
  rcases h.2 with ⟨h0, h1⟩ | ⟨g, cap, cur, rfl, hbase, hh, h1, h2, h3, h4⟩
  · have hz : l = [] := by
      cases l with
      | nil => rfl
      | cons x l => simp at h1
    subst hz
    exact ⟨none, 0, h0, Nat.le_refl _, Nat.zero_le _, Sees.zero _ _ _⟩
  · refine ⟨_, cap, rfl, h1, h2, by simp, hl, fun _ => ⟨g, 0, rfl, (hlt g rfl).2, fun j t hj => ?_⟩⟩
    rw [List.getElem?_map] at hj
    obtain ⟨x, hx, rfl⟩ := Option.map_eq_some_iff.1 hj
    have hj' : j < l.length := by
      rcases Nat.lt_or_ge j l.length with h | h
      · exact h
      · rw [List.getElem?_eq_none h] at hx; cases hx
    have hget : ∀ (l : List Tok) (j : Nat) (t : Tok), l[j]? = some t → ∀ i, i < 3 → (encToks l)[j * 3 + i]? = (encTok t)[i]? := by
      intro l
      induction l with
      | nil => intro j t h; cases h
      | cons x l ih =>
        intro j t h i hi
        show (List.flatMap encTok (x :: l))[_]? = _
        rw [List.flatMap_cons]
        cases j with
        | zero =>
          injection h with h
          subst h
          rw [Nat.zero_mul, Nat.zero_add, List.getElem?_append_left (by show i < 3; exact hi)]
        | succ j =>
          rw [List.getElem?_append_right (by show 3 ≤ _; omega)]
          show (encToks l)[(j + 1) * 3 + i - 3]? = _
          rw [show (j + 1) * 3 + i - 3 = j * 3 + i by omega]
          exact ih j t h i hi
    have hc : ∀ i, i < 3 → w.cell? ⟨g, 0 + j * 3 + i, none⟩ = (encTok x)[i]? := fun i hi => by
      rw [cell_of_row w g _ cur 35 (0, 0) hh]
      have : (cur.toList.take (l.length * 3))[j * 3 + i]? = (encToks l)[j * 3 + i]? := by rw [h4]
      rw [List.getElem?_take, if_pos (by omega)] at this
      rw [Nat.zero_add, ← Array.getElem?_toList, this]
      exact hget l j x hx i hi
    exact ⟨hc 0 (by omega), hc 1 (by omega), hc 2 (by omega)⟩

/-- Are these the same tokens (with their places, if so asked)? -/
def sameB (at_ : Bool) : List TokI → List TokI → Bool
  | [], [] => true
  | x :: xs, y :: ys => x.kind == y.kind && x.text == y.text && (!at_ || x.place == y.place) && sameB at_ xs ys
  | _, _ => false
theorem sameB_len {at_ : Bool} : ∀ {l m : List TokI}, l.length ≠ m.length → sameB at_ l m = false
  | [], [], h => absurd rfl h
  | [], _ :: _, _ => rfl
  | _ :: _, [], _ => rfl
  | x :: xs, y :: ys, h => by
    rw [sameB, sameB_len (l := xs) (m := ys) (by simpa using h), Bool.and_false]
theorem sameB_step {at_ : Bool} {l m : List TokI} {k : Nat} {x y : TokI} (hx : l[k]? = some x) (hy : m[k]? = some y) :
    sameB at_ (l.drop k) (m.drop k) = (x.kind == y.kind && x.text == y.text && (!at_ || x.place == y.place) && sameB at_ (l.drop (k + 1)) (m.drop (k + 1))) := by
  have h1 : l.drop k = x :: l.drop (k + 1) := by
    obtain ⟨h, e⟩ := List.getElem?_eq_some_iff.1 hx
    rw [List.drop_eq_getElem_cons h, e]
  have h2 : m.drop k = y :: m.drop (k + 1) := by
    obtain ⟨h, e⟩ := List.getElem?_eq_some_iff.1 hy
    rw [List.drop_eq_getElem_cons h, e]
  rw [h1, h2]
  rfl

set_option maxHeartbeats 2000000 in
theorem lawSame_any (a b : Option Addr) (n m ca cb : Nat) (l1 l2 : List TokI) (at_ : Bool) (w : World) (bound : Nat) (ha : Sees w bound a n l1) (hb : Sees w bound b m l2) :
    Calls Tryd.prog 15 #[.slice a n ca, .slice b m cb, .bool at_] w fun e w' => e = .returned (.bool (sameB at_ l1 l2)) ∧ ∃ q, w' = w.drewN q := by
  have hn := ha.1
  have hm := hb.1
  have hsn := ha.2.1
  have hsm := hb.2.1
  have HA := Lib.hid ha
  have HB := Lib.hid hb
  clear ha hb
  by_cases hnm : n = m
  · subst hnm
    have HN := Lib.hid hn
    have HM := Lib.hid hm
    clear hn hm
    go_enter Tryd.func15, Tryd.ntmps15
    go_wp2
    go_loopw [7] (fun i wr => ∃ k : Nat, k ≤ n ∧ i = .int .i64 k ∧ Hid (sameB at_ l1 l2 = sameB at_ (l1.drop k) (l2.drop k)) ∧ ∃ q, wr = w.drewN q) (fun i _ => n - (intOf i).toNat)
    case atStart => exact ⟨0, Nat.zero_le _, rfl, Lib.hid rfl, 0, rfl⟩
    case round =>
      obtain ⟨k, hk, rfl, hrel', q, rfl⟩ := hrel
      by_cases hlt : k < n
      · obtain ⟨b1, o1, x, rfl, _, hx, x0, x1, x2⟩ := HA.out.at_ hlt
        obtain ⟨b2, o2, y, rfl, _, hy, y0, y1, y2⟩ := HB.out.at_ hlt
        have HS := Lib.hid (sameB_step (at_ := at_) hx hy)
        clear hx hy
        obtain ⟨X, hX⟩ : ∃ X, X = lxS x.text := ⟨_, rfl⟩
        obtain ⟨Y, hY⟩ : ∃ Y, Y = lxS y.text := ⟨_, rfl⟩
        rw [← hX] at x1
        rw [← hY] at y1
        have t1 : (X.toList == Y.toList) = (x.text == y.text) := by rw [hX, hY, lxS_toList, lxS_toList]
        have t2 : (X.toList != Y.toList) = !(x.text == y.text) := by unfold bne; rw [t1]
        obtain ⟨k1, hk1⟩ : ∃ k1, k1 = x.kind := ⟨_, rfl⟩
        obtain ⟨k2, hk2⟩ : ∃ k2, k2 = y.kind := ⟨_, rfl⟩
        obtain ⟨p1, hp1⟩ : ∃ p1, p1 = x.place := ⟨_, rfl⟩
        obtain ⟨p2, hp2⟩ : ∃ p2, p2 = y.place := ⟨_, rfl⟩
        rw [← hk1] at x0
        rw [← hk2] at y0
        rw [← hp1] at x2
        rw [← hp2] at y2
        rw [← hk1, ← hk2, ← hp1, ← hp2] at HS
        generalize (x.text == y.text) = c2 at t1 t2 HS
        clear hX hY hk1 hk2 hp1 hp2
        cases c1 : (k1 == k2)
        · have n1 : (k1 != k2) = true := by unfold bne; rw [c1]; rfl
          have HF := Lib.hid (show sameB at_ l1 l2 = false by rw [hrel'.out, HS.out, c1]; rfl)
          clear t1 t2 x1 y1 x2 y2
          go_wp2
          go_quiet (fail)
          go_wp2
          go_ret
          exact ⟨ret_bool (by rw [HF.out]), q + nq, World.drewN_drewN _ _ _⟩
        · have n1 : (k1 != k2) = false := by unfold bne; rw [c1]; rfl
          cases c2
          · have HF := Lib.hid (show sameB at_ l1 l2 = false by rw [hrel'.out, HS.out, c1]; rfl)
            clear x2 y2
            go_wp2
            go_quiet (fail)
            go_wp2
            go_ret
            exact ⟨ret_bool (by rw [HF.out]), q + nq, World.drewN_drewN _ _ _⟩
          · cases at_
            · have HF := Lib.hid (show sameB false l1 l2 = sameB false (l1.drop (k + 1)) (l2.drop (k + 1)) by rw [hrel'.out, HS.out, c1]; rfl)
              clear x2 y2
              go_wp2
              go_quiet (fail)
              go_wp2
              go_roundw
              case rel => exact ⟨k + 1, by omega, by go_num, HF, q + nq, rfl⟩
              case measure => simp [intOf]; omega
            · cases c3 : (p1 == p2)
              · have n3 : (p1 != p2) = true := by unfold bne; rw [c3]; rfl
                have HF := Lib.hid (show sameB true l1 l2 = false by rw [hrel'.out, HS.out, c1, c3]; rfl)
                go_wp2
                go_quiet (fail)
                go_wp2
                go_ret
                exact ⟨ret_bool (by rw [HF.out]), q + nq, World.drewN_drewN _ _ _⟩
              · have n3 : (p1 != p2) = false := by unfold bne; rw [c3]; rfl
                have HF := Lib.hid (show sameB true l1 l2 = sameB true (l1.drop (k + 1)) (l2.drop (k + 1)) by rw [hrel'.out, HS.out, c1, c3]; rfl)
                go_wp2
                go_quiet (fail)
                go_wp2
                go_roundw
                case rel => exact ⟨k + 1, by omega, by go_num, HF, q + nq, rfl⟩
                case measure => simp [intOf]; omega
      · have HF := Lib.hid (show sameB at_ l1 l2 = true by
          rw [hrel'.out, List.drop_of_length_le (by rw [HN.out]; omega), List.drop_of_length_le (by rw [HM.out]; omega)]; rfl)
        go_wp2
        go_ret
        exact ⟨ret_bool (by rw [HF.out]), q, rfl⟩
  · have hne : ((n : Int) != (m : Int)) = true := by rw [bne_iff_ne]; omega
    have HF := Lib.hid (show sameB at_ l1 l2 = false from sameB_len (by rw [hn, hm]; exact hnm))
    clear hn hm
    go_enter Tryd.func15, Tryd.ntmps15
    go_wp2
    go_ret
    exact ⟨ret_bool (by rw [HF.out]), 0, rfl⟩
end Go.Proofs.YtifinfmdjbglhaaDoor
