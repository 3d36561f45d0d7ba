/- Contract of the program's Write. -/
import Derived.Test.YtnanfmmafmcchaaGreatDoorLxOwnM
import Derived.Test.YtnanfmmafmcchaaGreatDoorLxSame
import Derived.Deep.RegionHeld3
namespace Go.Proofs.YtnanfmmafmcchaaGreatDoor
open Go.RowKit

def renderI (x : TokI) : Str := if x.kind == 2 then quotedS x.text else x.text
/-- The texts of some tokens, if each may stand where it stands. -/
def partsI : Bool → List TokI → Option (List Str)
  | _, [] => some []
  | after, x :: l => if mayHereI after x.kind x.text then (partsI (endsI x.kind x.text) l).map (renderI x :: ·) else none
theorem may_neg {k : Int} {t : Str} (h : tokMayI k t = true) : negI k t = !endsI k t := by
  unfold tokMayI at h
  unfold negI endsI
  by_cases k0 : k = 0
  · subst k0; simp
  by_cases k1 : k = 1
  · subst k1; rfl
  by_cases k2 : k = 2
  · subst k2; rfl
  have z0 : (k == 0) = false := by rw [beq_eq_false_iff_ne]; exact k0
  have z1 : (k == 1) = false := by rw [beq_eq_false_iff_ne]; exact k1
  have z2 : (k == 2) = false := by rw [beq_eq_false_iff_ne]; exact k2
  rw [z0, z1, z2] at h ⊢
  cases z3 : (k == 3)
  · rw [z3] at h; cases h
  · show (t != [41]) = !(true && t == [41])
    rfl

theorem info_str : (Tryz.prog.info? 9).map (fun i => (i.zero, i.size, i.bytes)) = some (some (.string ByteArray.empty), 1, 16) := by kernel_rfl
theorem made_parts (n : Nat) (hn : n ≤ 10000) (W : World) : (Instr.makeSlice 68 (.int .i64 (n : Int)) (.int .i64 (n : Int))).run Tryz.prog W =
    .ok (.slice (some ⟨W.heap.size, 0, none⟩) n n) (W.alloc (.cells (madeCells #[.string ByteArray.empty] n) 9)) := by
  obtain ⟨i, hi, hzz⟩ := Option.map_eq_some_iff.1 info_str
  simp only [Prod.mk.injEq] at hzz
  obtain ⟨hz, hs, hb⟩ := hzz
  have hr := run_make (P := Tryz.prog) W 68 9 i _ Tryz.underlying68 hi hz .i64 .i64 (n : Int) (n : Int) (by omega) (by omega) (by rw [hb]; omega) (by omega)
  rw [hs, Int.toNat_natCast, Nat.mul_one] at hr
  exact hr

/-- Block pb holds these texts first, and more cells that may be written. -/
def Row (pb n : Nat) (W : World) (rs : List Str) : Prop :=
  (∀ (j : Nat) (x : Str), rs[j]? = some x → W.cell? ⟨pb, j, none⟩ = some (.string (lxS x))) ∧ (∀ j : Nat, j < n → (W.cell? ⟨pb, j, none⟩).isSome = true ∧ W.frozen? ⟨pb, j, none⟩ = false) ∧ pb < W.heap.size
theorem Row.below {pb n B : Nat} {W W' : World} {rs : List Str} (h : Row pb n W rs) (hb : Below B W W') (hp : pb < B) : Row pb n W' rs :=
  ⟨fun j x hx => by rw [hb.cell (p := ⟨pb, j, none⟩) hp]; exact h.1 j x hx, fun j hj => by rw [hb.cell (p := ⟨pb, j, none⟩) hp, hb.frozen (p := ⟨pb, j, none⟩) hp]; exact h.2.1 j hj, Nat.lt_of_lt_of_le h.2.2 hb.size⟩
theorem Row.drop {pb n : Nat} {W : World} {rs : List Str} {y : Str} (h : Row pb n W (rs ++ [y])) : Row pb n W rs :=
  ⟨fun j x hx => h.1 j x (by
    have hj : j < rs.length := by
      rcases Nat.lt_or_ge j rs.length with h | h
      · exact h
      · rw [List.getElem?_eq_none h] at hx; cases hx
    rw [List.getElem?_append_left hj]; exact hx), h.2⟩
theorem Row.set {pb n : Nat} {W : World} {rs : List Str} (h : Row pb n W rs) (x : Str) (hk : rs.length < n) : Row pb n (W.setCell ⟨pb, rs.length, none⟩ (.string (lxS x))) (rs ++ [x]) := by
  have ne : ∀ i j : Nat, i ≠ j → (⟨pb, i, none⟩ : Addr) ≠ ⟨pb, j, none⟩ := fun i j h e => by injection e with _ e _; exact h e
  refine ⟨fun j y hy => ?_, fun j hj => ⟨?_, by rw [World.frozen?_setCell]; exact (h.2.1 j hj).2⟩, by simp; exact h.2.2⟩
  · rcases Nat.lt_trichotomy j rs.length with h1 | h1 | h1
    · rw [World.cell?_setCell_other _ _ _ _ (ne _ _ (by omega))]
      rw [List.getElem?_append_left h1] at hy
      exact h.1 j y hy
    · subst h1
      rw [List.getElem?_concat_length] at hy
      injection hy with hy
      subst hy
      exact World.cell?_setCell_same' _ _ _ (h.2.1 _ hk).1
    · rw [List.getElem?_eq_none (by simp; omega)] at hy; cases hy
  · rcases Nat.lt_or_ge j rs.length with h1 | h1
    · rw [World.cell?_setCell_other _ _ _ _ (ne _ _ (by omega))]; exact (h.2.1 j hj).1
    · rcases Nat.eq_or_lt_of_le h1 with h1 | h1
      · subst h1
        rw [World.cell?_setCell_same' _ _ _ (h.2.1 _ hk).1]; rfl
      · rw [World.cell?_setCell_other _ _ _ _ (ne _ _ (by omega))]; exact (h.2.1 j hj).1
theorem Row.made (w : World) (n : Nat) : Row w.heap.size n (w.alloc (.cells (madeCells #[.string ByteArray.empty] n) 9)) [] :=
  ⟨fun j x hx => by simp at hx, fun j hj => ⟨by simp [madeCells, hj], by simp⟩, by simp⟩
theorem parts_step {after : Bool} {l : List TokI} {x : TokI} {k : Nat} (hx : l[k]? = some x) :
    partsI after (l.drop k) = if mayHereI after x.kind x.text then (partsI (endsI x.kind x.text) (l.drop (k + 1))).map (renderI x :: ·) else none := by
  have h1 : l.drop k = x :: l.drop (k + 1) := by
    obtain ⟨h, e⟩ := List.getElem?_eq_some_iff.1 hx
    rw [List.drop_eq_getElem_cons h, e]
  rw [h1]; rfl
/-- Where the loop stands. -/
def WRel (l : List TokI) (k : Nat) (af : Bool) (rs : List Str) : Prop :=
  rs.length = k ∧ partsI false l = (partsI af (l.drop k)).map (rs ++ ·) ∧ ((k = 0 ∧ af = false) ∨ ∃ x, 0 < k ∧ l[k - 1]? = some x ∧ negI x.kind x.text = !af)
theorem WRel.start (l : List TokI) : WRel l 0 false [] := ⟨rfl, by rw [List.drop_zero]; cases partsI false l <;> rfl, .inl ⟨rfl, rfl⟩⟩
theorem WRel.bad {l : List TokI} {k : Nat} {af : Bool} {rs : List Str} {x : TokI} (h : WRel l k af rs) (hx : l[k]? = some x) (hm : mayHereI af x.kind x.text = false) : partsI false l = none := by
  rw [h.2.1, parts_step hx, hm]; rfl
theorem WRel.next {l : List TokI} {k : Nat} {af : Bool} {rs : List Str} {x : TokI} (h : WRel l k af rs) (hx : l[k]? = some x) (hm : mayHereI af x.kind x.text = true) : WRel l (k + 1) (endsI x.kind x.text) (rs ++ [renderI x]) := by
  refine ⟨by rw [List.length_append, h.1]; rfl, ?_, .inr ⟨x, by omega, by simpa using hx, ?_⟩⟩
  · rw [h.2.1, parts_step hx, hm]
    simp only [if_true]
    cases partsI (endsI x.kind x.text) (l.drop (k + 1)) with
    | none => rfl
    | some ps => simp
  · unfold mayHereI at hm
    rw [Bool.and_eq_true] at hm
    exact may_neg hm.1
theorem WRel.stop {l : List TokI} {k : Nat} {af : Bool} {rs : List Str} (h : WRel l k af rs) (hk : l.length ≤ k) : partsI false l = some rs := by
  rw [h.2.1, List.drop_of_length_le hk]
  show some (rs ++ []) = _
  rw [List.append_nil]

theorem join_cons (p q : Str) (r : List Str) : Lib.join (p :: q :: r) [32] = p ++ 32 :: Lib.join (q :: r) [32] := by
  unfold Lib.join
  simp [List.intercalate, List.intersperse]
theorem join_len (B : Nat) : ∀ ps : List Str, (∀ p ∈ ps, p.length ≤ B) → (Lib.join ps [32]).length ≤ ps.length * (B + 1)
  | [], _ => by simp [Lib.join, List.intercalate]
  | [p], h => by
    have := h p (List.mem_cons_self ..)
    simp [Lib.join, List.intercalate]
    omega
  | p :: q :: r, h => by
    have h1 := h p (List.mem_cons_self ..)
    have h2 := join_len B (q :: r) fun x hx => h x (List.mem_cons_of_mem _ hx)
    rw [join_cons, List.length_append, List.length_cons]
    rw [show (p :: q :: r).length = (q :: r).length + 1 from rfl, Nat.add_mul, Nat.one_mul]
    omega
theorem render_len {x : TokI} {M : Nat} (h : x.text.length ≤ M) : (renderI x).length ≤ 4 * M + 2 := by
  unfold renderI
  split
  · have := (quoted_len x.text).2; omega
  · omega
theorem parts_len : ∀ {l : List TokI} {after : Bool} {ps : List Str}, (∀ x ∈ l, x.text.length ≤ 1100000) → partsI after l = some ps → ∀ p ∈ ps, p.length ≤ 4400002
  | [], _, ps, _, h => by
    injection h with h
    subst h
    intro p hp
    cases hp
  | x :: l, after, ps, hl, h => by
    rw [partsI] at h
    split at h
    · obtain ⟨qs, hq, rfl⟩ := Option.map_eq_some_iff.1 h
      intro p hp
      rcases List.mem_cons.1 hp with rfl | hp
      · have := render_len (hl x (List.mem_cons_self ..)); omega
      · exact parts_len (fun y hy => hl y (List.mem_cons_of_mem _ hy)) hq p hp
    · cases h

def WriteAns : Option (List Str) → Ending → Prop
  | none, e => e = .returned (.tuple #[.string ⟨#[]⟩, .int .i64 204])
  | some ps, e => e = .returned (.tuple #[.string (lxS ([32].intercalate ps)), .int .i64 0])

end Go.Proofs.YtnanfmmafmcchaaGreatDoor
