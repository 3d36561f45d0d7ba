/- Plain: terms, the trees that they form, which of them are valid, and how they are walked. No program stands in this text. -/
import Derived.Test.YtgefhgcpnfbigaaPlain
namespace Go.Proofs.Ytgefhgcpnfbigaa
open Go.RowKit

/-- A term as the program may hold it: any kind, any fields. -/
structure Trm where
  kind : Int
  name : Str
  num : Int
  text : Str
  l : Int
  r : Int
def trm0 : Trm := ⟨0, [], 0, [], 0, 0⟩
/-- How many operands a term of this kind has (of no kind: two, as the program takes it). -/
def arT (k : Int) : Nat := if k = 15 ∨ k = 16 then 1 else if 0 ≤ k ∧ k ≤ 5 then 0 else 2
def opsT (t : Trm) : List Int := if arT t.kind = 0 then [] else if arT t.kind = 1 then [t.l] else [t.l, t.r]
/-- May a term be, but for where its operands lie? -/
def soundT (t : Trm) : Bool :=
  decide (0 ≤ t.kind) && decide (t.kind ≤ 19) && (decide (arT t.kind = 2) || t.r == -1) && (decide (1 ≤ arT t.kind) || t.l == -1) &&
  (if t.kind = 0 then may t.name else t.name.isEmpty) && (t.num == 0 || t.kind == 1 || (t.kind == 2 && t.num == 1)) && (t.text.isEmpty || (t.kind == 3 && decide (t.text.length ≤ 24)))
def fitT (t : Trm) (i : Nat) : Bool := (opsT t).all (fun o => decide (0 ≤ o) && decide (o < i)) && soundT t

/-- One after another, as long as each goes. -/
def foldO {S : Type} (g : Int → S → Option S) : List Int → S → Option S
  | [], s => some s
  | o :: os, s => match g o s with
    | none => none
    | some s' => foldO g os s'
/-- The program's walk: what it has seen behind it, if the tree is valid. -/
def walkF (L : List Trm) : Nat → Nat → Nat → (Nat → Bool) → Option (Nat → Bool)
  | 0, _, _, _ => none
  | f + 1, i, d, s => if d ≤ 24 ∧ s i = false ∧ fitT (L.getD i trm0) i = true then foldO (fun o s => walkF L f o.toNat (d + 1) s) (opsT (L.getD i trm0)) (fun j => j == i || s j) else none
/-- May of the program. -/
def mayF (L : List Trm) (root : Int) : Bool :=
  decide (L.length ≤ 160) && decide (0 ≤ root) && decide (root < L.length) && (walkF L L.length root.toNat 1 (fun _ => false)).isSome

/-! ### Trees -/
inductive Exp where
  | leaf (i : Nat) (t : Trm)
  | one (i : Nat) (t : Trm) (a : Exp)
  | two (i : Nat) (t : Trm) (a b : Exp)
def Exp.at_ : Exp → Nat
  | .leaf i _ => i
  | .one i _ _ => i
  | .two i _ _ _ => i
def Exp.term : Exp → Trm
  | .leaf _ t => t
  | .one _ t _ => t
  | .two _ t _ _ => t
def Exp.places : Exp → List Nat
  | .leaf i _ => [i]
  | .one i _ a => i :: a.places
  | .two i _ a b => i :: (a.places ++ b.places)
def Exp.deep : Exp → Nat
  | .leaf _ _ => 1
  | .one _ _ a => a.deep + 1
  | .two _ _ a b => max a.deep b.deep + 1
/-- The tree stands in the list. -/
def Fits (L : List Trm) : Exp → Prop
  | .leaf i t => L[i]? = some t ∧ soundT t = true ∧ arT t.kind = 0
  | .one i t a => L[i]? = some t ∧ soundT t = true ∧ arT t.kind = 1 ∧ t.l = (a.at_ : Int) ∧ a.at_ < i ∧ Fits L a
  | .two i t a b => L[i]? = some t ∧ soundT t = true ∧ arT t.kind = 2 ∧ t.l = (a.at_ : Int) ∧ t.r = (b.at_ : Int) ∧ a.at_ < i ∧ b.at_ < i ∧ Fits L a ∧ Fits L b
/-- The tree of a root, valid. -/
def Good (L : List Trm) (root : Int) (e : Exp) : Prop := L.length ≤ 160 ∧ (e.at_ : Int) = root ∧ Fits L e ∧ e.places.Nodup ∧ e.deep ≤ 24

theorem Fits.here {L : List Trm} {e : Exp} (h : Fits L e) : L[e.at_]? = some e.term ∧ soundT e.term = true := by
  cases e <;> exact ⟨h.1, h.2.1⟩
theorem Fits.lt {L : List Trm} {e : Exp} (h : Fits L e) : e.at_ < L.length := by
  rcases Nat.lt_or_ge e.at_ L.length with h1 | h1
  · exact h1
  · have := h.here.1; rw [List.getElem?_eq_none h1] at this; cases this
theorem Fits.same {L : List Trm} : ∀ {e e' : Exp}, Fits L e → Fits L e' → e.at_ = e'.at_ → e = e' := by
  intro e
  induction e with
  | leaf i t =>
    intro e' h h' ha
    have hh := h.here.1
    rw [ha, h'.here.1] at hh
    injection hh with hh
    cases e' with
    | leaf i' t' => simp only [Exp.at_, Exp.term] at ha hh; rw [ha, hh]
    | one i' t' a => have := h.2.2; have := h'.2.2.1; simp only [Exp.term] at hh; rw [hh] at this; omega
    | two i' t' a b => have := h.2.2; have := h'.2.2.1; simp only [Exp.term] at hh; rw [hh] at this; omega
  | one i t a ih =>
    intro e' h h' ha
    have hh := h.here.1
    rw [ha, h'.here.1] at hh
    injection hh with hh
    cases e' with
    | leaf i' t' => have := h.2.2.1; have := h'.2.2; simp only [Exp.term] at hh; rw [hh] at this; omega
    | one i' t' a' =>
      simp only [Exp.at_, Exp.term] at ha hh
      subst ha hh
      have := ih h.2.2.2.2.2 h'.2.2.2.2.2 (by have := h.2.2.2.1; have := h'.2.2.2.1; omega)
      rw [this]
    | two i' t' a' b' => have := h.2.2.1; have := h'.2.2.1; simp only [Exp.term] at hh; rw [hh] at this; omega
  | two i t a b iha ihb =>
    intro e' h h' ha
    have hh := h.here.1
    rw [ha, h'.here.1] at hh
    injection hh with hh
    cases e' with
    | leaf i' t' => have := h.2.2.1; have := h'.2.2; simp only [Exp.term] at hh; rw [hh] at this; omega
    | one i' t' a' => have := h.2.2.1; have := h'.2.2.1; simp only [Exp.term] at hh; rw [hh] at this; omega
    | two i' t' a' b' =>
      simp only [Exp.at_, Exp.term] at ha hh
      subst ha hh
      obtain ⟨_, _, _, hl, hr, _, _, fa, fb⟩ := h
      obtain ⟨_, _, _, hl', hr', _, _, fa', fb'⟩ := h'
      rw [iha fa fa' (by omega), ihb fb fb' (by omega)]
theorem Fits.le {L : List Trm} : ∀ {e : Exp}, Fits L e → ∀ p ∈ e.places, p ≤ e.at_ := by
  intro e
  induction e with
  | leaf i t => intro _ p hp; simp [Exp.places] at hp; subst hp; exact Nat.le_refl _
  | one i t a ih =>
    intro h p hp
    have h5 := h.2.2.2.2.1
    rcases List.mem_cons.1 hp with rfl | hp
    · exact Nat.le_refl _
    · have := ih h.2.2.2.2.2 p hp
      show p ≤ i
      omega
  | two i t a b iha ihb =>
    intro h p hp
    obtain ⟨_, _, _, _, _, h6, h7, fa, fb⟩ := h
    rcases List.mem_cons.1 hp with rfl | hp
    · exact Nat.le_refl _
    · show p ≤ i
      rcases List.mem_append.1 hp with hp | hp
      · have := iha fa p hp; omega
      · have := ihb fb p hp; omega
theorem Exp.at_mem (e : Exp) : e.at_ ∈ e.places := by cases e <;> simp [Exp.places, Exp.at_]
theorem Exp.deep_pos (e : Exp) : 1 ≤ e.deep := by cases e <;> simp [Exp.deep]
theorem Exp.deep_le : ∀ e : Exp, e.deep ≤ e.places.length
  | .leaf _ _ => Nat.le_refl _
  | .one _ _ a => by have := a.deep_le; simp only [Exp.deep, Exp.places, List.length_cons]; omega
  | .two _ _ a b => by have := a.deep_le; have := b.deep_le; simp only [Exp.deep, Exp.places, List.length_cons, List.length_append]; omega

/-! ### The program's walk finds the tree -/
def mark (ps : List Nat) (s : Nat → Bool) : Nat → Bool := fun j => decide (j ∈ ps) || s j
theorem mark_one (i : Nat) (s : Nat → Bool) : (fun j => j == i || s j) = mark [i] s := by
  funext j
  unfold mark
  congr 1
  rw [Bool.eq_iff_iff, beq_iff_eq, decide_eq_true_eq, List.mem_singleton]
theorem mark_mark (ps qs : List Nat) (s : Nat → Bool) : mark ps (mark qs s) = mark (qs ++ ps) s := by
  funext j
  unfold mark
  rw [← Bool.or_assoc]
  congr 1
  rw [Bool.eq_iff_iff, Bool.or_eq_true, decide_eq_true_eq, decide_eq_true_eq, decide_eq_true_eq, List.mem_append]
  exact Or.comm
theorem mark_off {ps : List Nat} {s : Nat → Bool} {j : Nat} : mark ps s j = false ↔ j ∉ ps ∧ s j = false := by
  unfold mark
  rw [Bool.or_eq_false_iff, decide_eq_false_iff_not]
theorem opsT0 {t : Trm} (h : arT t.kind = 0) : opsT t = [] := by unfold opsT; rw [if_pos h]
theorem opsT1 {t : Trm} (h : arT t.kind = 1) : opsT t = [t.l] := by unfold opsT; rw [if_neg (by omega), if_pos h]
theorem opsT2 {t : Trm} (h : arT t.kind = 2) : opsT t = [t.l, t.r] := by unfold opsT; rw [if_neg (by omega), if_neg (by omega)]
theorem arT_ways (k : Int) : arT k = 0 ∨ arT k = 1 ∨ arT k = 2 := by
  unfold arT
  split
  · exact .inr (.inl rfl)
  · split
    · exact .inl rfl
    · exact .inr (.inr rfl)
theorem fitT_ops {t : Trm} {i : Nat} : fitT t i = true ↔ (∀ o ∈ opsT t, 0 ≤ o ∧ o < i) ∧ soundT t = true := by
  unfold fitT
  rw [Bool.and_eq_true, List.all_eq_true]
  simp only [Bool.and_eq_true, decide_eq_true_eq]

theorem walkF_iff (L : List Trm) : ∀ (f i d : Nat) (s s' : Nat → Bool), i < f → i < L.length →
    (walkF L f i d s = some s' ↔ ∃ e, Fits L e ∧ e.at_ = i ∧ e.deep + d ≤ 25 ∧ e.places.Nodup ∧ (∀ p ∈ e.places, s p = false) ∧ s' = mark e.places s) := by
  intro f
  induction f with
  | zero => intro i d s s' h; omega
  | succ f ih =>
    intro i d s s' hi hl
    have hget : L[i]? = some (L.getD i trm0) := by rw [List.getD_eq_getElem?_getD, List.getElem?_eq_getElem hl]; rfl
    rw [walkF]
    generalize L.getD i trm0 = t at hget
    rw [mark_one]
    constructor
    · intro h
      split at h
      · rename_i hc
        obtain ⟨hd, hs, hf⟩ := hc
        obtain ⟨hops, hsd⟩ := fitT_ops.1 hf
        rcases arT_ways t.kind with ha | ha | ha
        · rw [opsT0 ha] at h
          injection h with h
          refine ⟨.leaf i t, ⟨hget, hsd, ha⟩, rfl, by simp only [Exp.deep]; omega, by simp [Exp.places], ?_, h.symm⟩
          intro p hp; simp [Exp.places] at hp; rw [hp]; exact hs
        · rw [opsT1 ha] at h hops
          obtain ⟨o0, o1⟩ := hops t.l (by simp)
          simp only [foldO] at h
          split at h
          · cases h
          · rename_i s1 h1
            injection h with h
            obtain ⟨a, fa, aat, adeep, and_, aoff, e1⟩ := (ih t.l.toNat (d + 1) _ s1 (by omega) (by omega)).1 h1
            refine ⟨.one i t a, ⟨hget, hsd, ha, by omega, by omega, fa⟩, rfl, by simp only [Exp.deep]; omega, ?_, ?_, ?_⟩
            · rw [Exp.places, List.nodup_cons]
              exact ⟨fun hm => by have := (mark_off.1 (aoff i hm)).1; simp at this, and_⟩
            · intro p hp
              rcases List.mem_cons.1 hp with rfl | hp
              · exact hs
              · exact (mark_off.1 (aoff p hp)).2
            · rw [← h, e1, mark_mark]; rfl
        · rw [opsT2 ha] at h hops
          obtain ⟨o0, o1⟩ := hops t.l (by simp)
          obtain ⟨o2, o3⟩ := hops t.r (by simp)
          simp only [foldO] at h
          split at h
          · cases h
          · rename_i s1 h1
            split at h
            · cases h
            · rename_i s2 h2
              injection h with h
              obtain ⟨a, fa, aat, adeep, and_, aoff, e1⟩ := (ih t.l.toNat (d + 1) _ s1 (by omega) (by omega)).1 h1
              obtain ⟨b, fb, bat, bdeep, bnd_, boff, e2⟩ := (ih t.r.toNat (d + 1) _ s2 (by omega) (by omega)).1 h2
              rw [e1] at boff e2
              refine ⟨.two i t a b, ⟨hget, hsd, ha, by omega, by omega, by omega, by omega, fa, fb⟩, rfl, by simp only [Exp.deep]; omega, ?_, ?_, ?_⟩
              · rw [Exp.places, List.nodup_cons, List.nodup_append]
                refine ⟨fun hm => ?_, and_, bnd_, fun x hx y hy e => ?_⟩
                · rcases List.mem_append.1 hm with hm | hm
                  · have := (mark_off.1 (aoff i hm)).1; simp at this
                  · have := (mark_off.1 (mark_off.1 (boff i hm)).2).1; simp at this
                · subst e; exact (mark_off.1 (boff x hy)).1 hx
              · intro p hp
                rcases List.mem_cons.1 hp with rfl | hp
                · exact hs
                · rcases List.mem_append.1 hp with hp | hp
                  · exact (mark_off.1 (aoff p hp)).2
                  · exact (mark_off.1 (mark_off.1 (boff p hp)).2).2
              · rw [← h, e2, mark_mark, mark_mark]; rfl
      · cases h
    · rintro ⟨e, fe, hat, hdeep, hnd, hoff, rfl⟩
      have h1 := e.deep_pos
      have hte : t = e.term := by have := fe.here.1; rw [hat, hget] at this; injection this
      have hoffi : s i = false := hoff _ (hat ▸ e.at_mem)
      cases e with
      | leaf j u =>
        subst hte
        obtain ⟨_, hsd, ha⟩ := fe
        simp only [Exp.at_] at hat
        subst hat
        rw [if_pos ⟨by simp only [Exp.deep] at hdeep; omega, hoffi, fitT_ops.2 ⟨by rw [opsT0 ha]; simp, hsd⟩⟩, opsT0 ha]
        rfl
      | one j u a =>
        subst hte
        obtain ⟨_, hsd, ha, hl1, hl2, fa⟩ := fe
        simp only [Exp.at_] at hat
        subst hat
        simp only [Exp.places, Exp.deep, List.nodup_cons] at *
        rw [if_pos ⟨by omega, hoffi, fitT_ops.2 ⟨by rw [opsT1 ha]; simp; omega, hsd⟩⟩, opsT1 ha]
        have := (ih t.l.toNat (d + 1) (mark [j] s) (mark a.places (mark [j] s)) (by omega) (by have := fa.lt; omega)).2 ⟨a, fa, by omega, by omega, hnd.2, fun p hp => mark_off.2 ⟨fun hm => by simp at hm; subst hm; exact hnd.1 hp, hoff p (List.mem_cons_of_mem _ hp)⟩, rfl⟩
        simp only [foldO, this]
        rw [mark_mark]; rfl
      | two j u a b =>
        subst hte
        obtain ⟨_, hsd, ha, hl1, hr1, hl2, hr2, fa, fb⟩ := fe
        simp only [Exp.at_] at hat
        subst hat
        simp only [Exp.places, Exp.deep, List.nodup_cons, List.nodup_append, List.mem_append, not_or] at *
        obtain ⟨⟨hja, hjb⟩, hna, hnb, hab⟩ := hnd
        rw [if_pos ⟨by omega, hoffi, fitT_ops.2 ⟨by rw [opsT2 ha]; simp; omega, hsd⟩⟩, opsT2 ha]
        have e1 := (ih t.l.toNat (d + 1) (mark [j] s) (mark a.places (mark [j] s)) (by omega) (by have := fa.lt; omega)).2 ⟨a, fa, by omega, by omega, hna, fun p hp => mark_off.2 ⟨fun hm => by simp at hm; subst hm; exact hja hp, hoff p (by simp [hp])⟩, rfl⟩
        have e2 := (ih t.r.toNat (d + 1) (mark a.places (mark [j] s)) (mark b.places (mark a.places (mark [j] s))) (by omega) (by have := fb.lt; omega)).2 ⟨b, fb, by omega, by omega, hnb, fun p hp => mark_off.2 ⟨fun hm => hab p hm p hp rfl, mark_off.2 ⟨fun hm => by simp at hm; subst hm; exact hjb hp, hoff p (by simp [hp])⟩⟩, rfl⟩
        simp only [foldO, e1, e2]
        rw [mark_mark, mark_mark]; rfl

theorem mayF_iff (L : List Trm) (root : Int) : mayF L root = true ↔ ∃ e, Good L root e := by
  unfold mayF
  simp only [Bool.and_eq_true, decide_eq_true_eq, Option.isSome_iff_exists]
  constructor
  · rintro ⟨⟨⟨h1, h2⟩, h3⟩, s', h⟩
    obtain ⟨e, fe, eat, ed, en, _, _⟩ := (walkF_iff L _ _ _ _ _ (by omega) (by omega)).1 h
    exact ⟨e, h1, by omega, fe, en, by omega⟩
  · rintro ⟨e, h1, rfl, fe, en, ed⟩
    have := fe.lt
    refine ⟨⟨⟨h1, by omega⟩, by omega⟩, _, (walkF_iff L _ _ _ _ (mark e.places _) (by omega) (by omega)).2 ⟨e, fe, by omega, by omega, en, fun _ _ => rfl, rfl⟩⟩
theorem Good.same {L : List Trm} {root : Int} {e e' : Exp} (h : Good L root e) (h' : Good L root e') : e = e' :=
  h.2.2.1.same h'.2.2.1 (by have := h.2.1; have := h'.2.1; omega)
theorem mayF_no {L : List Trm} {root : Int} (h : mayF L root = false) : ¬ ∃ e, Good L root e := by
  rw [← mayF_iff, h]; simp
end Go.Proofs.Ytgefhgcpnfbigaa
