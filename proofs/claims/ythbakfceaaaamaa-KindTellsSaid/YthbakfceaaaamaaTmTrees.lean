/- Plain: what becomes of a tree where the list grows, where its variables are put, where a part of it is replaced; binds that do not matter. -/
import Derived.Test.YthbakfceaaaamaaTmName
namespace Go.Proofs.Ythbakfceaaaamaa
open Go.RowKit

/-! ### The list grows -/
theorem Fits.append {L : List Trm} (M : List Trm) : ∀ {e : Exp}, Fits L e → Fits (L ++ M) e := by
  have hm : ∀ {i : Nat} {t : Trm}, L[i]? = some t → (L ++ M)[i]? = some t := fun {i t} h => by
    obtain ⟨h1, _⟩ := List.getElem?_eq_some_iff.1 h
    rw [List.getElem?_append_left h1]; exact h
  intro e
  induction e with
  | leaf i t => intro h; exact ⟨hm h.1, h.2⟩
  | one i t a ih => intro h; exact ⟨hm h.1, h.2.1, h.2.2.1, h.2.2.2.1, h.2.2.2.2.1, ih h.2.2.2.2.2⟩
  | two i t a b iha ihb =>
    intro h
    obtain ⟨h1, h2, h3, h4, h5, h6, h7, fa, fb⟩ := h
    exact ⟨hm h1, h2, h3, h4, h5, h6, h7, iha fa, ihb fb⟩
theorem Good.append {L : List Trm} {root : Int} {e : Exp} (h : Good L root e) {M : List Trm} (hl : (L ++ M).length ≤ 160) : Good (L ++ M) root e :=
  ⟨hl, h.2.1, h.2.2.1.append M, h.2.2.2⟩
theorem mayF_of {L : List Trm} {root : Int} {e : Exp} (h : Good L root e) : mayF L root = true := (mayF_iff L root).2 ⟨e, h⟩
theorem mayF_not {L : List Trm} {root : Int} (h : ¬ ∃ e, Good L root e) : mayF L root = false := by
  cases hm : mayF L root
  · rfl
  · exact absurd ((mayF_iff L root).1 hm) h
/-- A tree that uses its root twice is none. -/
theorem twice_no (L : List Trm) (r : Nat) (k : Int) (hk : arT k = 2) : mayF (L ++ [⟨k, [], 0, [], (r : Int), (r : Int)⟩]) (L.length : Int) = false := by
  refine mayF_not ?_
  rintro ⟨e, _, hat, hf, hn, _⟩
  have hat' : e.at_ = L.length := by omega
  have hh := hf.here.1
  rw [hat', List.getElem?_append_right (Nat.le_refl _), Nat.sub_self] at hh
  have ht : e.term = ⟨k, [], 0, [], (r : Int), (r : Int)⟩ := (Option.some.inj hh).symm
  cases e with
  | leaf i t => have h3 := hf.2.2; simp only [Exp.term] at ht; rw [ht] at h3; dsimp only at h3; omega
  | one i t a => have h3 := hf.2.2.1; simp only [Exp.term] at ht; rw [ht] at h3; dsimp only at h3; omega
  | two i t a b =>
    simp only [Exp.term] at ht
    obtain ⟨_, _, _, hl, hr, _, _, _, _⟩ := hf
    rw [ht] at hl hr
    dsimp only at hl hr
    have hab : a.at_ = b.at_ := by omega
    simp only [Exp.places, List.nodup_cons, List.nodup_append] at hn
    exact hn.2.2.2 a.at_ a.at_mem b.at_ b.at_mem hab
theorem Good.deepL {L : List Trm} {root : Int} {e : Exp} (h : Good L root e) : e.deep ≤ L.length := by
  obtain ⟨_, _, hf, hn, _⟩ := h
  have hsub : ∀ p ∈ e.places, p ∈ List.range L.length := fun p hp => List.mem_range.2 (by have := hf.le p hp; have := hf.lt; omega)
  have := len_sub e.places (List.range L.length) hn hsub
  rw [List.length_range] at this
  have := e.deep_le
  omega
/-- A tree under a new root of one operand. -/
theorem once_yes {L : List Trm} {r : Nat} {e : Exp} (h : Good L (r : Int) e) (hl : L.length < 24) : mayF (L ++ [⟨16, [], 0, [], (r : Int), -1⟩]) (L.length : Int) = true := by
  have hd := h.deepL
  have hat := h.2.1
  have hlt := h.2.2.1.lt
  refine mayF_of (e := .one L.length ⟨16, [], 0, [], (r : Int), -1⟩ e) ⟨by simp; omega, rfl, ⟨by rw [List.getElem?_append_right (Nat.le_refl _), Nat.sub_self]; rfl, rfl, rfl, by simp only []; omega, hlt, h.2.2.1.append _⟩, ?_, by simp only [Exp.deep]; omega⟩
  simp only [Exp.places, List.nodup_cons]
  exact ⟨fun hm => by have := h.2.2.1.le _ hm; omega, h.2.2.2.1⟩

/-! ### Variables are put -/
def putT (nm : Str) (n : Int) (t : Trm) : Trm := if t.kind = 0 ∧ t.name = nm then ⟨1, [], n, [], -1, -1⟩ else t
def putE (nm : Str) (n : Int) : Exp → Exp
  | .leaf i t => .leaf i (putT nm n t)
  | .one i t a => .one i t (putE nm n a)
  | .two i t a b => .two i t (putE nm n a) (putE nm n b)
theorem putE_at (nm : Str) (n : Int) (e : Exp) : (putE nm n e).at_ = e.at_ := by cases e <;> rfl
theorem putE_places (nm : Str) (n : Int) : ∀ e : Exp, (putE nm n e).places = e.places := by
  intro e
  induction e with
  | leaf i t => rfl
  | one i t a ih => simp only [putE, Exp.places, ih]
  | two i t a b iha ihb => simp only [putE, Exp.places, iha, ihb]
theorem putE_deep (nm : Str) (n : Int) : ∀ e : Exp, (putE nm n e).deep = e.deep := by
  intro e
  induction e with
  | leaf i t => rfl
  | one i t a ih => simp only [putE, Exp.deep, ih]
  | two i t a b iha ihb => simp only [putE, Exp.deep, iha, ihb]
theorem putT_same {nm : Str} {n : Int} {t : Trm} (h : arT t.kind ≠ 0) : putT nm n t = t := by
  unfold putT
  rw [if_neg]
  rintro ⟨h1, _⟩
  rw [h1] at h
  exact h rfl
theorem putT_sound (nm : Str) (n : Int) {t : Trm} (h : soundT t = true) (ha : arT t.kind = 0) : soundT (putT nm n t) = true ∧ arT (putT nm n t).kind = 0 := by
  unfold putT
  split
  · exact ⟨by simp [soundT, arT], rfl⟩
  · exact ⟨h, ha⟩
theorem putE_fits (nm : Str) (n : Int) {L : List Trm} : ∀ {e : Exp}, Fits L e → Fits (L.map (putT nm n)) (putE nm n e) := by
  have hm : ∀ {i : Nat} {t : Trm}, L[i]? = some t → (L.map (putT nm n))[i]? = some (putT nm n t) := fun {i t} h => by rw [List.getElem?_map, h]; rfl
  intro e
  induction e with
  | leaf i t => intro h; exact ⟨hm h.1, (putT_sound nm n h.2.1 h.2.2).1, (putT_sound nm n h.2.1 h.2.2).2⟩
  | one i t a ih =>
    intro h
    have h1 := hm h.1
    rw [putT_same (by rw [h.2.2.1]; decide)] at h1
    exact ⟨h1, h.2.1, h.2.2.1, by rw [putE_at]; exact h.2.2.2.1, by rw [putE_at]; exact h.2.2.2.2.1, ih h.2.2.2.2.2⟩
  | two i t a b iha ihb =>
    intro h
    obtain ⟨h1, h2, h3, h4, h5, h6, h7, fa, fb⟩ := h
    have h1 := hm h1
    rw [putT_same (by rw [h3]; decide)] at h1
    exact ⟨h1, h2, h3, by rw [putE_at]; exact h4, by rw [putE_at]; exact h5, by rw [putE_at]; exact h6, by rw [putE_at]; exact h7, iha fa, ihb fb⟩
theorem putE_good (nm : Str) (n : Int) {L : List Trm} {root : Int} {e : Exp} (h : Good L root e) : Good (L.map (putT nm n)) root (putE nm n e) :=
  ⟨by rw [List.length_map]; exact h.1, by rw [putE_at]; exact h.2.1, putE_fits nm n h.2.2.1, by rw [putE_places]; exact h.2.2.2.1, by rw [putE_deep]; exact h.2.2.2.2⟩
theorem putE_eval (nm : Str) (n : Int) (env : List (Str × Val)) : ∀ e : Exp, evalE env (putE nm n e) = evalE ((nm, intV n) :: env) e := by
  intro e
  induction e with
  | leaf i t =>
    simp only [putE, evalE]
    unfold putT
    by_cases h : t.kind = 0 ∧ t.name = nm
    · rw [if_pos h]
      unfold leafV
      rw [if_pos h.1, h.2]
      simp [holdV, mayV_int]
    · rw [if_neg h]
      unfold leafV
      by_cases hk : t.kind = 0
      · rw [if_pos hk, if_pos hk]
        have hne : ¬ nm = t.name := fun e => h ⟨hk, e.symm⟩
        simp [holdV, hne]
      · rw [if_neg hk, if_neg hk]
  | one i t a ih => simp only [putE, evalE, ih]
  | two i t a b iha ihb => simp only [putE, evalE, iha, ihb]
theorem putE_names (nm : Str) (n : Int) : ∀ e : Exp, nm ∉ (putE nm n e).names := by
  intro e
  induction e with
  | leaf i t =>
    simp only [putE, Exp.names]
    unfold putT
    by_cases h : t.kind = 0 ∧ t.name = nm
    · rw [if_pos h]; simp
    · rw [if_neg h]
      by_cases hk : t.kind = 0
      · rw [if_pos hk, List.mem_singleton]; exact fun e => h ⟨hk, e.symm⟩
      · rw [if_neg hk]; simp
  | one i t a ih => exact ih
  | two i t a b iha ihb => simp only [putE, Exp.names, List.mem_append]; exact fun h => h.elim iha ihb

/-! ### A part is replaced by a term that means the same -/
def insE (k : Nat) (x : Trm) : Exp → Exp
  | .leaf i t => if i = k then .leaf k x else .leaf i t
  | .one i t a => if i = k then .leaf k x else .one i t (insE k x a)
  | .two i t a b => if i = k then .leaf k x else .two i t (insE k x a) (insE k x b)
theorem insE_at (k : Nat) (x : Trm) (e : Exp) : (insE k x e).at_ = e.at_ := by
  cases e <;> (simp only [insE]; split <;> simp_all [Exp.at_])
theorem insE_sub (k : Nat) (x : Trm) : ∀ e : Exp, (insE k x e).places.Sublist e.places := by
  intro e
  induction e with
  | leaf i t => simp only [insE]; split <;> simp_all [Exp.places]
  | one i t a ih =>
    simp only [insE]
    split
    · rename_i h; subst h; simp only [Exp.places]; exact List.Sublist.cons_cons _ (List.nil_sublist _)
    · simp only [Exp.places]; exact List.Sublist.cons_cons _ ih
  | two i t a b iha ihb =>
    simp only [insE]
    split
    · rename_i h; subst h; simp only [Exp.places]; exact List.Sublist.cons_cons _ (List.nil_sublist _)
    · simp only [Exp.places]; exact List.Sublist.cons_cons _ (iha.append ihb)
theorem insE_deep (k : Nat) (x : Trm) : ∀ e : Exp, (insE k x e).deep ≤ e.deep := by
  intro e
  induction e with
  | leaf i t => simp only [insE]; split <;> simp [Exp.deep]
  | one i t a ih => simp only [insE]; split <;> simp only [Exp.deep] <;> omega
  | two i t a b iha ihb => simp only [insE]; split <;> simp only [Exp.deep] <;> omega
theorem insE_fits (k : Nat) (x : Trm) {L : List Trm} (hk : k < L.length) (hs : soundT x = true) (ha : arT x.kind = 0) : ∀ {e : Exp}, Fits L e → Fits (L.set k x) (insE k x e) := by
  have h0 : (L.set k x)[k]? = some x := by rw [List.getElem?_set_self hk]
  have hm : ∀ {i : Nat} {t : Trm}, i ≠ k → L[i]? = some t → (L.set k x)[i]? = some t := fun {i t} hne h => by rw [List.getElem?_set_ne (fun e => hne e.symm)]; exact h
  intro e
  induction e with
  | leaf i t =>
    intro h
    simp only [insE]
    split
    · exact ⟨h0, hs, ha⟩
    · rename_i hne; exact ⟨hm hne h.1, h.2⟩
  | one i t a ih =>
    intro h
    simp only [insE]
    split
    · exact ⟨h0, hs, ha⟩
    · rename_i hne; exact ⟨hm hne h.1, h.2.1, h.2.2.1, by rw [insE_at]; exact h.2.2.2.1, by rw [insE_at]; exact h.2.2.2.2.1, ih h.2.2.2.2.2⟩
  | two i t a b iha ihb =>
    intro h
    obtain ⟨h1, h2, h3, h4, h5, h6, h7, fa, fb⟩ := h
    simp only [insE]
    split
    · exact ⟨h0, hs, ha⟩
    · rename_i hne; exact ⟨hm hne h1, h2, h3, by rw [insE_at]; exact h4, by rw [insE_at]; exact h5, by rw [insE_at]; exact h6, by rw [insE_at]; exact h7, iha fa, ihb fb⟩
theorem insE_good {L : List Trm} {root : Int} {e : Exp} (h : Good L root e) {k : Nat} {x : Trm} (hk : k < L.length) (hs : soundT x = true) (ha : arT x.kind = 0) : Good (L.set k x) root (insE k x e) :=
  ⟨by rw [List.length_set]; exact h.1, by rw [insE_at]; exact h.2.1, insE_fits k x hk hs ha h.2.2.1, h.2.2.2.1.sublist (insE_sub k x e), Nat.le_trans (insE_deep k x e) h.2.2.2.2⟩
theorem insE_eval {L : List Trm} {env : List (Str × Val)} {a : Exp} (fa : Fits L a) {x : Trm} (hx : leafV env x = evalE env a) : ∀ {e : Exp}, Fits L e → evalE env (insE a.at_ x e) = evalE env e := by
  intro e
  induction e with
  | leaf i t =>
    intro h
    simp only [insE]
    split
    · rename_i hi; rw [h.same fa hi]; exact hx
    · rfl
  | one i t b ih =>
    intro h
    simp only [insE]
    split
    · rename_i hi; rw [h.same fa hi]; exact hx
    · simp only [evalE, ih h.2.2.2.2.2]
  | two i t b c ihb ihc =>
    intro h
    simp only [insE]
    split
    · rename_i hi; rw [h.same fa hi]; exact hx
    · obtain ⟨_, _, _, _, _, _, _, fb, fc⟩ := h
      simp only [evalE, ihb fb, ihc fc]
/-- The tree below a place of a tree. -/
theorem part_of {L : List Trm} {k : Nat} : ∀ {e : Exp}, Fits L e → k ∈ e.places → ∃ a, Fits L a ∧ a.at_ = k ∧ a.places.Sublist e.places ∧ a.deep ≤ e.deep := by
  intro e
  induction e with
  | leaf i t => intro h hk; exact ⟨.leaf i t, h, by simp [Exp.places] at hk; exact hk.symm, List.Sublist.refl _, Nat.le_refl _⟩
  | one i t a ih =>
    intro h hk
    rcases List.mem_cons.1 hk with rfl | hk
    · exact ⟨_, h, rfl, List.Sublist.refl _, Nat.le_refl _⟩
    · obtain ⟨c, fc, cat, cs, cd⟩ := ih h.2.2.2.2.2 hk
      exact ⟨c, fc, cat, cs.trans (List.sublist_cons_self _ _), by simp only [Exp.deep]; omega⟩
  | two i t a b iha ihb =>
    intro h hk
    have hw := h
    obtain ⟨_, _, _, _, _, _, _, fa, fb⟩ := h
    rcases List.mem_cons.1 hk with rfl | hk
    · exact ⟨_, hw, rfl, List.Sublist.refl _, Nat.le_refl _⟩
    · rcases List.mem_append.1 hk with hk | hk
      · obtain ⟨c, fc, cat, cs, cd⟩ := iha fa hk
        exact ⟨c, fc, cat, (cs.trans (List.sublist_append_left _ _)).trans (List.sublist_cons_self _ _), by simp only [Exp.deep]; omega⟩
      · obtain ⟨c, fc, cat, cs, cd⟩ := ihb fb hk
        exact ⟨c, fc, cat, (cs.trans (List.sublist_append_right _ _)).trans (List.sublist_cons_self _ _), by simp only [Exp.deep]; omega⟩
theorem Good.part {L : List Trm} {root : Int} {e : Exp} (h : Good L root e) {k : Nat} (hk : k ∈ e.places) : ∃ a, Good L (k : Int) a := by
  obtain ⟨a, fa, hat, hs, hd⟩ := part_of h.2.2.1 hk
  exact ⟨a, h.1, by omega, fa, h.2.2.2.1.sublist hs, Nat.le_trans hd h.2.2.2.2⟩
/-- Where a part has no value, the whole has none. -/
theorem part_fails {L : List Trm} {env : List (Str × Val)} {a : Exp} (fa : Fits L a) (hx : (evalE env a).2 ≠ 0) : ∀ {e : Exp}, Fits L e → a.at_ ∈ e.places → (evalE env e).2 ≠ 0 := by
  intro e
  induction e with
  | leaf i t => intro h hk; rw [h.same fa (by simp [Exp.places] at hk; exact hk.symm)]; exact hx
  | one i t b ih =>
    intro h hk
    rcases List.mem_cons.1 hk with hi | hk
    · rw [h.same fa hi.symm]; exact hx
    · have := ih h.2.2.2.2.2 hk
      simp only [evalE]
      rw [if_neg this]
      exact this
  | two i t b c ihb ihc =>
    intro h hk
    rcases List.mem_cons.1 hk with hi | hk
    · rw [h.same fa hi.symm]; exact hx
    · obtain ⟨_, _, _, _, _, _, _, fb, fc⟩ := h
      simp only [evalE]
      by_cases hb : (evalE env b).2 = 0
      · rw [if_pos hb]
        rcases List.mem_append.1 hk with hk | hk
        · exact absurd hb (ihb fb hk)
        · have := ihc fc hk
          rw [if_neg this]
          exact this
      · rw [if_neg hb]
        exact hb

/-! ### Binds that do not matter -/
theorem evalE_same {env env' : List (Str × Val)} : ∀ {e : Exp}, (∀ x ∈ e.names, holdV env x = holdV env' x) → evalE env e = evalE env' e := by
  intro e
  induction e with
  | leaf i t =>
    intro h
    simp only [evalE]
    unfold leafV
    by_cases hk : t.kind = 0
    · rw [if_pos hk, if_pos hk]
      exact h _ (by simp [Exp.names, hk])
    · rw [if_neg hk, if_neg hk]
  | one i t a ih => intro h; simp only [evalE, ih h]
  | two i t a b iha ihb =>
    intro h
    simp only [evalE, iha (fun x hx => h x (by simp [Exp.names, hx])), ihb (fun x hx => h x (by simp [Exp.names, hx]))]
theorem holdV_skip {x : Str} : ∀ {more : List (Str × Val)} (env : List (Str × Val)), (∀ b ∈ more, b.1 ≠ x) → holdV (more ++ env) x = holdV env x
  | [], _, _ => rfl
  | (s, v) :: r, env, h => by
    rw [List.cons_append, holdV, if_neg (h (s, v) (by simp))]
    exact holdV_skip env (fun b hb => h b (by simp [hb]))
theorem holdV_behind {x : Str} {f : Str × Val → Val} : ∀ (env : List (Str × Val)) (old : List (Str × Val)), (∀ b ∈ env, b ∈ old) → holdV (env ++ old.map (fun b => (b.1, f b))) x = holdV env x ∨ ∀ b ∈ env, b.1 ≠ x
  | [], _, _ => .inr (by simp)
  | (s, v) :: r, old, h => by
    by_cases hs : s = x
    · left; rw [List.cons_append, holdV, holdV, if_pos hs, if_pos hs]
    · rcases holdV_behind r old (fun b hb => h b (by simp [hb])) with h1 | h1
      · left; rw [List.cons_append, holdV, holdV, if_neg hs, if_neg hs, h1]
      · right
        intro b hb
        rcases List.mem_cons.1 hb with rfl | hb
        · exact hs
        · exact h1 b hb
/-- Binds of other names ahead, and binds of its own names behind. -/
theorem holdV_more {x : Str} {f : Str × Val → Val} {more env : List (Str × Val)} (h : ∀ b ∈ more, b.1 ≠ x) : holdV (more ++ env ++ env.map (fun b => (b.1, f b))) x = holdV env x := by
  rw [List.append_assoc, holdV_skip _ h]
  rcases holdV_behind (x := x) (f := f) env env (fun b hb => hb) with h1 | h1
  · exact h1
  · have h2 : ∀ b ∈ env.map (fun b => (b.1, f b)), b.1 ≠ x := fun b hb => by
      obtain ⟨c, hc, rfl⟩ := List.mem_map.1 hb
      exact h1 c hc
    have e1 := holdV_skip (x := x) (more := env) (env.map (fun b => (b.1, f b))) h1
    have e2 := holdV_skip (x := x) (more := env) [] h1
    have e3 := holdV_skip (x := x) (more := env.map (fun b => (b.1, f b))) [] h2
    rw [List.append_nil] at e2 e3
    rw [e1, e2, e3]
theorem sameV_self (v : Val) : sameV v v = true := by
  exact sameV_iff.2 rfl
end Go.Proofs.Ythbakfceaaaamaa

/- Plain: the reference's walk over a tree, from its root downwards. -/
namespace Go.Proofs.Ythbakfceaaaamaa
open Go.RowKit

def markD (d : Nat → Nat) (i v : Nat) : Nat → Nat := fun j => if j = i then v else d j
theorem markD_self (d : Nat → Nat) (i v : Nat) : markD d i v i = v := if_pos rfl
theorem markD_ne (d : Nat → Nat) {i j : Nat} (v : Nat) (h : j ≠ i) : markD d i v j = d j := if_neg h
/-- An operand of the term at a place is marked, if it may be one. -/
def opD (i : Nat) (o : Int) (d : Nat → Nat) : Option (Nat → Nat) := if 0 ≤ o ∧ o < i ∧ d o.toNat = 0 then some (markD d o.toNat (d i + 1)) else none
def stepD (t : Trm) (i : Nat) (d : Nat → Nat) : Option (Nat → Nat) :=
  if d i = 0 then some d else if soundT t = true ∧ d i ≤ 24 then foldO (opD i) (opsT t) d else none
def treeD (L : List Trm) : Nat → (Nat → Nat) → Option (Nat → Nat)
  | 0, d => some d
  | i + 1, d => match stepD (L.getD i trm0) i d with
    | none => none
    | some d' => treeD L i d'
/-- Each place that is marked and still to be looked at has a tree; no two of them share a place. -/
def Fam (L : List Trm) (i : Nat) (d : Nat → Nat) (T : Nat → Exp) : Prop :=
  (∀ j, j < i → 0 < d j → Fits L (T j) ∧ (T j).at_ = j ∧ (T j).deep + d j ≤ 25 ∧ (T j).places.Nodup) ∧
  (∀ j j', j < i → j' < i → 0 < d j → 0 < d j' → j ≠ j' → ∀ p ∈ (T j).places, p ∉ (T j').places)
def setE (T : Nat → Exp) (i : Nat) (e : Exp) : Nat → Exp := fun j => if j = i then e else T j
theorem setE_self (T : Nat → Exp) (i : Nat) (e : Exp) : setE T i e i = e := if_pos rfl
theorem setE_ne (T : Nat → Exp) {i j : Nat} (e : Exp) (h : j ≠ i) : setE T i e j = T j := if_neg h
theorem opD_some {i : Nat} {o : Int} {d d' : Nat → Nat} (h : opD i o d = some d') : ∃ a : Nat, o = (a : Int) ∧ a < i ∧ d a = 0 ∧ d' = markD d a (d i + 1) := by
  unfold opD at h
  split at h
  · rename_i hc
    obtain ⟨h1, h2, h3⟩ := hc
    injection h with h
    exact ⟨o.toNat, by omega, by omega, h3, h.symm⟩
  · cases h
theorem opD_yes {i a : Nat} {d : Nat → Nat} (h1 : a < i) (h2 : d a = 0) : opD i (a : Int) d = some (markD d a (d i + 1)) := by
  unfold opD
  rw [Int.toNat_natCast, if_pos ⟨by omega, by omega, h2⟩]
theorem getD_some {L : List Trm} {i : Nat} (h : i < L.length) : L[i]? = some (L.getD i trm0) := by
  rw [List.getD_eq_getElem?_getD, List.getElem?_eq_getElem h]; rfl
theorem tree_sound (L : List Trm) : ∀ (i : Nat) (d d' : Nat → Nat), i ≤ L.length → treeD L i d = some d' →
    ∃ T, Fam L i d T ∧ ∀ p, 0 < d' p ↔ 0 < d p ∨ ∃ j, j < i ∧ 0 < d j ∧ p ∈ (T j).places := by
  intro i
  induction i with
  | zero =>
    intro d d' _ h
    rw [treeD] at h
    injection h with h
    subst h
    exact ⟨fun _ => .leaf 0 trm0, ⟨fun j hj => by omega, fun j j' hj => by omega⟩, fun p => ⟨.inl, fun h => h.elim id (fun ⟨j, hj, _⟩ => by omega)⟩⟩
  | succ i ih =>
    intro d d' hi h
    have hget := getD_some (L := L) (i := i) (by omega)
    rw [treeD] at h
    generalize L.getD i trm0 = t at h hget
    unfold stepD at h
    by_cases h0 : d i = 0
    · rw [if_pos h0] at h
      obtain ⟨T, ⟨F1, F2⟩, F3⟩ := ih d d' (by omega) h
      have hlt : ∀ j, j < i + 1 → 0 < d j → j < i := fun j hj hp => by
        rcases Nat.lt_or_ge j i with h | h
        · exact h
        · obtain rfl : j = i := by omega
          omega
      refine ⟨T, ⟨fun j hj hp => F1 j (hlt j hj hp) hp, fun j j' hj hj' hp hp' hne => F2 j j' (hlt j hj hp) (hlt j' hj' hp') hp hp' hne⟩, fun p => (F3 p).trans ⟨?_, ?_⟩⟩
      · rintro (h | ⟨j, hj, hp, hm⟩)
        · exact .inl h
        · exact .inr ⟨j, by omega, hp, hm⟩
      · rintro (h | ⟨j, hj, hp, hm⟩)
        · exact .inl h
        · exact .inr ⟨j, hlt j hj hp, hp, hm⟩
    · rw [if_neg h0] at h
      split at h
      · cases h
      · rename_i d1 hd1
        split at hd1
        · rename_i hc
          obtain ⟨hs, h24⟩ := hc
          have key : ∀ (e : Exp) (T : Nat → Exp), Fam L i d1 T → Fits L e → e.at_ = i → e.deep + d i ≤ 25 → e.places.Nodup →
              (∀ p, p ∈ e.places ↔ p = i ∨ ∃ j, j < i ∧ d j = 0 ∧ 0 < d1 j ∧ p ∈ (T j).places) → (∀ j, 0 < d j → d1 j = d j) → (∀ j, 0 < d1 j → 0 < d j ∨ j ∈ e.places) →
              (∀ p, 0 < d' p ↔ 0 < d1 p ∨ ∃ j, j < i ∧ 0 < d1 j ∧ p ∈ (T j).places) →
              ∃ T, Fam L (i + 1) d T ∧ ∀ p, 0 < d' p ↔ 0 < d p ∨ ∃ j, j < i + 1 ∧ 0 < d j ∧ p ∈ (T j).places := by
            intro e T hF he hat hdeep hnd hpl heq hdown hd'
            obtain ⟨F1, F2⟩ := hF
            have hup : ∀ j, 0 < d j → 0 < d1 j := fun j hj => by rw [heq j hj]; exact hj
            have hlow : ∀ j, j < i → 0 < d1 j → ∀ p ∈ (T j).places, p ≤ j := fun j hj hp p hm => by
              have h1 := F1 j hj hp
              have := h1.1.le p hm
              rw [h1.2.1] at this
              exact this
            refine ⟨setE T i e, ⟨fun j hj hp => ?_, fun j j' hj hj' hp hp' hne p hm hm' => ?_⟩, fun p => ?_⟩
            · by_cases hji : j = i
              · subst hji; rw [setE_self]; exact ⟨he, hat, hdeep, hnd⟩
              · rw [setE_ne _ _ hji]
                have := F1 j (by omega) (hup j hp)
                rw [heq j hp] at this
                exact this
            · by_cases hji : j = i
              · subst hji
                rw [setE_self] at hm
                rw [setE_ne _ _ (fun e => hne e.symm)] at hm'
                have hp1 := hup j' hp'
                rcases (hpl p).1 hm with rfl | ⟨q, hq, hq0, hq1, hqm⟩
                · have := hlow j' (by omega) hp1 p hm'; omega
                · exact F2 q j' hq (by omega) hq1 hp1 (fun e => by subst e; omega) p hqm hm'
              · rw [setE_ne _ _ hji] at hm
                by_cases hji' : j' = i
                · subst hji'
                  rw [setE_self] at hm'
                  have hp1 := hup j hp
                  rcases (hpl p).1 hm' with rfl | ⟨q, hq, hq0, hq1, hqm⟩
                  · have := hlow j (by omega) hp1 p hm; omega
                  · exact F2 q j hq (by omega) hq1 hp1 (fun e => by subst e; omega) p hqm hm
                · rw [setE_ne _ _ hji'] at hm'
                  exact F2 j j' (by omega) (by omega) (hup j hp) (hup j' hp') hne p hm hm'
            · rw [hd' p]
              constructor
              · rintro (h | ⟨j, hj, hp, hm⟩)
                · rcases hdown p h with h | h
                  · exact .inl h
                  · exact .inr ⟨i, by omega, by omega, by rw [setE_self]; exact h⟩
                · rcases Nat.eq_zero_or_pos (d j) with h | h
                  · exact .inr ⟨i, by omega, by omega, by rw [setE_self]; exact (hpl p).2 (.inr ⟨j, hj, h, hp, hm⟩)⟩
                  · exact .inr ⟨j, by omega, h, by rw [setE_ne _ _ (by omega)]; exact hm⟩
              · rintro (h | ⟨j, hj, hp, hm⟩)
                · exact .inl (hup p h)
                · by_cases hji : j = i
                  · subst hji
                    rw [setE_self] at hm
                    rcases (hpl p).1 hm with rfl | ⟨q, hq, _, hq1, hqm⟩
                    · exact .inl (hup p hp)
                    · exact .inr ⟨q, hq, hq1, hqm⟩
                  · rw [setE_ne _ _ hji] at hm
                    exact .inr ⟨j, by omega, hup j hp, hm⟩
          rcases arT_ways t.kind with ha | ha | ha
          · rw [opsT0 ha] at hd1
            injection hd1 with hd1
            subst hd1
            obtain ⟨T, hF, F3⟩ := ih d d' (by omega) h
            refine key (.leaf i t) T hF ⟨hget, hs, ha⟩ rfl (by simp only [Exp.deep]; omega) (by simp [Exp.places]) (fun p => ?_) (fun _ _ => rfl) (fun j hj => .inl hj) F3
            simp only [Exp.places, List.mem_singleton]
            exact ⟨.inl, fun h => h.elim id (fun ⟨j, _, h1, h2, _⟩ => by omega)⟩
          · rw [opsT1 ha] at hd1
            simp only [foldO] at hd1
            split at hd1
            · cases hd1
            · rename_i d2 hd2
              injection hd1 with hd1
              subst hd1
              obtain ⟨a, hta, hai, hda, rfl⟩ := opD_some hd2
              obtain ⟨T, hF, F3⟩ := ih _ d' (by omega) h
              have ga := hF.1 a hai (by rw [markD_self]; omega)
              rw [markD_self] at ga
              have hia : i ∉ (T a).places := fun hm => by have := ga.1.le i hm; rw [ga.2.1] at this; omega
              refine key (.one i t (T a)) T hF ⟨hget, hs, ha, by rw [ga.2.1]; exact hta, by rw [ga.2.1]; exact hai, ga.1⟩ rfl (by simp only [Exp.deep]; omega) (by rw [Exp.places, List.nodup_cons]; exact ⟨hia, ga.2.2.2⟩) (fun p => ?_) (fun j hj => ?_) (fun j hj => ?_) F3
              · rw [Exp.places, List.mem_cons]
                refine or_congr Iff.rfl ⟨fun hm => ⟨a, hai, hda, by rw [markD_self]; omega, hm⟩, fun ⟨j, hj, h1, h2, hm⟩ => ?_⟩
                by_cases hja : j = a
                · subst hja; exact hm
                · rw [markD_ne _ _ hja] at h2; omega
              · exact markD_ne _ _ (fun e => by subst e; omega)
              · by_cases hja : j = a
                · subst hja; right; rw [Exp.places]; exact List.mem_cons_of_mem _ (by have := (T j).at_mem; rw [ga.2.1] at this; exact this)
                · rw [markD_ne _ _ hja] at hj; exact .inl hj
          · rw [opsT2 ha] at hd1
            simp only [foldO] at hd1
            split at hd1
            · cases hd1
            · rename_i d2 hd2
              split at hd1
              · cases hd1
              · rename_i d3 hd3
                injection hd1 with hd1
                subst hd1
                obtain ⟨a, hta, hai, hda, rfl⟩ := opD_some hd2
                obtain ⟨b, htb, hbi, hdb, h3⟩ := opD_some hd3
                rw [markD_ne d _ (show i ≠ a by omega)] at h3
                subst h3
                have hba : b ≠ a := fun e => by subst e; rw [markD_self] at hdb; omega
                rw [markD_ne _ _ hba] at hdb
                obtain ⟨T, hF, F3⟩ := ih _ d' (by omega) h
                have va : markD (markD d a (d i + 1)) b (d i + 1) a = d i + 1 := by rw [markD_ne _ _ (fun e => hba e.symm), markD_self]
                have vb : markD (markD d a (d i + 1)) b (d i + 1) b = d i + 1 := markD_self _ _ _
                have vo : ∀ j, j ≠ a → j ≠ b → markD (markD d a (d i + 1)) b (d i + 1) j = d j := fun j h1 h2 => by rw [markD_ne _ _ h2, markD_ne _ _ h1]
                generalize markD (markD d a (d i + 1)) b (d i + 1) = d1 at *
                have ga := hF.1 a hai (by omega)
                have gb := hF.1 b hbi (by omega)
                rw [va] at ga
                rw [vb] at gb
                have hdis := hF.2 a b hai hbi (by omega) (by omega) (fun e => hba e.symm)
                have hia : i ∉ (T a).places := fun hm => by have := ga.1.le i hm; rw [ga.2.1] at this; omega
                have hib : i ∉ (T b).places := fun hm => by have := gb.1.le i hm; rw [gb.2.1] at this; omega
                refine key (.two i t (T a) (T b)) T hF ⟨hget, hs, ha, by rw [ga.2.1]; exact hta, by rw [gb.2.1]; exact htb, by rw [ga.2.1]; exact hai, by rw [gb.2.1]; exact hbi, ga.1, gb.1⟩ rfl (by simp only [Exp.deep]; omega) ?_ (fun p => ?_) (fun j hj => ?_) (fun j hj => ?_) F3
                · rw [Exp.places, List.nodup_cons, List.nodup_append, List.mem_append]
                  exact ⟨fun h => h.elim hia hib, ga.2.2.2, gb.2.2.2, fun x hx y hy e => by subst e; exact hdis x hx hy⟩
                · rw [Exp.places, List.mem_cons, List.mem_append]
                  refine or_congr Iff.rfl ⟨fun hm => hm.elim (fun hm => ⟨a, hai, hda, by omega, hm⟩) (fun hm => ⟨b, hbi, hdb, by omega, hm⟩), fun ⟨j, hj, h1, h2, hm⟩ => ?_⟩
                  by_cases hja : j = a
                  · subst hja; exact .inl hm
                  · by_cases hjb : j = b
                    · subst hjb; exact .inr hm
                    · rw [vo j hja hjb] at h2; omega
                · exact vo j (fun e => by subst e; omega) (fun e => by subst e; omega)
                · by_cases hja : j = a
                  · subst hja; right; rw [Exp.places]; exact List.mem_cons_of_mem _ (List.mem_append_left _ (by have := (T j).at_mem; rw [ga.2.1] at this; exact this))
                  · by_cases hjb : j = b
                    · subst hjb; right; rw [Exp.places]; exact List.mem_cons_of_mem _ (List.mem_append_right _ (by have := (T j).at_mem; rw [gb.2.1] at this; exact this))
                    · rw [vo j hja hjb] at hj; exact .inl hj
        · cases hd1

theorem tree_full (L : List Trm) : ∀ (i : Nat) (d : Nat → Nat) (T : Nat → Exp), i ≤ L.length → Fam L i d T → ∃ d', treeD L i d = some d' := by
  intro i
  induction i with
  | zero => intro d T _ _; exact ⟨d, rfl⟩
  | succ i ih =>
    intro d T hi hF
    obtain ⟨F1, F2⟩ := hF
    have hget := getD_some (L := L) (i := i) (by omega)
    rw [treeD]
    generalize L.getD i trm0 = t at hget
    unfold stepD
    by_cases h0 : d i = 0
    · rw [if_pos h0]
      exact ih d T (by omega) ⟨fun j hj => F1 j (by omega), fun j j' hj hj' => F2 j j' (by omega) (by omega)⟩
    · rw [if_neg h0]
      obtain ⟨hf, hat, hdp, hnd⟩ := F1 i (by omega) (by omega)
      have hpos := (T i).deep_pos
      have hte : t = (T i).term := by have := hf.here.1; rw [hat, hget] at this; injection this
      have hsd := hf.here.2
      rw [← hte] at hsd
      -- a place of the tree at i that has its own tree is i itself
      have hoff : ∀ p, p < i → p ∈ (T i).places → d p = 0 := fun p hp hm => by
        rcases Nat.eq_zero_or_pos (d p) with h | h
        · exact h
        · obtain ⟨_, pat, _, _⟩ := F1 p (by omega) h
          exact absurd (by have := (T p).at_mem; rw [pat] at this; exact this) (F2 i p (by omega) (by omega) (by omega) h (by omega) p hm)
      rw [if_pos ⟨hsd, by omega⟩]
      generalize hTi : T i = e at hf hat hdp hnd hte hoff hpos
      cases e with
      | leaf k u =>
        subst hte
        rw [opsT0 hf.2.2]
        exact ih d T (by omega) ⟨fun j hj => F1 j (by omega), fun j j' hj hj' => F2 j j' (by omega) (by omega)⟩
      | one k u a =>
        subst hte
        obtain ⟨_, _, ha, hl, hlt, fa⟩ := hf
        simp only [Exp.at_] at hat
        subst hat
        simp only [Exp.deep, Exp.places, List.nodup_cons] at *
        have hda := hoff a.at_ hlt (List.mem_cons_of_mem _ a.at_mem)
        rw [opsT1 ha, hl]
        simp only [foldO]
        rw [opD_yes hlt hda]
        refine ih _ (setE T a.at_ a) (by omega) ⟨fun j hj hp => ?_, fun j j' hj hj' hp hp' hne p hm hm' => ?_⟩
        · by_cases hja : j = a.at_
          · rw [hja, setE_self, markD_self]; exact ⟨fa, rfl, by omega, hnd.2⟩
          · rw [markD_ne _ _ hja] at hp ⊢
            rw [setE_ne _ _ hja]; exact F1 j (by omega) hp
        · by_cases hja : j = a.at_
          · rw [hja, setE_self] at hm
            have hja' : j' ≠ a.at_ := fun e => hne (by rw [hja, e])
            rw [setE_ne _ _ hja'] at hm'
            rw [markD_ne _ _ hja'] at hp'
            exact F2 k j' (by omega) (by omega) (by omega) hp' (by omega) p (by rw [hTi, Exp.places]; exact List.mem_cons_of_mem _ hm) hm'
          · rw [setE_ne _ _ hja] at hm
            rw [markD_ne _ _ hja] at hp
            by_cases hja' : j' = a.at_
            · rw [hja', setE_self] at hm'
              exact F2 j k (by omega) (by omega) hp (by omega) (by omega) p hm (by rw [hTi, Exp.places]; exact List.mem_cons_of_mem _ hm')
            · rw [setE_ne _ _ hja'] at hm'
              rw [markD_ne _ _ hja'] at hp'
              exact F2 j j' (by omega) (by omega) hp hp' hne p hm hm'
      | two k u a b =>
        subst hte
        obtain ⟨_, _, ha, hl, hr, hlt, hrt, fa, fb⟩ := hf
        simp only [Exp.at_] at hat
        subst hat
        simp only [Exp.deep, Exp.places, List.nodup_cons, List.nodup_append, List.mem_append, not_or] at *
        obtain ⟨_, hna, hnb, hab⟩ := hnd
        have hda := hoff a.at_ hlt (List.mem_cons.2 (.inr (List.mem_append_left _ a.at_mem)))
        have hdb := hoff b.at_ hrt (List.mem_cons.2 (.inr (List.mem_append_right _ b.at_mem)))
        have hba : b.at_ ≠ a.at_ := fun e => hab _ a.at_mem _ b.at_mem e.symm
        rw [opsT2 ha, hl, hr]
        simp only [foldO]
        rw [opD_yes hlt hda]
        dsimp only
        rw [opD_yes hrt (by rw [markD_ne _ _ hba]; exact hdb), markD_ne d _ (show k ≠ a.at_ by omega)]
        have va : markD (markD d a.at_ (d k + 1)) b.at_ (d k + 1) a.at_ = d k + 1 := by rw [markD_ne _ _ (fun e => hba e.symm), markD_self]
        have vb : markD (markD d a.at_ (d k + 1)) b.at_ (d k + 1) b.at_ = d k + 1 := markD_self _ _ _
        have vo : ∀ j, j ≠ a.at_ → j ≠ b.at_ → markD (markD d a.at_ (d k + 1)) b.at_ (d k + 1) j = d j := fun j h1 h2 => by rw [markD_ne _ _ h2, markD_ne _ _ h1]
        generalize markD (markD d a.at_ (d k + 1)) b.at_ (d k + 1) = d1 at *
        have ha_in : ∀ p ∈ a.places, p ∈ (T k).places := fun p hp => by rw [hTi, Exp.places]; exact List.mem_cons_of_mem _ (List.mem_append_left _ hp)
        have hb_in : ∀ p ∈ b.places, p ∈ (T k).places := fun p hp => by rw [hTi, Exp.places]; exact List.mem_cons_of_mem _ (List.mem_append_right _ hp)
        have ta : setE (setE T a.at_ a) b.at_ b a.at_ = a := by rw [setE_ne _ _ (fun e => hba e.symm), setE_self]
        have tb : setE (setE T a.at_ a) b.at_ b b.at_ = b := setE_self _ _ _
        have to : ∀ j, j ≠ a.at_ → j ≠ b.at_ → setE (setE T a.at_ a) b.at_ b j = T j := fun j h1 h2 => by rw [setE_ne _ _ h2, setE_ne _ _ h1]
        generalize setE (setE T a.at_ a) b.at_ b = T1 at *
        refine ih _ T1 (by omega) ⟨fun j hj hp => ?_, fun j j' hj hj' hp hp' hne p hm hm' => ?_⟩
        · by_cases hja : j = a.at_
          · rw [hja, ta, va]; exact ⟨fa, rfl, by omega, hna⟩
          · by_cases hjb : j = b.at_
            · rw [hjb, tb, vb]; exact ⟨fb, rfl, by omega, hnb⟩
            · rw [vo j hja hjb] at hp ⊢
              rw [to j hja hjb]; exact F1 j (by omega) hp
        · -- the place belongs to the tree at k, or to an elder one
          have own : ∀ j, j < k → 0 < d1 j → p ∈ (T1 j).places → (j = a.at_ ∧ p ∈ a.places) ∨ (j = b.at_ ∧ p ∈ b.places) ∨ (j ≠ a.at_ ∧ j ≠ b.at_ ∧ 0 < d j ∧ p ∈ (T j).places) := fun j _ hp hm => by
            by_cases hja : j = a.at_
            · rw [hja, ta] at hm; exact .inl ⟨hja, hm⟩
            · by_cases hjb : j = b.at_
              · rw [hjb, tb] at hm; exact .inr (.inl ⟨hjb, hm⟩)
              · rw [to j hja hjb] at hm; rw [vo j hja hjb] at hp; exact .inr (.inr ⟨hja, hjb, hp, hm⟩)
          rcases own j hj hp hm with ⟨e1, m1⟩ | ⟨e1, m1⟩ | ⟨n1, n2, q1, m1⟩ <;> rcases own j' hj' hp' hm' with ⟨e2, m2⟩ | ⟨e2, m2⟩ | ⟨n3, n4, q2, m2⟩
          · exact hne (e1.trans e2.symm)
          · exact hab p m1 p m2 rfl
          · exact F2 k j' (by omega) (by omega) (by omega) q2 (by omega) p (ha_in p m1) m2
          · exact hab p m2 p m1 rfl
          · exact hne (e1.trans e2.symm)
          · exact F2 k j' (by omega) (by omega) (by omega) q2 (by omega) p (hb_in p m1) m2
          · exact F2 k j (by omega) (by omega) (by omega) q1 (by omega) p (ha_in p m2) m1
          · exact F2 k j (by omega) (by omega) (by omega) q1 (by omega) p (hb_in p m2) m1
          · exact F2 j j' (by omega) (by omega) q1 q2 hne p m1 m2

/-- The walk from the root: it goes through where there is a tree, and marks its places. -/
theorem tree_root {L : List Trm} {r : Nat} (hr : r < L.length) (hl : L.length ≤ 160) :
    (∀ e, Good L (r : Int) e → ∃ d', treeD L (r + 1) (markD (fun _ => 0) r 1) = some d') ∧
    (∀ d', treeD L (r + 1) (markD (fun _ => 0) r 1) = some d' → ∃ e, Good L (r : Int) e ∧ ∀ p, 0 < d' p ↔ p ∈ e.places) := by
  have hz : ∀ j, 0 < markD (fun _ => 0) r 1 j ↔ j = r := fun j => by
    by_cases h : j = r
    · subst h; simp [markD_self]
    · rw [markD_ne _ _ h]; simp [h]
  constructor
  · intro e he
    refine tree_full L (r + 1) _ (fun _ => e) (by omega) ⟨fun j hj hp => ?_, fun j j' hj hj' hp hp' hne => ?_⟩
    · obtain rfl := (hz j).1 hp
      rw [markD_self]
      exact ⟨he.2.2.1, by have := he.2.1; dsimp only; omega, by have := he.2.2.2.2; dsimp only; omega, he.2.2.2.1⟩
    · exact absurd (((hz j).1 hp).trans ((hz j').1 hp').symm) hne
  · intro d' h
    obtain ⟨T, ⟨F1, _⟩, F3⟩ := tree_sound L (r + 1) _ d' (by omega) h
    obtain ⟨hf, hat, hd, hn⟩ := F1 r (by omega) ((hz r).2 rfl)
    rw [markD_self] at hd
    refine ⟨T r, ⟨hl, by omega, hf, hn, by omega⟩, fun p => (F3 p).trans ⟨?_, fun hm => .inr ⟨r, by omega, (hz r).2 rfl, hm⟩⟩⟩
    rintro (h | ⟨j, _, hp, hm⟩)
    · obtain rfl := (hz p).1 h
      have := (T p).at_mem
      rw [hat] at this
      exact this
    · obtain rfl := (hz j).1 hp
      exact hm
end Go.Proofs.Ythbakfceaaaamaa
