/- Plain: what becomes of a tree where the list grows, where its variables are put, where a part of it is replaced; binds that do not matter. -/
import Derived.Test.YthchilnibblbgaaTmName
namespace Go.Proofs.Ythchilnibblbgaa
open Go.RowKit

/-! ### The list grows -/
theorem Fits.append {L : List Trm} (M : List Trm) : ∀ {e : Exp}, Fits L e → Fits (L ++ M) e := by
  have hm : ∀ {i : Nat} {t : Trm}, L[i]? = some t → (L ++ M)[i]? = some t := fun {i t} h => by
    obtain ⟨h1, _⟩ := List.getElem?_eq_some_iff.1 h
    rw [List.getElem?_append_left h1]; exact h
  intro e
  induction e with
  | leaf i t => intro h; exact ⟨hm h.1, h.2⟩
  | one i t a ih => intro h; exact ⟨hm h.1, h.2.1, h.2.2.1, h.2.2.2.1, h.2.2.2.2.1, ih h.2.2.2.2.2⟩
  | two i t a b iha ihb =>
    intro h
    obtain ⟨h1, h2, h3, h4, h5, h6, h7, fa, fb⟩ := h
    exact ⟨hm h1, h2, h3, h4, h5, h6, h7, iha fa, ihb fb⟩
theorem Good.append {L : List Trm} {root : Int} {e : Exp} (h : Good L root e) {M : List Trm} (hl : (L ++ M).length ≤ 160) : Good (L ++ M) root e :=
  ⟨hl, h.2.1, h.2.2.1.append M, h.2.2.2⟩
theorem mayF_of {L : List Trm} {root : Int} {e : Exp} (h : Good L root e) : mayF L root = true := (mayF_iff L root).2 ⟨e, h⟩
theorem mayF_not {L : List Trm} {root : Int} (h : ¬ ∃ e, Good L root e) : mayF L root = false := by
  cases hm : mayF L root
  · rfl
  · exact absurd ((mayF_iff L root).1 hm) h
/-- A tree that uses its root twice is none. -/
theorem twice_no (L : List Trm) (r : Nat) (k : Int) (hk : arT k = 2) : mayF (L ++ [⟨k, [], 0, [], (r : Int), (r : Int)⟩]) (L.length : Int) = false := by
  refine mayF_not ?_
  rintro ⟨e, _, hat, hf, hn, _⟩
  have hat' : e.at_ = L.length := by omega
  have hh := hf.here.1
  rw [hat', List.getElem?_append_right (Nat.le_refl _), Nat.sub_self] at hh
  have ht : e.term = ⟨k, [], 0, [], (r : Int), (r : Int)⟩ := (Option.some.inj hh).symm
  cases e with
  | leaf i t => have h3 := hf.2.2; simp only [Exp.term] at ht; rw [ht] at h3; dsimp only at h3; omega
  | one i t a => have h3 := hf.2.2.1; simp only [Exp.term] at ht; rw [ht] at h3; dsimp only at h3; omega
  | two i t a b =>
    simp only [Exp.term] at ht
    obtain ⟨_, _, _, hl, hr, _, _, _, _⟩ := hf
    rw [ht] at hl hr
    dsimp only at hl hr
    have hab : a.at_ = b.at_ := by omega
    simp only [Exp.places, List.nodup_cons, List.nodup_append] at hn
    exact hn.2.2.2 a.at_ a.at_mem b.at_ b.at_mem hab
theorem Good.deepL {L : List Trm} {root : Int} {e : Exp} (h : Good L root e) : e.deep ≤ L.length := by
  obtain ⟨_, _, hf, hn, _⟩ := h
  have hsub : ∀ p ∈ e.places, p ∈ List.range L.length := fun p hp => List.mem_range.2 (by have := hf.le p hp; have := hf.lt; omega)
  have := len_sub e.places (List.range L.length) hn hsub
  rw [List.length_range] at this
  have := e.deep_le
  omega
/-- A tree under a new root of one operand. -/
theorem once_yes {L : List Trm} {r : Nat} {e : Exp} (h : Good L (r : Int) e) (hl : L.length < 24) : mayF (L ++ [⟨16, [], 0, [], (r : Int), -1⟩]) (L.length : Int) = true := by
  have hd := h.deepL
  have hat := h.2.1
  have hlt := h.2.2.1.lt
  refine mayF_of (e := .one L.length ⟨16, [], 0, [], (r : Int), -1⟩ e) ⟨by simp; omega, rfl, ⟨by rw [List.getElem?_append_right (Nat.le_refl _), Nat.sub_self]; rfl, rfl, rfl, by simp only []; omega, hlt, h.2.2.1.append _⟩, ?_, by simp only [Exp.deep]; omega⟩
  simp only [Exp.places, List.nodup_cons]
  exact ⟨fun hm => by have := h.2.2.1.le _ hm; omega, h.2.2.2.1⟩

/-! ### Variables are put -/
def putT (nm : Str) (n : Int) (t : Trm) : Trm := if t.kind = 0 ∧ t.name = nm then ⟨1, [], n, [], -1, -1⟩ else t
def putE (nm : Str) (n : Int) : Exp → Exp
  | .leaf i t => .leaf i (putT nm n t)
  | .one i t a => .one i t (putE nm n a)
  | .two i t a b => .two i t (putE nm n a) (putE nm n b)
theorem putE_at (nm : Str) (n : Int) (e : Exp) : (putE nm n e).at_ = e.at_ := by cases e <;> rfl
theorem putE_places (nm : Str) (n : Int) : ∀ e : Exp, (putE nm n e).places = e.places := by
  intro e
  induction e with
  | leaf i t => rfl
  | one i t a ih => simp only [putE, Exp.places, ih]
  | two i t a b iha ihb => simp only [putE, Exp.places, iha, ihb]
theorem putE_deep (nm : Str) (n : Int) : ∀ e : Exp, (putE nm n e).deep = e.deep := by
  intro e
  induction e with
  | leaf i t => rfl
  | one i t a ih => simp only [putE, Exp.deep, ih]
  | two i t a b iha ihb => simp only [putE, Exp.deep, iha, ihb]
theorem putT_same {nm : Str} {n : Int} {t : Trm} (h : arT t.kind ≠ 0) : putT nm n t = t := by
  unfold putT
  rw [if_neg]
  rintro ⟨h1, _⟩
  rw [h1] at h
  exact h rfl
theorem putT_sound (nm : Str) (n : Int) {t : Trm} (h : soundT t = true) (ha : arT t.kind = 0) : soundT (putT nm n t) = true ∧ arT (putT nm n t).kind = 0 := by
  unfold putT
  split
  · exact ⟨by simp [soundT, arT], rfl⟩
  · exact ⟨h, ha⟩
theorem putE_fits (nm : Str) (n : Int) {L : List Trm} : ∀ {e : Exp}, Fits L e → Fits (L.map (putT nm n)) (putE nm n e) := by
  have hm : ∀ {i : Nat} {t : Trm}, L[i]? = some t → (L.map (putT nm n))[i]? = some (putT nm n t) := fun {i t} h => by rw [List.getElem?_map, h]; rfl
  intro e
  induction e with
  | leaf i t => intro h; exact ⟨hm h.1, (putT_sound nm n h.2.1 h.2.2).1, (putT_sound nm n h.2.1 h.2.2).2⟩
  | one i t a ih =>
    intro h
    have h1 := hm h.1
    rw [putT_same (by rw [h.2.2.1]; decide)] at h1
    exact ⟨h1, h.2.1, h.2.2.1, by rw [putE_at]; exact h.2.2.2.1, by rw [putE_at]; exact h.2.2.2.2.1, ih h.2.2.2.2.2⟩
  | two i t a b iha ihb =>
    intro h
    obtain ⟨h1, h2, h3, h4, h5, h6, h7, fa, fb⟩ := h
    have h1 := hm h1
    rw [putT_same (by rw [h3]; decide)] at h1
    exact ⟨h1, h2, h3, by rw [putE_at]; exact h4, by rw [putE_at]; exact h5, by rw [putE_at]; exact h6, by rw [putE_at]; exact h7, iha fa, ihb fb⟩
theorem putE_good (nm : Str) (n : Int) {L : List Trm} {root : Int} {e : Exp} (h : Good L root e) : Good (L.map (putT nm n)) root (putE nm n e) :=
  ⟨by rw [List.length_map]; exact h.1, by rw [putE_at]; exact h.2.1, putE_fits nm n h.2.2.1, by rw [putE_places]; exact h.2.2.2.1, by rw [putE_deep]; exact h.2.2.2.2⟩
theorem putE_eval (nm : Str) (n : Int) (env : List (Str × Val)) : ∀ e : Exp, evalE env (putE nm n e) = evalE ((nm, intV n) :: env) e := by
  intro e
  induction e with
  | leaf i t =>
    simp only [putE, evalE]
    unfold putT
    by_cases h : t.kind = 0 ∧ t.name = nm
    · rw [if_pos h]
      unfold leafV
      rw [if_pos h.1, h.2]
      simp [holdV, mayV_int]
    · rw [if_neg h]
      unfold leafV
      by_cases hk : t.kind = 0
      · rw [if_pos hk, if_pos hk]
        have hne : ¬ nm = t.name := fun e => h ⟨hk, e.symm⟩
        simp [holdV, hne]
      · rw [if_neg hk, if_neg hk]
  | one i t a ih => simp only [putE, evalE, ih]
  | two i t a b iha ihb => simp only [putE, evalE, iha, ihb]
theorem putE_names (nm : Str) (n : Int) : ∀ e : Exp, nm ∉ (putE nm n e).names := by
  intro e
  induction e with
  | leaf i t =>
    simp only [putE, Exp.names]
    unfold putT
    by_cases h : t.kind = 0 ∧ t.name = nm
    · rw [if_pos h]; simp
    · rw [if_neg h]
      by_cases hk : t.kind = 0
      · rw [if_pos hk, List.mem_singleton]; exact fun e => h ⟨hk, e.symm⟩
      · rw [if_neg hk]; simp
  | one i t a ih => exact ih
  | two i t a b iha ihb => simp only [putE, Exp.names, List.mem_append]; exact fun h => h.elim iha ihb

/-! ### A part is replaced by a term that means the same -/
def insE (k : Nat) (x : Trm) : Exp → Exp
  | .leaf i t => if i = k then .leaf k x else .leaf i t
  | .one i t a => if i = k then .leaf k x else .one i t (insE k x a)
  | .two i t a b => if i = k then .leaf k x else .two i t (insE k x a) (insE k x b)
theorem insE_at (k : Nat) (x : Trm) (e : Exp) : (insE k x e).at_ = e.at_ := by
  cases e <;> (simp only [insE]; split <;> simp_all [Exp.at_])
theorem insE_sub (k : Nat) (x : Trm) : ∀ e : Exp, (insE k x e).places.Sublist e.places := by
  intro e
  induction e with
  | leaf i t => simp only [insE]; split <;> simp_all [Exp.places]
  | one i t a ih =>
    simp only [insE]
    split
    · rename_i h; subst h; simp only [Exp.places]; exact List.Sublist.cons_cons _ (List.nil_sublist _)
    · simp only [Exp.places]; exact List.Sublist.cons_cons _ ih
  | two i t a b iha ihb =>
    simp only [insE]
    split
    · rename_i h; subst h; simp only [Exp.places]; exact List.Sublist.cons_cons _ (List.nil_sublist _)
    · simp only [Exp.places]; exact List.Sublist.cons_cons _ (iha.append ihb)
theorem insE_deep (k : Nat) (x : Trm) : ∀ e : Exp, (insE k x e).deep ≤ e.deep := by
  intro e
  induction e with
  | leaf i t => simp only [insE]; split <;> simp [Exp.deep]
  | one i t a ih => simp only [insE]; split <;> simp only [Exp.deep] <;> omega
  | two i t a b iha ihb => simp only [insE]; split <;> simp only [Exp.deep] <;> omega
theorem insE_fits (k : Nat) (x : Trm) {L : List Trm} (hk : k < L.length) (hs : soundT x = true) (ha : arT x.kind = 0) : ∀ {e : Exp}, Fits L e → Fits (L.set k x) (insE k x e) := by
  have h0 : (L.set k x)[k]? = some x := by rw [List.getElem?_set_self hk]
  have hm : ∀ {i : Nat} {t : Trm}, i ≠ k → L[i]? = some t → (L.set k x)[i]? = some t := fun {i t} hne h => by rw [List.getElem?_set_ne (fun e => hne e.symm)]; exact h
  intro e
  induction e with
  | leaf i t =>
    intro h
    simp only [insE]
    split
    · exact ⟨h0, hs, ha⟩
    · rename_i hne; exact ⟨hm hne h.1, h.2⟩
  | one i t a ih =>
    intro h
    simp only [insE]
    split
    · exact ⟨h0, hs, ha⟩
    · rename_i hne; exact ⟨hm hne h.1, h.2.1, h.2.2.1, by rw [insE_at]; exact h.2.2.2.1, by rw [insE_at]; exact h.2.2.2.2.1, ih h.2.2.2.2.2⟩
  | two i t a b iha ihb =>
    intro h
    obtain ⟨h1, h2, h3, h4, h5, h6, h7, fa, fb⟩ := h
    simp only [insE]
    split
    · exact ⟨h0, hs, ha⟩
    · rename_i hne; exact ⟨hm hne h1, h2, h3, by rw [insE_at]; exact h4, by rw [insE_at]; exact h5, by rw [insE_at]; exact h6, by rw [insE_at]; exact h7, iha fa, ihb fb⟩
theorem insE_good {L : List Trm} {root : Int} {e : Exp} (h : Good L root e) {k : Nat} {x : Trm} (hk : k < L.length) (hs : soundT x = true) (ha : arT x.kind = 0) : Good (L.set k x) root (insE k x e) :=
  ⟨by rw [List.length_set]; exact h.1, by rw [insE_at]; exact h.2.1, insE_fits k x hk hs ha h.2.2.1, h.2.2.2.1.sublist (insE_sub k x e), Nat.le_trans (insE_deep k x e) h.2.2.2.2⟩
theorem insE_eval {L : List Trm} {env : List (Str × Val)} {a : Exp} (fa : Fits L a) {x : Trm} (hx : leafV env x = evalE env a) : ∀ {e : Exp}, Fits L e → evalE env (insE a.at_ x e) = evalE env e := by
  intro e
  induction e with
  | leaf i t =>
    intro h
    simp only [insE]
    split
    · rename_i hi; rw [h.same fa hi]; exact hx
    · rfl
  | one i t b ih =>
    intro h
    simp only [insE]
    split
    · rename_i hi; rw [h.same fa hi]; exact hx
    · simp only [evalE, ih h.2.2.2.2.2]
  | two i t b c ihb ihc =>
    intro h
    simp only [insE]
    split
    · rename_i hi; rw [h.same fa hi]; exact hx
    · obtain ⟨_, _, _, _, _, _, _, fb, fc⟩ := h
      simp only [evalE, ihb fb, ihc fc]
/-- The tree below a place of a tree. -/
theorem part_of {L : List Trm} {k : Nat} : ∀ {e : Exp}, Fits L e → k ∈ e.places → ∃ a, Fits L a ∧ a.at_ = k ∧ a.places.Sublist e.places ∧ a.deep ≤ e.deep := by
  intro e
  induction e with
  | leaf i t => intro h hk; exact ⟨.leaf i t, h, by simp [Exp.places] at hk; exact hk.symm, List.Sublist.refl _, Nat.le_refl _⟩
  | one i t a ih =>
    intro h hk
    rcases List.mem_cons.1 hk with rfl | hk
    · exact ⟨_, h, rfl, List.Sublist.refl _, Nat.le_refl _⟩
    · obtain ⟨c, fc, cat, cs, cd⟩ := ih h.2.2.2.2.2 hk
      exact ⟨c, fc, cat, cs.trans (List.sublist_cons_self _ _), by simp only [Exp.deep]; omega⟩
  | two i t a b iha ihb =>
    intro h hk
    have hw := h
    obtain ⟨_, _, _, _, _, _, _, fa, fb⟩ := h
    rcases List.mem_cons.1 hk with rfl | hk
    · exact ⟨_, hw, rfl, List.Sublist.refl _, Nat.le_refl _⟩
    · rcases List.mem_append.1 hk with hk | hk
      · obtain ⟨c, fc, cat, cs, cd⟩ := iha fa hk
        exact ⟨c, fc, cat, (cs.trans (List.sublist_append_left _ _)).trans (List.sublist_cons_self _ _), by simp only [Exp.deep]; omega⟩
      · obtain ⟨c, fc, cat, cs, cd⟩ := ihb fb hk
        exact ⟨c, fc, cat, (cs.trans (List.sublist_append_right _ _)).trans (List.sublist_cons_self _ _), by simp only [Exp.deep]; omega⟩
theorem Good.part {L : List Trm} {root : Int} {e : Exp} (h : Good L root e) {k : Nat} (hk : k ∈ e.places) : ∃ a, Good L (k : Int) a := by
  obtain ⟨a, fa, hat, hs, hd⟩ := part_of h.2.2.1 hk
  exact ⟨a, h.1, by omega, fa, h.2.2.2.1.sublist hs, Nat.le_trans hd h.2.2.2.2⟩
/-- Where a part has no value, the whole has none. -/
theorem part_fails {L : List Trm} {env : List (Str × Val)} {a : Exp} (fa : Fits L a) (hx : (evalE env a).2 ≠ 0) : ∀ {e : Exp}, Fits L e → a.at_ ∈ e.places → (evalE env e).2 ≠ 0 := by
  intro e
  induction e with
  | leaf i t => intro h hk; rw [h.same fa (by simp [Exp.places] at hk; exact hk.symm)]; exact hx
  | one i t b ih =>
    intro h hk
    rcases List.mem_cons.1 hk with hi | hk
    · rw [h.same fa hi.symm]; exact hx
    · have := ih h.2.2.2.2.2 hk
      simp only [evalE]
      rw [if_neg this]
      exact this
  | two i t b c ihb ihc =>
    intro h hk
    rcases List.mem_cons.1 hk with hi | hk
    · rw [h.same fa hi.symm]; exact hx
    · obtain ⟨_, _, _, _, _, _, _, fb, fc⟩ := h
      simp only [evalE]
      by_cases hb : (evalE env b).2 = 0
      · rw [if_pos hb]
        rcases List.mem_append.1 hk with hk | hk
        · exact absurd hb (ihb fb hk)
        · have := ihc fc hk
          rw [if_neg this]
          exact this
      · rw [if_neg hb]
        exact hb

/-! ### Binds that do not matter -/
theorem evalE_same {env env' : List (Str × Val)} : ∀ {e : Exp}, (∀ x ∈ e.names, holdV env x = holdV env' x) → evalE env e = evalE env' e := by
  intro e
  induction e with
  | leaf i t =>
    intro h
    simp only [evalE]
    unfold leafV
    by_cases hk : t.kind = 0
    · rw [if_pos hk, if_pos hk]
      exact h _ (by simp [Exp.names, hk])
    · rw [if_neg hk, if_neg hk]
  | one i t a ih => intro h; simp only [evalE, ih h]
  | two i t a b iha ihb =>
    intro h
    simp only [evalE, iha (fun x hx => h x (by simp [Exp.names, hx])), ihb (fun x hx => h x (by simp [Exp.names, hx]))]
theorem holdV_skip {x : Str} : ∀ {more : List (Str × Val)} (env : List (Str × Val)), (∀ b ∈ more, b.1 ≠ x) → holdV (more ++ env) x = holdV env x
  | [], _, _ => rfl
  | (s, v) :: r, env, h => by
    rw [List.cons_append, holdV, if_neg (h (s, v) (by simp))]
    exact holdV_skip env (fun b hb => h b (by simp [hb]))
theorem holdV_behind {x : Str} {f : Str × Val → Val} : ∀ (env : List (Str × Val)) (old : List (Str × Val)), (∀ b ∈ env, b ∈ old) → holdV (env ++ old.map (fun b => (b.1, f b))) x = holdV env x ∨ ∀ b ∈ env, b.1 ≠ x
  | [], _, _ => .inr (by simp)
  | (s, v) :: r, old, h => by
    by_cases hs : s = x
    · left; rw [List.cons_append, holdV, holdV, if_pos hs, if_pos hs]
    · rcases holdV_behind r old (fun b hb => h b (by simp [hb])) with h1 | h1
      · left; rw [List.cons_append, holdV, holdV, if_neg hs, if_neg hs, h1]
      · right
        intro b hb
        rcases List.mem_cons.1 hb with rfl | hb
        · exact hs
        · exact h1 b hb
/-- Binds of other names ahead, and binds of its own names behind. -/
theorem holdV_more {x : Str} {f : Str × Val → Val} {more env : List (Str × Val)} (h : ∀ b ∈ more, b.1 ≠ x) : holdV (more ++ env ++ env.map (fun b => (b.1, f b))) x = holdV env x := by
  rw [List.append_assoc, holdV_skip _ h]
  rcases holdV_behind (x := x) (f := f) env env (fun b hb => hb) with h1 | h1
  · exact h1
  · have h2 : ∀ b ∈ env.map (fun b => (b.1, f b)), b.1 ≠ x := fun b hb => by
      obtain ⟨c, hc, rfl⟩ := List.mem_map.1 hb
      exact h1 c hc
    have e1 := holdV_skip (x := x) (more := env) (env.map (fun b => (b.1, f b))) h1
    have e2 := holdV_skip (x := x) (more := env) [] h1
    have e3 := holdV_skip (x := x) (more := env.map (fun b => (b.1, f b))) [] h2
    rw [List.append_nil] at e2 e3
    rw [e1, e2, e3]
theorem sameV_self (v : Val) : sameV v v = true := by
  exact sameV_iff.2 rfl
end Go.Proofs.Ythchilnibblbgaa
