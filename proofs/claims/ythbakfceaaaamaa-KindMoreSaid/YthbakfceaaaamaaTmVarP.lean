/- Plain: the variables of a tree. -/
import Derived.Test.YthbakfceaaaamaaTmName
import Derived.Test.YthbakfceaaaamaaNmPutPlain
namespace Go.Proofs.Ythbakfceaaaamaa
open Go.RowKit

def Exp.kids : Exp → List Exp
  | .leaf _ _ => []
  | .one _ _ a => [a]
  | .two _ _ a b => [a, b]
/-- What gathering them leaves. -/
def gatherE : Exp → List Str → List Str
  | .leaf _ t, s => if t.kind = 0 then putS s t.name else s
  | .one _ _ a, s => gatherE a s
  | .two _ _ a b, s => gatherE b (gatherE a s)
/-- One kid after another. -/
def gatherL : List Exp → List Str → List Str
  | [], s => s
  | k :: ks, s => gatherL ks (gatherE k s)
def weightL : List Exp → Nat
  | [] => 0
  | k :: ks => k.places.length + weightL ks
theorem gather_kids {e : Exp} (h : e.kids ≠ []) (s : List Str) : gatherE e s = gatherL e.kids s := by
  cases e with
  | leaf i t => exact absurd rfl h
  | one i t a => rfl
  | two i t a b => rfl
theorem gather_rest {e : Exp} (h : e.term.kind ≠ 0) (s : List Str) : gatherE e s = gatherL e.kids s := by
  cases e with
  | leaf i t => simp only [Exp.term] at h; simp only [gatherE, Exp.kids, gatherL]; rw [if_neg h]
  | one i t a => rfl
  | two i t a b => rfl
theorem weight_kids (e : Exp) : weightL e.kids + 1 = e.places.length := by
  cases e with
  | leaf i t => rfl
  | one i t a => simp [Exp.kids, weightL, Exp.places]
  | two i t a b => simp [Exp.kids, weightL, Exp.places]
theorem Fits.ops {L : List Trm} {e : Exp} (h : Fits L e) : opsT e.term = e.kids.map (fun k => (k.at_ : Int)) := by
  cases e with
  | leaf i t => exact opsT0 h.2.2
  | one i t a => simp only [Exp.term]; rw [opsT1 h.2.2.1, h.2.2.2.1]; rfl
  | two i t a b => simp only [Exp.term]; rw [opsT2 h.2.2.1, h.2.2.2.1, h.2.2.2.2.1]; rfl
theorem Fits.kids {L : List Trm} {e : Exp} (h : Fits L e) : ∀ k ∈ e.kids, Fits L k := by
  cases e with
  | leaf i t => intro k hk; cases hk
  | one i t a => intro k hk; rw [List.mem_singleton.1 hk]; exact h.2.2.2.2.2
  | two i t a b =>
    intro k hk
    rcases List.mem_cons.1 hk with rfl | hk
    · exact h.2.2.2.2.2.2.2.1
    · rw [List.mem_singleton.1 hk]; exact h.2.2.2.2.2.2.2.2
/-- Of a tree whatever holds of it where it holds of its kids. -/
theorem Exp.byKids {P : Exp → Prop} (h : ∀ e : Exp, (∀ k ∈ e.kids, P k) → P e) : ∀ e : Exp, P e := by
  intro e
  induction e with
  | leaf i t => exact h _ (fun k hk => by cases hk)
  | one i t a ih => exact h _ (fun k hk => by rw [List.mem_singleton.1 hk]; exact ih)
  | two i t a b iha ihb =>
    refine h _ (fun k hk => ?_)
    rcases List.mem_cons.1 hk with rfl | hk
    · exact iha
    · rw [List.mem_singleton.1 hk]; exact ihb
theorem mem_gather (x : Str) : ∀ (e : Exp) (s : List Str), x ∈ gatherE e s ↔ x ∈ s ∨ x ∈ e.names := by
  intro e
  induction e with
  | leaf i t =>
    intro s
    simp only [gatherE, Exp.names]
    split
    · rw [mem_putS, List.mem_singleton]
    · simp
  | one i t a ih => exact ih
  | two i t a b iha ihb => intro s; simp only [gatherE, Exp.names]; rw [ihb, iha, List.mem_append, or_assoc]
theorem gather_rises : ∀ (e : Exp) (s : List Str), Rises s → Rises (gatherE e s) := by
  intro e
  induction e with
  | leaf i t =>
    intro s hs
    simp only [gatherE]
    split
    · exact putS_rises _ _
    · exact hs
  | one i t a ih => exact ih
  | two i t a b iha ihb => intro s hs; exact ihb _ (iha _ hs)
theorem gather_len : ∀ (e : Exp) (s : List Str), (gatherE e s).length ≤ s.length + e.places.length := by
  intro e
  induction e with
  | leaf i t =>
    intro s
    simp only [gatherE, Exp.places]
    split
    · exact putS_len _ _
    · simp
  | one i t a ih => intro s; have := ih s; simp only [gatherE, Exp.places, List.length_cons]; omega
  | two i t a b iha ihb => intro s; have := iha s; have := ihb (gatherE a s); simp only [gatherE, Exp.places, List.length_cons, List.length_append]; omega
/-- The names of the variables of a root's tree. -/
noncomputable def varsF (L : List Trm) (root : Int) : List Str :=
  open Classical in if h : ∃ e, Good L root e then gatherE h.choose [] else []
theorem varsF_good {L : List Trm} {root : Int} {e : Exp} (h : Good L root e) : varsF L root = gatherE e [] := by
  unfold varsF
  rw [dif_pos ⟨e, h⟩]
  exact congrArg (fun e => gatherE e []) ((Classical.choose_spec (⟨e, h⟩ : ∃ e, Good L root e)).same h)
theorem varsF_none {L : List Trm} {root : Int} (h : mayF L root = false) : varsF L root = [] := by
  unfold varsF
  rw [dif_neg (mayF_no h)]
theorem mem_vars {L : List Trm} {root : Int} {e : Exp} (h : Good L root e) (x : Str) : x ∈ varsF L root ↔ x ∈ e.names := by
  rw [varsF_good h, mem_gather]
  simp
theorem vars_rises (L : List Trm) (root : Int) : Rises (varsF L root) := by
  cases hm : mayF L root
  · rw [varsF_none hm]; exact List.Pairwise.nil
  · obtain ⟨e, he⟩ := (mayF_iff L root).1 hm
    rw [varsF_good he]
    exact gather_rises e _ List.Pairwise.nil
/-- A tree has no more places than the list. -/
theorem Good.few {L : List Trm} {root : Int} {e : Exp} (h : Good L root e) : e.places.length ≤ 160 := by
  obtain ⟨h1, _, hf, hn, _⟩ := h
  have hsub : ∀ p ∈ e.places, p ∈ List.range L.length := fun p hp => List.mem_range.2 (by have := hf.le p hp; have := hf.lt; omega)
  have := len_sub e.places (List.range L.length) hn hsub
  rw [List.length_range] at this
  omega
end Go.Proofs.Ythbakfceaaaamaa
