/- A region whose last operation waits for all others: what is held need hold only up to it. No program stands in this text. -/
import Derived.Deep.RegionHeld3
import Derived.StillTail
namespace Go.Proofs.Ytgefhgcpnfbigaa
open Go

section
variable {P : Program} {Q : Exit → Act → World → Prop} {S : World → Prop} {ops : Array Oper} {o : Oper}
/-- What is asked behind all but the last. -/
def LastPost (P : Program) (o : Oper) (Q : Exit → Act → World → Prop) : Exit → Act → World → Prop
  | .normal, a, w => o.wp P a w (Q .normal) Q
  | e, a, w => Q e a w
theorem wp_lastPost {x : Oper} {a : Act} {w : World} {K : Act → World → Prop} (h : x.wp P a w K (LastPost P o Q)) : x.wp P a w K Q := by
  unfold Oper.wp at *
  generalize (execOp a.eval x).run P w = r at *
  cases r with
  | ok n w' => cases n <;> exact h
  | halt y w' => cases y <;> exact h
/-- Edges lead back; guards too. -/
def backB (ops : Array Oper) : Bool := (List.range ops.size).all fun j => match ops[j]? with
  | none => true
  | some x => x.after.all (fun e => decide (e.on < j)) && (match x.guard with | none => true | some (g, _) => decide (g < j))
def lastB (ops : Array Oper) (o : Oper) : Bool := backB (ops.push o) && Region.sinkB .any (ops.push o) ops.size && o.guard.isNone
theorem backB_edge (h : backB ops = true) {j : Nat} {x : Oper} (hj : ops[j]? = some x) : (∀ e ∈ x.after, e.on < j) ∧ ∀ g b, x.guard = some (g, b) → g < j := by
  have h1 := List.all_eq_true.1 h j (List.mem_range.2 (Array.getElem?_eq_some_iff.1 hj).1)
  rw [hj] at h1
  simp only [Bool.and_eq_true, Array.all_eq_true_iff_forall_mem, decide_eq_true_eq] at h1
  refine ⟨h1.1, fun g b hg => ?_⟩
  have h2 := h1.2
  rw [hg] at h2
  simpa using h2
theorem push_lt {x : Oper} {j : Nat} (hj : j < ops.size) : (ops.push x)[j]? = ops[j]? := by
  rw [Array.getElem?_push, if_neg (by omega)]
theorem push_at {x : Oper} : (ops.push x)[ops.size]? = some x := by rw [Array.getElem?_push, if_pos rfl]
theorem getD_push {l : Array Bool} {j : Nat} {d : Bool} (hj : j < l.size) : (l.push false).getD j d = l.getD j d := by
  simp only [Array.getD_eq_getD_getElem?]
  rw [Array.getElem?_push, if_neg (by omega)]
theorem backB_pop (h : backB (ops.push o) = true) : backB ops = true := by
  refine List.all_eq_true.2 fun j hj => ?_
  have hl := List.mem_range.1 hj
  have h1 := List.all_eq_true.1 h j (List.mem_range.2 (by rw [Array.size_push]; omega))
  rw [push_lt hl] at h1
  exact h1
theorem ready_push (h : backB (ops.push o) = true) {l : Array Bool} (hl : l.size = ops.size) {j : Nat} (hj : j < ops.size) : j ∈ Region.ready .any (ops.push o) (l.push false) ↔ j ∈ Region.ready .any ops l := by
  rw [mem_ready, mem_ready, push_lt hj, getD_push (by omega)]
  refine and_congr_right fun _ => exists_congr fun x => and_congr_right fun hx => ?_
  have he := (backB_edge (backB_pop h) hx).1
  constructor
  · intro k e hm hb
    have := k e hm hb
    rwa [getD_push (by have := he e hm; omega)] at this
  · intro k e hm hb
    rw [getD_push (by have := he e hm; omega)]
    exact k e hm hb
theorem all_listed (h : backB ops = true) {l : Array Bool} (hl : l.size = ops.size) (hr : Region.ready .any ops l = []) : ∀ j, j < ops.size → l.getD j false = true := by
  intro j
  induction j using Nat.strongRecOn with
  | _ j ih =>
    intro hj
    cases hc : l.getD j false with
    | true => rfl
    | false =>
      have hx := Array.getElem?_eq_getElem hj
      have : j ∈ Region.ready .any ops l := mem_ready.2 ⟨getD_in (by omega) hc, _, hx, fun e he _ => ih e.on ((backB_edge h hx).1 e he) (by have := (backB_edge h hx).1 e he; omega)⟩
      rw [hr] at this
      cases this
theorem last_ready (h : lastB ops o = true) {l : Array Bool} (hl : l.size = ops.size) (hr : Region.ready .any ops l = []) : ∀ j, j ∈ Region.ready .any (ops.push o) (l.push false) ↔ j = ops.size := by
  unfold lastB at h
  simp only [Bool.and_eq_true] at h
  intro j
  constructor
  · intro hj
    rcases Nat.lt_or_ge j ops.size with hlt | hge
    · rw [ready_push h.1.1 hl hlt, hr] at hj
      cases hj
    · obtain ⟨_, x, hx, _⟩ := mem_ready.1 hj
      have := (Array.getElem?_eq_some_iff.1 hx).1
      rw [Array.size_push] at this
      omega
  · rintro rfl
    refine mem_ready.2 ⟨?_, o, push_at, fun e he _ => ?_⟩
    · simp only [Array.getD_eq_getD_getElem?]
      rw [Array.getElem?_push, if_pos (by omega)]
      rfl
    · have hlt := (backB_edge h.1.1 (push_at (x := o))).1 e he
      rw [getD_push (by omega)]
      exact all_listed (backB_pop h.1.1) hl hr e.on hlt
theorem none_ready {l : Array Bool} (hl : l.size = ops.size) (hall : ∀ j, j < ops.size → l.getD j false = true) : Region.ready .any (ops.push o) ((l.push false).setIfInBounds ops.size true) = [] := by
  refine List.eq_nil_iff_forall_not_mem.2 fun j hj => ?_
  obtain ⟨h0, x, hx, _⟩ := mem_ready.1 hj
  have hlt := (Array.getElem?_eq_some_iff.1 hx).1
  rw [Array.size_push] at hlt
  by_cases hjn : j = ops.size
  · subst hjn
    simp only [Array.getD_eq_getD_getElem?] at h0
    rw [Array.getElem?_setIfInBounds_self_of_lt (by rw [Array.size_push]; omega)] at h0
    cases h0
  · rw [getD_set_ne true (Ne.symm hjn), getD_push (by omega)] at h0
    have h1 := hall j (by omega)
    rw [getD_both h0] at h1
    cases h1
theorem wpAny_nil {md : Region.Mode} {ops : Array Oper} {f : Nat} {l : Array Bool} {a : Act} {w : World} (hr : Region.ready md ops l = []) (h : Q .normal a w) : wpAny P md ops Q f l a w := by
  cases f with
  | zero => exact ⟨hr, h⟩
  | succ f => exact ⟨fun _ => h, fun i hi => by rw [hr] at hi; cases hi⟩
theorem any_last (h : lastB ops o = true) {l : Array Bool} (hl : l.size = ops.size) (hr : Region.ready .any ops l = []) {f : Nat} {a : Act} {w : World} (hq : LastPost P o Q .normal a w) : wpAny P .any (ops.push o) Q (f + 1) (l.push false) a w := by
  have hb := h
  unfold lastB at hb
  simp only [Bool.and_eq_true] at hb
  have hm := last_ready h hl hr
  have hall := all_listed (backB_pop hb.1.1) hl hr
  refine ⟨fun h0 => ?_, fun i hi => ?_⟩
  · have := (hm ops.size).2 rfl
    rw [h0] at this
    cases this
  · obtain rfl := (hm i).1 hi
    unfold wpOp
    rw [push_at]
    have hg : Region.wanted o (yielded (ops.push o) a.tmps) = true := by
      unfold Region.wanted
      cases hc : o.guard with
      | none => rfl
      | some g => rw [hc] at hb; exact absurd hb.2 (by simp)
    dsimp only
    rw [if_pos hg]
    exact .inl (Oper.wp_mono (fun a' w' k => wpAny_nil (none_ready hl hall) k) hq)
theorem any_of_held (h : lastB ops o = true) : ∀ (f : Nat) (l : Array Bool) (a : Act) (w : World), l.size = ops.size → HeadInv .any (ops.push o) ops.size (l.push false) →
    wpAnyH P .any ops (LastPost P o Q) S f l a w → wpAny P .any (ops.push o) Q (f + 1) (l.push false) a w
  | 0, l, a, w, hl, _, k => any_last h hl k.1 k.2
  | f + 1, l, a, w, hl, inv, k => by
    have hb := h
    unfold lastB at hb
    simp only [Bool.and_eq_true] at hb
    rcases hr : Region.ready .any ops l with _ | ⟨r0, rs⟩
    · exact any_last h hl hr (k.1 hr)
    · have hr0 : r0 ∈ Region.ready .any ops l := by rw [hr]; simp
      obtain ⟨hun, x0, hx0, _⟩ := mem_ready.1 hr0
      have hlt0 := (Array.getElem?_eq_some_iff.1 hx0).1
      have hchain : Region.chainB .any (ops.push o) ops.size = true := by
        refine List.all_eq_true.2 fun t ht => ?_
        have := List.mem_range.1 ht
        rw [Array.size_push] at this
        rw [decide_eq_true (show t ≤ ops.size by omega)]
        rfl
      have hno := tail_waits hb.1.2 hchain (by rw [Array.size_push]; omega) inv _ r0 rfl hlt0 (by rw [getD_push (by omega)]; exact hun) ops.size (Nat.le_refl _)
      refine ⟨fun h0 => ?_, fun i hi => ?_⟩
      · have := (ready_push hb.1.1 hl hlt0).2 hr0
        rw [h0] at this
        cases this
      · have hin : i < ops.size := by
          obtain ⟨_, x, hx, _⟩ := mem_ready.1 hi
          have h1 := (Array.getElem?_eq_some_iff.1 hx).1
          rw [Array.size_push] at h1
          rcases Nat.lt_or_ge i ops.size with h2 | h2
          · exact h2
          · obtain rfl : i = ops.size := by omega
            exact absurd hi hno
        have hi' := (ready_push hb.1.1 hl hin).1 hi
        have hk := k.2 i hi'
        obtain ⟨_, x, hx, _⟩ := mem_ready.1 hi'
        unfold wpOp at hk ⊢
        rw [push_lt hin, hx]
        rw [hx] at hk
        dsimp only at hk ⊢
        have hw : Region.wanted x (yielded (ops.push o) a.tmps) = Region.wanted x (yielded ops a.tmps) := by
          unfold Region.wanted
          cases hc : x.guard with
          | none => rfl
          | some g =>
            have hg := (backB_edge (backB_pop hb.1.1) hx).2 g.1 g.2 (by rw [hc])
            dsimp only
            unfold yielded
            rw [push_lt (by omega)]
        have hset : (l.push false).setIfInBounds i true = (l.setIfInBounds i true).push false := by
          refine Array.ext_getElem? fun j => ?_
          rw [Array.getElem?_setIfInBounds, Array.getElem?_push, Array.getElem?_push, Array.getElem?_setIfInBounds, Array.size_setIfInBounds, Array.size_push]
          split
          · rename_i e
            subst e
            rw [if_pos (by omega), if_neg (by omega), if_pos (by omega)]
          · rfl
        have hinv := inv.set hi hin
        rw [hset] at hinv ⊢
        rw [hw]
        split at hk
        · rename_i hwa
          rw [if_pos hwa]
          rcases hk with hk | ⟨h1, h2⟩
          · exact .inl (Oper.wp_mono (fun a' w' k' => any_of_held h f _ a' w' (by rw [Array.size_setIfInBounds]; exact hl) hinv k'.2) (wp_lastPost hk))
          · exact .inr ⟨h1, h2⟩
        · rename_i hwa
          rw [if_neg hwa]
          exact any_of_held h f _ _ _ (by rw [Array.size_setIfInBounds]; exact hl) hinv hk.2
/-- A region that draws its order and ends in an operation that waits for all others: what is held must hold up to it alone. -/
theorem wp_region_last {id : Nat} {a : Act} {w : World} (all : Array Oper) (hall : all = ops.push o) (hm : P.follows .mixedOrders = true) (h : lastB ops o = true) (hS : S w.drew)
    (k : S w.drew → wpAnyH P .any ops (LastPost P o Q) S ops.size (Array.replicate ops.size false) a w.drew) : (Code.region id all true).wp P Q a w := by
  subst hall
  refine wp_region_any hm ?_
  have e : Array.replicate (ops.push o).size false = (Array.replicate ops.size false).push false := by
    rw [Array.size_push]
    exact Array.replicate_succ
  rw [e, Array.size_push]
  refine any_of_held h _ _ _ _ (by simp) ⟨by simp, fun j x hj hl => ?_, fun t ht ht2 => ?_⟩ (k hS)
  · rw [← e, getD_replicate_false] at hl
    cases hl
  · rw [← e]
    rw [Array.size_push] at ht2
    simp [Array.getD_eq_getD_getElem?, ht2]
theorem back_push {all : Array Oper} (h : all.back? = some o) : all = all.pop.push o := by
  obtain ⟨l⟩ := all
  have h1 : l.getLast? = some o := by rw [← h]; simp
  obtain ⟨ys, rfl⟩ := List.getLast?_eq_some_iff.1 h1
  rw [List.pop_toArray, List.push_toArray, List.dropLast_concat]
theorem wp_region_last2 {id : Nat} {a : Act} {w : World} {all : Array Oper} (ho : all.back? = some o) (hm : P.follows .mixedOrders = true) (h : lastB all.pop o = true) (hS : S w.drew)
    (k : S w.drew → wpAnyH P .any all.pop (LastPost P o Q) S all.pop.size (Array.replicate all.pop.size false) a w.drew) : (Code.region id all true).wp P Q a w :=
  wp_region_last all (back_push ho) hm h hS k
end
end Go.Proofs.Ytgefhgcpnfbigaa
