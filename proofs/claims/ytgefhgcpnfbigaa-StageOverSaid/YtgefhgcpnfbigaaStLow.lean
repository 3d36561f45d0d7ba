/- Plain: stages: valid ones, their moves, what a move leads to; moves of two roles commute. -/
import Derived.Test.YtgefhgcpnfbigaaRef2
import Derived.Test.YtgefhgcpnfbigaaBkPlain
import Derived.Test.YtgefhgcpnfbigaaBkMayB
import Derived.Shelf.Abstract
import Derived.Deep.RegionHeld3
namespace Go.Proofs.Ytgefhgcpnfbigaa
open Go.RowKit

structure StgL where
  at_ : List Int
  mail : List (List Str)
structure MoveL where
  kind : Int
  role : Int
  label : Str
deriving DecidableEq
structure StepL where
  mv : MoveL
  queue : Nat
  next : Int
def rolesS (rs : List Str) : Bool := decide (1 ≤ rs.length) && decide (rs.length ≤ 5) && decide rs.Nodup
def atS (nn : Nat) (rs : List Str) (l : List Int) : Bool := decide (l.length = rs.length) && l.all (inBk nn)
def mailS (rs : List Str) (l : List (List Str)) : Bool := decide (l.length = rs.length * rs.length) && l.all fun q => decide (q.length ≤ 64)
def stgB (b : BookL) (rs : List Str) (s : StgL) : Bool := bookB b && rolesS rs && atS b.nodes.length rs s.at_ && mailS rs s.mail
def queueS (rs : List Str) (role : Nat) (kind : Int) (peer : Str) : Option Nat :=
  if plc rs peer < 0 ∨ plc rs peer = (role : Int) then none
  else if kind = 1 then some (role * rs.length + (plc rs peer).toNat)
  else if kind = 2 then some ((plc rs peer).toNat * rs.length + role) else none
def passS (kind : Int) (q : List Str) (label : Str) : Bool := if kind = 1 then decide (q.length < 64) else match q with | [] => false | x :: _ => decide (x = label)
def armS (kind : Int) (role q : Nat) (e : EdgeL) : StepL := ⟨⟨kind, role, e.label⟩, q, e.next⟩
def armsS (kind : Int) (role q : Nat) (mq : List Str) (l : List EdgeL) : List StepL := (l.filter fun e => passS kind mq e.label).map (armS kind role q)
def nodeSt (rs : List Str) (mail : List (List Str)) (role : Nat) (n : NodeL) : List StepL := match queueS rs role n.kind n.peer with
  | none => []
  | some q => armsS n.kind role q (mail.getD q []) n.arms
def roleSt (b : BookL) (rs : List Str) (s : StgL) (role : Nat) : List StepL := match b.nodes[(s.at_.getD role 0).toNat]? with
  | none => []
  | some n => nodeSt rs s.mail role n
def stepsS (b : BookL) (rs : List Str) (s : StgL) : List StepL := (List.range s.at_.length).flatMap (roleSt b rs s)
def movesS (b : BookL) (rs : List Str) (s : StgL) : List MoveL := if stgB b rs s = true then (stepsS b rs s).map StepL.mv else []
def putQ (kind : Int) (q : List Str) (label : Str) : List Str := if kind = 1 then q ++ [label] else q.tail
def afterS (s : StgL) (x : StepL) : StgL := ⟨s.at_.set x.mv.role.toNat x.next, s.mail.set x.queue (putQ x.mv.kind (s.mail.getD x.queue []) x.mv.label)⟩
def nilS : StgL := ⟨[], []⟩
def doS (b : BookL) (rs : List Str) (s : StgL) (m : MoveL) : StgL × Int :=
  if stgB b rs s = true then match (stepsS b rs s).find? (fun x => decide (x.mv = m)) with
    | some x => (afterS s x, 0)
    | none => (nilS, 1301)
  else (nilS, 1300)
def endS (b : BookL) (k : Int) : Bool := match b.nodes[k.toNat]? with | some n => decide (n.kind = 0) | none => false
def overS (b : BookL) (rs : List Str) (s : StgL) : Bool := stgB b rs s && s.at_.all (endS b) && s.mail.all List.isEmpty
def sameS (x y : StgL) : Bool := decide (x.at_ = y.at_) && decide (x.mail = y.mail)
def rootS (rs : List Str) (roots : List Int) : StgL := ⟨roots, List.replicate (rs.length * rs.length) []⟩
def beginS (b : BookL) (rs : List Str) (roots : List Int) : StgL × Int := if stgB b rs (rootS rs roots) = true then (rootS rs roots, 0) else (nilS, 1300)

theorem plcFrom_lt (x : Str) : ∀ (ss : List Str) (i : Nat), 0 ≤ plcFrom ss x i → (i : Int) ≤ plcFrom ss x i ∧ plcFrom ss x i < (i : Int) + (ss.length : Int)
  | [], i, h => by simp [plcFrom] at h
  | z :: ss, i, h => by
    unfold plcFrom at h ⊢
    by_cases hz : z = x
    · rw [if_pos hz]; simp; omega
    · rw [if_neg hz] at h ⊢
      have := plcFrom_lt x ss (i + 1) h
      simp at this ⊢
      omega
theorem plc_lt {ss : List Str} {x : Str} (h : 0 ≤ plc ss x) : (plc ss x).toNat < ss.length := by
  have := plcFrom_lt x ss 0 h
  unfold plc at h ⊢
  omega
structure StgOk (b : BookL) (rs : List Str) (s : StgL) : Prop where
  book : NodesOk b.nodes
  bk : bookB b = true
  roles : rolesS rs = true
  pos : 1 ≤ rs.length
  few : rs.length ≤ 5
  len : s.at_.length = rs.length
  at_ : ∀ k ∈ s.at_, 0 ≤ k ∧ k.toNat < b.nodes.length
  many : s.mail.length = rs.length * rs.length
  room : ∀ q ∈ s.mail, q.length ≤ 64
theorem stgOk_iff {b : BookL} {rs : List Str} {s : StgL} : stgB b rs s = true ↔ StgOk b rs s := by
  constructor
  · intro h
    unfold stgB atS mailS at h
    simp only [Bool.and_eq_true, decide_eq_true_eq, List.all_eq_true] at h
    obtain ⟨⟨⟨h1, h2⟩, h3, h4⟩, h5, h6⟩ := h
    have hr := h2
    unfold rolesS at hr
    simp only [Bool.and_eq_true, decide_eq_true_eq] at hr
    exact ⟨(bookB_ok h1).1, h1, h2, hr.1.1, hr.1.2, h3, fun k hk => inBk_iff.1 (h4 k hk), h5, h6⟩
  · intro h
    unfold stgB atS mailS
    simp only [Bool.and_eq_true, decide_eq_true_eq, List.all_eq_true]
    exact ⟨⟨⟨h.bk, h.roles⟩, h.len, fun k hk => inBk_iff.2 (h.at_ k hk)⟩, h.many, h.room⟩
theorem queueS_some {rs : List Str} {role : Nat} {kind : Int} {peer : Str} {q : Nat} (h : queueS rs role kind peer = some q) :
    ∃ p : Nat, plc rs peer = (p : Int) ∧ p < rs.length ∧ p ≠ role ∧ (kind = 1 ∧ q = role * rs.length + p ∨ kind = 2 ∧ q = p * rs.length + role) := by
  unfold queueS at h
  split at h
  · cases h
  · rename_i hc
    have h0 : 0 ≤ plc rs peer := by omega
    have hl := plc_lt h0
    refine ⟨(plc rs peer).toNat, by omega, hl, by omega, ?_⟩
    split at h
    · exact .inl ⟨by assumption, (Option.some.inj h).symm⟩
    · split at h
      · exact .inr ⟨by assumption, (Option.some.inj h).symm⟩
      · cases h
theorem mem_arms {kind : Int} {role q : Nat} {mq : List Str} {l : List EdgeL} {x : StepL} : x ∈ armsS kind role q mq l ↔ ∃ e ∈ l, passS kind mq e.label = true ∧ armS kind role q e = x := by
  unfold armsS
  rw [List.mem_map]
  constructor
  · rintro ⟨e, he, rfl⟩
    rw [List.mem_filter] at he
    exact ⟨e, he.1, he.2, rfl⟩
  · rintro ⟨e, h1, h2, rfl⟩
    exact ⟨e, List.mem_filter.2 ⟨h1, h2⟩, rfl⟩
theorem mem_roleSt {b : BookL} {rs : List Str} {s : StgL} {r : Nat} {x : StepL} : x ∈ roleSt b rs s r ↔ ∃ n q e, b.nodes[(s.at_.getD r 0).toNat]? = some n ∧ queueS rs r n.kind n.peer = some q ∧ e ∈ n.arms ∧ passS n.kind (s.mail.getD q []) e.label = true ∧ armS n.kind r q e = x := by
  unfold roleSt
  cases hn : b.nodes[(s.at_.getD r 0).toNat]? with
  | none => simp
  | some n =>
    show x ∈ nodeSt rs s.mail r n ↔ _
    unfold nodeSt
    cases hq : queueS rs r n.kind n.peer with
    | none =>
      constructor
      · intro h; simp at h
      · rintro ⟨n', q, e, h1, h2, _⟩
        obtain rfl := Option.some.inj h1
        rw [hq] at h2; cases h2
    | some q =>
      show x ∈ armsS _ _ _ _ _ ↔ _
      rw [mem_arms]
      constructor
      · rintro ⟨e, h1, h2, h3⟩
        exact ⟨n, q, e, rfl, hq, h1, h2, h3⟩
      · rintro ⟨n', q', e, h1, h2, h3, h4, h5⟩
        obtain rfl := Option.some.inj h1
        obtain rfl := Option.some.inj (hq.symm.trans h2)
        exact ⟨e, h3, h4, h5⟩
theorem mem_steps {b : BookL} {rs : List Str} {s : StgL} {x : StepL} : x ∈ stepsS b rs s ↔ ∃ r n q e, r < s.at_.length ∧ b.nodes[(s.at_.getD r 0).toNat]? = some n ∧ queueS rs r n.kind n.peer = some q ∧ e ∈ n.arms ∧ passS n.kind (s.mail.getD q []) e.label = true ∧ armS n.kind r q e = x := by
  unfold stepsS
  rw [List.mem_flatMap]
  constructor
  · rintro ⟨r, hr, h⟩
    obtain ⟨n, q, e, h⟩ := mem_roleSt.1 h
    exact ⟨r, n, q, e, List.mem_range.1 hr, h⟩
  · rintro ⟨r, n, q, e, hr, h⟩
    exact ⟨r, List.mem_range.2 hr, mem_roleSt.2 ⟨n, q, e, h⟩⟩
theorem passS_recv {q : List Str} {l : Str} (h : passS 2 q l = true) : q = l :: q.tail := by
  cases q with
  | nil => cases h
  | cons x q =>
    have : x = l := of_decide_eq_true h
    rw [this]; rfl
/-- What a possible move is. -/
structure StepOk (b : BookL) (rs : List Str) (s : StgL) (r p : Nat) (n : NodeL) (e : EdgeL) (x : StepL) : Prop where
  lt : r < rs.length
  peer : p < rs.length
  ne : p ≠ r
  node : b.nodes[(s.at_.getD r 0).toNat]? = some n
  plc_ : plc rs n.peer = (p : Int)
  arm : e ∈ n.arms
  may_ : may e.label = true
  next : 0 ≤ e.next ∧ e.next.toNat < b.nodes.length
  way : n.kind = 1 ∧ x = ⟨⟨1, r, e.label⟩, r * rs.length + p, e.next⟩ ∧ (s.mail.getD (r * rs.length + p) []).length < 64 ∨
    n.kind = 2 ∧ x = ⟨⟨2, r, e.label⟩, p * rs.length + r, e.next⟩ ∧ ∃ t, s.mail.getD (p * rs.length + r) [] = e.label :: t
theorem stepOk_of {b : BookL} {rs : List Str} {s : StgL} (hs : StgOk b rs s) {x : StepL} (h : x ∈ stepsS b rs s) : ∃ r p n e, StepOk b rs s r p n e x := by
  obtain ⟨r, n, q, e, hr, hn, hq, he, hp, hx⟩ := mem_steps.1 h
  obtain ⟨p, h1, h2, h3, h4⟩ := queueS_some hq
  have hk := hs.book.2 _ _ hn
  have hed : edgeB b.nodes.length e = true := by
    rcases nodeB_arms hk with h0 | h0
    · rw [h0] at he; cases he
    · unfold edgesB at h0
      simp only [Bool.and_eq_true, List.all_eq_true] at h0
      exact h0.1.1.1 e he
  unfold edgeB at hed
  simp only [Bool.and_eq_true] at hed
  refine ⟨r, p, n, e, by rw [← hs.len]; exact hr, h2, h3, hn, h1, he, hed.1.1, inBk_iff.1 hed.2, ?_⟩
  rcases h4 with ⟨k1, rfl⟩ | ⟨k2, rfl⟩
  · rw [k1] at hp hx
    exact .inl ⟨k1, hx.symm, of_decide_eq_true hp⟩
  · rw [k2] at hp hx
    exact .inr ⟨k2, hx.symm, _, passS_recv hp⟩
theorem StepOk.mem {b : BookL} {rs : List Str} {s : StgL} (hs : StgOk b rs s) {r p : Nat} {n : NodeL} {e : EdgeL} {x : StepL} (h : StepOk b rs s r p n e x) : x ∈ stepsS b rs s := by
  have hq : ∀ k, n.kind = k → (k = 1 ∨ k = 2) → queueS rs r n.kind n.peer = some (if k = 1 then r * rs.length + p else p * rs.length + r) := fun k hk h12 => by
    have := h.ne
    unfold queueS
    rw [h.plc_, hk, if_neg (by omega)]
    rcases h12 with rfl | rfl
    · simp
    · simp
  rcases h.way with ⟨k1, rfl, hl⟩ | ⟨k2, rfl, t, ht⟩
  · refine mem_steps.2 ⟨r, n, _, e, by rw [hs.len]; exact h.lt, h.node, hq 1 k1 (.inl rfl), h.arm, ?_, by rw [k1]; rfl⟩
    rw [k1]
    exact decide_eq_true hl
  · refine mem_steps.2 ⟨r, n, _, e, by rw [hs.len]; exact h.lt, h.node, hq 2 k2 (.inr rfl), h.arm, ?_, by rw [k2]; rfl⟩
    rw [k2]
    show passS 2 (s.mail.getD (p * rs.length + r) []) e.label = true
    rw [ht]
    exact decide_eq_true rfl
theorem slot_lt {a b n : Nat} (ha : a < n) (hb : b < n) : a * n + b < n * n := by
  have : a * n + n ≤ n * n := by
    rw [← Nat.succ_mul]
    exact Nat.mul_le_mul_right n ha
  omega
theorem slot_inj {a b c d n : Nat} (hb : b < n) (hd : d < n) (h : a * n + b = c * n + d) : a = c ∧ b = d := by
  have hn : 0 < n := by omega
  have h1 : (a * n + b) / n = a := by rw [Nat.add_comm, Nat.add_mul_div_right _ _ hn, Nat.div_eq_of_lt hb, Nat.zero_add]
  have h2 : (c * n + d) / n = c := by rw [Nat.add_comm, Nat.add_mul_div_right _ _ hn, Nat.div_eq_of_lt hd, Nat.zero_add]
  have h3 : a = c := by rw [← h1, ← h2, h]
  subst h3
  exact ⟨rfl, by omega⟩
section
variable {b : BookL} {rs : List Str} {s : StgL} {r p : Nat} {n : NodeL} {e : EdgeL} {x : StepL}
theorem StepOk.role (h : StepOk b rs s r p n e x) : x.mv.role = (r : Int) := by
  rcases h.way with ⟨_, rfl, _⟩ | ⟨_, rfl, _⟩ <;> rfl
theorem StepOk.queue (h : StepOk b rs s r p n e x) : x.queue < rs.length * rs.length := by
  rcases h.way with ⟨_, rfl, _⟩ | ⟨_, rfl, _⟩
  · exact slot_lt h.lt h.peer
  · exact slot_lt h.peer h.lt
theorem StepOk.kind (h : StepOk b rs s r p n e x) : x.mv.kind = n.kind ∧ x.mv.label = e.label ∧ x.next = e.next ∧ (n.kind = 1 ∨ n.kind = 2) := by
  rcases h.way with ⟨k, rfl, _⟩ | ⟨k, rfl, _⟩
  · exact ⟨k.symm, rfl, rfl, .inl k⟩
  · exact ⟨k.symm, rfl, rfl, .inr k⟩
end
theorem arms_one {nn : Nat} {n : NodeL} (hn : nodeB nn n = true) {e f : EdgeL} (he : e ∈ n.arms) (hf : f ∈ n.arms) (hl : e.label = f.label) : e = f := by
  rcases nodeB_arms hn with h0 | h0
  · rw [h0] at he; cases he
  · unfold edgesB at h0
    simp only [Bool.and_eq_true] at h0
    have hu : (n.arms.map EdgeL.label).Pairwise (· < ·) := of_decide_eq_true h0.1.1.2
    obtain ⟨i, hi, rfl⟩ := List.mem_iff_getElem.1 he
    obtain ⟨j, hj, rfl⟩ := List.mem_iff_getElem.1 hf
    rcases Nat.lt_trichotomy i j with h | h | h
    · have := List.pairwise_iff_getElem.1 hu i j (by simpa using hi) (by simpa using hj) h
      rw [List.getElem_map, List.getElem_map, hl] at this
      exact absurd this (List.lt_irrefl _)
    · subst h; rfl
    · have := List.pairwise_iff_getElem.1 hu j i (by simpa using hj) (by simpa using hi) h
      rw [List.getElem_map, List.getElem_map, hl] at this
      exact absurd this (List.lt_irrefl _)
/-- A possible move says which step it is. -/
theorem step_one {b : BookL} {rs : List Str} {s : StgL} (hs : StgOk b rs s) {x y : StepL} (hx : x ∈ stepsS b rs s) (hy : y ∈ stepsS b rs s) (h : x.mv = y.mv) : x = y := by
  obtain ⟨r, p, n, e, h1⟩ := stepOk_of hs hx
  obtain ⟨r', p', n', e', h2⟩ := stepOk_of hs hy
  have hr : r = r' := by have a1 := h1.role; have a2 := h2.role; rw [h] at a1; omega
  subst hr
  obtain rfl : n = n' := Option.some.inj (h1.node.symm.trans h2.node)
  obtain rfl : p = p' := by have a1 := h1.plc_; have a2 := h2.plc_; omega
  have hl : e.label = e'.label := by rw [← h1.kind.2.1, ← h2.kind.2.1, h]
  obtain rfl : e = e' := arms_one (hs.book.2 _ _ h1.node) h1.arm h2.arm hl
  rcases h1.way with ⟨k, e1, _⟩ | ⟨k, e1, _⟩ <;> rcases h2.way with ⟨k', e2, _⟩ | ⟨k', e2, _⟩
  · rw [e1, e2]
  · omega
  · omega
  · rw [e1, e2]
theorem do_step {b : BookL} {rs : List Str} {s : StgL} (hs : StgOk b rs s) {x : StepL} (hx : x ∈ stepsS b rs s) : doS b rs s x.mv = (afterS s x, 0) := by
  unfold doS
  rw [if_pos (stgOk_iff.2 hs)]
  cases hf : (stepsS b rs s).find? (fun y => decide (y.mv = x.mv)) with
  | none =>
    have := List.find?_eq_none.1 hf x hx
    simp at this
  | some y =>
    have h1 := List.mem_of_find?_eq_some hf
    have h2 := List.find?_some hf
    obtain rfl := step_one hs h1 hx (of_decide_eq_true h2)
    rfl
theorem moves_ok {b : BookL} {rs : List Str} {s : StgL} (hs : StgOk b rs s) : movesS b rs s = (stepsS b rs s).map StepL.mv := by
  unfold movesS
  rw [if_pos (stgOk_iff.2 hs)]
theorem mem_moves {b : BookL} {rs : List Str} {s : StgL} (hs : StgOk b rs s) {m : MoveL} (h : m ∈ movesS b rs s) : ∃ x, x ∈ stepsS b rs s ∧ x.mv = m := by
  rw [moves_ok hs] at h
  exact List.mem_map.1 h
theorem getD_setS {α : Type} (l : List α) (i j : Nat) (x d : α) (hi : i < l.length) : (l.set i x).getD j d = if i = j then x else l.getD j d := by
  rw [List.getD_eq_getElem?_getD, List.getElem?_set, List.getD_eq_getElem?_getD]
  by_cases h : i = j
  · subst h; simp [hi]
  · simp [h]
theorem after_ok {b : BookL} {rs : List Str} {s : StgL} (hs : StgOk b rs s) {x : StepL} (hx : x ∈ stepsS b rs s) : StgOk b rs (afterS s x) := by
  obtain ⟨r, p, n, e, h⟩ := stepOk_of hs hx
  refine ⟨hs.book, hs.bk, hs.roles, hs.pos, hs.few, by unfold afterS; rw [List.length_set]; exact hs.len, fun k hk => ?_, by unfold afterS; rw [List.length_set]; exact hs.many, fun q hq => ?_⟩
  · rcases List.mem_or_eq_of_mem_set hk with h0 | rfl
    · exact hs.at_ k h0
    · rw [h.kind.2.2.1]; exact h.next
  · rcases List.mem_or_eq_of_mem_set hq with h0 | rfl
    · exact hs.room q h0
    · have hm : s.mail.getD x.queue [] ∈ s.mail := by
        have := h.queue
        rw [List.getD_eq_getElem?_getD, List.getElem?_eq_getElem (by rw [hs.many]; exact this)]
        exact List.getElem_mem _
      rcases h.way with ⟨_, rfl, hl⟩ | ⟨_, rfl, t, ht⟩
      · show (putQ 1 _ _).length ≤ 64
        unfold putQ
        rw [if_pos rfl, List.length_append]
        exact hl
      · show (putQ 2 _ _).length ≤ 64
        have := hs.room _ hm
        unfold putQ
        rw [if_neg (by decide), List.length_tail]
        omega
/-- A move of one role leaves a move of another possible. -/
theorem step_stays {b : BookL} {rs : List Str} {s : StgL} (hs : StgOk b rs s) {x y : StepL} (hx : x ∈ stepsS b rs s) (hy : y ∈ stepsS b rs s) (hne : x.mv.role ≠ y.mv.role) : y ∈ stepsS b rs (afterS s x) := by
  obtain ⟨r, p, n, e, h⟩ := stepOk_of hs hx
  obtain ⟨r', p', n', e', h'⟩ := stepOk_of hs hy
  have hr : r ≠ r' := fun e0 => hne (by rw [h.role, h'.role, e0])
  have hq := h.queue
  rw [← hs.many] at hq
  have hat : (afterS s x).at_.getD r' 0 = s.at_.getD r' 0 := by
    show (s.at_.set x.mv.role.toNat x.next).getD r' 0 = _
    rw [getD_setS _ _ _ _ _ (by rw [h.role, hs.len]; exact h.lt), if_neg (by rw [h.role]; omega)]
  have hml : ∀ q, (afterS s x).mail.getD q [] = if x.queue = q then putQ x.mv.kind (s.mail.getD x.queue []) x.mv.label else s.mail.getD q [] := fun q => getD_setS _ _ _ _ _ hq
  refine StepOk.mem (after_ok hs hx) (r := r') (p := p') (n := n') (e := e') ⟨h'.lt, h'.peer, h'.ne, by rw [hat]; exact h'.node, h'.plc_, h'.arm, h'.may_, h'.next, ?_⟩
  rcases h'.way with ⟨k', e2, hl⟩ | ⟨k', e2, t, ht⟩
  · refine .inl ⟨k', e2, ?_⟩
    rw [hml]
    split
    · rename_i hqq
      rcases h.way with ⟨_, rfl, _⟩ | ⟨_, rfl, _⟩
      · exact absurd (slot_inj h.peer h'.peer hqq).1 hr
      · show (putQ 2 (s.mail.getD (p * rs.length + r) []) e.label).length < 64
        have hqq : p * rs.length + r = r' * rs.length + p' := hqq
        rw [hqq]
        unfold putQ
        rw [if_neg (by decide), List.length_tail]
        omega
    · exact hl
  · refine .inr ⟨k', e2, ?_⟩
    rw [hml]
    split
    · rename_i hqq
      rcases h.way with ⟨_, rfl, _⟩ | ⟨_, rfl, _⟩
      · show ∃ t, putQ 1 (s.mail.getD (r * rs.length + p) []) e.label = _
        have hqq : r * rs.length + p = p' * rs.length + r' := hqq
        rw [hqq, ht]
        exact ⟨t ++ [e.label], rfl⟩
      · exact absurd (slot_inj h.lt h'.lt hqq).2 hr
    · exact ⟨t, ht⟩
theorem set_setS {α : Type} (l : List α) (i : Nat) (x y : α) : (l.set i x).set i y = l.set i y := by rw [List.set_set]
/-- Both orders lead to the same stage. -/
theorem after_after {b : BookL} {rs : List Str} {s : StgL} (hs : StgOk b rs s) {x y : StepL} (hx : x ∈ stepsS b rs s) (hy : y ∈ stepsS b rs s) (hne : x.mv.role ≠ y.mv.role) : afterS (afterS s x) y = afterS (afterS s y) x := by
  obtain ⟨r, p, n, e, h⟩ := stepOk_of hs hx
  obtain ⟨r', p', n', e', h'⟩ := stepOk_of hs hy
  have hr : r ≠ r' := fun e0 => hne (by rw [h.role, h'.role, e0])
  have hq := h.queue
  have hq' := h'.queue
  rw [← hs.many] at hq hq'
  have h1 : (s.at_.set x.mv.role.toNat x.next).set y.mv.role.toNat y.next = (s.at_.set y.mv.role.toNat y.next).set x.mv.role.toNat x.next := by
    rw [List.set_comm]
    rw [h.role, h'.role]; omega
  have h2 : (s.mail.set x.queue (putQ x.mv.kind (s.mail.getD x.queue []) x.mv.label)).set y.queue (putQ y.mv.kind ((s.mail.set x.queue (putQ x.mv.kind (s.mail.getD x.queue []) x.mv.label)).getD y.queue []) y.mv.label) =
      (s.mail.set y.queue (putQ y.mv.kind (s.mail.getD y.queue []) y.mv.label)).set x.queue (putQ x.mv.kind ((s.mail.set y.queue (putQ y.mv.kind (s.mail.getD y.queue []) y.mv.label)).getD x.queue []) x.mv.label) := by
    rw [getD_setS _ _ _ _ _ hq, getD_setS _ _ _ _ _ hq']
    by_cases hqq : x.queue = y.queue
    · rw [if_pos hqq, if_pos hqq.symm, hqq, List.set_set, List.set_set]
      congr 1
      rcases h.way with ⟨_, rfl, _⟩ | ⟨_, rfl, t, ht⟩ <;> rcases h'.way with ⟨_, rfl, _⟩ | ⟨_, rfl, t', ht'⟩
      · exact absurd (slot_inj h.peer h'.peer hqq).1 hr
      · show putQ 2 (putQ 1 (s.mail.getD (p' * rs.length + r') []) e.label) e'.label = putQ 1 (putQ 2 (s.mail.getD (p' * rs.length + r') []) e'.label) e.label
        rw [ht']; rfl
      · have hqq : p * rs.length + r = r' * rs.length + p' := hqq
        show putQ 1 (putQ 2 (s.mail.getD (r' * rs.length + p') []) e.label) e'.label = putQ 2 (putQ 1 (s.mail.getD (r' * rs.length + p') []) e'.label) e.label
        rw [← hqq, ht]; rfl
      · exact absurd (slot_inj h.lt h'.lt hqq).2 hr
    · rw [if_neg hqq, if_neg (Ne.symm hqq), List.set_comm _ _ hqq]
  unfold afterS
  rw [h1, h2]
end Go.Proofs.Ytgefhgcpnfbigaa

/- Slices of moves and of steps in memory: read, and made by append. (Printed by gen/genStMem.py.) -/
namespace Go.Proofs.Ytgefhgcpnfbigaa
open Go.RowKit

/- Moves. -/
structure MvR where
  k : Int
  r : Int
  s : ByteArray
def encMvR (t : MvR) : List Value := [.int .i64 t.k, .int .i64 t.r, .string t.s]
def moveR (t : MvR) : MoveL := ⟨t.k, t.r, t.s.toList⟩
/-- The slice with this address and length reads as these. -/
def Movs (w : World) (bound : Nat) (a : Option Addr) (n : Nat) (l : List MoveL) : Prop :=
  l.length = n ∧ n ≤ 9223372036854775807 ∧ (0 < n → ∃ b off, a = some ⟨b, off, none⟩ ∧ b < bound ∧ ∀ (j : Nat) (x : MoveL), l[j]? = some x → ∃ t : MvR,
    (∀ i, i < 3 → w.cell? ⟨b, off + j * 3 + i, none⟩ = (encMvR t)[i]?) ∧ moveR t = x ∧ t.s.size ≤ maxLen)
section
variable {w w' : World} {bound bound' : Nat} {a : Option Addr} {n : Nat} {l : List MoveL}
theorem Movs.keep (h : Movs w bound a n l) (hk : ∀ p : Addr, p.block < bound → w'.cell? p = w.cell? p) : Movs w' bound a n l :=
  ⟨h.1, h.2.1, fun hn => by
    obtain ⟨b, off, e, hb, hc⟩ := h.2.2 hn
    refine ⟨b, off, e, hb, fun j x hj => ?_⟩
    obtain ⟨t, c, h1⟩ := hc j x hj
    exact ⟨t, fun i hi => (hk _ hb).trans (c i hi), h1⟩⟩
theorem Movs.below (h : Movs w bound a n l) (hb : Below bound w w') : Movs w' bound a n l := h.keep fun _ hp => hb.cell hp
theorem Movs.more (h : Movs w bound a n l) (hb : bound ≤ bound') : Movs w bound' a n l :=
  ⟨h.1, h.2.1, fun hn => by
    obtain ⟨b, off, e, hlt, hc⟩ := h.2.2 hn
    exact ⟨b, off, e, by omega, hc⟩⟩
theorem Movs.zero (w : World) (bound : Nat) (a : Option Addr) : Movs w bound a 0 [] := ⟨rfl, by omega, fun h => absurd h (Nat.lt_irrefl 0)⟩
theorem Movs.on {W W' : World} {a : Option Addr} {n : Nat} {l : List MoveL} (h : Movs W W.heap.size a n l) (hb : Below W.heap.size W W') : Movs W' W'.heap.size a n l := (h.below hb).more hb.size
theorem Movs.at_ (h : Movs w bound a n l) {k : Nat} (hk : k < n) : ∃ (b off : Nat) (t : MvR), a = some ⟨b, off, none⟩ ∧ b < bound ∧ l[k]? = some (moveR t) ∧
    (∀ i, i < 3 → w.cell? ⟨b, off + k * 3 + i, none⟩ = (encMvR t)[i]?) ∧ t.s.size ≤ maxLen := by
  obtain ⟨b, off, e, hb, hc⟩ := h.2.2 (by omega)
  have hk' : k < l.length := by rw [h.1]; exact hk
  obtain ⟨t, c, h1, h3⟩ := hc k _ (List.getElem?_eq_getElem hk')
  exact ⟨b, off, t, e, hb, by rw [List.getElem?_eq_getElem hk', h1], c, h3⟩
end
/-- The slice v, which the call made, holds just these. -/
def MvOwn (w : World) (base : Nat) (v : Value) (l : List MoveL) : Prop := ∃ ts : List MvR, w.ownsRow base 40 3 v l.length (ts.flatMap encMvR) ∧ ts.map moveR = l ∧ ∀ t ∈ ts, t.s.size ≤ maxLen
theorem flatMvR_at : ∀ (l : List MvR) (j : Nat) (t : MvR), l[j]? = some t → ∀ i, i < 3 → (l.flatMap encMvR)[j * 3 + i]? = (encMvR t)[i]? := by
  intro l
  induction l with
  | nil => intro j t h; cases h
  | cons x l ih =>
    intro j t h i hi
    rw [List.flatMap_cons]
    cases j with
    | zero =>
      injection h with h
      subst h
      rw [Nat.zero_mul, Nat.zero_add, List.getElem?_append_left hi]
    | succ j =>
      have e : (j + 1) * 3 + i = 3 + (j * 3 + i) := by omega
      rw [e, List.getElem?_append_right (by show 3 ≤ _; omega)]
      show (l.flatMap encMvR)[3 + (j * 3 + i) - 3]? = _
      rw [Nat.add_sub_cancel_left]
      exact ih j t h i hi
theorem MvOwn.zero (w : World) (base : Nat) : MvOwn w base (.slice none 0 0) [] := ⟨[], World.ownsRow_nil w base 40 3, rfl, by simp⟩
theorem MvOwn.lt {w : World} {base : Nat} {v : Value} {l : List MoveL} (h : MvOwn w base v l) : ∀ b, v.ownBlock = some b → base ≤ b ∧ b < w.heap.size := by
  obtain ⟨ts, h, _⟩ := h
  exact h.lt
theorem MvOwn.stay {w w' : World} {base : Nat} {v : Value} {l : List MoveL} (h : MvOwn w base v l) (hk : ∀ b, v.ownBlock = some b → w'.heap[b]? = w.heap[b]?) : MvOwn w' base v l := by
  obtain ⟨ts, h, h2⟩ := h
  refine ⟨ts, ⟨h.1, ?_⟩, h2⟩
  rcases h.2 with h0 | ⟨g, cap, cur, rfl, hbase, hh, h1, h2, h3, h4⟩
  · exact .inl h0
  · exact .inr ⟨g, cap, cur, rfl, hbase, (hk g rfl).trans hh, h1, h2, h3, h4⟩
theorem MvOwn.kept {w w' : World} {base : Nat} {v : Value} {l : List MoveL} (h : MvOwn w base v l) (hb : Below w.heap.size w w') : MvOwn w' base v l := h.stay fun b e => hb.block b (h.lt b e).2
theorem MvOwn.low {w : World} {base base' : Nat} {v : Value} {l : List MoveL} (h : MvOwn w base v l) (hb : base' ≤ base) : MvOwn w base' v l := by
  obtain ⟨ts, h, h2⟩ := h
  refine ⟨ts, ⟨h.1, ?_⟩, h2⟩
  rcases h.2 with h0 | ⟨g, cap, cur, rfl, hbase, hh, h1, h2, h3, h4⟩
  · exact .inl h0
  · exact .inr ⟨g, cap, cur, rfl, Nat.le_trans hb hbase, hh, h1, h2, h3, h4⟩
theorem MvOwn.other {w : World} {base : Nat} {v : Value} {l : List MoveL} (h : MvOwn w base v l) {g : Nat} {cs : Array Value} {e : TypeId} {fr : Nat × Nat} (hg : w.heap[g]? = some (.cells cs e fr)) (he : e ≠ 40) : v.ownBlock ≠ some g := fun e1 => by
  obtain ⟨ts, h, _⟩ := h
  rcases h.2 with ⟨rfl, _⟩ | ⟨b, cap, cur, rfl, _, hh, _⟩
  · cases e1
  · obtain rfl := Option.some.inj e1
    rw [hh] at hg
    exact he (Obj.cells.inj (Option.some.inj hg)).2.1.symm
theorem info_MvR : (Try.prog.info? 40).map (fun i => (i.zero, i.size, i.bytes)) = some (some (.agg #[.int .i64 0, .int .i64 0, .string ⟨#[]⟩]), 3, 32) := by kernel_rfl
theorem MvOwn.add {W : World} {base : Nat} {v : Value} {l : List MoveL} (t : MvR) (h : MvOwn W base v l) (hb : base ≤ W.heap.size) (ht : t.s.size ≤ maxLen) (hlen : l.length ≤ 1000000) (ty : Nat) :
    ∃ v' w', (Builtin.append_ #[52, 52] ty #[v, .slice (some ⟨W.heap.size, 0, none⟩) 1 1]).run Try.prog (W.alloc (.cells (encMvR t).toArray 40)) = .ok v' w' ∧ MvOwn w' base v' (l ++ [moveR t]) ∧ (∀ B, B ≤ base → ∀ w0, Below B w0 W → Below B w0 w') ∧ Keeps v W w' := by
  obtain ⟨i0, hi0, hzz⟩ := Option.map_eq_some_iff.1 info_MvR
  simp only [Prod.mk.injEq] at hzz
  obtain ⟨hz, hs1, hb1⟩ := hzz
  obtain ⟨bs, ho, hl, hok⟩ := h
  have ho1 : (W.alloc (.cells (encMvR t).toArray 40)).ownsRow base 40 3 v l.length (bs.flatMap encMvR) := World.ownsRow.alloc ho _
  obtain ⟨v', w', hrun, hown, hgr, _, hat⟩ := run_append_own_at (P := Try.prog) (W.alloc (.cells (encMvR t).toArray 40)) base 52 ty 40 i0 _ 3 32 Try.underlying52 hi0 hz hs1 hb1 rfl (by omega) v l.length (bs.flatMap encMvR) ho1
    ⟨W.heap.size, 0, none⟩ 1 1 (encMvR t) rfl
    (fun j u hu => by
      rw [Go.WideShapes.add_plain, cell_of_row _ _ _ _ _ _ (heap_alloc_new W _), Nat.zero_add, List.getElem?_toArray, ← hu])
    (fun u hu => by
      unfold encMvR at hu
      simp only [List.mem_cons, List.not_mem_nil, or_false] at hu
      rcases hu with rfl | rfl | rfl <;> rfl) (by unfold maxLen; omega) (by omega) (by simp; omega)
  refine ⟨v', w', hrun, ⟨bs ++ [t], ?_, by rw [List.map_append, hl]; rfl, fun u hu => ?_⟩, fun B hB w0 hw0 => (hw0.alloc (by omega) _).grown hgr (by simp; omega) (fun k hk => by have := ho1.lt k hk; omega), by have := hgr.size; simp at this; omega, fun b hbl hne => (hgr.block b (by simp; omega) (fun e => hne e.symm)).trans ((tu1 W _).block b hbl)⟩
  · rw [List.length_append, List.flatMap_append, List.flatMap_cons, List.flatMap_nil, List.append_nil]
    exact hown
  · rcases List.mem_append.1 hu with hu | hu
    · exact hok u hu
    · rw [List.mem_singleton.1 hu]; exact ht
theorem wpList_append_MvR {ops : Array Oper} {rest : List Oper} {o : Oper} {a : Act} {Q : Exit → Act → World → Prop} {W : World} {cells : Array Value} (hgd : o.guard = none) (s x : Operand)
    (ho : o.op = .call { callee := .builtin .append, args := #[s, x], argTypes := #[52, 52] }) (base : Nat) (v : Value) (l : List MoveL) (t : MvR) (hc : cells = (encMvR t).toArray)
    (hs : a.eval s = v) {g : Nat} (hx : a.eval x = .slice (some ⟨g, 0, none⟩) 1 1) (hg : g = W.heap.size) (hB : MvOwn W base v l) (ht : t.s.size ≤ maxLen) (hb : base ≤ W.heap.size) (hlen : l.length ≤ 1000000)
    (h : ∀ v' w', MvOwn w' base v' (l ++ [moveR t]) → Below base W w' → Keeps v W w' → wpList Try.prog ops Q rest (a.put o.dst v') w') : wpList Try.prog ops Q (o :: rest) a (W.alloc (.cells cells 40)) := by
  subst hc hg
  obtain ⟨v', w', hrun, hown, hbel, hk⟩ := hB.add t hb ht hlen o.type
  exact wpList_append_lx hgd s x _ ho _ _ _ hs hx hrun (h v' w' hown (hbel base (Nat.le_refl _) W (Below.refl _ _)) hk)
theorem MvOwn.sees {w : World} {base : Nat} {v : Value} {l : List MoveL} (h : MvOwn w base v l) (hl : l.length ≤ 1000000) : ∃ a c, v = .slice a l.length c ∧ Movs w w.heap.size a l.length l ∧ l.length ≤ c ∧ c ≤ maxLen := by
  obtain ⟨bs, h, hbl, hok⟩ := h
  have hlen : bs.length = l.length := by rw [← hbl, List.length_map]
  have hlt := h.lt
  rcases h.2 with ⟨h0, h1⟩ | ⟨g, cap, cur, rfl, hbase, hh, h1, h2, h3, h4⟩
  · have hz : l = [] := List.eq_nil_of_length_eq_zero h1
    subst hz
    exact ⟨none, 0, h0, Movs.zero _ _ _, Nat.le_refl _, Nat.zero_le _⟩
  · refine ⟨_, cap, rfl, ⟨rfl, by omega, fun _ => ⟨g, 0, rfl, (hlt g rfl).2, fun j x hj => ?_⟩⟩, h1, h2⟩
    have hj' : j < l.length := (List.getElem?_eq_some_iff.1 hj).1
    have hb' := List.getElem?_eq_getElem (l := bs) (i := j) (by omega)
    have hx : x = moveR (bs[j]'(by omega)) := by
      rw [← hbl, List.getElem?_map, hb'] at hj
      exact (Option.some.inj hj).symm
    refine ⟨bs[j]'(by omega), fun i hi => ?_, hx.symm, hok _ (List.getElem_mem (by omega : j < bs.length))⟩
    rw [cell_of_row w g _ cur 40 (0, 0) hh]
    have : (cur.toList.take (l.length * 3))[j * 3 + i]? = (bs.flatMap encMvR)[j * 3 + i]? := by rw [h4]
    rw [List.getElem?_take, if_pos (by omega)] at this
    rw [Nat.zero_add, ← Array.getElem?_toList, this]
    exact flatMvR_at bs j _ hb' i hi

/- Steps. -/
structure SpR where
  k : Int
  r : Int
  s : ByteArray
  q : Nat
  x : Int
def encSpR (t : SpR) : List Value := [.int .i64 t.k, .int .i64 t.r, .string t.s, .int .i64 (t.q : Int), .int .i64 t.x]
def stepR (t : SpR) : StepL := ⟨⟨t.k, t.r, t.s.toList⟩, t.q, t.x⟩
/-- The slice with this address and length reads as these. -/
def Stps (w : World) (bound : Nat) (a : Option Addr) (n : Nat) (l : List StepL) : Prop :=
  l.length = n ∧ n ≤ 9223372036854775807 ∧ (0 < n → ∃ b off, a = some ⟨b, off, none⟩ ∧ b < bound ∧ ∀ (j : Nat) (x : StepL), l[j]? = some x → ∃ t : SpR,
    (∀ i, i < 5 → w.cell? ⟨b, off + j * 5 + i, none⟩ = (encSpR t)[i]?) ∧ stepR t = x ∧ t.s.size ≤ maxLen)
section
variable {w w' : World} {bound bound' : Nat} {a : Option Addr} {n : Nat} {l : List StepL}
theorem Stps.keep (h : Stps w bound a n l) (hk : ∀ p : Addr, p.block < bound → w'.cell? p = w.cell? p) : Stps w' bound a n l :=
  ⟨h.1, h.2.1, fun hn => by
    obtain ⟨b, off, e, hb, hc⟩ := h.2.2 hn
    refine ⟨b, off, e, hb, fun j x hj => ?_⟩
    obtain ⟨t, c, h1⟩ := hc j x hj
    exact ⟨t, fun i hi => (hk _ hb).trans (c i hi), h1⟩⟩
theorem Stps.below (h : Stps w bound a n l) (hb : Below bound w w') : Stps w' bound a n l := h.keep fun _ hp => hb.cell hp
theorem Stps.more (h : Stps w bound a n l) (hb : bound ≤ bound') : Stps w bound' a n l :=
  ⟨h.1, h.2.1, fun hn => by
    obtain ⟨b, off, e, hlt, hc⟩ := h.2.2 hn
    exact ⟨b, off, e, by omega, hc⟩⟩
theorem Stps.zero (w : World) (bound : Nat) (a : Option Addr) : Stps w bound a 0 [] := ⟨rfl, by omega, fun h => absurd h (Nat.lt_irrefl 0)⟩
theorem Stps.on {W W' : World} {a : Option Addr} {n : Nat} {l : List StepL} (h : Stps W W.heap.size a n l) (hb : Below W.heap.size W W') : Stps W' W'.heap.size a n l := (h.below hb).more hb.size
theorem Stps.at_ (h : Stps w bound a n l) {k : Nat} (hk : k < n) : ∃ (b off : Nat) (t : SpR), a = some ⟨b, off, none⟩ ∧ b < bound ∧ l[k]? = some (stepR t) ∧
    (∀ i, i < 5 → w.cell? ⟨b, off + k * 5 + i, none⟩ = (encSpR t)[i]?) ∧ t.s.size ≤ maxLen := by
  obtain ⟨b, off, e, hb, hc⟩ := h.2.2 (by omega)
  have hk' : k < l.length := by rw [h.1]; exact hk
  obtain ⟨t, c, h1, h3⟩ := hc k _ (List.getElem?_eq_getElem hk')
  exact ⟨b, off, t, e, hb, by rw [List.getElem?_eq_getElem hk', h1], c, h3⟩
end
/-- The slice v, which the call made, holds just these. -/
def SpOwn (w : World) (base : Nat) (v : Value) (l : List StepL) : Prop := ∃ ts : List SpR, w.ownsRow base 92 5 v l.length (ts.flatMap encSpR) ∧ ts.map stepR = l ∧ ∀ t ∈ ts, t.s.size ≤ maxLen
theorem flatSpR_at : ∀ (l : List SpR) (j : Nat) (t : SpR), l[j]? = some t → ∀ i, i < 5 → (l.flatMap encSpR)[j * 5 + i]? = (encSpR t)[i]? := by
  intro l
  induction l with
  | nil => intro j t h; cases h
  | cons x l ih =>
    intro j t h i hi
    rw [List.flatMap_cons]
    cases j with
    | zero =>
      injection h with h
      subst h
      rw [Nat.zero_mul, Nat.zero_add, List.getElem?_append_left hi]
    | succ j =>
      have e : (j + 1) * 5 + i = 5 + (j * 5 + i) := by omega
      rw [e, List.getElem?_append_right (by show 5 ≤ _; omega)]
      show (l.flatMap encSpR)[5 + (j * 5 + i) - 5]? = _
      rw [Nat.add_sub_cancel_left]
      exact ih j t h i hi
theorem SpOwn.zero (w : World) (base : Nat) : SpOwn w base (.slice none 0 0) [] := ⟨[], World.ownsRow_nil w base 92 5, rfl, by simp⟩
theorem SpOwn.lt {w : World} {base : Nat} {v : Value} {l : List StepL} (h : SpOwn w base v l) : ∀ b, v.ownBlock = some b → base ≤ b ∧ b < w.heap.size := by
  obtain ⟨ts, h, _⟩ := h
  exact h.lt
theorem SpOwn.stay {w w' : World} {base : Nat} {v : Value} {l : List StepL} (h : SpOwn w base v l) (hk : ∀ b, v.ownBlock = some b → w'.heap[b]? = w.heap[b]?) : SpOwn w' base v l := by
  obtain ⟨ts, h, h2⟩ := h
  refine ⟨ts, ⟨h.1, ?_⟩, h2⟩
  rcases h.2 with h0 | ⟨g, cap, cur, rfl, hbase, hh, h1, h2, h3, h4⟩
  · exact .inl h0
  · exact .inr ⟨g, cap, cur, rfl, hbase, (hk g rfl).trans hh, h1, h2, h3, h4⟩
theorem SpOwn.kept {w w' : World} {base : Nat} {v : Value} {l : List StepL} (h : SpOwn w base v l) (hb : Below w.heap.size w w') : SpOwn w' base v l := h.stay fun b e => hb.block b (h.lt b e).2
theorem SpOwn.low {w : World} {base base' : Nat} {v : Value} {l : List StepL} (h : SpOwn w base v l) (hb : base' ≤ base) : SpOwn w base' v l := by
  obtain ⟨ts, h, h2⟩ := h
  refine ⟨ts, ⟨h.1, ?_⟩, h2⟩
  rcases h.2 with h0 | ⟨g, cap, cur, rfl, hbase, hh, h1, h2, h3, h4⟩
  · exact .inl h0
  · exact .inr ⟨g, cap, cur, rfl, Nat.le_trans hb hbase, hh, h1, h2, h3, h4⟩
theorem SpOwn.other {w : World} {base : Nat} {v : Value} {l : List StepL} (h : SpOwn w base v l) {g : Nat} {cs : Array Value} {e : TypeId} {fr : Nat × Nat} (hg : w.heap[g]? = some (.cells cs e fr)) (he : e ≠ 92) : v.ownBlock ≠ some g := fun e1 => by
  obtain ⟨ts, h, _⟩ := h
  rcases h.2 with ⟨rfl, _⟩ | ⟨b, cap, cur, rfl, _, hh, _⟩
  · cases e1
  · obtain rfl := Option.some.inj e1
    rw [hh] at hg
    exact he (Obj.cells.inj (Option.some.inj hg)).2.1.symm
theorem info_SpR : (Try.prog.info? 92).map (fun i => (i.zero, i.size, i.bytes)) = some (some (.agg #[.int .i64 0, .int .i64 0, .string ⟨#[]⟩, .int .i64 0, .int .i64 0]), 5, 48) := by kernel_rfl
theorem SpOwn.add {W : World} {base : Nat} {v : Value} {l : List StepL} (t : SpR) (h : SpOwn W base v l) (hb : base ≤ W.heap.size) (ht : t.s.size ≤ maxLen) (hlen : l.length ≤ 1000000) (ty : Nat) :
    ∃ v' w', (Builtin.append_ #[89, 89] ty #[v, .slice (some ⟨W.heap.size, 0, none⟩) 1 1]).run Try.prog (W.alloc (.cells (encSpR t).toArray 92)) = .ok v' w' ∧ SpOwn w' base v' (l ++ [stepR t]) ∧ (∀ B, B ≤ base → ∀ w0, Below B w0 W → Below B w0 w') ∧ Keeps v W w' := by
  obtain ⟨i0, hi0, hzz⟩ := Option.map_eq_some_iff.1 info_SpR
  simp only [Prod.mk.injEq] at hzz
  obtain ⟨hz, hs1, hb1⟩ := hzz
  obtain ⟨bs, ho, hl, hok⟩ := h
  have ho1 : (W.alloc (.cells (encSpR t).toArray 92)).ownsRow base 92 5 v l.length (bs.flatMap encSpR) := World.ownsRow.alloc ho _
  obtain ⟨v', w', hrun, hown, hgr, _, hat⟩ := run_append_own_at (P := Try.prog) (W.alloc (.cells (encSpR t).toArray 92)) base 89 ty 92 i0 _ 5 48 Try.underlying89 hi0 hz hs1 hb1 rfl (by omega) v l.length (bs.flatMap encSpR) ho1
    ⟨W.heap.size, 0, none⟩ 1 1 (encSpR t) rfl
    (fun j u hu => by
      rw [Go.WideShapes.add_plain, cell_of_row _ _ _ _ _ _ (heap_alloc_new W _), Nat.zero_add, List.getElem?_toArray, ← hu])
    (fun u hu => by
      unfold encSpR at hu
      simp only [List.mem_cons, List.not_mem_nil, or_false] at hu
      rcases hu with rfl | rfl | rfl | rfl | rfl <;> rfl) (by unfold maxLen; omega) (by omega) (by simp; omega)
  refine ⟨v', w', hrun, ⟨bs ++ [t], ?_, by rw [List.map_append, hl]; rfl, fun u hu => ?_⟩, fun B hB w0 hw0 => (hw0.alloc (by omega) _).grown hgr (by simp; omega) (fun k hk => by have := ho1.lt k hk; omega), by have := hgr.size; simp at this; omega, fun b hbl hne => (hgr.block b (by simp; omega) (fun e => hne e.symm)).trans ((tu1 W _).block b hbl)⟩
  · rw [List.length_append, List.flatMap_append, List.flatMap_cons, List.flatMap_nil, List.append_nil]
    exact hown
  · rcases List.mem_append.1 hu with hu | hu
    · exact hok u hu
    · rw [List.mem_singleton.1 hu]; exact ht
theorem wpList_append_SpR {ops : Array Oper} {rest : List Oper} {o : Oper} {a : Act} {Q : Exit → Act → World → Prop} {W : World} {cells : Array Value} (hgd : o.guard = none) (s x : Operand)
    (ho : o.op = .call { callee := .builtin .append, args := #[s, x], argTypes := #[89, 89] }) (base : Nat) (v : Value) (l : List StepL) (t : SpR) (hc : cells = (encSpR t).toArray)
    (hs : a.eval s = v) {g : Nat} (hx : a.eval x = .slice (some ⟨g, 0, none⟩) 1 1) (hg : g = W.heap.size) (hB : SpOwn W base v l) (ht : t.s.size ≤ maxLen) (hb : base ≤ W.heap.size) (hlen : l.length ≤ 1000000)
    (h : ∀ v' w', SpOwn w' base v' (l ++ [stepR t]) → Below base W w' → Keeps v W w' → wpList Try.prog ops Q rest (a.put o.dst v') w') : wpList Try.prog ops Q (o :: rest) a (W.alloc (.cells cells 92)) := by
  subst hc hg
  obtain ⟨v', w', hrun, hown, hbel, hk⟩ := hB.add t hb ht hlen o.type
  exact wpList_append_lx hgd s x _ ho _ _ _ hs hx hrun (h v' w' hown (hbel base (Nat.le_refl _) W (Below.refl _ _)) hk)
theorem SpOwn.sees {w : World} {base : Nat} {v : Value} {l : List StepL} (h : SpOwn w base v l) (hl : l.length ≤ 1000000) : ∃ a c, v = .slice a l.length c ∧ Stps w w.heap.size a l.length l ∧ l.length ≤ c ∧ c ≤ maxLen := by
  obtain ⟨bs, h, hbl, hok⟩ := h
  have hlen : bs.length = l.length := by rw [← hbl, List.length_map]
  have hlt := h.lt
  rcases h.2 with ⟨h0, h1⟩ | ⟨g, cap, cur, rfl, hbase, hh, h1, h2, h3, h4⟩
  · have hz : l = [] := List.eq_nil_of_length_eq_zero h1
    subst hz
    exact ⟨none, 0, h0, Stps.zero _ _ _, Nat.le_refl _, Nat.zero_le _⟩
  · refine ⟨_, cap, rfl, ⟨rfl, by omega, fun _ => ⟨g, 0, rfl, (hlt g rfl).2, fun j x hj => ?_⟩⟩, h1, h2⟩
    have hj' : j < l.length := (List.getElem?_eq_some_iff.1 hj).1
    have hb' := List.getElem?_eq_getElem (l := bs) (i := j) (by omega)
    have hx : x = stepR (bs[j]'(by omega)) := by
      rw [← hbl, List.getElem?_map, hb'] at hj
      exact (Option.some.inj hj).symm
    refine ⟨bs[j]'(by omega), fun i hi => ?_, hx.symm, hok _ (List.getElem_mem (by omega : j < bs.length))⟩
    rw [cell_of_row w g _ cur 92 (0, 0) hh]
    have : (cur.toList.take (l.length * 5))[j * 5 + i]? = (bs.flatMap encSpR)[j * 5 + i]? := by rw [h4]
    rw [List.getElem?_take, if_pos (by omega)] at this
    rw [Nat.zero_add, ← Array.getElem?_toList, this]
    exact flatSpR_at bs j _ hb' i hi

/-- A queue in memory: its letters can be read where there are not too many. -/
def Queue (w : World) (bound : Nat) (a : Option Addr) (n : Nat) (l : List Str) : Prop := l.length = n ∧ n ≤ 9223372036854775807 ∧ (n ≤ 1000000 → Strs w bound a n l)
theorem Queue.keep {w w' : World} {bound n : Nat} {a : Option Addr} {l : List Str} (h : Queue w bound a n l) (hk : ∀ p : Addr, p.block < bound → w'.cell? p = w.cell? p) : Queue w' bound a n l := ⟨h.1, h.2.1, fun hn => (h.2.2 hn).keep hk⟩
theorem Queue.more {w : World} {bound bound' n : Nat} {a : Option Addr} {l : List Str} (h : Queue w bound a n l) (hb : bound ≤ bound') : Queue w bound' a n l := ⟨h.1, h.2.1, fun hn => (h.2.2 hn).more hb⟩
theorem Queue.of_strs {w : World} {bound n : Nat} {a : Option Addr} {l : List Str} (h : Strs w bound a n l) : Queue w bound a n l := ⟨h.1, by have := h.2.1; omega, fun _ => h⟩
/-- The slice with this address and length reads as these queues. -/
def Mails (w : World) (bound : Nat) (a : Option Addr) (n : Nat) (ls : List (List Str)) : Prop :=
  ls.length = n ∧ n ≤ 9223372036854775807 ∧ (0 < n → ∃ b off, a = some ⟨b, off, none⟩ ∧ b < bound ∧ ∀ (j : Nat) (l : List Str), ls[j]? = some l → ∃ (aa : Option Addr) (an ac : Nat),
    w.cell? ⟨b, off + j, none⟩ = some (.slice aa an ac) ∧ Queue w bound aa an l)
section
variable {w w' : World} {bound bound' : Nat} {a : Option Addr} {n : Nat} {ls : List (List Str)}
theorem Mails.keep (h : Mails w bound a n ls) (hk : ∀ p : Addr, p.block < bound → w'.cell? p = w.cell? p) : Mails w' bound a n ls :=
  ⟨h.1, h.2.1, fun hn => by
    obtain ⟨b, off, e, hb, hc⟩ := h.2.2 hn
    refine ⟨b, off, e, hb, fun j l hj => ?_⟩
    obtain ⟨aa, an, ac, c, h1⟩ := hc j l hj
    exact ⟨aa, an, ac, (hk _ hb).trans c, h1.keep hk⟩⟩
theorem Mails.below (h : Mails w bound a n ls) (hb : Below bound w w') : Mails w' bound a n ls := h.keep fun _ hp => hb.cell hp
theorem Mails.more (h : Mails w bound a n ls) (hb : bound ≤ bound') : Mails w bound' a n ls :=
  ⟨h.1, h.2.1, fun hn => by
    obtain ⟨b, off, e, hlt, hc⟩ := h.2.2 hn
    refine ⟨b, off, e, by omega, fun j l hj => ?_⟩
    obtain ⟨aa, an, ac, c, h1⟩ := hc j l hj
    exact ⟨aa, an, ac, c, h1.more hb⟩⟩
theorem Mails.zero (w : World) (bound : Nat) (a : Option Addr) : Mails w bound a 0 [] := ⟨rfl, by omega, fun h => absurd h (Nat.lt_irrefl 0)⟩
theorem Mails.at_ (h : Mails w bound a n ls) {k : Nat} (hk : k < n) : ∃ (b off : Nat) (aa : Option Addr) (an ac : Nat) (l : List Str), a = some ⟨b, off, none⟩ ∧ b < bound ∧ ls[k]? = some l ∧ w.cell? ⟨b, off + k, none⟩ = some (.slice aa an ac) ∧ Queue w bound aa an l := by
  obtain ⟨b, off, e, hb, hc⟩ := h.2.2 (by omega)
  have hk' : k < ls.length := by rw [h.1]; exact hk
  obtain ⟨aa, an, ac, c, h1⟩ := hc k _ (List.getElem?_eq_getElem hk')
  exact ⟨b, off, aa, an, ac, ls[k], e, hb, List.getElem?_eq_getElem hk', c, h1⟩
end
abbrev stgV (a : Option Addr) (n c : Nat) (ma : Option Addr) (mn mc : Nat) : Value := .agg #[.slice a n c, .slice ma mn mc]
abbrev moveV (k r : Int) (s : ByteArray) : Value := .agg #[.int .i64 k, .int .i64 r, .string s]
abbrev stepV (k r : Int) (s : ByteArray) (q : Nat) (x : Int) : Value := .agg #[.int .i64 k, .int .i64 r, .string s, .int .i64 (q : Int), .int .i64 x]
/-- A stage in memory. -/
structure StIn (W : World) (bound : Nat) (a : Option Addr) (n : Nat) (ma : Option Addr) (mn : Nat) (s : StgL) : Prop where
  at_ : Nums W bound a n s.at_
  mail : Mails W bound ma mn s.mail
section
variable {W W' : World} {bound bound' : Nat} {a ma : Option Addr} {n mn : Nat} {s : StgL}
theorem StIn.below (h : StIn W bound a n ma mn s) (hb : Below bound W W') : StIn W' bound a n ma mn s := ⟨h.at_.below hb, h.mail.below hb⟩
theorem StIn.more (h : StIn W bound a n ma mn s) (hb : bound ≤ bound') : StIn W bound' a n ma mn s := ⟨h.at_.more hb, h.mail.more hb⟩
theorem StIn.on {a ma : Option Addr} {n mn : Nat} {s : StgL} (h : StIn W W.heap.size a n ma mn s) (hb : Below W.heap.size W W') : StIn W' W'.heap.size a n ma mn s := (h.below hb).more hb.size
end
/-- A box holds this stage. -/
def SBox (W : World) (g : Nat) (a : Option Addr) (n c : Nat) (ma : Option Addr) (mn mc : Nat) : Prop := W.heap[g]? = some (.cells #[.slice a n c, .slice ma mn mc] 38 (0, 0))
section
variable {W W' : World} {g : Nat} {a ma : Option Addr} {n c mn mc : Nat}
theorem SBox.lt (h : SBox W g a n c ma mn mc) : g < W.heap.size := (Array.getElem?_eq_some_iff.1 h).1
theorem SBox.stay (h : SBox W g a n c ma mn mc) (hb : W'.heap[g]? = W.heap[g]?) : SBox W' g a n c ma mn mc := hb.trans h
theorem SBox.on (h : SBox W g a n c ma mn mc) {B : Nat} (hb : Below B W W') (hB : g < B) : SBox W' g a n c ma mn mc := (hb.block g hB).trans h
theorem SBox.cells (h : SBox W g a n c ma mn mc) : W.cell? ⟨g, 0, none⟩ = some (.slice a n c) ∧ W.cell? ⟨g, 1, none⟩ = some (.slice ma mn mc) :=
  ⟨by rw [cell_of_row _ _ _ _ _ _ h]; rfl, by rw [cell_of_row _ _ _ _ _ _ h]; rfl⟩
theorem SBox.thaw (h : SBox W g a n c ma mn mc) (j : Nat) : W.frozen? ⟨g, j, none⟩ = false := by unfold World.frozen?; rw [show W.heap[g]? = _ from h]; simp
end
end Go.Proofs.Ytgefhgcpnfbigaa

/- Contracts of slices.ContainsFunc, Contains, Index, of stage's closures, validRoles, validAt, validMail, queueOf, passes. -/
namespace Go.Proofs.Ytgefhgcpnfbigaa
open Go.RowKit Go.Sort

def idxP {α : Type} (p : α → Bool) : List α → Nat → Int
  | [], _ => -1
  | x :: l, i => if p x = true then (i : Int) else idxP p l (i + 1)
theorem idxP_at {α : Type} {p : α → Bool} {l : List α} {k : Nat} {x : α} (h : l[k]? = some x) : idxP p (l.drop k) k = if p x = true then (k : Int) else idxP p (l.drop (k + 1)) (k + 1) := by
  obtain ⟨h1, e⟩ := List.getElem?_eq_some_iff.1 h
  rw [List.drop_eq_getElem_cons h1, e, idxP]
theorem idxP_any {α : Type} (p : α → Bool) : ∀ (l : List α) (i : Nat), decide (0 ≤ idxP p l i) = l.any p
  | [], i => rfl
  | x :: l, i => by
    rw [idxP, List.any_cons]
    cases h : p x with
    | true => rw [if_pos rfl]; simp
    | false => rw [if_neg (by simp), idxP_any p l (i + 1)]; rfl
/-- The value, called on a number of the list, says what p says. -/
def AsksI (w : World) (f : Value) (p : Int → Bool) (l : List Int) : Prop :=
  ∃ (k : FuncId) (caps : Array Value), f = .func (.func k) #[] caps ∧ Enters Try.prog k ∧ ∀ (W : World), Below w.heap.size w W → ∀ x ∈ l, Calls Try.prog k (#[.int .i64 x] ++ caps) W fun e w' => e = .returned (.bool (p x)) ∧ Below W.heap.size W w'
def AsksQ (w : World) (f : Value) (p : List Str → Bool) (ls : List (List Str)) : Prop :=
  ∃ (k : FuncId) (caps : Array Value), f = .func (.func k) #[] caps ∧ Enters Try.prog k ∧ ∀ (W : World), Below w.heap.size w W → ∀ (a : Option Addr) (n c : Nat) (l : List Str), l ∈ ls → Queue W w.heap.size a n l → Calls Try.prog k (#[.slice a n c] ++ caps) W fun e w' => e = .returned (.bool (p l)) ∧ Below W.heap.size W w'
set_option maxHeartbeats 2000000 in
theorem idxFI_any (f : Value) (p : Int → Bool) (a : Option Addr) (n c : Nat) (l : List Int) (w : World) (hf : AsksI w f p l) (h : Nums w w.heap.size a n l) :
    Calls Try.prog 92 #[.slice a n c, f] w fun e w' => e = .returned (.int .i64 (idxP p l 0)) ∧ Below w.heap.size w w' := by
  obtain ⟨fk, caps, rfl, hen, hask⟩ := hf
  have HASK := Lib.hid hask
  have hl := Lib.hid h.1
  have hs := h.2.1
  have HN := Lib.hid h
  have hcf : ∀ (args : Array Value) (w : World), (callFunc fk args).run Try.prog w = .ok (.enter fk args) w := hen
  clear h hask
  go_enter Try.func92, Try.ntmps92
  go_wp2_with fail
  go_loopw [8, 5] (fun v _ wr => ∃ k : Nat, k ≤ n ∧ v = .int .i64 k ∧ Hid (Below w.heap.size w wr) ∧ Hid (idxP p l 0 = idxP p (l.drop k) k)) (fun v _ _ => n - (intOf v).toNat)
  case atStart => exact ⟨0, Nat.zero_le _, rfl, Lib.hid (Below.refl _ _), Lib.hid rfl⟩
  case round =>
    obtain ⟨k, hk, rfl, HW, HF⟩ := hrel
    by_cases hkn : k < n
    · obtain ⟨b, off, x, rfl, hbb, hx, q0⟩ := (HN.out.below HW.out).at_ hkn
      have hfd := HF.out.trans (idxP_at (p := p) hx)
      have i1 : (k : Int) < (n : Int) := by omega
      have i2 : (0 : Int) ≤ (k : Int) := by omega
      have cf := HASK.out wr HW.out x (List.mem_of_getElem? hx)
      cases he : p x
      · rw [he] at cf hfd
        rw [if_neg (by simp)] at hfd
        have HCF := Lib.hid cf
        have HZ := Lib.hid hfd
        clear cf hfd he hx
        go_wp2_with (first
          | ((with_reducible refine HCF.out.mono ?_)
             rintro e w1 ⟨rfl, hb1⟩
             have HB1 := Lib.hid (below_on HW.out hb1)
             clear hb1)
          | fail)
        go_roundw
        case rel => exact ⟨k + 1, by omega, by go_num, HB1, HZ⟩
        case measure => simp [intOf]; omega
      · rw [he] at cf hfd
        rw [if_pos rfl] at hfd
        have HCF := Lib.hid cf
        have HZ := Lib.hid hfd
        clear cf hfd he hx
        go_wp2_with (first
          | ((with_reducible refine HCF.out.mono ?_)
             rintro e w1 ⟨rfl, hb1⟩
             have HB1 := Lib.hid (below_on HW.out hb1)
             clear hb1)
          | fail)
        go_ret
        exact ⟨ret_int (by rw [HZ.out]), HB1.out⟩
    · obtain rfl : k = n := by omega
      have d1 : decide ((k : Int) < (k : Int)) = false := decide_eq_false (by omega)
      have HZ := Lib.hid (show idxP p l 0 = -1 by rw [HF.out, List.drop_of_length_le (by rw [hl.out]; exact Nat.le_refl _)]; rfl)
      go_wp2_with fail
      go_ret
      exact ⟨ret_int (by rw [HZ.out]), HW.out⟩
theorem contFI_any (f : Value) (p : Int → Bool) (a : Option Addr) (n c : Nat) (l : List Int) (w : World) (hf : AsksI w f p l) (h : Nums w w.heap.size a n l) :
    Calls Try.prog 74 #[.slice a n c, f] w fun e w' => e = .returned (.bool (l.any p)) ∧ Below w.heap.size w w' := by
  have CX := Lib.hid (idxFI_any f p a n c l w hf h)
  have HZ := Lib.hid (idxP_any p l 0)
  generalize idxP p l 0 = r at CX HZ
  clear h hf
  go_enter Try.func74, Try.ntmps74
  go_wp2_with (first
    | (go_at_call 92; (with_reducible refine CX.out.mono ?_)
       rintro e w1 ⟨rfl, hb1⟩
       have HB1 := Lib.hid hb1
       clear hb1)
    | fail)
  go_ret
  exact ⟨ret_bool HZ.out, HB1.out⟩
set_option maxHeartbeats 2000000 in
theorem idxFQ_any (f : Value) (p : List Str → Bool) (a : Option Addr) (n c : Nat) (l : List (List Str)) (w : World) (hf : AsksQ w f p l) (h : Mails w w.heap.size a n l) :
    Calls Try.prog 93 #[.slice a n c, f] w fun e w' => e = .returned (.int .i64 (idxP p l 0)) ∧ Below w.heap.size w w' := by
  obtain ⟨fk, caps, rfl, hen, hask⟩ := hf
  have HASK := Lib.hid hask
  have hl := Lib.hid h.1
  have hs := h.2.1
  have HN := Lib.hid h
  have hcf : ∀ (args : Array Value) (w : World), (callFunc fk args).run Try.prog w = .ok (.enter fk args) w := hen
  clear h hask
  go_enter Try.func93, Try.ntmps93
  go_wp2_with fail
  go_loopw [8, 5] (fun v _ wr => ∃ k : Nat, k ≤ n ∧ v = .int .i64 k ∧ Hid (Below w.heap.size w wr) ∧ Hid (idxP p l 0 = idxP p (l.drop k) k)) (fun v _ _ => n - (intOf v).toNat)
  case atStart => exact ⟨0, Nat.zero_le _, rfl, Lib.hid (Below.refl _ _), Lib.hid rfl⟩
  case round =>
    obtain ⟨k, hk, rfl, HW, HF⟩ := hrel
    by_cases hkn : k < n
    · obtain ⟨b, off, aa, an, ac, x, rfl, hbb, hx, q0, hq⟩ := (HN.out.below HW.out).at_ hkn
      have hfd := HF.out.trans (idxP_at (p := p) hx)
      have i1 : (k : Int) < (n : Int) := by omega
      have i2 : (0 : Int) ≤ (k : Int) := by omega
      have cf := HASK.out wr HW.out aa an ac x (List.mem_of_getElem? hx) hq
      cases he : p x
      · rw [he] at cf hfd
        rw [if_neg (by simp)] at hfd
        have HCF := Lib.hid cf
        have HZ := Lib.hid hfd
        clear cf hfd he hx hq
        go_wp2_with (first
          | ((with_reducible refine HCF.out.mono ?_)
             rintro e w1 ⟨rfl, hb1⟩
             have HB1 := Lib.hid (below_on HW.out hb1)
             clear hb1)
          | fail)
        go_roundw
        case rel => exact ⟨k + 1, by omega, by go_num, HB1, HZ⟩
        case measure => simp [intOf]; omega
      · rw [he] at cf hfd
        rw [if_pos rfl] at hfd
        have HCF := Lib.hid cf
        have HZ := Lib.hid hfd
        clear cf hfd he hx hq
        go_wp2_with (first
          | ((with_reducible refine HCF.out.mono ?_)
             rintro e w1 ⟨rfl, hb1⟩
             have HB1 := Lib.hid (below_on HW.out hb1)
             clear hb1)
          | fail)
        go_ret
        exact ⟨ret_int (by rw [HZ.out]), HB1.out⟩
    · obtain rfl : k = n := by omega
      have d1 : decide ((k : Int) < (k : Int)) = false := decide_eq_false (by omega)
      have HZ := Lib.hid (show idxP p l 0 = -1 by rw [HF.out, List.drop_of_length_le (by rw [hl.out]; exact Nat.le_refl _)]; rfl)
      go_wp2_with fail
      go_ret
      exact ⟨ret_int (by rw [HZ.out]), HW.out⟩
theorem contFQ_any (f : Value) (p : List Str → Bool) (a : Option Addr) (n c : Nat) (l : List (List Str)) (w : World) (hf : AsksQ w f p l) (h : Mails w w.heap.size a n l) :
    Calls Try.prog 75 #[.slice a n c, f] w fun e w' => e = .returned (.bool (l.any p)) ∧ Below w.heap.size w w' := by
  have CX := Lib.hid (idxFQ_any f p a n c l w hf h)
  have HZ := Lib.hid (idxP_any p l 0)
  generalize idxP p l 0 = r at CX HZ
  clear h hf
  go_enter Try.func75, Try.ntmps75
  go_wp2_with (first
    | (go_at_call 93; (with_reducible refine CX.out.mono ?_)
       rintro e w1 ⟨rfl, hb1⟩
       have HB1 := Lib.hid hb1
       clear hb1)
    | fail)
  go_ret
  exact ⟨ret_bool HZ.out, HB1.out⟩
theorem cont13_any (a : Option Addr) (n c : Nat) (ss : List Str) (x : ByteArray) (w : World) (bound : Nat) (h : Strs w bound a n ss) :
    Calls Try.prog 83 #[.slice a n c, .string x] w fun e w' => e = .returned (.bool (hasS ss x.toList)) ∧ w = w' := by
  rcases Nat.eq_zero_or_pos n with h0 | h0
  · have hs : ss = [] := List.eq_nil_of_length_eq_zero (by rw [h.1, h0])
    subst h0 hs
    refine (Try.slices_Contains_string_empty a c x w).mono ?_
    rintro e w' ⟨rfl, rfl⟩
    exact ⟨rfl, rfl⟩
  · obtain ⟨b, off, rfl, _, hc⟩ := h.cells h0
    have hl : (ss.map baS).take n = ss.map baS := List.take_of_length_le (by simp [h.1])
    have HC := Try.slices_Contains_string b off n c (ss.map baS) x w (by simp [h.1]) (by have := h.2.1; omega) hc
    rw [hl, contains_eq] at HC
    refine HC.mono ?_
    rintro e w' ⟨rfl, rfl⟩
    exact ⟨rfl, rfl⟩
theorem index13_any (a : Option Addr) (n c : Nat) (ss : List Str) (x : ByteArray) (w : World) (bound : Nat) (h : Strs w bound a n ss) :
    Calls Try.prog 98 #[.slice a n c, .string x] w fun e w' => e = .returned (.int .i64 (plc ss x.toList)) ∧ w = w' := by
  rcases Nat.eq_zero_or_pos n with h0 | h0
  · have hs : ss = [] := List.eq_nil_of_length_eq_zero (by rw [h.1, h0])
    subst h0 hs
    refine (Try.slices_Index_string_empty a c x w).mono ?_
    rintro e w' ⟨rfl, rfl⟩
    exact ⟨rfl, rfl⟩
  · obtain ⟨b, off, rfl, _, hc⟩ := h.cells h0
    have hl : (ss.map baS).take n = ss.map baS := List.take_of_length_le (by simp [h.1])
    have HC := Try.slices_Index_string b off n c (ss.map baS) x w (by simp [h.1]) (by have := h.2.1; omega) hc
    rw [hl, show Lib.idxOfS (ss.map baS) x = plc ss x.toList from idx_plc x ss 0] at HC
    refine HC.mono ?_
    rintro e w' ⟨rfl, rfl⟩
    exact ⟨rfl, rfl⟩
theorem nodup_step {l : List Str} {k : Nat} {x : Str} (h : (l.take k).Nodup) (hx : l[k]? = some x) (hn : hasS (l.take k) x = false) : (l.take (k + 1)).Nodup := by
  rw [List.take_add_one, hx, Option.toList_some, List.nodup_append]
  refine ⟨h, by simp, fun a ha b hb => ?_⟩
  rw [List.mem_singleton.1 hb]
  rintro rfl
  unfold hasS at hn
  rw [List.contains_iff_mem.2 ha] at hn
  cases hn
theorem nodup_bad {l : List Str} {k : Nat} {x : Str} (hx : l[k]? = some x) (hn : hasS (l.take k) x = true) : ¬ l.Nodup := fun h => by
  unfold hasS at hn
  rw [List.contains_iff_mem] at hn
  obtain ⟨j, hj, e⟩ := List.mem_iff_getElem.1 hn
  have hjk : j < k := by rw [List.length_take] at hj; omega
  obtain ⟨h1, e1⟩ := List.getElem?_eq_some_iff.1 hx
  rw [List.getElem_take] at e
  have := List.pairwise_iff_getElem.1 h j k (by omega) h1 hjk
  exact this (by rw [e, e1])
set_option maxHeartbeats 4000000 in
set_option maxRecDepth 20000 in
theorem validRoles_any (a : Option Addr) (n c : Nat) (rs : List Str) (w : World) (hc : n ≤ c) (h : Strs w w.heap.size a n rs) :
    Calls Try.prog 63 #[.slice a n c] w fun e w' => e = .returned (.bool (rolesS rs)) ∧ Below w.heap.size w w' := by
  have hsz := h.2.1
  have HLEN := Lib.hid h.1
  have HN := Lib.hid h
  obtain ⟨R, hR⟩ : ∃ R, R = rolesS rs := ⟨_, rfl⟩
  rw [← hR]
  have HR := Lib.hid (show R = (decide (1 ≤ n) && decide (n ≤ 5) && decide rs.Nodup) by rw [hR]; unfold rolesS; rw [h.1])
  clear h hR
  by_cases h1 : (n : Int) < 1
  · have d1 : decide ((n : Int) < 1) = true := decide_eq_true h1
    have HZ := Lib.hid (show R = false by rw [HR.out, decide_eq_false (show ¬ 1 ≤ n by omega)]; rfl)
    clear h1
    go_enter Try.func63, Try.ntmps63
    go_wp2_with fail
    go_ret
    exact ⟨ret_bool HZ.out.symm, Below.refl _ _⟩
  have d1 : decide ((n : Int) < 1) = false := decide_eq_false h1
  by_cases h5 : (5 : Int) < (n : Int)
  · have d2 : decide ((5 : Int) < (n : Int)) = true := decide_eq_true h5
    have HZ := Lib.hid (show R = false by rw [HR.out, decide_eq_false (show ¬ n ≤ 5 by omega), Bool.and_false]; rfl)
    clear h1 h5
    go_enter Try.func63, Try.ntmps63
    go_wp2_with fail
    go_ret
    exact ⟨ret_bool HZ.out.symm, Below.refl _ _⟩
  have d2 : decide ((5 : Int) < (n : Int)) = false := decide_eq_false h5
  have HR2 := Lib.hid (show R = decide rs.Nodup by rw [HR.out, decide_eq_true (show 1 ≤ n by omega), decide_eq_true (show n ≤ 5 by omega)]; rfl)
  clear h1 h5
  go_enter Try.func63, Try.ntmps63
  go_wp2_with fail
  clear d1 d2
  go_loopw [15] (fun i wr => ∃ k : Nat, k ≤ n ∧ i = .int .i64 k ∧ Hid ((rs.take k).Nodup) ∧ Hid (Below w.heap.size w wr)) (fun i _ => n - (intOf i).toNat)
  case atStart => exact ⟨0, Nat.zero_le _, rfl, Lib.hid (by simp), Lib.hid (Below.refl _ _)⟩
  case round =>
    obtain ⟨k, hk, rfl, HP, HBr⟩ := hrel
    by_cases hlt : k < n
    · obtain ⟨b, off, x, rfl, hbb, hx, q0⟩ : ∃ b off x, a = some ⟨b, off, none⟩ ∧ b < w.heap.size ∧ rs[k]? = some x.toList ∧ wr.cell? ⟨b, off + k, none⟩ = some (.string x) := by
        obtain ⟨b, off, e, hb, hc1⟩ := (HN.out.below HBr.out).at_ hlt
        exact ⟨b, off, baS (rs.getD k []), e, hb, by rw [baS_toList, List.getD_eq_getElem?_getD, List.getElem?_eq_getElem (by rw [HLEN.out]; exact hlt)]; rfl, hc1⟩
      have i1 : (k : Int) < (n : Int) := by omega
      have i2 : (0 : Int) ≤ (k : Int) := by omega
      have i3 : (k : Int) ≤ (c : Int) := by omega
      have CC := Lib.hid (cont13_any (some ⟨b, off, none⟩) k c (rs.take k) x wr w.heap.size ((HN.out.below HBr.out).cut (by omega)))
      cases he : hasS (rs.take k) x.toList
      · rw [he] at CC
        have HP2 := Lib.hid (nodup_step HP.out hx he)
        clear he hx
        go_wp2_with (first
          | (go_at_call 83; (with_reducible refine CC.out.mono ?_); rintro e w1 ⟨rfl, rfl⟩)
          | fail)
        go_roundw
        case rel => exact ⟨k + 1, by omega, by go_num, HP2, HBr⟩
        case measure => simp [intOf]; omega
      · rw [he] at CC
        have HZ := Lib.hid (show R = false by rw [HR2.out]; exact decide_eq_false (nodup_bad hx he))
        clear he hx
        go_wp2_with (first
          | (go_at_call 83; (with_reducible refine CC.out.mono ?_); rintro e w1 ⟨rfl, rfl⟩)
          | fail)
        go_ret
        exact ⟨ret_bool HZ.out.symm, HBr.out⟩
    · obtain rfl : k = n := by omega
      have d1 : decide ((k : Int) < (k : Int)) = false := decide_eq_false (by omega)
      have HZ := Lib.hid (show R = true by
        have := HP.out
        rw [List.take_of_length_le (by rw [HLEN.out]; exact Nat.le_refl _)] at this
        rw [HR2.out]
        exact decide_eq_true this)
      go_wp2_with fail
      go_ret
      exact ⟨ret_bool HZ.out.symm, HBr.out⟩
end Go.Proofs.Ytgefhgcpnfbigaa

/- Contracts of stage's validAt, validMail, queueOf, passes, May, Over. -/
namespace Go.Proofs.Ytgefhgcpnfbigaa
open Go.RowKit Go.Sort

theorem bookC {W : World} {g : Nat} {na sa ra : Option Addr} {nn nc sn sc rn rc : Nat} (h : BBox W g na nn nc sa sn sc ra rn rc) : W.cell? ⟨g, 0, none⟩ = some (.slice na nn nc) := h.cells.1
theorem asks_node (na : Option Addr) (nn nc : Nat) (sa : Option Addr) (sn sc : Nat) (ra : Option Addr) (rn rc : Nat) (w : World) (g : Nat) (l : List Int) (h : BBox w g na nn nc sa sn sc ra rn rc) :
    AsksI w (.func (.func 89) #[] #[.pointer (some ⟨g, 0, none⟩)]) (fun k => !inBk nn k) l := by
  refine ⟨_, _, rfl, enters_of Try.func89 (by kernel_rfl) rfl, fun W hW x _ => ?_⟩
  show Calls Try.prog 89 #[.int .i64 x, .pointer (some ⟨g, 0, none⟩)] W _
  have b0 := bookC (h.on hW h.lt)
  cases h1 : decide (x < 0)
  · cases h2 : decide ((nn : Int) ≤ x)
    · have HZ := Lib.hid (show (!inBk nn x) = false by
        rw [decide_eq_false_iff_not] at h1 h2
        unfold inBk
        rw [decide_eq_true (show 0 ≤ x by omega), decide_eq_true (show x < (nn : Int) by omega)]; rfl)
      clear h
      go_enter Try.func89, Try.ntmps89
      go_wp2_with fail
      go_ret
      exact ⟨ret_bool HZ.out.symm, Below.refl _ _⟩
    · have HZ := Lib.hid (show (!inBk nn x) = true by
        rw [decide_eq_true_eq] at h2
        unfold inBk
        rw [decide_eq_false (show ¬ x < (nn : Int) by omega), Bool.and_false]; rfl)
      clear h
      go_enter Try.func89, Try.ntmps89
      go_wp2_with fail
      go_ret
      exact ⟨ret_bool HZ.out.symm, Below.refl _ _⟩
  · have HZ := Lib.hid (show (!inBk nn x) = true by
      rw [decide_eq_true_eq] at h1
      unfold inBk
      rw [decide_eq_false (show ¬ 0 ≤ x by omega)]; rfl)
    clear h
    go_enter Try.func89, Try.ntmps89
    go_wp2_with fail
    go_ret
    exact ⟨ret_bool HZ.out.symm, Below.refl _ _⟩
theorem not_any {α : Type} (p : α → Bool) (l : List α) : (!l.any fun x => !p x) = l.all p := by
  induction l with
  | nil => rfl
  | cons x l ih => rw [List.any_cons, List.all_cons, ← ih]; cases p x <;> simp
set_option maxHeartbeats 4000000 in
theorem validAt_any (na : Option Addr) (nn nc : Nat) (sa : Option Addr) (sn sc : Nat) (ra : Option Addr) (rn rc : Nat) (pa : Option Addr) (pn pc : Nat) (rs : List Str) (a : Option Addr) (n c : Nat) (l : List Int) (w : World) (hr : rs.length = pn) (h : Nums w w.heap.size a n l) :
    Calls Try.prog 68 #[bkV na nn nc sa sn sc ra rn rc, .slice pa pn pc, .slice a n c] w fun e w' => e = .returned (.bool (atS nn rs l)) ∧ Below w.heap.size w w' := by
  have HB := Lib.hid (tu1 w (.cells #[.slice na nn nc, .slice sa sn sc, .slice ra rn rc] 26))
  have hmf : ∀ (fn : Fn) (first cap : Array Value) (w : World), (Instr.makeFunc fn first cap).run Try.prog w = .ok (.func fn first cap) w := fun _ _ _ _ => rfl
  obtain ⟨R, hR⟩ : ∃ R, R = atS nn rs l := ⟨_, rfl⟩
  rw [← hR]
  have HR := Lib.hid (show R = (decide (n = pn) && l.all (inBk nn)) by rw [hR]; unfold atS; rw [hr, h.1])
  clear hR
  by_cases hn : n = pn
  · subst hn
    have CC := Lib.hid (contFI_any _ _ a n c l _ (asks_node na nn nc sa sn sc ra rn rc _ w.heap.size l (show BBox (w.alloc (.cells #[.slice na nn nc, .slice sa sn sc, .slice ra rn rc] 26)) w.heap.size na nn nc sa sn sc ra rn rc from heap_alloc_new w _)) ((h.below HB.out).more HB.out.size))
    have HZ := Lib.hid (show R = !(l.any fun x => !inBk nn x) by rw [HR.out, decide_eq_true rfl, not_any]; rfl)
    generalize (l.any fun x => !inBk nn x) = z at CC HZ
    have e1 : ((n : Int) == (n : Int)) = true := by simp
    clear h
    go_enter Try.func68, Try.ntmps68
    go_wp2_with (first
      | (go_at_call 74; (with_reducible refine CC.out.mono ?_)
         rintro e w1 ⟨rfl, hb1⟩
         have HB1 := Lib.hid (below_on HB.out hb1)
         clear hb1)
      | fail)
    go_ret
    exact ⟨ret_bool HZ.out.symm, HB1.out⟩
  · have e1 : ((n : Int) == (pn : Int)) = false := by rw [beq_eq_false_iff_ne]; omega
    have HZ := Lib.hid (show R = false by rw [HR.out, decide_eq_false hn]; rfl)
    clear h
    go_enter Try.func68, Try.ntmps68
    go_wp2_with fail
    go_ret
    exact ⟨ret_bool HZ.out.symm, HB.out⟩
theorem asks_long (w : World) (ls : List (List Str)) : AsksQ w (.func (.func 90) #[] #[]) (fun q => !decide (q.length ≤ 64)) ls := by
  refine ⟨_, _, rfl, enters_of Try.func90 (by kernel_rfl) rfl, fun W hW a n c l _ hq => ?_⟩
  show Calls Try.prog 90 #[.slice a n c] W _
  have HZ := Lib.hid (show (!decide (l.length ≤ 64)) = decide ((64 : Int) < (n : Int)) by
    rw [hq.1, ← decide_not]
    exact decide_eq_decide.2 (by omega))
  clear hq
  go_enter Try.func90, Try.ntmps90
  go_wp2_with fail
  go_ret
  exact ⟨ret_bool HZ.out.symm, Below.refl _ _⟩
theorem asks_some (w : World) (ls : List (List Str)) : AsksQ w (.func (.func 73) #[] #[]) (fun q => !q.isEmpty) ls := by
  refine ⟨_, _, rfl, enters_of Try.func73 (by kernel_rfl) rfl, fun W hW a n c l _ hq => ?_⟩
  show Calls Try.prog 73 #[.slice a n c] W _
  have HZ := Lib.hid (show (!l.isEmpty) = decide (0 < n) by
    have := hq.1
    cases l with
    | nil => simp at this; subst this; simp
    | cons x l => simp at this; rw [decide_eq_true (show 0 < n by omega)]; rfl)
  clear hq
  go_enter Try.func73, Try.ntmps73
  go_wp2_with fail
  go_ret
  exact ⟨ret_bool HZ.out.symm, Below.refl _ _⟩
set_option maxHeartbeats 4000000 in
theorem validMail_any (pa : Option Addr) (pn pc : Nat) (rs : List Str) (a : Option Addr) (n c : Nat) (l : List (List Str)) (w : World) (hr : rs.length = pn) (h5 : pn ≤ 5) (h : Mails w w.heap.size a n l) :
    Calls Try.prog 69 #[.slice pa pn pc, .slice a n c] w fun e w' => e = .returned (.bool (mailS rs l)) ∧ Below w.heap.size w w' := by
  obtain ⟨R, hR⟩ : ∃ R, R = mailS rs l := ⟨_, rfl⟩
  rw [← hR]
  have HR := Lib.hid (show R = (decide (n = pn * pn) && l.all fun q => decide (q.length ≤ 64)) by rw [hR]; unfold mailS; rw [hr, h.1])
  clear hR
  have h25 : pn * pn ≤ 25 := Nat.mul_le_mul h5 h5
  obtain ⟨m, hm⟩ : ∃ m, m = pn * pn := ⟨_, rfl⟩
  rw [← hm] at HR h25
  have hw : IntKind.i64.wrap ((pn : Int) * (pn : Int)) = (m : Int) := by
    rw [show (pn : Int) * (pn : Int) = (m : Int) by rw [hm]; simp]
    simp [IntKind.wrap, IntKind.bits, IntKind.signed]; omega
  clear hm
  by_cases hn : n = m
  · subst hn
    have CC := Lib.hid (contFQ_any _ _ a n c l w (asks_long w l) h)
    have HZ := Lib.hid (show R = !(l.any fun q => !decide (q.length ≤ 64)) by rw [HR.out, decide_eq_true rfl, not_any (fun q : List Str => decide (q.length ≤ 64))]; rfl)
    generalize (l.any fun q => !decide (q.length ≤ 64)) = z at CC HZ
    have e1 : ((n : Int) == (n : Int)) = true := by simp
    clear h
    go_enter Try.func69, Try.ntmps69
    go_wp2_with (first
      | (go_at_call 75; (with_reducible refine CC.out.mono ?_)
         rintro e w1 ⟨rfl, hb1⟩
         have HB1 := Lib.hid hb1
         clear hb1)
      | fail)
    go_ret
    exact ⟨ret_bool HZ.out.symm, HB1.out⟩
  · have e1 : ((n : Int) == (m : Int)) = false := by rw [beq_eq_false_iff_ne]; omega
    have HZ := Lib.hid (show R = false by rw [HR.out, decide_eq_false hn]; rfl)
    clear h
    go_enter Try.func69, Try.ntmps69
    go_wp2_with fail
    go_ret
    exact ⟨ret_bool HZ.out.symm, Below.refl _ _⟩
theorem passes_any (k : Int) (a : Option Addr) (n c : Nat) (l : List Str) (x : ByteArray) (w : World) (bound : Nat) (h : Strs w bound a n l) :
    Calls Try.prog 85 #[.int .i64 k, .slice a n c, .string x] w fun e w' => e = .returned (.bool (passS k l x.toList)) ∧ w = w' := by
  obtain ⟨R, hR⟩ : ∃ R, R = passS k l x.toList := ⟨_, rfl⟩
  rw [← hR]
  have hsz := h.2.1
  by_cases hk : k = 1
  · subst hk
    have HZ := Lib.hid (show R = decide ((n : Int) < 64) by
      rw [hR]
      unfold passS
      rw [if_pos rfl, h.1]
      exact decide_eq_decide.2 (by omega))
    clear h hR
    go_enter Try.func85, Try.ntmps85
    go_wp2_with fail
    go_ret
    exact ⟨ret_bool HZ.out.symm, rfl⟩
  · have hk1 : ((k : Int) == 1) = false := by rw [beq_eq_false_iff_ne]; exact hk
    cases l with
    | nil =>
      have hz : R = false := by rw [hR]; unfold passS; rw [if_neg hk]
      clear hR hk
      obtain rfl : n = 0 := h.1.symm
      have HZ := Lib.hid (show R = false from hz)
      clear h hz
      go_enter Try.func85, Try.ntmps85
      go_wp2_with fail
      go_ret
      exact ⟨ret_bool HZ.out.symm, rfl⟩
    | cons y l =>
      have hz : R = decide (y = x.toList) := by rw [hR]; unfold passS; rw [if_neg hk]
      clear hR hk
      have hn : 0 < n := by have := h.1; simp at this; omega
      obtain ⟨b, off, rfl, hb, hc⟩ := h.at_ hn
      rw [show (y :: l).getD 0 [] = y from rfl, Nat.add_zero] at hc
      obtain ⟨z, hz2⟩ : ∃ z, z = baS y := ⟨_, rfl⟩
      replace hc : w.cell? ⟨b, off, none⟩ = some (Value.string z) := by rw [hz2]; exact hc
      have HZ := Lib.hid (show R = (z.toList == x.toList) by
        rw [hz, hz2, baS_toList]
        rw [Bool.eq_iff_iff, decide_eq_true_eq, beq_iff_eq])
      have d1 : decide ((0 : Int) < (n : Int)) = true := decide_eq_true (by omega)
      have i1 : (0 : Int) < (n : Int) := by omega
      clear h hz hz2
      cases hq : z.toList == x.toList
      · rw [hq] at HZ
        go_enter Try.func85, Try.ntmps85
        go_wp2_with fail
        go_ret
        exact ⟨ret_bool HZ.out.symm, rfl⟩
      · rw [hq] at HZ
        go_enter Try.func85, Try.ntmps85
        go_wp2_with fail
        go_ret
        exact ⟨ret_bool HZ.out.symm, rfl⟩
/-- What queueOf answers. -/
def queueR (x : Option Nat) : Int × Bool := match x with | none => (0, false) | some q => ((q : Int), true)
set_option maxHeartbeats 4000000 in
theorem queueOf_any (pa : Option Addr) (pn pc : Nat) (rs : List Str) (role : Nat) (kd : Int) (s : ByteArray) (aa : Option Addr) (an ac : Nat) (w : World) (h5 : pn ≤ 5) (hr : role ≤ 5) (h : Strs w w.heap.size pa pn rs) :
    Calls Try.prog 84 #[.slice pa pn pc, .int .i64 (role : Int), .agg #[.int .i64 kd, .string s, .slice aa an ac]] w fun e w' => e = .returned (.tuple #[.int .i64 (queueR (queueS rs role kd s.toList)).1, .bool (queueR (queueS rs role kd s.toList)).2]) ∧ Below w.heap.size w w' := by
  have HB := Lib.hid (tu1 w (.cells #[.int .i64 kd, .string s, .slice aa an ac] 62))
  have CI := Lib.hid (index13_any pa pn pc rs s (w.alloc (.cells #[.int .i64 kd, .string s, .slice aa an ac] 62)) w.heap.size (h.below HB.out))
  obtain ⟨X, hX⟩ : ∃ X, X = queueS rs role kd s.toList := ⟨_, rfl⟩
  rw [← hX]
  have hrl := h.1
  have hq : X = if plc rs s.toList < 0 ∨ plc rs s.toList = (role : Int) then none else if kd = 1 then some (role * pn + (plc rs s.toList).toNat) else if kd = 2 then some ((plc rs s.toList).toNat * pn + role) else none := by rw [hX]; unfold queueS; rw [hrl]
  have hlt : 0 ≤ plc rs s.toList → (plc rs s.toList).toNat < pn := fun h0 => by have := plc_lt h0; omega
  generalize plc rs s.toList = P at CI hq hlt
  clear h hX hrl
  by_cases h0 : P < 0
  · have d1 : decide (P < 0) = true := decide_eq_true h0
    rw [if_pos (.inl h0)] at hq
    subst hq
    clear hlt h0
    go_enter Try.func84, Try.ntmps84
    go_wp2_with (first
      | (go_at_call 98; (with_reducible refine CI.out.mono ?_); rintro e w1 ⟨rfl, rfl⟩)
      | fail)
    refine bodyPost_ret (v := .tuple #[.int .i64 0, .bool false]) (by simp [results, go_sem]) rfl ?_
    exact ⟨rfl, HB.out⟩
  have d1 : decide (P < 0) = false := decide_eq_false h0
  have hpl := hlt (by omega)
  obtain ⟨p, rfl⟩ : ∃ p : Nat, P = (p : Int) := ⟨P.toNat, by omega⟩
  rw [Int.toNat_natCast] at hq hpl
  clear hlt
  by_cases he : p = role
  · subst he
    rw [if_pos (.inr rfl)] at hq
    subst hq
    have e1 : ((p : Int) == (p : Int)) = true := by simp
    clear h0
    go_enter Try.func84, Try.ntmps84
    go_wp2_with (first
      | (go_at_call 98; (with_reducible refine CI.out.mono ?_); rintro e w1 ⟨rfl, rfl⟩)
      | fail)
    refine bodyPost_ret (v := .tuple #[.int .i64 0, .bool false]) (by simp [results, go_sem]) rfl ?_
    exact ⟨rfl, HB.out⟩
  have e1 : ((p : Int) == (role : Int)) = false := by rw [beq_eq_false_iff_ne]; omega
  rw [if_neg (by omega)] at hq
  have m1 : role * pn ≤ 25 := Nat.mul_le_mul hr h5
  have m2 : p * pn ≤ 25 := Nat.mul_le_mul (show p ≤ 5 by omega) h5
  by_cases k1 : kd = 1
  · subst k1
    rw [if_pos rfl] at hq
    subst hq
    have w1 : IntKind.i64.wrap ((role : Int) * (pn : Int)) = ((role * pn : Nat) : Int) := by
      rw [show (role : Int) * (pn : Int) = ((role * pn : Nat) : Int) by simp]
      exact IntWalk.i64_in _ ⟨by omega, by omega⟩
    have w2 : IntKind.i64.wrap (((role * pn : Nat) : Int) + (p : Int)) = ((role * pn + p : Nat) : Int) := by
      rw [show ((role * pn : Nat) : Int) + (p : Int) = ((role * pn + p : Nat) : Int) by simp]
      exact IntWalk.i64_in _ ⟨by omega, by omega⟩
    obtain ⟨m, hm⟩ : ∃ m, m = role * pn := ⟨_, rfl⟩
    rw [← hm] at w1 w2 ⊢
    clear hm h0 he
    go_enter Try.func84, Try.ntmps84
    go_wp2_with (first
      | (go_at_call 98; (with_reducible refine CI.out.mono ?_); rintro e w1 ⟨rfl, rfl⟩)
      | fail)
    refine bodyPost_ret (v := .tuple #[.int .i64 ((m + p : Nat) : Int), .bool true]) (by simp [results, go_sem]) rfl ?_
    exact ⟨rfl, HB.out⟩
  rw [if_neg k1] at hq
  have f1 : ((kd : Int) == 1) = false := by rw [beq_eq_false_iff_ne]; exact k1
  by_cases k2 : kd = 2
  · subst k2
    rw [if_pos rfl] at hq
    subst hq
    have w1 : IntKind.i64.wrap ((p : Int) * (pn : Int)) = ((p * pn : Nat) : Int) := by
      rw [show (p : Int) * (pn : Int) = ((p * pn : Nat) : Int) by simp]
      exact IntWalk.i64_in _ ⟨by omega, by omega⟩
    have w2 : IntKind.i64.wrap (((p * pn : Nat) : Int) + (role : Int)) = ((p * pn + role : Nat) : Int) := by
      rw [show ((p * pn : Nat) : Int) + (role : Int) = ((p * pn + role : Nat) : Int) by simp]
      exact IntWalk.i64_in _ ⟨by omega, by omega⟩
    obtain ⟨m, hm⟩ : ∃ m, m = p * pn := ⟨_, rfl⟩
    rw [← hm] at w1 w2 ⊢
    clear hm h0 he k1
    go_enter Try.func84, Try.ntmps84
    go_wp2_with (first
      | (go_at_call 98; (with_reducible refine CI.out.mono ?_); rintro e w1 ⟨rfl, rfl⟩)
      | fail)
    refine bodyPost_ret (v := .tuple #[.int .i64 ((m + role : Nat) : Int), .bool true]) (by simp [results, go_sem]) rfl ?_
    exact ⟨rfl, HB.out⟩
  · rw [if_neg k2] at hq
    subst hq
    have f2 : ((kd : Int) == 2) = false := by rw [beq_eq_false_iff_ne]; exact k2
    clear h0 he k1 k2
    go_enter Try.func84, Try.ntmps84
    go_wp2_with (first
      | (go_at_call 98; (with_reducible refine CI.out.mono ?_); rintro e w1 ⟨rfl, rfl⟩)
      | fail)
    refine bodyPost_ret (v := .tuple #[.int .i64 0, .bool false]) (by simp [results, go_sem]) rfl ?_
    exact ⟨rfl, HB.out⟩
end Go.Proofs.Ytgefhgcpnfbigaa

/- Contracts of stage.May and stage.Over. -/
namespace Go.Proofs.Ytgefhgcpnfbigaa
open Go.RowKit Go.Sort

/-- A book, roles and a stage in memory. -/
structure StArg (W : World) (na : Option Addr) (nn : Nat) (sa : Option Addr) (sn : Nat) (ra : Option Addr) (rn : Nat) (pa : Option Addr) (pn : Nat) (a : Option Addr) (n : Nat) (ma : Option Addr) (mn : Nat) (b : BookL) (rs : List Str) (s : StgL) : Prop where
  bk : BkIn W W.heap.size na nn sa sn ra rn b
  rs : Strs W W.heap.size pa pn rs
  st : StIn W W.heap.size a n ma mn s
/-- .. with the book and the stage in boxes. -/
structure StFr (w W : World) (g h : Nat) (na : Option Addr) (nn nc : Nat) (sa : Option Addr) (sn sc : Nat) (ra : Option Addr) (rn rc : Nat) (pa : Option Addr) (pn : Nat) (a : Option Addr) (n c : Nat) (ma : Option Addr) (mn mc : Nat) (b : BookL) (rs : List Str) (s : StgL) : Prop where
  arg : StArg W na nn sa sn ra rn pa pn a n ma mn b rs s
  bbox : BBox W g na nn nc sa sn sc ra rn rc
  sbox : SBox W h a n c ma mn mc
  below : Below w.heap.size w W
section
variable {w W W' : World} {g h : Nat} {na sa ra pa a ma : Option Addr} {nn nc sn sc rn rc pn n c mn mc : Nat} {b : BookL} {rs : List Str} {s : StgL}
theorem StArg.on {W W' : World} (h : StArg W na nn sa sn ra rn pa pn a n ma mn b rs s) (hb : Below W.heap.size W W') : StArg W' na nn sa sn ra rn pa pn a n ma mn b rs s :=
  ⟨(h.bk.below hb).more hb.size, (h.rs.below hb).more hb.size, h.st.on hb⟩
theorem StFr.on (k : StFr w W g h na nn nc sa sn sc ra rn rc pa pn a n c ma mn mc b rs s) (hb : Below W.heap.size W W') : StFr w W' g h na nn nc sa sn sc ra rn rc pa pn a n c ma mn mc b rs s :=
  ⟨k.arg.on hb, k.bbox.on hb k.bbox.lt, k.sbox.on hb k.sbox.lt, k.below.trans (hb.mono k.below.size)⟩
theorem StFr.start (k : StArg w na nn sa sn ra rn pa pn a n ma mn b rs s) (nc sc rc c mc : Nat) : StFr w ((w.alloc (.cells #[.slice na nn nc, .slice sa sn sc, .slice ra rn rc] 26)).alloc (.cells #[.slice a n c, .slice ma mn mc] 38)) w.heap.size (w.heap.size + 1) na nn nc sa sn sc ra rn rc pa pn a n c ma mn mc b rs s := by
  have h1 := tu1 w (.cells #[.slice na nn nc, .slice sa sn sc, .slice ra rn rc] 26)
  have h2 := tu1 (w.alloc (.cells #[.slice na nn nc, .slice sa sn sc, .slice ra rn rc] 26)) (.cells #[.slice a n c, .slice ma mn mc] 38)
  refine ⟨(k.on h1).on h2, (h2.block _ (by simp)).trans (heap_alloc_new w _), ?_, below_on h1 h2⟩
  have := heap_alloc_new (w.alloc (.cells #[.slice na nn nc, .slice sa sn sc, .slice ra rn rc] 26)) (.cells #[.slice a n c, .slice ma mn mc] 38)
  rw [World.size_alloc] at this
  exact this
theorem StFr.cells (k : StFr w W g h na nn nc sa sn sc ra rn rc pa pn a n c ma mn mc b rs s) : (W.cell? ⟨g, 0, none⟩ = some (.slice na nn nc) ∧ W.cell? ⟨g, 1, none⟩ = some (.slice sa sn sc) ∧ W.cell? ⟨g, 2, none⟩ = some (.slice ra rn rc)) ∧ W.cell? ⟨h, 0, none⟩ = some (.slice a n c) ∧ W.cell? ⟨h, 1, none⟩ = some (.slice ma mn mc) := ⟨k.bbox.cells, k.sbox.cells⟩
end
theorem stgB_ways {b : BookL} {rs : List Str} {s : StgL} : stgB b rs s = (bookB b && rolesS rs && atS b.nodes.length rs s.at_ && mailS rs s.mail) := rfl
theorem rolesS_few {rs : List Str} (h : rolesS rs = true) : 1 ≤ rs.length ∧ rs.length ≤ 5 := by
  unfold rolesS at h
  simp only [Bool.and_eq_true, decide_eq_true_eq] at h
  exact h.1
set_option maxHeartbeats 8000000 in
theorem stMay_any (na : Option Addr) (nn nc : Nat) (sa : Option Addr) (sn sc : Nat) (ra : Option Addr) (rn rc : Nat) (pa : Option Addr) (pn pc : Nat) (a : Option Addr) (n c : Nat) (ma : Option Addr) (mn mc : Nat) (b : BookL) (rs : List Str) (s : StgL) (w : World) (hpc : pn ≤ pc) (h : StArg w na nn sa sn ra rn pa pn a n ma mn b rs s) :
    Calls Try.prog 29 #[bkV na nn nc sa sn sc ra rn rc, .slice pa pn pc, stgV a n c ma mn mc] w fun e w' => e = .returned (.bool (stgB b rs s)) ∧ Below w.heap.size w w' := by
  have hF := StFr.start h nc sc rc c mc
  obtain ⟨R, hR⟩ : ∃ R, R = stgB b rs s := ⟨_, rfl⟩
  rw [← hR]
  have hz := hR.trans stgB_ways
  rw [h.bk.nodes.1] at hz
  have HRL := Lib.hid h.rs.1
  clear h hR
  generalize hW : (w.alloc (.cells #[.slice na nn nc, .slice sa sn sc, .slice ra rn rc] 26)).alloc (.cells #[.slice a n c, .slice ma mn mc] 38) = W1 at hF
  have HF := Lib.hid hF
  obtain ⟨⟨b0, b1, b2⟩, s0, s1⟩ := hF.cells
  have CM := Lib.hid (bookMay_any na nn nc sa sn sc ra rn rc b W1 _ (Nat.le_refl _) hF.arg.bk)
  have CR := Lib.hid (fun (W : World) (hb : Below W1.heap.size W1 W) => validRoles_any pa pn pc rs W hpc (HF.out.on hb).arg.rs)
  have CA := Lib.hid (fun (W : World) (hb : Below W1.heap.size W1 W) => validAt_any na nn nc sa sn sc ra rn rc pa pn pc rs a n c s.at_ W HRL.out (HF.out.on hb).arg.st.at_)
  have CL := Lib.hid (fun (h5 : pn ≤ 5) (W : World) (hb : Below W1.heap.size W1 W) => validMail_any pa pn pc rs ma mn mc s.mail W HRL.out h5 (HF.out.on hb).arg.st.mail)
  clear hF
  cases v1 : bookB b
  · rw [v1] at CM hz
    have HZ := Lib.hid (show R = false from hz)
    clear hz v1
    subst hW
    go_enter Try.func29, Try.ntmps29
    go_wp2_with (first
      | (go_at_call 39; (with_reducible refine CM.out.mono ?_)
         rintro e w2 ⟨rfl, hb2⟩
         have HB2 := Lib.hid hb2
         clear hb2)
      | fail)
    go_ret
    exact ⟨ret_bool HZ.out.symm, (HF.out.on HB2.out).below⟩
  rw [v1] at CM hz
  cases v2 : rolesS rs
  · rw [v2] at CR hz
    have HZ := Lib.hid (show R = false from hz)
    clear hz v1 v2
    subst hW
    go_enter Try.func29, Try.ntmps29
    go_wp2_with (first
      | (go_at_call 39; (with_reducible refine CM.out.mono ?_)
         rintro e w2 ⟨rfl, hb2⟩
         have HB2 := Lib.hid hb2
         clear hb2)
      | (go_at_call 63; (with_reducible refine (CR.out _ HB2.out).mono ?_)
         rintro e w3 ⟨rfl, hb3⟩
         have HB3 := Lib.hid (below_on HB2.out hb3)
         clear hb3)
      | fail)
    go_ret
    exact ⟨ret_bool HZ.out.symm, (HF.out.on HB3.out).below⟩
  rw [v2] at CR hz
  have h5 : pn ≤ 5 := by rw [← HRL.out]; exact (rolesS_few v2).2
  have CL2 := Lib.hid (CL.out h5)
  cases v3 : atS nn rs s.at_
  · rw [v3] at CA hz
    have HZ := Lib.hid (show R = false from hz)
    clear hz v1 v2 v3
    subst hW
    go_enter Try.func29, Try.ntmps29
    go_wp2_with (first
      | (go_at_call 39; (with_reducible refine CM.out.mono ?_)
         rintro e w2 ⟨rfl, hb2⟩
         have HB2 := Lib.hid hb2
         clear hb2)
      | (go_at_call 63; (with_reducible refine (CR.out _ HB2.out).mono ?_)
         rintro e w3 ⟨rfl, hb3⟩
         have HB3 := Lib.hid (below_on HB2.out hb3)
         obtain ⟨⟨c0, c1, c2⟩, d0, d1⟩ := (HF.out.on HB3.out).cells
         clear hb3)
      | (go_at_call 68; (with_reducible refine (CA.out _ HB3.out).mono ?_)
         rintro e w4 ⟨rfl, hb4⟩
         have HB4 := Lib.hid (below_on HB3.out hb4)
         clear hb4)
      | fail)
    go_ret
    exact ⟨ret_bool HZ.out.symm, (HF.out.on HB4.out).below⟩
  · rw [v3] at CA hz
    have HZ := Lib.hid (show R = mailS rs s.mail from hz)
    clear hz v1 v2 v3
    subst hW
    go_enter Try.func29, Try.ntmps29
    go_wp2_with (first
      | (go_at_call 39; (with_reducible refine CM.out.mono ?_)
         rintro e w2 ⟨rfl, hb2⟩
         have HB2 := Lib.hid hb2
         clear hb2)
      | (go_at_call 63; (with_reducible refine (CR.out _ HB2.out).mono ?_)
         rintro e w3 ⟨rfl, hb3⟩
         have HB3 := Lib.hid (below_on HB2.out hb3)
         obtain ⟨⟨c0, c1, c2⟩, d0, d1⟩ := (HF.out.on HB3.out).cells
         clear hb3)
      | (go_at_call 68; (with_reducible refine (CA.out _ HB3.out).mono ?_)
         rintro e w4 ⟨rfl, hb4⟩
         have HB4 := Lib.hid (below_on HB3.out hb4)
         obtain ⟨⟨e0, e1, e2⟩, f0, f1⟩ := (HF.out.on HB4.out).cells
         clear hb4)
      | (go_at_call 69; (with_reducible refine (CL2.out _ HB4.out).mono ?_)
         rintro e w5 ⟨rfl, hb5⟩
         have HB5 := Lib.hid (below_on HB4.out hb5)
         clear hb5)
      | fail)
    go_ret
    exact ⟨ret_bool HZ.out.symm, (HF.out.on HB5.out).below⟩
theorem endS_at {b : BookL} {k : Int} {t : NodeL} (h : b.nodes[k.toNat]? = some t) : endS b k = decide (t.kind = 0) := by unfold endS; rw [h]
set_option maxHeartbeats 4000000 in
theorem asks_end (na : Option Addr) (nn nc : Nat) (sa : Option Addr) (sn sc : Nat) (ra : Option Addr) (rn rc : Nat) (w : World) (g : Nat) (b : BookL) (l : List Int) (h : BBox w g na nn nc sa sn sc ra rn rc) (hn : Nodes w w.heap.size na nn b.nodes) (hl : ∀ k ∈ l, 0 ≤ k ∧ k.toNat < nn) :
    AsksI w (.func (.func 72) #[] #[.pointer (some ⟨g, 0, none⟩)]) (fun k => !endS b k) l := by
  refine ⟨_, _, rfl, enters_of Try.func72 (by kernel_rfl) rfl, fun W hW x hx => ?_⟩
  show Calls Try.prog 72 #[.int .i64 x, .pointer (some ⟨g, 0, none⟩)] W _
  have hnz := hn.2.1
  obtain ⟨h0, h1⟩ := hl x hx
  obtain ⟨k, rfl⟩ : ∃ k : Nat, x = (k : Int) := ⟨x.toNat, by omega⟩
  rw [Int.toNat_natCast] at h1
  have b0 := bookC (h.on hW h.lt)
  obtain ⟨nb, no, kd, u, aa, an, ac, al, rfl, hnb, hk, ⟨q0, _, _⟩, _, _⟩ := (hn.below hW).at_ h1
  have HZ := Lib.hid (show (!endS b (k : Int)) = ((kd : Int) != 0) by
    rw [endS_at (k := (k : Int)) (by rw [Int.toNat_natCast]; exact hk)]
    show (!decide (kd = 0)) = !(kd == 0)
    congr 1)
  have i1 : (k : Int) < (nn : Int) := by omega
  have i2 : (0 : Int) ≤ (k : Int) := by omega
  clear h hn hl hk hx h0
  go_enter Try.func72, Try.ntmps72
  go_wp2_with fail
  go_ret
  exact ⟨ret_bool HZ.out.symm, Below.refl _ _⟩
set_option maxHeartbeats 8000000 in
theorem stOver_any (na : Option Addr) (nn nc : Nat) (sa : Option Addr) (sn sc : Nat) (ra : Option Addr) (rn rc : Nat) (pa : Option Addr) (pn pc : Nat) (a : Option Addr) (n c : Nat) (ma : Option Addr) (mn mc : Nat) (b : BookL) (rs : List Str) (s : StgL) (w : World) (hpc : pn ≤ pc) (h : StArg w na nn sa sn ra rn pa pn a n ma mn b rs s) :
    Calls Try.prog 34 #[bkV na nn nc sa sn sc ra rn rc, .slice pa pn pc, stgV a n c ma mn mc] w fun e w' => e = .returned (.bool (overS b rs s)) ∧ Below w.heap.size w w' := by
  have hF := StFr.start h nc sc rc c mc
  have hmf : ∀ (fn : Fn) (first cap : Array Value) (w : World), (Instr.makeFunc fn first cap).run Try.prog w = .ok (.func fn first cap) w := fun _ _ _ _ => rfl
  obtain ⟨R, hR⟩ : ∃ R, R = overS b rs s := ⟨_, rfl⟩
  rw [← hR]
  unfold overS at hR
  clear h
  generalize hW : (w.alloc (.cells #[.slice na nn nc, .slice sa sn sc, .slice ra rn rc] 26)).alloc (.cells #[.slice a n c, .slice ma mn mc] 38) = W1 at hF
  have HF := Lib.hid hF
  obtain ⟨⟨b0, b1, b2⟩, s0, s1⟩ := hF.cells
  have CM := Lib.hid (stMay_any na nn nc sa sn sc ra rn rc pa pn pc a n c ma mn mc b rs s W1 hpc hF.arg)
  clear hF
  cases v1 : stgB b rs s
  · rw [v1] at CM hR
    have HZ := Lib.hid (show R = false from hR)
    clear hR v1
    subst hW
    go_enter Try.func34, Try.ntmps34
    go_wp2_with (first
      | (go_at_call 29; (with_reducible refine CM.out.mono ?_)
         rintro e w2 ⟨rfl, hb2⟩
         have HB2 := Lib.hid hb2
         clear hb2)
      | fail)
    go_ret
    exact ⟨ret_bool HZ.out.symm, (HF.out.on HB2.out).below⟩
  rw [v1] at CM hR
  have hok := stgOk_iff.1 v1
  have hat : ∀ k ∈ s.at_, 0 ≤ k ∧ k.toNat < nn := fun k hk => by rw [← HF.out.arg.bk.nodes.1]; exact hok.at_ k hk
  have CA := Lib.hid (fun (W : World) (hb : Below W1.heap.size W1 W) => contFI_any _ _ a n c s.at_ W (asks_end na nn nc sa sn sc ra rn rc W w.heap.size b s.at_ (HF.out.on hb).bbox (HF.out.on hb).arg.bk.nodes hat) (HF.out.on hb).arg.st.at_)
  have CL := Lib.hid (fun (W : World) (hb : Below W1.heap.size W1 W) => contFQ_any _ _ ma mn mc s.mail W (asks_some W s.mail) (HF.out.on hb).arg.st.mail)
  have hna := not_any (endS b) s.at_
  have hnm := not_any List.isEmpty s.mail
  generalize (s.at_.any fun k => !endS b k) = z1 at CA hna
  generalize (s.mail.any fun q => !q.isEmpty) = z2 at CL hnm
  rw [← hna, ← hnm] at hR
  clear hok hat hna hnm v1
  cases z1
  · have HZ := Lib.hid (show R = !z2 from hR)
    clear hR
    subst hW
    go_enter Try.func34, Try.ntmps34
    go_wp2_with (first
      | (go_at_call 29; (with_reducible refine CM.out.mono ?_)
         rintro e w2 ⟨rfl, hb2⟩
         have HB2 := Lib.hid hb2
         obtain ⟨⟨c0, c1, c2⟩, d0, d1⟩ := (HF.out.on HB2.out).cells
         clear hb2)
      | (go_at_call 74; (with_reducible refine (CA.out _ HB2.out).mono ?_)
         rintro e w3 ⟨rfl, hb3⟩
         have HB3 := Lib.hid (below_on HB2.out hb3)
         obtain ⟨⟨e0, e1, e2⟩, f0, f1⟩ := (HF.out.on HB3.out).cells
         clear hb3)
      | (go_at_call 75; (with_reducible refine (CL.out _ HB3.out).mono ?_)
         rintro e w4 ⟨rfl, hb4⟩
         have HB4 := Lib.hid (below_on HB3.out hb4)
         clear hb4)
      | fail)
    go_ret
    exact ⟨ret_bool HZ.out.symm, (HF.out.on HB4.out).below⟩
  · have HZ := Lib.hid (show R = false from hR)
    clear hR
    subst hW
    go_enter Try.func34, Try.ntmps34
    go_wp2_with (first
      | (go_at_call 29; (with_reducible refine CM.out.mono ?_)
         rintro e w2 ⟨rfl, hb2⟩
         have HB2 := Lib.hid hb2
         obtain ⟨⟨c0, c1, c2⟩, d0, d1⟩ := (HF.out.on HB2.out).cells
         clear hb2)
      | (go_at_call 74; (with_reducible refine (CA.out _ HB2.out).mono ?_)
         rintro e w3 ⟨rfl, hb3⟩
         have HB3 := Lib.hid (below_on HB2.out hb3)
         obtain ⟨⟨e0, e1, e2⟩, f0, f1⟩ := (HF.out.on HB3.out).cells
         clear hb3)
      | fail)
    go_ret
    exact ⟨ret_bool HZ.out.symm, (HF.out.on HB3.out).below⟩
end Go.Proofs.Ytgefhgcpnfbigaa
