/- A protocol of two roles as a local type of the first one: plain; turns that the call makes whose arms lie in elder blocks. -/
import Derived.Test.YtpifkgkhdelaeaaGlTrimB
namespace Go.Proofs.Ytpifkgkhdelaeaa
open Go.RowKit

def asU (x : PointL) : TurnL := if x.arms.isEmpty then ⟨0, [], []⟩ else if x.src == [97] then ⟨1, x.dst, x.arms⟩ else ⟨2, x.src, x.arms⟩
theorem asU_arms (x : PointL) : (asU x).arms = x.arms := by
  unfold asU
  split
  · rename_i h
    exact (List.isEmpty_iff.1 h).symm
  · split <;> rfl
theorem armsOf_map (f : PointL → TurnL) (hf : ∀ x, (f x).arms = x.arms) (ps : List PointL) (p : Nat) : armsOf (ps.map f) p = (ps[p]?.map PointL.arms).getD [] := by
  unfold armsOf
  rw [List.getElem?_map, Option.map_map]
  cases ps[p]? with
  | none => rfl
  | some x => show (f x).arms = x.arms; exact hf x
theorem armsOf_asU (ps : List PointL) : armsOf (ps.map asU) = armsOf (ps.map asT) := funext fun p => by
  rw [armsOf_map _ asU_arms, armsOf_map _ asT_arms]
theorem reach_asU (ps : List PointL) : reachT (ps.map asU) = reachP ps := by
  unfold reachP reachT
  have e : nextsOf (ps.map asU) = nextsOf (ps.map asT) := funext fun p => by unfold nextsOf; rw [armsOf_asU]
  rw [e, List.length_map, List.length_map]
theorem walk_asU (ps : List PointL) : ∀ (ls : List Str) (p : Nat), walkT (ps.map asU) p ls = walkT (ps.map asT) p ls
  | [], _ => rfl
  | s :: r, p => by
    rw [walkT, walkT, armsOf_asU]
    cases findA (armsOf (ps.map asT) p) s with
    | none => rfl
    | some a => exact walk_asU ps r _
theorem turnOf_asU (ps : List PointL) (p : Nat) : (turnOf (ps.map asU) p).arms = (pointOf ps p).arms := by
  unfold turnOf pointOf
  rw [List.getElem?_map]
  cases ps[p]? with
  | none => rfl
  | some x => exact asU_arms x
theorem trim_asU {ps : List PointL} {k : Nat} {x : PointL} {t : TurnL} (hx : (trimP ps)[k]? = some x) (ht : (trimT (ps.map asU))[k]? = some t) : x.arms = t.arms := by
  unfold trimP at hx
  unfold trimT at ht
  rw [reach_asU] at ht
  rw [List.getElem?_map] at hx ht
  obtain ⟨p, hp, rfl⟩ := Option.map_eq_some_iff.1 hx
  rw [hp] at ht
  obtain rfl := Option.some.inj ht
  dsimp only
  rw [turnOf_asU]
theorem trim_asU_len (ps : List PointL) : (trimT (ps.map asU)).length = (trimP ps).length := by
  unfold trimT trimP
  rw [List.length_map, List.length_map, reach_asU]
theorem loc_asU {nm : Str} {roles : List Str} {ps : List PointL} (h : protB nm roles ps = true) : locB (ps.map asU) = true := by
  obtain ⟨_, hr, h1, h24, hall⟩ := protB_all h
  unfold locB
  rw [List.length_map]
  simp only [Bool.and_eq_true, decide_eq_true_eq, List.all_eq_true]
  refine ⟨⟨h1, by omega⟩, fun t ht => ?_⟩
  obtain ⟨x, hx, rfl⟩ := List.mem_map.1 ht
  have hm := (rolesB_all hr).2.2.2
  unfold asU
  split
  · rfl
  · rename_i hne
    rcases pointB_ways (hall x hx) with he | ⟨_, _, hs, hd, ha⟩
    · exact absurd (by rw [(endB_iff.1 he).2.2]; rfl) hne
    · split
      · unfold turnB
        rw [if_neg (by show ¬ ((1 : Int) = 0); decide), if_pos (by show (1 : Int) = 1 ∨ (1 : Int) = 2; decide), hm _ hd, ha]
        rfl
      · unfold turnB
        rw [if_neg (by show ¬ ((2 : Int) = 0); decide), if_pos (by show (2 : Int) = 1 ∨ (2 : Int) = 2; decide), hm _ hs, ha]
        rfl
/-- Turns of the call's own; their arms lie below a bound. -/
def UOwn (w : World) (lo base : Nat) (v : Value) (f : List TurnL) : Prop :=
  ∃ rs : List TR, w.ownsRow base 37 3 v f.length (rs.flatMap encTR) ∧ rs.length = f.length ∧ ∀ (j : Nat) (r : TR) (t : TurnL), rs[j]? = some r → f[j]? = some t → r.k = t.kind ∧ r.s.toList = t.peer ∧ r.s.size ≤ maxLen ∧ Arms w lo r.a r.n t.arms
theorem UOwn.zero (w : World) (lo base : Nat) : UOwn w lo base (.slice none 0 0) [] := ⟨[], World.ownsRow_nil w base 37 3, rfl, fun j r l h => by simp at h⟩
theorem UOwn.beside {w w' : World} {lo base g : Nat} {v : Value} {f : List TurnL} (h : UOwn w lo base v f) (hb : Beside g w w') (hg : lo ≤ g) (hg2 : g < base) (hl : lo ≤ w.heap.size) : UOwn w' lo base v f := by
  obtain ⟨rs, h, hrl, hrd⟩ := h
  have hlt := h.lt
  refine ⟨rs, ⟨h.1, ?_⟩, hrl, fun j r t hr ht => ?_⟩
  · rcases h.2 with h0 | ⟨k, cap, cur, rfl, hbase, hh, h1, h2, h3, h4⟩
    · exact .inl h0
    · refine .inr ⟨k, cap, cur, rfl, hbase, ?_, h1, h2, h3, h4⟩
      rw [hb.block k (hlt k rfl).2 (by omega)]
      exact hh
  · obtain ⟨e1, e2, e3, e4⟩ := hrd j r t hr ht
    exact ⟨e1, e2, e3, e4.keep fun p hp => hb.cell (by omega) (by omega)⟩
theorem UOwn.below {w w' : World} {lo base B : Nat} {v : Value} {f : List TurnL} (h : UOwn w lo base v f) (hb : Below B w w') (hw : w.heap.size ≤ B) (hl : lo ≤ w.heap.size) : UOwn w' lo base v f := by
  obtain ⟨rs, h, hrl, hrd⟩ := h
  have hlt := h.lt
  refine ⟨rs, ⟨h.1, ?_⟩, hrl, fun j r t hr ht => ?_⟩
  · rcases h.2 with h0 | ⟨k, cap, cur, rfl, hbase, hh, h1, h2, h3, h4⟩
    · exact .inl h0
    · refine .inr ⟨k, cap, cur, rfl, hbase, ?_, h1, h2, h3, h4⟩
      rw [hb.block k (by have := (hlt k rfl).2; omega)]
      exact hh
  · obtain ⟨e1, e2, e3, e4⟩ := hrd j r t hr ht
    exact ⟨e1, e2, e3, e4.below (hb.mono (by omega))⟩
theorem UOwn.add {W : World} {lo base : Nat} {v : Value} {f : List TurnL} {r : TR} {t : TurnL} (hB : UOwn W lo base v f) (hA : r.k = t.kind ∧ r.s.toList = t.peer ∧ r.s.size ≤ maxLen ∧ Arms W lo r.a r.n t.arms) (hlb : lo ≤ base) (hb : base ≤ W.heap.size) (hlen : f.length ≤ 1000000) (ty : Nat) :
    ∃ v' w', (Builtin.append_ #[30, 30] ty #[v, .slice (some ⟨W.heap.size, 0, none⟩) 1 1]).run Try.prog (W.alloc (.cells #[.int .i64 r.k, .string r.s, .slice r.a r.n r.c] 37)) = .ok v' w' ∧ UOwn w' lo base v' (f ++ [t]) ∧ ∀ w0, Below base w0 W → Below base w0 w' := by
  obtain ⟨i0, hi0, hzz⟩ := Option.map_eq_some_iff.1 info_turn
  simp only [Prod.mk.injEq] at hzz
  obtain ⟨hz, hs1, hb1⟩ := hzz
  obtain ⟨rs, hown, hrl, hrd⟩ := hB
  have hown1 : (W.alloc (.cells #[.int .i64 r.k, .string r.s, .slice r.a r.n r.c] 37)).ownsRow base 37 3 v f.length (rs.flatMap encTR) := World.ownsRow.alloc hown _
  obtain ⟨v', w', hrun, hown', hgr, _, hat⟩ := run_append_own_at (P := Try.prog) (W.alloc (.cells #[.int .i64 r.k, .string r.s, .slice r.a r.n r.c] 37)) base 30 ty 37 i0 _ 3 48 Try.underlying30 hi0 hz hs1 hb1 rfl (by omega) v f.length (rs.flatMap encTR) hown1
    ⟨W.heap.size, 0, none⟩ 1 1 (encTR r) rfl
    (fun j u hu => by
      rw [Go.WideShapes.add_plain, cell_of_row _ _ _ _ _ _ (heap_alloc_new W _), Nat.zero_add, ← hu]
      rw [← Array.getElem?_toList]
      rfl)
    (fun u hu => by
      unfold encTR at hu
      simp only [List.mem_cons, List.not_mem_nil, or_false] at hu
      rcases hu with rfl | rfl | rfl <;> rfl) (by unfold maxLen; omega) (by omega) (by simp; omega)
  have hbel : ∀ w0, Below base w0 W → Below base w0 w' := fun w0 hw0 => (hw0.alloc (by omega) _).grown hgr (by simp; omega) (fun k hk => by
    have := hown1.lt k hk
    omega)
  have hmove : ∀ (r : TR) (t : TurnL), (r.k = t.kind ∧ r.s.toList = t.peer ∧ r.s.size ≤ maxLen ∧ Arms W lo r.a r.n t.arms) → (r.k = t.kind ∧ r.s.toList = t.peer ∧ r.s.size ≤ maxLen ∧ Arms w' lo r.a r.n t.arms) := fun r t ⟨e1, e2, e3, e4⟩ =>
    ⟨e1, e2, e3, e4.below ((hbel W (Below.refl _ _)).mono hlb)⟩
  refine ⟨v', w', hrun, ⟨rs ++ [r], ?_, by simp [hrl], fun j r2 k hj hk => ?_⟩, hbel⟩
  · rw [List.length_append, List.flatMap_append, List.flatMap_cons, List.flatMap_nil, List.append_nil]
    exact hown'
  · rcases Nat.lt_or_ge j rs.length with hlt | hge
    · rw [List.getElem?_append_left hlt] at hj
      rw [List.getElem?_append_left (by omega)] at hk
      exact hmove _ _ (hrd j r2 k hj hk)
    · rw [List.getElem?_append_right hge] at hj
      rw [List.getElem?_append_right (by omega), ← hrl] at hk
      have h0 : j - rs.length = 0 := by
        obtain ⟨h1, _⟩ := List.getElem?_eq_some_iff.1 hj
        simpa using h1
      rw [h0] at hj hk
      obtain rfl : r = r2 := by simpa using hj
      obtain rfl : t = k := by simpa using hk
      exact hmove _ _ hA
theorem wpList_append_uturn {ops : Array Oper} {rest : List Oper} {o : Oper} {a : Act} {Q : Exit → Act → World → Prop} {W : World} {cells : Array Value} (hgd : o.guard = none) (s x : Operand)
    (ho : o.op = .call { callee := .builtin .append, args := #[s, x], argTypes := #[30, 30] }) (lo base : Nat) (v : Value) (f : List TurnL) (r : TR) (t : TurnL) (hc : cells = #[.int .i64 r.k, .string r.s, .slice r.a r.n r.c])
    (hs : a.eval s = v) {g : Nat} (hx : a.eval x = .slice (some ⟨g, 0, none⟩) 1 1) (hg : g = W.heap.size) (hB : UOwn W lo base v f) (hA : r.k = t.kind ∧ r.s.toList = t.peer ∧ r.s.size ≤ maxLen ∧ Arms W lo r.a r.n t.arms) (hlb : lo ≤ base) (hb : base ≤ W.heap.size) (hlen : f.length ≤ 1000000)
    (w0 : World) (hw : Below base w0 W)
    (h : ∀ v' w', UOwn w' lo base v' (f ++ [t]) → Below base w0 w' → wpList Try.prog ops Q rest (a.put o.dst v') w') : wpList Try.prog ops Q (o :: rest) a (W.alloc (.cells cells 37)) := by
  subst hc hg
  obtain ⟨v', w', hrun, hown, hbel⟩ := hB.add hA hlb hb hlen o.type
  exact wpList_append_lx hgd s x _ ho _ _ _ hs hx hrun (h v' w' hown (hbel w0 hw))
theorem UOwn.sees {w : World} {lo base : Nat} {v : Value} {f : List TurnL} (h : UOwn w lo base v f) (hl : f.length ≤ 1000000) (hlo : lo ≤ w.heap.size) : ∃ a c, v = .slice a f.length c ∧ Turns w w.heap.size a f.length f := by
  obtain ⟨rs, h, hrl, hrd⟩ := h
  have hlt := h.lt
  rcases h.2 with ⟨h0, h1⟩ | ⟨g, cap, cur, rfl, hbase, hh, h1, h2, h3, h4⟩
  · have hz : f = [] := List.eq_nil_of_length_eq_zero h1
    subst hz
    exact ⟨none, 0, h0, rfl, by simp, fun h => absurd h (Nat.lt_irrefl 0)⟩
  · refine ⟨_, cap, rfl, rfl, by omega, fun _ => ⟨g, 0, rfl, (hlt g rfl).2, fun j t hj => ?_⟩⟩
    have hj' : j < f.length := (List.getElem?_eq_some_iff.1 hj).1
    have hr := List.getElem?_eq_getElem (l := rs) (i := j) (by omega)
    obtain ⟨e1, e2, e3, e4⟩ := hrd j _ t hr hj
    have hcell : ∀ i, i < 3 → w.cell? ⟨g, 0 + (j * 3 + i), none⟩ = (encTR (rs[j]'(by omega)))[i]? := fun i hi => by
      rw [cell_of_row w g _ cur 37 (0, 0) hh, Nat.zero_add, ← flatT_at rs j _ hr i hi]
      have : (cur.toList.take (f.length * 3))[j * 3 + i]? = (rs.flatMap encTR)[j * 3 + i]? := by rw [h4]
      rw [List.getElem?_take, if_pos (by omega)] at this
      rw [← Array.getElem?_toList, this]
    exact ⟨_, _, _, _, ⟨by rw [← e1]; exact hcell 0 (by omega), hcell 1 (by omega), hcell 2 (by omega)⟩, e2, e3, e4.more hlo⟩
end Go.Proofs.Ytpifkgkhdelaeaa
