/- Plain: the protocol of two roles in which one follows a local type. No program stands in this text. -/
import Derived.Test.YtiofpeckcfdilaaGreatDoorMiAll
import Derived.Test.YtiofpeckcfdilaaGreatDoorGlPlains
import Derived.Test.YtiofpeckcfdilaaGreatDoorGlMakes
import Derived.Test.YtiofpeckcfdilaaGreatDoorTuMakes
import Derived.Test.YtiofpeckcfdilaaGreatDoorRef2
import Derived.Deep.RegionHeld3
namespace Go.Proofs.YtiofpeckcfdilaaGreatDoor
open Go.RowKit

def pntT (me : Str) (t : TurnL) : PointL := if t.kind = 1 then ⟨me, t.peer, t.arms⟩ else if t.kind = 2 then ⟨t.peer, me, t.arms⟩ else ⟨[], [], []⟩
def pntL (me : Str) (ts : List TurnL) : List PointL := ts.map (pntT me)
/-- The first reason why nothing is lifted. -/
def liftE (ts : List TurnL) (me : Str) : Int := if mirE ts me = 0 then (if 24 < (trimL ts).length then 1202 else 0) else mirE ts me
theorem pnt_at (me : Str) (ts : List TurnL) (p : Nat) : (pntL me ts)[p]? = (ts[p]?).map (pntT me) := by unfold pntL; rw [List.getElem?_map]
theorem pnt_len (me : Str) (ts : List TurnL) : (pntL me ts).length = ts.length := by unfold pntL; rw [List.length_map]
theorem pnt_point {n : Nat} {t : TurnL} (h : turnB n t = true) {me x : Str} (hne : x ≠ me) (hx : t.kind ≠ 0 → t.peer = x) : pointB [me, x] n (pntT me t) = true := by
  unfold pntT
  rcases turnB_arms h with ⟨h1, _, _⟩ | ⟨h1 | h1, _, h4⟩
  · rw [if_neg (by omega), if_neg (by omega)]; rfl
  · have e := hx (by omega)
    rw [if_pos h1, e]
    unfold pointB
    rw [h4, decide_eq_true (show me ≠ x from fun q => hne q.symm), decide_eq_true (show me ∈ [me, x] by simp), decide_eq_true (show x ∈ [me, x] by simp)]
    simp
  · have e := hx (by omega)
    rw [if_neg (by omega), if_pos h1, e]
    unfold pointB
    rw [h4, decide_eq_true (show x ≠ me from hne), decide_eq_true (show me ∈ [me, x] by simp), decide_eq_true (show x ∈ [me, x] by simp)]
    simp
theorem lift_valid {ts : List TurnL} (h : locB ts = true) (h24 : ts.length ≤ 24) {nm me x : Str} (hn : may nm = true) (hm : may me = true) (hmx : may x = true) (hne : x ≠ me) (hx : ∀ t ∈ ts, t.kind ≠ 0 → t.peer = x) : protB nm [me, x] (pntL me ts) = true := by
  obtain ⟨h1, _, hall⟩ := locB_one h
  unfold protB
  rw [pnt_len]
  have hr : rolesB [me, x] = true := by
    unfold rolesB
    have hnd : [me, x].Nodup := by
      simp only [List.nodup_cons, List.mem_singleton, List.not_mem_nil, not_false_eq_true, List.nodup_nil, and_true]
      exact fun q => hne q.symm
    rw [decide_eq_true hnd]
    simp [hm, hmx]
  simp only [Bool.and_eq_true, decide_eq_true_eq, List.all_eq_true]
  refine ⟨⟨⟨⟨hn, hr⟩, h1⟩, h24⟩, fun y hy => ?_⟩
  unfold pntL at hy
  obtain ⟨t, ht, rfl⟩ := List.mem_map.1 hy
  exact pnt_point (hall t ht) hne (hx t ht)
theorem pnt_arms {n : Nat} {t : TurnL} (h : turnB n t = true) (me : Str) : (pntT me t).arms = t.arms := by
  unfold pntT
  rcases turnB_arms h with ⟨h1, _, h3⟩ | ⟨h1 | h1, _, _⟩
  · rw [if_neg (by omega), if_neg (by omega), h3]
  · rw [if_pos h1]
  · rw [if_neg (by omega), if_pos h1]
theorem lift_arms {ts : List TurnL} (h : locB ts = true) (me : Str) (p : Nat) : armsOf ((pntL me ts).map asT) p = armsOf ts p := by
  unfold armsOf
  rw [List.getElem?_map, pnt_at]
  rcases hp : ts[p]? with _ | t
  · rfl
  · show (asT (pntT me t)).arms = t.arms
    rw [asT_arms]
    exact pnt_arms ((locB_one h).2.2 t (List.mem_of_getElem? hp)) me
theorem lift_walk {ts : List TurnL} (h : locB ts = true) (me : Str) : ∀ (ls : List Str) (p : Nat), walkT ((pntL me ts).map asT) p ls = walkT ts p ls
  | [], _ => rfl
  | s :: r, p => by
    rw [walkT, walkT, lift_arms h]
    rcases findA (armsOf ts p) s with _ | a
    · rfl
    · exact lift_walk h me r _
end Go.Proofs.YtiofpeckcfdilaaGreatDoor

/- Points that the call makes whose arms lie in elder blocks. -/
namespace Go.Proofs.YtiofpeckcfdilaaGreatDoor
open Go.RowKit

/-- What is laid reads as this point, and its arms lie between the bounds. -/
def QFact (w : World) (lo0 lo : Nat) (r : PR) (t : PointL) : Prop := (r.q.toList = t.src ∧ r.q.size ≤ maxLen) ∧ r.s.toList = t.dst ∧ r.s.size ≤ maxLen ∧ Arms w lo r.a r.n t.arms ∧ ∀ b off, r.a = some ⟨b, off, none⟩ → lo0 ≤ b ∧ b < lo
/-- Points of the call's own; their arms lie in blocks between two bounds. -/
def QOwn (w : World) (lo0 lo base : Nat) (v : Value) (f : List PointL) : Prop :=
  ∃ rs : List PR, w.ownsRow base 82 3 v f.length (rs.flatMap encPR) ∧ rs.length = f.length ∧ ∀ (j : Nat) (r : PR) (t : PointL), rs[j]? = some r → f[j]? = some t → QFact w lo0 lo r t
theorem QOwn.zero (w : World) (lo0 lo base : Nat) : QOwn w lo0 lo base (.slice none 0 0) [] := ⟨[], World.ownsRow_nil w base 82 3, rfl, fun j r l h => by simp at h⟩
theorem QOwn.beside {w w' : World} {lo0 lo base g : Nat} {v : Value} {f : List PointL} (h : QOwn w lo0 lo base v f) (hb : Beside g w w') (hg : g < lo0 ∨ lo ≤ g) (hg2 : g < base) (hl : lo ≤ w.heap.size) : QOwn w' lo0 lo base v f := by
  obtain ⟨rs, h, hrl, hrd⟩ := h
  have hlt := h.lt
  refine ⟨rs, ⟨h.1, ?_⟩, hrl, fun j r t hr ht => ?_⟩
  · rcases h.2 with h0 | ⟨k, cap, cur, rfl, hbase, hh, h1, h2, h3, h4⟩
    · exact .inl h0
    · refine .inr ⟨k, cap, cur, rfl, hbase, ?_, h1, h2, h3, h4⟩
      rw [hb.block k (hlt k rfl).2 (by omega)]
      exact hh
  · obtain ⟨e1, e2, e3, e4, e5⟩ := hrd j r t hr ht
    exact ⟨e1, e2, e3, e4.stay (Nat.le_refl _) (fun b off e => hb.block b (by have := (e5 b off e).2; omega) (by have := e5 b off e; omega)), e5⟩
theorem QOwn.below {w w' : World} {lo0 lo base B : Nat} {v : Value} {f : List PointL} (h : QOwn w lo0 lo base v f) (hb : Below B w w') (hw : w.heap.size ≤ B) (hl : lo ≤ w.heap.size) : QOwn w' lo0 lo base v f := by
  obtain ⟨rs, h, hrl, hrd⟩ := h
  have hlt := h.lt
  refine ⟨rs, ⟨h.1, ?_⟩, hrl, fun j r t hr ht => ?_⟩
  · rcases h.2 with h0 | ⟨k, cap, cur, rfl, hbase, hh, h1, h2, h3, h4⟩
    · exact .inl h0
    · refine .inr ⟨k, cap, cur, rfl, hbase, ?_, h1, h2, h3, h4⟩
      rw [hb.block k (by have := (hlt k rfl).2; omega)]
      exact hh
  · obtain ⟨e1, e2, e3, e4, e5⟩ := hrd j r t hr ht
    exact ⟨e1, e2, e3, e4.below (hb.mono (by omega)), e5⟩
theorem QOwn.add {W : World} {lo0 lo base : Nat} {v : Value} {f : List PointL} {r : PR} {t : PointL} (hB : QOwn W lo0 lo base v f) (hA : QFact W lo0 lo r t) (hlb : lo ≤ base) (hb : base ≤ W.heap.size) (hlen : f.length ≤ 1000000) (ty : Nat) :
    ∃ v' w', (Builtin.append_ #[35, 35] ty #[v, .slice (some ⟨W.heap.size, 0, none⟩) 1 1]).run Tryz.prog (W.alloc (.cells #[.string r.q, .string r.s, .slice r.a r.n r.c] 82)) = .ok v' w' ∧ QOwn w' lo0 lo base v' (f ++ [t]) ∧ ∀ w0, Below base w0 W → Below base w0 w' := by
  obtain ⟨i0, hi0, hzz⟩ := Option.map_eq_some_iff.1 info_point
  simp only [Prod.mk.injEq] at hzz
  obtain ⟨hz, hs1, hb1⟩ := hzz
  obtain ⟨rs, hown, hrl, hrd⟩ := hB
  have hown1 : (W.alloc (.cells #[.string r.q, .string r.s, .slice r.a r.n r.c] 82)).ownsRow base 82 3 v f.length (rs.flatMap encPR) := World.ownsRow.alloc hown _
  obtain ⟨v', w', hrun, hown', hgr, _, hat⟩ := run_append_own_at (P := Tryz.prog) (W.alloc (.cells #[.string r.q, .string r.s, .slice r.a r.n r.c] 82)) base 35 ty 82 i0 _ 3 56 Tryz.underlying35 hi0 hz hs1 hb1 rfl (by omega) v f.length (rs.flatMap encPR) hown1
    ⟨W.heap.size, 0, none⟩ 1 1 (encPR r) rfl
    (fun j u hu => by
      rw [Go.WideShapes.add_plain, cell_of_row _ _ _ _ _ _ (heap_alloc_new W _), Nat.zero_add, ← hu]
      rw [← Array.getElem?_toList]
      rfl)
    (fun u hu => by
      unfold encPR at hu
      simp only [List.mem_cons, List.not_mem_nil, or_false] at hu
      rcases hu with rfl | rfl | rfl <;> rfl) (by unfold maxLen; omega) (by omega) (by simp; omega)
  have hbel : ∀ w0, Below base w0 W → Below base w0 w' := fun w0 hw0 => (hw0.alloc (by omega) _).grown hgr (by simp; omega) (fun k hk => by
    have := hown1.lt k hk
    omega)
  have hmove : ∀ (r : PR) (t : PointL), (QFact W lo0 lo r t) → (QFact w' lo0 lo r t) := fun r t ⟨e1, e2, e3, e4, e5⟩ =>
    ⟨e1, e2, e3, e4.below ((hbel W (Below.refl _ _)).mono hlb), e5⟩
  refine ⟨v', w', hrun, ⟨rs ++ [r], ?_, by simp [hrl], fun j r2 k hj hk => ?_⟩, hbel⟩
  · rw [List.length_append, List.flatMap_append, List.flatMap_cons, List.flatMap_nil, List.append_nil]
    exact hown'
  · rcases Nat.lt_or_ge j rs.length with hlt | hge
    · rw [List.getElem?_append_left hlt] at hj
      rw [List.getElem?_append_left (by omega)] at hk
      exact hmove _ _ (hrd j r2 k hj hk)
    · rw [List.getElem?_append_right hge] at hj
      rw [List.getElem?_append_right (by omega), ← hrl] at hk
      have h0 : j - rs.length = 0 := by
        obtain ⟨h1, _⟩ := List.getElem?_eq_some_iff.1 hj
        simpa using h1
      rw [h0] at hj hk
      obtain rfl : r = r2 := by simpa using hj
      obtain rfl : t = k := by simpa using hk
      exact hmove _ _ hA
theorem wpList_append_qpoint {ops : Array Oper} {rest : List Oper} {o : Oper} {a : Act} {Q : Exit → Act → World → Prop} {W : World} {cells : Array Value} (hgd : o.guard = none) (s x : Operand)
    (ho : o.op = .call { callee := .builtin .append, args := #[s, x], argTypes := #[35, 35] }) (lo0 lo base : Nat) (v : Value) (f : List PointL) (r : PR) (t : PointL) (hc : cells = #[.string r.q, .string r.s, .slice r.a r.n r.c])
    (hs : a.eval s = v) {g : Nat} (hx : a.eval x = .slice (some ⟨g, 0, none⟩) 1 1) (hg : g = W.heap.size) (hB : QOwn W lo0 lo base v f) (hA : QFact W lo0 lo r t) (hlb : lo ≤ base) (hb : base ≤ W.heap.size) (hlen : f.length ≤ 1000000)
    (w0 : World) (hw : Below base w0 W)
    (h : ∀ v' w', QOwn w' lo0 lo base v' (f ++ [t]) → Below base w0 w' → wpList Tryz.prog ops Q rest (a.put o.dst v') w') : wpList Tryz.prog ops Q (o :: rest) a (W.alloc (.cells cells 82)) := by
  subst hc hg
  obtain ⟨v', w', hrun, hown, hbel⟩ := hB.add hA hlb hb hlen o.type
  exact wpList_append_lx hgd s x _ ho _ _ _ hs hx hrun (h v' w' hown (hbel w0 hw))
theorem QOwn.sees {w : World} {lo0 lo base : Nat} {v : Value} {f : List PointL} (h : QOwn w lo0 lo base v f) (hl : f.length ≤ 1000000) (hlo : lo ≤ w.heap.size) : ∃ a c, v = .slice a f.length c ∧ Pts w w.heap.size a f.length f := by
  obtain ⟨rs, h, hrl, hrd⟩ := h
  have hlt := h.lt
  rcases h.2 with ⟨h0, h1⟩ | ⟨g, cap, cur, rfl, hbase, hh, h1, h2, h3, h4⟩
  · have hz : f = [] := List.eq_nil_of_length_eq_zero h1
    subst hz
    exact ⟨none, 0, h0, rfl, by simp, fun h => absurd h (Nat.lt_irrefl 0)⟩
  · refine ⟨_, cap, rfl, rfl, by omega, fun _ => ⟨g, 0, rfl, (hlt g rfl).2, fun j t hj => ?_⟩⟩
    have hj' : j < f.length := (List.getElem?_eq_some_iff.1 hj).1
    have hr := List.getElem?_eq_getElem (l := rs) (i := j) (by omega)
    obtain ⟨e1, e2, e3, e4, _⟩ := hrd j _ t hr hj
    have hcell : ∀ i, i < 3 → w.cell? ⟨g, 0 + (j * 3 + i), none⟩ = (encPR (rs[j]'(by omega)))[i]? := fun i hi => by
      rw [cell_of_row w g _ cur 82 (0, 0) hh, Nat.zero_add, ← flatP_at rs j _ hr i hi]
      have : (cur.toList.take (f.length * 3))[j * 3 + i]? = (rs.flatMap encPR)[j * 3 + i]? := by rw [h4]
      rw [List.getElem?_take, if_pos (by omega)] at this
      rw [← Array.getElem?_toList, this]
    exact ⟨_, _, _, _, _, ⟨hcell 0 (by omega), hcell 1 (by omega), hcell 2 (by omega)⟩, e1.1, e2, e1.2, e3, e4.more hlo⟩
end Go.Proofs.YtiofpeckcfdilaaGreatDoor

/- Contract of mirror's Lift: its parts. -/
namespace Go.Proofs.YtiofpeckcfdilaaGreatDoor
open Go.RowKit

/-- What me and the peer do at a turn, as it is laid. -/
def pntR (me : ByteArray) (r : TR) : PR := if r.k = 1 then ⟨me, r.s, r.a, r.n, r.c⟩ else if r.k = 2 then ⟨r.s, me, r.a, r.n, r.c⟩ else ⟨⟨#[]⟩, ⟨#[]⟩, none, 0, 0⟩
theorem pntR_reads {w : World} {lo0 lo : Nat} {r : TR} {t : TurnL} {me : ByteArray} (hm : me.size ≤ maxLen) (h : VFact w lo0 lo r t) : QFact w lo0 lo (pntR me r) (pntT me.toList t) := by
  obtain ⟨h1, h4, h5, h2, h3⟩ := h
  unfold pntR pntT
  rw [h1]
  by_cases k1 : t.kind = 1
  · rw [if_pos k1, if_pos k1]
    exact ⟨⟨rfl, hm⟩, h4, h5, h2, h3⟩
  · rw [if_neg k1, if_neg k1]
    by_cases k2 : t.kind = 2
    · rw [if_pos k2, if_pos k2]
      exact ⟨⟨h4, h5⟩, rfl, hm, h2, h3⟩
    · rw [if_neg k2, if_neg k2]
      exact ⟨⟨by rw [ByteArray.toList_eq], by simp [maxLen, ByteArray.size]⟩, by rw [ByteArray.toList_eq], by simp [maxLen, ByteArray.size], Arms.zero _ _ _, fun b off e => by cases e⟩
/-- The block holds this point. -/
def QBox (W : World) (g : Nat) (q s : ByteArray) (a : Option Addr) (n c : Nat) : Prop := W.heap[g]? = some (.cells #[.string q, .string s, .slice a n c] 82 (0, 0))
theorem QBox.new (w : World) (q s : ByteArray) (a : Option Addr) (n c : Nat) : QBox (w.alloc (.cells #[.string q, .string s, .slice a n c] 82)) w.heap.size q s a n c := heap_alloc_new w _
theorem QBox.cells {W : World} {g : Nat} {q s : ByteArray} {a : Option Addr} {n c : Nat} (h : QBox W g q s a n c) : W.cell? ⟨g, 0, none⟩ = some (.string q) ∧ W.cell? ⟨g, 1, none⟩ = some (.string s) ∧ W.cell? ⟨g, 2, none⟩ = some (.slice a n c) := by
  unfold QBox at h
  refine ⟨?_, ?_, ?_⟩
  all_goals (rw [cell_of_row _ _ _ _ _ _ h]; rfl)
theorem QBox.thaw {W : World} {g : Nat} {q s : ByteArray} {a : Option Addr} {n c : Nat} (h : QBox W g q s a n c) (o : Nat) : W.frozen? ⟨g, o, none⟩ = false := by
  unfold QBox at h
  unfold World.frozen?
  rw [h]
  simp
set_option maxHeartbeats 4000000 in
theorem pointOf_any (r : TR) (me : ByteArray) (w : World) :
    Calls Tryz.prog 44 #[.agg #[.int .i64 r.k, .string r.s, .slice r.a r.n r.c], .string me] w fun e w' =>
      e = .returned (.agg #[.string (pntR me r).q, .string (pntR me r).s, .slice (pntR me r).a (pntR me r).n (pntR me r).c]) ∧ Below w.heap.size w w' := by
  obtain ⟨k, s, a, n, c⟩ := r
  by_cases k1 : k = 1
  · subst k1
    have HR := Lib.hid (show pntR me ⟨1, s, a, n, c⟩ = ⟨me, s, a, n, c⟩ from rfl)
    rw [HR.out]
    dsimp only
    go_enter Tryz.func44, Tryz.ntmps44
    go_wp2
    refine bodyPost_ret (v := .agg #[.string me, .string s, .slice a n c]) (by simp [results, go_sem]) rfl ?_
    exact ⟨rfl, below_on (tu1 w _) (tu1 _ _)⟩
  · by_cases k2 : k = 2
    · subst k2
      have HR := Lib.hid (show pntR me ⟨2, s, a, n, c⟩ = ⟨s, me, a, n, c⟩ from rfl)
      rw [HR.out]
      dsimp only
      go_enter Tryz.func44, Tryz.ntmps44
      go_wp2
      refine bodyPost_ret (v := .agg #[.string s, .string me, .slice a n c]) (by simp [results, go_sem]) rfl ?_
      exact ⟨rfl, below_on (tu1 w _) (tu1 _ _)⟩
    · have HR := Lib.hid (show pntR me ⟨k, s, a, n, c⟩ = ⟨⟨#[]⟩, ⟨#[]⟩, none, 0, 0⟩ by unfold pntR; rw [if_neg k1, if_neg k2])
      rw [HR.out]
      dsimp only
      have e1 : (k == 1) = false := beq_eq_false_iff_ne.2 k1
      have e2 : (k == 2) = false := beq_eq_false_iff_ne.2 k2
      go_enter Tryz.func44, Tryz.ntmps44
      go_wp2
      refine bodyPost_ret (v := .agg #[.string ⟨#[]⟩, .string ⟨#[]⟩, .slice none 0 0]) (by simp [results, go_sem]) rfl ?_
      exact ⟨rfl, below_on (tu1 w _) (tu1 _ _)⟩
set_option maxHeartbeats 4000000 in
theorem liftClo_any (r : TR) (me : ByteArray) (A : Nat) (w : World) (hA : w.cell? ⟨A, 0, none⟩ = some (.string me)) (hlt : A < w.heap.size) :
    Calls Tryz.prog 43 #[.agg #[.int .i64 r.k, .string r.s, .slice r.a r.n r.c], .pointer (some ⟨A, 0, none⟩)] w fun e w' =>
      e = .returned (.agg #[.string (pntR me r).q, .string (pntR me r).s, .slice (pntR me r).a (pntR me r).n (pntR me r).c]) ∧ Below w.heap.size w w' := by
  obtain ⟨q, hq⟩ : ∃ q, q = pntR me r := ⟨_, rfl⟩
  have CO := Lib.hid (fun (W : World) => pointOf_any r me W)
  rw [← hq] at CO ⊢
  clear hq
  obtain ⟨k, s, a, n, c⟩ := r
  obtain ⟨k', s', a', n', c'⟩ := q
  dsimp only at CO ⊢
  have HB0 := Lib.hid (below_on (tu1 w (.cells #[.int .i64 k, .string s, .slice a n c] 51)) (tu1 (w.alloc (.cells #[.int .i64 k, .string s, .slice a n c] 51)) (.cells #[.string ⟨#[]⟩, .string ⟨#[]⟩, .slice none 0 0] 82)))
  have hA2 := (HB0.out.cell (p := ⟨A, 0, none⟩) hlt).trans hA
  have HT0 := Lib.hid (QBox.new (w.alloc (.cells #[.int .i64 k, .string s, .slice a n c] 51)) ⟨#[]⟩ ⟨#[]⟩ none 0 0)
  rw [World.size_alloc] at HT0
  go_enter Tryz.func43, Tryz.ntmps43
  go_wp2_with (first
    | (go_at_call 44; (with_reducible refine (CO.out _).mono ?_)
       rintro e w1 ⟨rfl, hb1⟩
       have HB1 := Lib.hid (below_on HB0.out hb1)
       have HT1 := Lib.hid (show QBox w1 (w.heap.size + 1) ⟨#[]⟩ ⟨#[]⟩ none 0 0 from (hb1.block (w.heap.size + 1) (by simp)).trans HT0.out)
       obtain ⟨_, _, _⟩ := HT1.out.cells
       have f0 := HT1.out.thaw 0
       have f1 := HT1.out.thaw 1
       have f2 := HT1.out.thaw 2
       clear hb1)
    | fail)
  refine bodyPost_ret (v := .agg #[.string k', .string s', .slice a' n' c']) (by simp [results, go_sem, *]) rfl ?_
  exact ⟨rfl, ((HB1.out.setCell (by simp) _).setCell (by simp) _).setCell (by simp) _⟩
set_option maxHeartbeats 8000000 in
set_option maxRecDepth 20000 in
theorem eachP_any (a : Option Addr) (n c : Nat) (us : List TurnL) (me : ByteArray) (A : Nat) (w w0 : World) (lo0 : Nat) (h0 : TOwn w0 lo0 (.slice a n c) us) (hw0 : Below w0.heap.size w0 w) (hul : us.length = n) (hA : w.cell? ⟨A, 0, none⟩ = some (.string me)) (hlt : A < w.heap.size) (hm : me.size ≤ maxLen) (hn : n ≤ 1000) :
    Calls Tryz.prog 42 #[.slice a n c, .func (.func 43) #[] #[.pointer (some ⟨A, 0, none⟩)]] w fun e w' => (∃ v, e = .returned v ∧ QOwn w' lo0 w0.heap.size w.heap.size v (pntL me.toList us)) ∧ Below w.heap.size w w' := by
  have HN := Lib.hid h0
  have HA := Lib.hid hA
  have HLEN := Lib.hid hul
  have HW0 := Lib.hid hw0
  have hlo := hw0.size
  clear h0 hA hw0
  go_enter Tryz.func42, Tryz.ntmps42
  go_wp2
  go_loopw [5, 10] (fun o i wr => ∃ (k : Nat) (v : Value), k ≤ n ∧ i = .int .i64 k ∧ v = o ∧ Hid (QOwn wr lo0 w0.heap.size w.heap.size v ((us.take k).map (pntT me.toList))) ∧ Hid (Below w.heap.size w wr)) (fun _ i _ => n - (intOf i).toNat)
  case atStart => exact ⟨0, _, Nat.zero_le _, rfl, rfl, Lib.hid (QOwn.zero _ _ _ _), Lib.hid (Below.refl _ _)⟩
  case round =>
    obtain ⟨k, v, hk, rfl, hvo, HO, HBr⟩ := hrel
    subst hvo
    by_cases hkn : k < n
    · obtain ⟨b, ⟨kd, s, aa, an, ac⟩, t, rfl, hbb, ht, ⟨q0, q1, q2⟩, hvf⟩ := HN.out.at2 hkn
      dsimp only at q0 q1 q2
      have HBW := Lib.hid (below_on HW0.out HBr.out)
      have r0 := (HBW.out.cell (p := ⟨b, k * 3, none⟩) hbb).trans q0
      have r1 := (HBW.out.cell (p := ⟨b, k * 3 + 1, none⟩) hbb).trans q1
      have r2 := (HBW.out.cell (p := ⟨b, k * 3 + 2, none⟩) hbb).trans q2
      have HST := Lib.hid (show (us.take (k + 1)).map (pntT me.toList) = (us.take k).map (pntT me.toList) ++ [pntT me.toList t] by rw [take_snoc ht, List.map_append]; rfl)
      have hzr := HBr.out.size
      have HB0 := Lib.hid (tu1 wr (.cells #[.int .i64 kd, .string s, .slice aa an ac] 51))
      have HB1 := Lib.hid (below_on HBr.out HB0.out)
      have HRD := Lib.hid (fun (W : World) (hW : Below w0.heap.size w0 W) => pntR_reads (me := me) hm (hvf.below hW))
      have CN := Lib.hid (fun (W : World) (hW : Below w.heap.size w W) => liftClo_any ⟨kd, s, aa, an, ac⟩ me A W ((hW.cell (p := ⟨A, 0, none⟩) hlt).trans HA.out) (by have := hW.size; omega))
      obtain ⟨T, hT⟩ : ∃ T, T = pntT me.toList t := ⟨_, rfl⟩
      obtain ⟨q, hq⟩ : ∃ q, q = pntR me ⟨kd, s, aa, an, ac⟩ := ⟨_, rfl⟩
      rw [← hT] at HST HRD
      rw [← hq] at CN HRD
      clear hT hq
      obtain ⟨k', s', a', n', c'⟩ := q
      dsimp only at CN
      have HFL := Lib.hid (show ((us.take k).map (pntT me.toList)).length ≤ 1000000 by rw [List.length_map, List.length_take]; omega)
      have i1 : (k : Int) < (n : Int) := by omega
      have z1 : b < wr.heap.size := by omega
      clear ht hvf q0 q1 q2
      go_wp2_with (first
        | (at_builtin
           refine wpList_append_qpoint rfl (.tmp 14) (.tmp 18) rfl lo0 w0.heap.size w.heap.size v ((us.take k).map (pntT me.toList)) ⟨k', s', a', n', c'⟩ T rfl rfl rfl rfl HO3.out HR3.out hlo hz3 HFL.out w HB3.out ?_
           intro v4 w4 hown hbel
           have HO4 := Lib.hid hown
           have HB4 := Lib.hid hbel
           clear hown hbel)
        | (go_at_call 43; (with_reducible refine (CN.out _ HB1.out).mono ?_)
           rintro e w3 ⟨rfl, hb3⟩
           have HB3 := Lib.hid (below_on HB1.out hb3)
           have HR3 := Lib.hid (HRD.out _ (below_on HBW.out (below_on HB0.out hb3)))
           have HO3 := Lib.hid (HO.out.below (below_on HB0.out hb3) (Nat.le_refl _) (by omega))
           have hz3 : w.heap.size ≤ w3.heap.size := HB3.out.size
           clear hb3)
        | fail)
      go_roundw
      case rel => exact ⟨k + 1, v4, by omega, by go_num, rfl, Lib.hid (by rw [HST.out]; exact HO4.out), HB4⟩
      case measure => simp [intOf]; omega
    · have HE := Lib.hid (show QOwn wr lo0 w0.heap.size w.heap.size v (pntL me.toList us) by
        have := HO.out
        rw [List.take_of_length_le (by rw [HLEN.out]; omega)] at this
        exact this)
      go_wp2
      go_ret
      exact ⟨⟨v, rfl, HE.out⟩, HBr.out⟩
end Go.Proofs.YtiofpeckcfdilaaGreatDoor

/- Contract of mirror's Lift. -/
namespace Go.Proofs.YtiofpeckcfdilaaGreatDoor
open Go.RowKit

def liftN (nm : ByteArray) : ByteArray := if may nm.toList then nm else ⟨#[112, 97, 105, 114]⟩
def peerS : Str := [112, 101, 101, 114]
def liftR (ts : List TurnL) (me : Str) : Str := match peersT ts with
  | [] => freshS [me] peerS
  | x :: _ => x
theorem peer_list : (⟨#[112, 101, 101, 114]⟩ : ByteArray).toList = peerS := by rw [ByteArray.toList_eq]; rfl
theorem fresh_short (me : Str) : (freshS [me] peerS).length ≤ 20 := by
  rcases freshS_cases [me] peerS (by simp) with ⟨_, e⟩ | ⟨m, _, h51, _, e, _⟩
  · rw [e]; decide
  · rw [e]
    unfold numS
    rw [List.length_append, List.length_take]
    have := dec_len m (by omega)
    omega
set_option maxHeartbeats 4000000 in
theorem nameOf_any (nm : ByteArray) (a : Option Addr) (n c : Nat) (w : World) (hn : nm.size ≤ maxLen) :
    Calls Tryz.prog 40 #[.agg #[.string nm, .slice a n c]] w fun e w' => e = .returned (.string (liftN nm)) ∧ Below w.heap.size w w' := by
  have HB0 := Lib.hid (tu1 w (.cells #[.string nm, .slice a n c] 24))
  have CK := Lib.hid (fun (W : World) => may_any nm W hn)
  obtain ⟨R, hR⟩ : ∃ R, R = liftN nm := ⟨_, rfl⟩
  rw [← hR]
  unfold liftN at hR
  cases hv : may nm.toList
  · rw [hv] at hR CK
    have HR := Lib.hid (show R = ⟨#[112, 97, 105, 114]⟩ from hR)
    rw [HR.out]
    clear hv hR
    go_enter Tryz.func40, Tryz.ntmps40
    go_wp2_with (first
      | (go_at_call 26; (with_reducible refine (CK.out _).mono ?_)
         rintro e w2 ⟨rfl, rfl⟩)
      | fail)
    go_ret
    exact ⟨rfl, HB0.out⟩
  · rw [hv] at hR CK
    have HR := Lib.hid (show R = nm from hR)
    rw [HR.out]
    clear hv hR
    go_enter Tryz.func40, Tryz.ntmps40
    go_wp2_with (first
      | (go_at_call 26; (with_reducible refine (CK.out _).mono ?_)
         rintro e w2 ⟨rfl, rfl⟩)
      | fail)
    go_ret
    exact ⟨rfl, HB0.out⟩
def PeerRet (R : Str) (w : World) (e : Ending) (w' : World) : Prop := (∃ s : ByteArray, e = .returned (.string s) ∧ s.toList = R ∧ s.size ≤ maxLen) ∧ Below w.heap.size w w'
set_option maxHeartbeats 4000000 in
theorem peerOf_any (nm me : ByteArray) (a : Option Addr) (n c : Nat) (ts : List TurnL) (w : World) (bound : Nat) (hb : bound ≤ w.heap.size) (h : Turns w bound a n ts) (hm : me.size ≤ maxLen) :
    Calls Tryz.prog 41 #[.agg #[.string nm, .slice a n c], .string me] w fun e w' => PeerRet (liftR ts me.toList) w e w' := by
  have HB0 := Lib.hid (tu1 w (.cells #[.string nm, .slice a n c] 24))
  have CP := Lib.hid (ownPeers_any nm a n c ts (w.alloc (.cells #[.string nm, .slice a n c] 24)) bound (by simp; omega) (h.below (HB0.out.mono hb)))
  have CF := Lib.hid (fun (W : World) => fresh_any (some ⟨W.heap.size, 0, none⟩) 1 1 [me.toList] ⟨#[112, 101, 101, 114]⟩ (W.alloc (.cells #[.string me] 9)) (by omega) (by simp [maxLen, ByteArray.size]) ((strs_one W me hm).more (by simp)))
  rw [peer_list] at CF
  obtain ⟨R, hR⟩ : ∃ R, R = liftR ts me.toList := ⟨_, rfl⟩
  rw [← hR]
  unfold liftR at hR
  clear h
  rcases hp : peersT ts with _ | ⟨x, r⟩
  · rw [hp] at hR CP
    have HR := Lib.hid (show R = freshS [me.toList] peerS from hR)
    have HS := Lib.hid (fresh_short me.toList)
    clear hR hp
    go_enter Tryz.func41, Tryz.ntmps41
    go_wp2_with (first
      | (go_at_call 25; (with_reducible refine CP.out.mono ?_)
         rintro e w1 ⟨⟨ra, rn, rc, rfl, hss⟩, hb1⟩
         obtain rfl : rn = 0 := hss.1.symm
         have HB1 := Lib.hid (below_on HB0.out hb1)
         clear hb1 hss)
      | (go_at_call 74; (with_reducible refine (CF.out w1).mono ?_)
         rintro e w2 ⟨rfl, hb2⟩
         have HB2 := Lib.hid (below_on (below_on HB1.out (tu1 w1 _)) hb2)
         clear hb2)
      | fail)
    go_ret
    refine ⟨⟨_, rfl, by rw [baS_toList, HR.out], ?_⟩, HB2.out⟩
    rw [← len_toList, baS_toList]
    have := HS.out
    unfold maxLen
    omega
  · rw [hp] at hR CP
    have HR := Lib.hid (show R = x from hR)
    clear hR hp
    go_enter Tryz.func41, Tryz.ntmps41
    go_wp2_with (first
      | (go_at_call 25; (with_reducible refine CP.out.mono ?_)
         rintro e w1 ⟨⟨ra, rn, rc, rfl, hss⟩, hb1⟩
         have HB1 := Lib.hid (below_on HB0.out hb1)
         have hrn : rn = r.length + 1 := hss.1.symm
         have hx1 := hss.max x (by simp)
         have HX1 := Lib.hid hx1
         have n0 : ((rn : Int) == 0) = false := by rw [beq_eq_false_iff_ne]; omega
         have i0 : (0 : Int) < (rn : Int) := by omega
         have i1 : 0 < rn := by omega
         obtain ⟨b, off, rfl, hbb, hc⟩ := hss.at_ (k := 0) (by omega)
         rw [Nat.add_zero, show (x :: r).getD 0 [] = x from rfl] at hc
         unfold encStr at hc
         clear hb1 hss hrn hx1)
      | fail)
    go_ret
    refine ⟨⟨baS x, rfl, by rw [baS_toList, HR.out], ?_⟩, HB1.out⟩
    rw [← len_toList, baS_toList]
    exact HX1.out
/-- What Lift answers. -/
def liftQN (ts : List TurnL) (nm : ByteArray) (me : Str) : ByteArray := if liftE ts me = 0 then liftN nm else ⟨#[]⟩
def liftQR (ts : List TurnL) (me : Str) : List Str := if liftE ts me = 0 then [me, liftR ts me] else []
def liftQP (ts : List TurnL) (me : Str) : List PointL := if liftE ts me = 0 then pntL me (trimT ts) else []
def LiftRet (nm : ByteArray) (ts : List TurnL) (me : Str) (w : World) (e : Ending) (w' : World) : Prop :=
  (∃ ra rn rc pa pn pc, e = .returned (.tuple #[.agg #[.string (liftQN ts nm me), .slice ra rn rc, .slice pa pn pc], .int .i64 (liftE ts me)]) ∧ Strs w' w'.heap.size ra rn (liftQR ts me) ∧ Pts w' w'.heap.size pa pn (liftQP ts me)) ∧ Below w.heap.size w w'
theorem liftE_ok {ts : List TurnL} {me : Str} (h : liftE ts me = 0) : mirE ts me = 0 ∧ (trimL ts).length ≤ 24 := by
  unfold liftE at h
  by_cases h1 : mirE ts me = 0
  · rw [if_pos h1] at h
    by_cases h2 : 24 < (trimL ts).length
    · rw [if_pos h2] at h; simp at h
    · exact ⟨h1, by omega⟩
  · rw [if_neg h1] at h
    exact absurd h h1
theorem strs_two {W : World} {b bound : Nat} {x y : ByteArray} (h : W.heap[b]? = some (.cells #[.string x, .string y] 9 (0, 0))) (hb : b < bound) (hx : x.size ≤ maxLen) (hy : y.size ≤ maxLen) : Strs W bound (some ⟨b, 0, none⟩) 2 [x.toList, y.toList] := by
  refine ⟨rfl, by omega, fun s hs => ?_, fun _ => ⟨b, 0, rfl, hb, fun j s hs => ?_⟩⟩
  · rcases List.mem_cons.1 hs with rfl | hs
    · rw [len_toList]; exact hx
    · rw [List.mem_singleton.1 hs, len_toList]; exact hy
  · have hj : j = 0 ∨ j = 1 := by
      have := (List.getElem?_eq_some_iff.1 hs).1
      simp at this
      omega
    rcases hj with rfl | rfl
    · obtain rfl := Option.some.inj hs
      rw [cell_of_row _ _ _ _ _ _ h]
      show some (Value.string x) = some (Value.string (baS x.toList))
      rw [baS_of]
    · obtain rfl := Option.some.inj hs
      rw [cell_of_row _ _ _ _ _ _ h]
      show some (Value.string y) = some (Value.string (baS y.toList))
      rw [baS_of]
theorem held_set {W : World} {gL gM g7 gR o : Nat} {u c0 c1 c2 c3 : Value} (hne : gL ≠ gR ∧ gM ≠ gR ∧ g7 ≠ gR) (h : (W.cell? ⟨gL, 0, none⟩ = some c0 ∧ W.cell? ⟨gL, 1, none⟩ = some c1) ∧ W.cell? ⟨gM, 0, none⟩ = some c2 ∧ W.cell? ⟨g7, 1, none⟩ = some c3) :
    ((W.setCell ⟨gR, o, none⟩ u).cell? ⟨gL, 0, none⟩ = some c0 ∧ (W.setCell ⟨gR, o, none⟩ u).cell? ⟨gL, 1, none⟩ = some c1) ∧ (W.setCell ⟨gR, o, none⟩ u).cell? ⟨gM, 0, none⟩ = some c2 ∧ (W.setCell ⟨gR, o, none⟩ u).cell? ⟨g7, 1, none⟩ = some c3 := by
  have q : ∀ b x, b ≠ gR → (W.setCell ⟨gR, o, none⟩ u).cell? ⟨b, x, none⟩ = W.cell? ⟨b, x, none⟩ := fun b x hb => World.cell?_of_block (heap_setCell_ne hb)
  rw [q _ _ hne.1, q _ _ hne.1, q _ _ hne.2.1, q _ _ hne.2.2]
  exact h
theorem lift_end {W : World} {gR b lo0 lo base : Nat} {me s : ByteArray} {xa : Option Addr} {rn xc : Nat} {ps : List PointL} (hrow : W.heap[b]? = some (.cells #[.string me, .string s] 9 (0, 0))) (hne : b ≠ gR) (hm : me.size ≤ maxLen) (hs : s.size ≤ maxLen)
    (hq : QOwn W lo0 lo base (.slice xa rn xc) ps) (hg : gR < lo0) (hg2 : gR < base) (hlo : lo ≤ W.heap.size) (hl : ps.length = rn) (hl2 : rn ≤ 1000) (u0 u1 u2 : Value) :
    Strs (((W.setCell ⟨gR, 0, none⟩ u0).setCell ⟨gR, 1, none⟩ u1).setCell ⟨gR, 2, none⟩ u2) (((W.setCell ⟨gR, 0, none⟩ u0).setCell ⟨gR, 1, none⟩ u1).setCell ⟨gR, 2, none⟩ u2).heap.size (some ⟨b, 0, none⟩) 2 [me.toList, s.toList] ∧
    Pts (((W.setCell ⟨gR, 0, none⟩ u0).setCell ⟨gR, 1, none⟩ u1).setCell ⟨gR, 2, none⟩ u2) (((W.setCell ⟨gR, 0, none⟩ u0).setCell ⟨gR, 1, none⟩ u1).setCell ⟨gR, 2, none⟩ u2).heap.size xa rn ps := by
  have hb : b < W.heap.size := (Array.getElem?_eq_some_iff.1 hrow).1
  refine ⟨strs_two (((heap_setCell_ne hne).trans ((heap_setCell_ne hne).trans (heap_setCell_ne hne))).trans hrow) (by simp; exact hb) hm hs, ?_⟩
  have h3 := ((hq.beside ((Beside.refl gR W).setCell 0 u0) (.inl hg) hg2 hlo).beside ((Beside.refl gR _).setCell 1 u1) (.inl hg) hg2 (by simp; exact hlo)).beside ((Beside.refl gR _).setCell 2 u2) (.inl hg) hg2 (by simp; exact hlo)
  obtain ⟨a2, c2, hv, ht⟩ := h3.sees (by omega) (by simp; exact hlo)
  obtain ⟨e1, e2, _⟩ := Value.slice.inj hv
  subst e1
  rw [hl] at ht
  exact ht
theorem bel_drewL {B : Nat} {w W : World} (h : Below B w W) : Below B w W.drew := ⟨h.os, h.tape, h.output, h.size, h.block⟩
set_option maxHeartbeats 16000000 in
set_option maxRecDepth 20000 in
theorem lift_any (nm me : ByteArray) (a : Option Addr) (n c : Nat) (ts : List TurnL) (w : World) (bound : Nat) (hb : bound ≤ w.heap.size) (h : Turns w bound a n ts) (hm : me.size ≤ maxLen) (hnm : nm.size ≤ maxLen) :
    Calls Tryz.prog 13 #[.agg #[.string nm, .slice a n c], .string me] w fun e w' => LiftRet nm ts me.toList w e w' := by
  obtain ⟨w0, hw0⟩ : ∃ w0, w0 = ((w.alloc (.cells #[.string nm, .slice a n c] 24)).alloc (.cells #[.string me] 9)).alloc (.cells #[.string ⟨#[]⟩, .slice none 0 0, .slice none 0 0] 37) := ⟨_, rfl⟩
  have hsz0 : w0.heap.size = w.heap.size + 3 := by rw [hw0]; simp
  have HB0 := Lib.hid (show Below w.heap.size w w0 by rw [hw0]; exact below_on (below_on (tu1 w _) (tu1 _ _)) (tu1 _ _))
  have HL0 := Lib.hid (show LBox w0 w.heap.size nm a n c by rw [hw0]; exact ((LBox.new w nm a n c).on (tu1 _ _)).on (tu1 _ _))
  have HX0 := Lib.hid (show PBox w0 (w.heap.size + 1 + 1) ⟨#[]⟩ none 0 0 none 0 0 by
    rw [hw0]
    have := PBox.new ((w.alloc (.cells #[.string nm, .slice a n c] 24)).alloc (.cells #[.string me] 9)) ⟨#[]⟩ none 0 0 none 0 0
    rw [World.size_alloc, World.size_alloc] at this
    exact this)
  have hme : w0.cell? ⟨w.heap.size + 1, 0, none⟩ = some (.string me) := by
    have h1 := heap_alloc_new (w.alloc (.cells #[.string nm, .slice a n c] 24)) (.cells #[.string me] 9)
    rw [World.size_alloc] at h1
    rw [hw0]
    refine ((tu1 _ _).cell (p := ⟨w.heap.size + 1, 0, none⟩) (by simp)).trans ?_
    rw [cell_of_row _ _ _ _ _ _ h1]
    rfl
  have HME := Lib.hid hme
  have CF := Lib.hid (miFault_any nm me a n c ts w0 bound (by omega) (h.below (HB0.out.mono hb)) hm)
  have CT := Lib.hid (fun (W : World) (hW : Below w0.heap.size w0 W) => ownTrimO_any nm a n c ts W bound (by have := hW.size; omega) ((h.below (HB0.out.mono hb)).below (hW.mono (by omega))))
  have CN := Lib.hid (fun (W : World) => nameOf_any nm a n c W hnm)
  have CP := Lib.hid (fun (W : World) (hW : Below w0.heap.size w0 W) => peerOf_any nm me a n c ts W bound (by have := hW.size; omega) ((h.below (HB0.out.mono hb)).below (hW.mono (by omega))) hm)
  obtain ⟨lc0, lc1⟩ := HL0.out.cells
  obtain ⟨xc0, xc1, xc2⟩ := HX0.out.cells
  clear h
  by_cases hme0 : mirE ts me.toList = 0
  · have HV := Lib.hid (mirE_ok hme0).1
    have H40 := Lib.hid (show (trimT ts).length ≤ 40 by have := trimL_few ts; rw [trimL_of HV.out] at this; exact this)
    rw [hme0] at CF
    rw [trimL_of HV.out, trimName_of HV.out] at CT
    by_cases h24 : 24 < (trimT ts).length
    · have HE := Lib.hid (show liftE ts me.toList = 1202 by unfold liftE; rw [if_pos hme0, trimL_of HV.out, if_pos h24])
      have HQ := Lib.hid (show liftQN ts nm me.toList = ⟨#[]⟩ ∧ liftQR ts me.toList = [] ∧ liftQP ts me.toList = [] by unfold liftQN liftQR liftQP; rw [HE.out]; exact ⟨rfl, rfl, rfl⟩)
      have H24 := Lib.hid h24
      clear hme0 h24
      subst hw0
      go_enter Tryz.func13, Tryz.ntmps13
      go_wp2_with (first
        | (go_at_call 31; (with_reducible refine CF.out.mono ?_)
           rintro e w1 ⟨rfl, hb1⟩
           have HB1 := Lib.hid hb1
           have HL1 := Lib.hid (HL0.out.on hb1)
           have HX1 := Lib.hid (HX0.out.on hb1)
           obtain ⟨_, _⟩ := HL1.out.cells
           clear hb1)
        | (go_at_call 32; (with_reducible refine (CT.out _ HB1.out).mono ?_)
           rintro e w2 ⟨⟨ra, rn, rc, rfl, ht2⟩, hb2⟩
           have HB2 := Lib.hid (below_on HB1.out hb2)
           have HX2 := Lib.hid ((HX1.out.on hb2).on (tu1 w2 (.cells #[.string nm, .slice ra rn rc] 24)))
           obtain ⟨ra', rc', hsl, _⟩ := ht2.sees (by have := H40.out; omega)
           have hrn : (trimT ts).length = rn := (Value.slice.inj hsl).2.1.symm
           have d24 : decide ((24 : Int) < (rn : Int)) = true := decide_eq_true (by have := H24.out; omega)
           obtain ⟨_, _, _⟩ := HX2.out.cells
           have f0 := HX2.out.thaw 0
           have f1 := HX2.out.thaw 1
           have f2 := HX2.out.thaw 2
           clear hb2 hsl ht2 hrn)
        | fail)
      refine bodyPost_ret (v := .tuple #[.agg #[.string ⟨#[]⟩, .slice none 0 0, .slice none 0 0], .int .i64 1202]) (by simp [results, go_sem, *]) rfl ?_
      refine ⟨⟨none, 0, 0, none, 0, 0, by rw [HQ.out.1, HE.out], by rw [HQ.out.2.1]; exact Strs.zero _ _ _, by rw [HQ.out.2.2]; exact Pts.zero _ _ _⟩, ((((below_on HB0.out (below_on HB2.out (tu1 w2 _))).setCell (by show w.heap.size ≤ w.heap.size + 1 + 1; omega) _).setCell (by show w.heap.size ≤ w.heap.size + 1 + 1; omega) _).setCell (by show w.heap.size ≤ w.heap.size + 1 + 1; omega) _)⟩
    · have HE := Lib.hid (show liftE ts me.toList = 0 by unfold liftE; rw [if_pos hme0, trimL_of HV.out, if_neg h24])
      have HQ := Lib.hid (show liftQN ts nm me.toList = liftN nm ∧ liftQR ts me.toList = [me.toList, liftR ts me.toList] ∧ liftQP ts me.toList = pntL me.toList (trimT ts) by unfold liftQN liftQR liftQP; rw [HE.out]; exact ⟨rfl, rfl, rfl⟩)
      have H24 := Lib.hid h24
      clear hme0 h24
      subst hw0
      go_enter Tryz.func13, Tryz.ntmps13
      go_upto_region 7 with (first
        | (go_at_call 31; (with_reducible refine CF.out.mono ?_)
           rintro e w1 ⟨rfl, hb1⟩
           have HB1 := Lib.hid hb1
           have HL1 := Lib.hid (HL0.out.on hb1)
           have HX1 := Lib.hid (HX0.out.on hb1)
           have hm1 := (hb1.cell (p := ⟨w.heap.size + 1, 0, none⟩) (by show w.heap.size + 1 < _; omega)).trans HME.out
           have HM1 := Lib.hid hm1
           obtain ⟨_, _⟩ := HL1.out.cells
           clear hb1 hm1)
        | (go_at_call 32; (with_reducible refine (CT.out _ HB1.out).mono ?_)
           rintro e w2 ⟨⟨ra, rn, rc, rfl, ht2⟩, hb2⟩
           have HB2 := Lib.hid (below_on HB1.out hb2)
           have HT2 := Lib.hid ht2
           have HL2 := Lib.hid (HL1.out.on hb2)
           have HX2 := Lib.hid (HX1.out.on hb2)
           have hz1 : w.heap.size + 3 ≤ w1.heap.size := by have := HB1.out.size; omega
           have hz2 := hb2.size
           obtain ⟨ra', rc', hsl, _⟩ := ht2.sees (by have := H40.out; omega)
           have HRN := Lib.hid (show (trimT ts).length = rn from (Value.slice.inj hsl).2.1.symm)
           have HM2 := Lib.hid ((hb2.cell (p := ⟨w.heap.size + 1, 0, none⟩) (by show w.heap.size + 1 < _; omega)).trans HM1.out)
           have hr40 : rn ≤ 1000 := by have := H40.out; have := HRN.out; omega
           have d24 : decide ((24 : Int) < (rn : Int)) = false := decide_eq_false (by have := H24.out; have := HRN.out; omega)
           clear hb2 hsl ht2)
        | fail)
      have HL3 := Lib.hid (LBox.new w2 nm ra rn rc)
      have HBX := Lib.hid (tu1 w2 (.cells #[.string nm, .slice ra rn rc] 24))
      obtain ⟨g7, hg7⟩ : ∃ g7, g7 = w2.heap.size := ⟨_, rfl⟩
      rw [← hg7] at HL3 ⊢
      generalize hw3 : w2.alloc (.cells #[.string nm, .slice ra rn rc] 24) = w3 at HL3 HBX ⊢
      have hz3 : w3.heap.size = w2.heap.size + 1 := by rw [← hw3]; simp
      have hg7' : w2.heap.size ≤ g7 := by omega
      clear hw3 hg7
      have HLA := Lib.hid (HL2.out.on HBX.out)
      have HXA := Lib.hid (HX2.out.on HBX.out)
      have HMA := Lib.hid ((HBX.out.cell (p := ⟨w.heap.size + 1, 0, none⟩) (by show w.heap.size + 1 < _; omega)).trans HM2.out)
      have HB3 := Lib.hid (below_on HB2.out HBX.out)
      have CE := Lib.hid (fun (W : World) (hW : Below w3.heap.size w3 W) => eachP_any ra rn rc (trimT ts) me (w.heap.size + 1) W w2 w1.heap.size HT2.out (below_on HBX.out hW) HRN.out ((hW.cell (p := ⟨w.heap.size + 1, 0, none⟩) (by show w.heap.size + 1 < _; omega)).trans HMA.out) (by have := hW.size; omega) hm hr40)
      have HK := Lib.hid (fun (W : World) (hW : Below w3.heap.size w3 W) => show (W.cell? ⟨w.heap.size, 0, none⟩ = some (.string nm) ∧ W.cell? ⟨w.heap.size, 1, none⟩ = some (.slice a n c)) ∧ W.cell? ⟨w.heap.size + 1, 0, none⟩ = some (.string me) ∧ W.cell? ⟨g7, 1, none⟩ = some (.slice ra rn rc) from
        ⟨(HLA.out.on hW).cells, (hW.cell (p := ⟨w.heap.size + 1, 0, none⟩) (by show w.heap.size + 1 < _; omega)).trans HMA.out, (HL3.out.on hW).cells.2⟩)
      have H0 := Lib.hid (bel_drewL (Below.refl w3.heap.size w3))
      have HZ := Lib.hid (And.intro hz1 (And.intro hz2 hz3))
      have HNE := Lib.hid (show w.heap.size ≠ w.heap.size + 1 + 1 ∧ w.heap.size + 1 ≠ w.heap.size + 1 + 1 ∧ g7 ≠ w.heap.size + 1 + 1 by omega)
      clear lc0 lc1 xc0 xc1 xc2 d24
      go_region_held3 (fun W => (W.cell? ⟨w.heap.size, 0, none⟩ = some (.string nm) ∧ W.cell? ⟨w.heap.size, 1, none⟩ = some (.slice a n c)) ∧ W.cell? ⟨w.heap.size + 1, 0, none⟩ = some (.string me) ∧ W.cell? ⟨g7, 1, none⟩ = some (.slice ra rn rc))
        (first | exact HK.out _ H0.out | exact HK.out _ H4.out | exact HK.out _ H5.out | exact HK.out _ (below_on H5.out (tu1 w5 _)) | exact HK.out _ H6.out | exact held_set HNE.out (held_set HNE.out (held_set HNE.out (HK.out _ H6.out))) | exact HK.out _ (below_on H6.out (tu1 w6 _)) | exact held_set HNE.out (held_set HNE.out (held_set HNE.out (HK.out _ (below_on H6.out (tu1 w6 _))))))
        (first
        | (go_at_call 40; (with_reducible refine (CN.out _).mono ?_)
           rintro e w4 ⟨rfl, hb4⟩
           have H4 := Lib.hid (below_on H0.out hb4)
           clear hb4)
        | (go_at_call 41; (with_reducible refine (CP.out _ (below_on HB3.out H4.out)).mono ?_)
           rintro e w5 ⟨⟨s, rfl, hs, hsz⟩, hb5⟩
           have H5 := Lib.hid (below_on H4.out hb5)
           have HS := Lib.hid (And.intro hs hsz)
           clear hb5 hs hsz)
        | (go_at_call 42; (with_reducible refine (CE.out _ (below_on H5.out (tu1 w5 _))).mono ?_)
           rintro e w6 ⟨⟨v, rfl, hv6⟩, hb6⟩
           obtain ⟨xa, xc, hxv, _⟩ := hv6.sees (by rw [pnt_len]; have := HRN.out; omega) (by have := hb6.size; have := H5.out.size; have := HZ.out.2.2; simp at *; omega)
           rw [pnt_len, HRN.out] at hxv
           subst hxv
           have HV6 := Lib.hid hv6
           have HB56 := Lib.hid hb6
           have H6 := Lib.hid (below_on (below_on H5.out (tu1 w5 _)) hb6)
           have HX6 := Lib.hid (HXA.out.on H6.out)
           obtain ⟨_, _, _⟩ := HX6.out.cells
           have f0 := HX6.out.thaw 0
           have f1 := HX6.out.thaw 1
           have f2 := HX6.out.thaw 2
           clear hv6 hb6)
        | (go_at_call 42; (with_reducible refine (CE.out _ H5.out).mono ?_)
           rintro e w6 ⟨⟨v, rfl, hv6⟩, hb6⟩
           obtain ⟨xa, xc, hxv, _⟩ := hv6.sees (by rw [pnt_len]; have := HRN.out; omega) (by have := hb6.size; have := H5.out.size; have := HZ.out.2.2; omega)
           rw [pnt_len, HRN.out] at hxv
           subst hxv
           have HV6 := Lib.hid hv6
           have HB56 := Lib.hid hb6
           have H6 := Lib.hid (below_on H5.out hb6)
           have HX6 := Lib.hid ((HXA.out.on H6.out).on (tu1 w6 (.cells #[.string me, .string s] 9)))
           obtain ⟨_, _, _⟩ := HX6.out.cells
           have f0 := HX6.out.thaw 0
           have f1 := HX6.out.thaw 1
           have f2 := HX6.out.thaw 2
           clear hv6 hb6)
        | fail)
      all_goals
        have hz := HZ.out
        go_wp2_with fail
        first
        | (refine bodyPost_ret (v := .tuple #[.agg #[.string (liftN nm), .slice (some ⟨w5.heap.size, 0, none⟩) 2 2, .slice xa rn xc], .int .i64 0]) (by simp [results, go_sem, *]) rfl ?_
           have h5 := H5.out.size
           have h6 := H6.out.size
           have hE := lift_end (gR := w.heap.size + 1 + 1) ((HB56.out.block w5.heap.size (by simp)).trans (heap_alloc_new w5 (.cells #[.string me, .string s] 9))) (by omega) hm HS.out.2 HV6.out (by omega) (by simp; omega) (by omega) (by rw [pnt_len]; exact HRN.out) hr40 (.string (liftN nm)) (.slice (some ⟨w5.heap.size, 0, none⟩) 2 2) (.slice xa rn xc)
           exact ⟨⟨_, _, _, _, _, _, by rw [HQ.out.1, HE.out], by rw [HQ.out.2.1, ← HS.out.1]; exact hE.1, by rw [HQ.out.2.2]; exact hE.2⟩, ((((below_on HB0.out (below_on HB3.out H6.out)).setCell (by show w.heap.size ≤ w.heap.size + 1 + 1; omega) _).setCell (by show w.heap.size ≤ w.heap.size + 1 + 1; omega) _).setCell (by show w.heap.size ≤ w.heap.size + 1 + 1; omega) _)⟩)
        | (refine bodyPost_ret (v := .tuple #[.agg #[.string (liftN nm), .slice (some ⟨w6.heap.size, 0, none⟩) 2 2, .slice xa rn xc], .int .i64 0]) (by simp [results, go_sem, *]) rfl ?_
           have h5 := H5.out.size
           have h6 := H6.out.size
           have hE := lift_end (gR := w.heap.size + 1 + 1) (heap_alloc_new w6 (.cells #[.string me, .string s] 9)) (by omega) hm HS.out.2 (HV6.out.below (tu1 w6 (.cells #[.string me, .string s] 9)) (Nat.le_refl _) (by omega)) (by omega) (by omega) (by simp; omega) (by rw [pnt_len]; exact HRN.out) hr40 (.string (liftN nm)) (.slice (some ⟨w6.heap.size, 0, none⟩) 2 2) (.slice xa rn xc)
           exact ⟨⟨_, _, _, _, _, _, by rw [HQ.out.1, HE.out], by rw [HQ.out.2.1, ← HS.out.1]; exact hE.1, by rw [HQ.out.2.2]; exact hE.2⟩, ((((below_on HB0.out (below_on HB3.out (below_on H6.out (tu1 w6 _)))).setCell (by show w.heap.size ≤ w.heap.size + 1 + 1; omega) _).setCell (by show w.heap.size ≤ w.heap.size + 1 + 1; omega) _).setCell (by show w.heap.size ≤ w.heap.size + 1 + 1; omega) _)⟩)
  · have hle : liftE ts me.toList = mirE ts me.toList := by unfold liftE; rw [if_neg hme0]
    have HQ := Lib.hid (show liftQN ts nm me.toList = ⟨#[]⟩ ∧ liftQR ts me.toList = [] ∧ liftQP ts me.toList = [] by unfold liftQN liftQR liftQP; rw [hle]; simp only [if_neg hme0, and_self])
    obtain ⟨E, hE⟩ : ∃ E, E = mirE ts me.toList := ⟨_, rfl⟩
    rw [← hE] at CF hme0 hle
    have HE := Lib.hid hle
    have en : (E != 0) = true := bne_iff_ne.2 hme0
    clear hme0 hE hle
    subst hw0
    go_enter Tryz.func13, Tryz.ntmps13
    go_wp2_with (first
      | (go_at_call 31; (with_reducible refine CF.out.mono ?_)
         rintro e w1 ⟨rfl, hb1⟩
         have HB1 := Lib.hid (below_on HB0.out hb1)
         have HX1 := Lib.hid (HX0.out.on hb1)
         obtain ⟨_, _, _⟩ := HX1.out.cells
         have f0 := HX1.out.thaw 0
         have f1 := HX1.out.thaw 1
         have f2 := HX1.out.thaw 2
         clear hb1)
      | fail)
    refine bodyPost_ret (v := .tuple #[.agg #[.string ⟨#[]⟩, .slice none 0 0, .slice none 0 0], .int .i64 E]) (by simp [results, go_sem, *]) rfl ?_
    refine ⟨⟨none, 0, 0, none, 0, 0, by rw [HQ.out.1, HE.out], by rw [HQ.out.2.1]; exact Strs.zero _ _ _, by rw [HQ.out.2.2]; exact Pts.zero _ _ _⟩, (((HB1.out.setCell (by show w.heap.size ≤ w.heap.size + 1 + 1; omega) _).setCell (by show w.heap.size ≤ w.heap.size + 1 + 1; omega) _).setCell (by show w.heap.size ≤ w.heap.size + 1 + 1; omega) _)⟩
end Go.Proofs.YtiofpeckcfdilaaGreatDoor
