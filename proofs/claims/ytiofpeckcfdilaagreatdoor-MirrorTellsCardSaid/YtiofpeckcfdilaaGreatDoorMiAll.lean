/- Plain: the other side of a local type with one peer. No program stands in this text. -/
import Derived.Test.YtiofpeckcfdilaaGreatDoorTuLawP
import Derived.Test.YtiofpeckcfdilaaGreatDoorTuSames
import Derived.Test.YtiofpeckcfdilaaGreatDoorTuWalk
import Derived.Test.YtiofpeckcfdilaaGreatDoorTuRows
import Derived.Test.YtiofpeckcfdilaaGreatDoorTuMakes
import Derived.Test.YtiofpeckcfdilaaGreatDoorTuTrimO
import Derived.Test.YtiofpeckcfdilaaGreatDoorTuOwnRW
namespace Go.Proofs.YtiofpeckcfdilaaGreatDoor
open Go.RowKit

def mirT (me : Str) (t : TurnL) : TurnL := if t.kind = 1 then ⟨2, me, t.arms⟩ else if t.kind = 2 then ⟨1, me, t.arms⟩ else ⟨0, [], []⟩
def mirL (me : Str) (ts : List TurnL) : List TurnL := ts.map (mirT me)
/-- The first reason why there is no other side. -/
def mirE (ts : List TurnL) (me : Str) : Int := if locB ts && may me then (if decide (1 < (peersT ts).length) || hasS (peersT ts) me then 1201 else 0) else 1200
theorem mirT_arms {n : Nat} {t : TurnL} (h : turnB n t = true) (me : Str) : (mirT me t).arms = t.arms := by
  unfold mirT
  rcases turnB_arms h with ⟨h1, _, h3⟩ | ⟨h1 | h1, _, _⟩
  · rw [if_neg (by omega), if_neg (by omega), h3]
  · rw [if_pos h1]
  · rw [if_neg (by omega), if_pos h1]
theorem mirT_valid {n : Nat} {t : TurnL} (h : turnB n t = true) {me : Str} (hm : may me = true) : turnB n (mirT me t) = true := by
  unfold mirT
  rcases turnB_arms h with ⟨h1, _, h3⟩ | ⟨h1 | h1, _, h4⟩
  · rw [if_neg (by omega), if_neg (by omega)]; rfl
  · rw [if_pos h1]
    unfold turnB
    rw [if_neg (by show ¬ ((2 : Int) = 0); decide), if_pos (by show (2 : Int) = 1 ∨ (2 : Int) = 2; decide), hm, h4]
    rfl
  · rw [if_neg (by omega), if_pos h1]
    unfold turnB
    rw [if_neg (by show ¬ ((1 : Int) = 0); decide), if_pos (by show (1 : Int) = 1 ∨ (1 : Int) = 2; decide), hm, h4]
    rfl
theorem mir_at (me : Str) (ts : List TurnL) (p : Nat) : (mirL me ts)[p]? = (ts[p]?).map (mirT me) := by unfold mirL; rw [List.getElem?_map]
theorem mir_len (me : Str) (ts : List TurnL) : (mirL me ts).length = ts.length := by unfold mirL; rw [List.length_map]
section
variable {ts : List TurnL} (h : locB ts = true)
include h
theorem mir_valid {me : Str} (hm : may me = true) : locB (mirL me ts) = true := by
  obtain ⟨h1, h40, hall⟩ := locB_one h
  unfold locB
  rw [mir_len]
  simp only [Bool.and_eq_true, decide_eq_true_eq, List.all_eq_true]
  refine ⟨⟨h1, h40⟩, fun t ht => ?_⟩
  unfold mirL at ht
  obtain ⟨u, hu, rfl⟩ := List.mem_map.1 ht
  exact mirT_valid (hall u hu) hm
theorem mir_arms (me : Str) (p : Nat) : armsOf (mirL me ts) p = armsOf ts p := by
  unfold armsOf
  rw [mir_at]
  rcases hp : ts[p]? with _ | t
  · rfl
  · exact mirT_arms ((locB_one h).2.2 t (List.mem_of_getElem? hp)) me
theorem mir_reach (me : Str) : reachT (mirL me ts) = reachT ts := by
  have hn : nextsOf (mirL me ts) = nextsOf ts := funext fun p => by unfold nextsOf; rw [mir_arms h]
  unfold reachT
  rw [hn, mir_len]
theorem mir_trim (me : Str) : trimT (mirL me ts) = mirL me (trimT ts) := by
  unfold trimT mirL
  rw [List.map_map]
  have hr := mir_reach h me
  unfold mirL at hr
  rw [hr]
  refine List.map_congr_left fun p hp => ?_
  have hlt := reach_lt h p hp
  have hv := (locB_one h).2.2 _ (List.getElem_mem hlt)
  have e : turnOf (ts.map (mirT me)) p = mirT me ts[p] := by rw [turnOf_lt (by rw [List.length_map]; exact hlt), List.getElem_map]
  show TurnL.mk (turnOf (ts.map (mirT me)) p).kind _ _ = mirT me (TurnL.mk _ _ _)
  rw [e, turnOf_lt hlt, mirT_arms hv]
  unfold mirT
  dsimp only
  rcases turnB_arms hv with ⟨h1, _, h3⟩ | ⟨h1 | h1, _, _⟩
  · rw [if_neg (by omega), if_neg (by omega), if_neg (by omega), if_neg (by omega), h3]; rfl
  · rw [if_pos h1, if_pos h1]
  · rw [if_neg (by omega), if_pos h1, if_neg (by omega), if_pos h1]
theorem mir_walk (me : Str) : ∀ (ls : List Str) (p : Nat), walkT (mirL me ts) p ls = walkT ts p ls
  | [], _ => rfl
  | s :: r, p => by
    rw [walkT, walkT, mir_arms h]
    rcases findA (armsOf ts p) s with _ | a
    · rfl
    · exact mir_walk me r _
theorem mir_mir (me you : Str) (hy : ∀ t ∈ ts, t.kind ≠ 0 → t.peer = you) : mirL you (mirL me ts) = ts := by
  unfold mirL
  rw [List.map_map]
  conv => rhs; rw [← List.map_id ts]
  refine List.map_congr_left fun t ht => ?_
  have hv := (locB_one h).2.2 t ht
  have hp := hy t ht
  obtain ⟨k, s, l⟩ := t
  show mirT you (mirT me ⟨k, s, l⟩) = ⟨k, s, l⟩
  rcases turnB_arms hv with ⟨h1, h2, h3⟩ | ⟨h1 | h1, _, _⟩
  · dsimp only at h1 h2 h3
    subst h1 h2 h3
    rfl
  · dsimp only at h1
    subst h1
    have e : s = you := hp (show (1 : Int) ≠ 0 by decide)
    subst e
    rfl
  · dsimp only at h1
    subst h1
    have e : s = you := hp (show (2 : Int) ≠ 0 by decide)
    subst e
    rfl
end
theorem peer_in {ts : List TurnL} {s : Str} (hs : s ∈ peersT ts) : ∃ t ∈ ts, t.peer = s ∧ s ≠ [] := by
  unfold peersT at hs
  obtain ⟨h1, p, hp, e⟩ := mem_peersF.1 hs
  have hlt := reachL_lt p hp
  unfold peerAt at e
  rw [List.getElem?_eq_getElem hlt] at e
  exact ⟨ts[p], List.getElem_mem hlt, e, h1⟩
theorem peer_in_kind {ts : List TurnL} (h : locB ts = true) {s : Str} (hs : s ∈ peersT ts) : ∃ t ∈ ts, t.peer = s ∧ t.kind ≠ 0 := by
  obtain ⟨t, ht, e, hne⟩ := peer_in hs
  refine ⟨t, ht, e, fun hk => ?_⟩
  rcases turnB_arms ((locB_one h).2.2 t ht) with ⟨_, h2, _⟩ | ⟨h1, _⟩
  · exact hne (e.symm.trans h2)
  · omega
theorem rises_one {l : List Str} (h : Rises l) {x : Str} (hx : ∀ s ∈ l, s = x) : l = [] ∨ l = [x] := by
  rcases l with _ | ⟨a, _ | ⟨b, r⟩⟩
  · exact .inl rfl
  · exact .inr (by rw [hx a (by simp)])
  · have e1 := hx a (by simp)
    have e2 := hx b (by simp)
    have := rises_nodup h
    rw [e1, e2] at this
    simp at this
theorem peers_one {ts : List TurnL} (h : locB ts = true) {x : Str} (hx : ∀ t ∈ ts, t.kind ≠ 0 → t.peer = x) : peersT ts = [] ∨ peersT ts = [x] :=
  rises_one (peers_rise ts) fun s hs => by
    obtain ⟨t, ht, e, hk⟩ := peer_in_kind h hs
    rw [← e, hx t ht hk]
theorem mirT_peer {me : Str} {t : TurnL} (hk : (mirT me t).kind ≠ 0) : (mirT me t).peer = me := by
  unfold mirT at hk ⊢
  by_cases h1 : t.kind = 1
  · rw [if_pos h1]
  · rw [if_neg h1] at hk ⊢
    by_cases h2 : t.kind = 2
    · rw [if_pos h2]
    · rw [if_neg h2] at hk
      exact absurd rfl hk
theorem mir_peer (me : Str) (ts : List TurnL) : ∀ t ∈ mirL me ts, t.kind ≠ 0 → t.peer = me := by
  intro t ht hk
  unfold mirL at ht
  obtain ⟨u, _, rfl⟩ := List.mem_map.1 ht
  exact mirT_peer hk
theorem mirE_one {ts : List TurnL} (h : locB ts = true) {x me : Str} (hx : ∀ t ∈ ts, t.kind ≠ 0 → t.peer = x) (hm : may me = true) (hne : x ≠ me) : mirE ts me = 0 := by
  unfold mirE
  rw [h, hm]
  rcases peers_one h hx with e | e
  · rw [e]; rfl
  · rw [e]
    have : hasS [x] me = false := by
      unfold hasS
      rw [← Bool.not_eq_true, List.contains_iff_mem, List.mem_singleton]
      exact fun e => hne e.symm
    rw [this]
    rfl
/-- Peers of a trim are peers of the type. -/
theorem trim_peer {ts : List TurnL} (h : locB ts = true) {x : Str} (hx : ∀ t ∈ ts, t.kind ≠ 0 → t.peer = x) : ∀ t ∈ trimT ts, t.kind ≠ 0 → t.peer = x := by
  intro t ht hk
  unfold trimT at ht
  obtain ⟨p, hp, rfl⟩ := List.mem_map.1 ht
  have hlt := reach_lt h p hp
  dsimp only at hk ⊢
  rw [turnOf_lt hlt] at hk ⊢
  exact hx _ (List.getElem_mem hlt) hk
theorem trimL_of {ts : List TurnL} (h : locB ts = true) : trimL ts = trimT ts := by unfold trimL; rw [h]; rfl
theorem trimName_of {ts : List TurnL} (h : locB ts = true) (nm : ByteArray) : trimName ts nm = nm := by unfold trimName; rw [h]; rfl
theorem walkL_of {ts : List TurnL} (h : locB ts = true) (ls : List Str) : walkL ts ls = walkT ts 0 ls := by unfold walkL; rw [h]; rfl
/-- The mirror of the mirror of a type with one peer is its trim, so the same type. -/
theorem mir_twice {ts : List TurnL} (h : locB ts = true) {x : Str} (me : Str) (hx : ∀ t ∈ ts, t.kind ≠ 0 → t.peer = x) :
    mirL x (trimT (mirL me (trimT ts))) = trimT ts ∧ sameL (trimT ts) ts = true := by
  have hv := trim_valid h
  refine ⟨by rw [mir_trim hv, trim_trim h, mir_mir hv me x (trim_peer h hx)], ?_⟩
  unfold sameL
  rw [hv, h, trimL_of hv, trimL_of h, trim_trim h]
  exact sameTs_iff.2 rfl
end Go.Proofs.YtiofpeckcfdilaaGreatDoor

/- Turns that the call makes whose arms lie in elder blocks. -/
namespace Go.Proofs.YtiofpeckcfdilaaGreatDoor
open Go.RowKit

/-- What is laid reads as this turn, and its arms lie between the bounds. -/
def VFact (w : World) (lo0 lo : Nat) (r : TR) (t : TurnL) : Prop := r.k = t.kind ∧ r.s.toList = t.peer ∧ r.s.size ≤ maxLen ∧ Arms w lo r.a r.n t.arms ∧ ∀ b off, r.a = some ⟨b, off, none⟩ → lo0 ≤ b ∧ b < lo
/-- Turns of the call's own; their arms lie in blocks between two bounds. -/
def VOwn (w : World) (lo0 lo base : Nat) (v : Value) (f : List TurnL) : Prop :=
  ∃ rs : List TR, w.ownsRow base 51 3 v f.length (rs.flatMap encTR) ∧ rs.length = f.length ∧ ∀ (j : Nat) (r : TR) (t : TurnL), rs[j]? = some r → f[j]? = some t → VFact w lo0 lo r t
theorem VOwn.zero (w : World) (lo0 lo base : Nat) : VOwn w lo0 lo base (.slice none 0 0) [] := ⟨[], World.ownsRow_nil w base 51 3, rfl, fun j r l h => by simp at h⟩
theorem VOwn.beside {w w' : World} {lo0 lo base g : Nat} {v : Value} {f : List TurnL} (h : VOwn w lo0 lo base v f) (hb : Beside g w w') (hg : g < lo0 ∨ lo ≤ g) (hg2 : g < base) (hl : lo ≤ w.heap.size) : VOwn w' lo0 lo base v f := by
  obtain ⟨rs, h, hrl, hrd⟩ := h
  have hlt := h.lt
  refine ⟨rs, ⟨h.1, ?_⟩, hrl, fun j r t hr ht => ?_⟩
  · rcases h.2 with h0 | ⟨k, cap, cur, rfl, hbase, hh, h1, h2, h3, h4⟩
    · exact .inl h0
    · refine .inr ⟨k, cap, cur, rfl, hbase, ?_, h1, h2, h3, h4⟩
      rw [hb.block k (hlt k rfl).2 (by omega)]
      exact hh
  · obtain ⟨e1, e2, e3, e4, e5⟩ := hrd j r t hr ht
    exact ⟨e1, e2, e3, e4.stay (Nat.le_refl _) (fun b off e => hb.block b (by have := (e5 b off e).2; omega) (by have := e5 b off e; omega)), e5⟩
theorem VOwn.below {w w' : World} {lo0 lo base B : Nat} {v : Value} {f : List TurnL} (h : VOwn w lo0 lo base v f) (hb : Below B w w') (hw : w.heap.size ≤ B) (hl : lo ≤ w.heap.size) : VOwn w' lo0 lo base v f := by
  obtain ⟨rs, h, hrl, hrd⟩ := h
  have hlt := h.lt
  refine ⟨rs, ⟨h.1, ?_⟩, hrl, fun j r t hr ht => ?_⟩
  · rcases h.2 with h0 | ⟨k, cap, cur, rfl, hbase, hh, h1, h2, h3, h4⟩
    · exact .inl h0
    · refine .inr ⟨k, cap, cur, rfl, hbase, ?_, h1, h2, h3, h4⟩
      rw [hb.block k (by have := (hlt k rfl).2; omega)]
      exact hh
  · obtain ⟨e1, e2, e3, e4, e5⟩ := hrd j r t hr ht
    exact ⟨e1, e2, e3, e4.below (hb.mono (by omega)), e5⟩
theorem VOwn.add {W : World} {lo0 lo base : Nat} {v : Value} {f : List TurnL} {r : TR} {t : TurnL} (hB : VOwn W lo0 lo base v f) (hA : VFact W lo0 lo r t) (hlb : lo ≤ base) (hb : base ≤ W.heap.size) (hlen : f.length ≤ 1000000) (ty : Nat) :
    ∃ v' w', (Builtin.append_ #[22, 22] ty #[v, .slice (some ⟨W.heap.size, 0, none⟩) 1 1]).run Tryz.prog (W.alloc (.cells #[.int .i64 r.k, .string r.s, .slice r.a r.n r.c] 51)) = .ok v' w' ∧ VOwn w' lo0 lo base v' (f ++ [t]) ∧ ∀ w0, Below base w0 W → Below base w0 w' := by
  obtain ⟨i0, hi0, hzz⟩ := Option.map_eq_some_iff.1 info_turn
  simp only [Prod.mk.injEq] at hzz
  obtain ⟨hz, hs1, hb1⟩ := hzz
  obtain ⟨rs, hown, hrl, hrd⟩ := hB
  have hown1 : (W.alloc (.cells #[.int .i64 r.k, .string r.s, .slice r.a r.n r.c] 51)).ownsRow base 51 3 v f.length (rs.flatMap encTR) := World.ownsRow.alloc hown _
  obtain ⟨v', w', hrun, hown', hgr, _, hat⟩ := run_append_own_at (P := Tryz.prog) (W.alloc (.cells #[.int .i64 r.k, .string r.s, .slice r.a r.n r.c] 51)) base 22 ty 51 i0 _ 3 48 Tryz.underlying22 hi0 hz hs1 hb1 rfl (by omega) v f.length (rs.flatMap encTR) hown1
    ⟨W.heap.size, 0, none⟩ 1 1 (encTR r) rfl
    (fun j u hu => by
      rw [Go.WideShapes.add_plain, cell_of_row _ _ _ _ _ _ (heap_alloc_new W _), Nat.zero_add, ← hu]
      rw [← Array.getElem?_toList]
      rfl)
    (fun u hu => by
      unfold encTR at hu
      simp only [List.mem_cons, List.not_mem_nil, or_false] at hu
      rcases hu with rfl | rfl | rfl <;> rfl) (by unfold maxLen; omega) (by omega) (by simp; omega)
  have hbel : ∀ w0, Below base w0 W → Below base w0 w' := fun w0 hw0 => (hw0.alloc (by omega) _).grown hgr (by simp; omega) (fun k hk => by
    have := hown1.lt k hk
    omega)
  have hmove : ∀ (r : TR) (t : TurnL), (VFact W lo0 lo r t) → (VFact w' lo0 lo r t) := fun r t ⟨e1, e2, e3, e4, e5⟩ =>
    ⟨e1, e2, e3, e4.below ((hbel W (Below.refl _ _)).mono hlb), e5⟩
  refine ⟨v', w', hrun, ⟨rs ++ [r], ?_, by simp [hrl], fun j r2 k hj hk => ?_⟩, hbel⟩
  · rw [List.length_append, List.flatMap_append, List.flatMap_cons, List.flatMap_nil, List.append_nil]
    exact hown'
  · rcases Nat.lt_or_ge j rs.length with hlt | hge
    · rw [List.getElem?_append_left hlt] at hj
      rw [List.getElem?_append_left (by omega)] at hk
      exact hmove _ _ (hrd j r2 k hj hk)
    · rw [List.getElem?_append_right hge] at hj
      rw [List.getElem?_append_right (by omega), ← hrl] at hk
      have h0 : j - rs.length = 0 := by
        obtain ⟨h1, _⟩ := List.getElem?_eq_some_iff.1 hj
        simpa using h1
      rw [h0] at hj hk
      obtain rfl : r = r2 := by simpa using hj
      obtain rfl : t = k := by simpa using hk
      exact hmove _ _ hA
theorem wpList_append_vturn {ops : Array Oper} {rest : List Oper} {o : Oper} {a : Act} {Q : Exit → Act → World → Prop} {W : World} {cells : Array Value} (hgd : o.guard = none) (s x : Operand)
    (ho : o.op = .call { callee := .builtin .append, args := #[s, x], argTypes := #[22, 22] }) (lo0 lo base : Nat) (v : Value) (f : List TurnL) (r : TR) (t : TurnL) (hc : cells = #[.int .i64 r.k, .string r.s, .slice r.a r.n r.c])
    (hs : a.eval s = v) {g : Nat} (hx : a.eval x = .slice (some ⟨g, 0, none⟩) 1 1) (hg : g = W.heap.size) (hB : VOwn W lo0 lo base v f) (hA : VFact W lo0 lo r t) (hlb : lo ≤ base) (hb : base ≤ W.heap.size) (hlen : f.length ≤ 1000000)
    (w0 : World) (hw : Below base w0 W)
    (h : ∀ v' w', VOwn w' lo0 lo base v' (f ++ [t]) → Below base w0 w' → wpList Tryz.prog ops Q rest (a.put o.dst v') w') : wpList Tryz.prog ops Q (o :: rest) a (W.alloc (.cells cells 51)) := by
  subst hc hg
  obtain ⟨v', w', hrun, hown, hbel⟩ := hB.add hA hlb hb hlen o.type
  exact wpList_append_lx hgd s x _ ho _ _ _ hs hx hrun (h v' w' hown (hbel w0 hw))
theorem VOwn.sees {w : World} {lo0 lo base : Nat} {v : Value} {f : List TurnL} (h : VOwn w lo0 lo base v f) (hl : f.length ≤ 1000000) (hlo : lo ≤ w.heap.size) : ∃ a c, v = .slice a f.length c ∧ Turns w w.heap.size a f.length f := by
  obtain ⟨rs, h, hrl, hrd⟩ := h
  have hlt := h.lt
  rcases h.2 with ⟨h0, h1⟩ | ⟨g, cap, cur, rfl, hbase, hh, h1, h2, h3, h4⟩
  · have hz : f = [] := List.eq_nil_of_length_eq_zero h1
    subst hz
    exact ⟨none, 0, h0, rfl, by simp, fun h => absurd h (Nat.lt_irrefl 0)⟩
  · refine ⟨_, cap, rfl, rfl, by omega, fun _ => ⟨g, 0, rfl, (hlt g rfl).2, fun j t hj => ?_⟩⟩
    have hj' : j < f.length := (List.getElem?_eq_some_iff.1 hj).1
    have hr := List.getElem?_eq_getElem (l := rs) (i := j) (by omega)
    obtain ⟨e1, e2, e3, e4, _⟩ := hrd j _ t hr hj
    have hcell : ∀ i, i < 3 → w.cell? ⟨g, 0 + (j * 3 + i), none⟩ = (encTR (rs[j]'(by omega)))[i]? := fun i hi => by
      rw [cell_of_row w g _ cur 51 (0, 0) hh, Nat.zero_add, ← flatT_at rs j _ hr i hi]
      have : (cur.toList.take (f.length * 3))[j * 3 + i]? = (rs.flatMap encTR)[j * 3 + i]? := by rw [h4]
      rw [List.getElem?_take, if_pos (by omega)] at this
      rw [← Array.getElem?_toList, this]
    exact ⟨_, _, _, _, ⟨by rw [← e1]; exact hcell 0 (by omega), hcell 1 (by omega), hcell 2 (by omega)⟩, e2, e3, e4.more hlo⟩
/-- A turn of the call's own, as it is read. -/
theorem TOwn.at2 {w : World} {base : Nat} {a : Option Addr} {n c : Nat} {f : List TurnL} (h : TOwn w base (.slice a n c) f) {k : Nat} (hk : k < n) : ∃ (g : Nat) (r : TR) (t : TurnL), a = some ⟨g, 0, none⟩ ∧ g < w.heap.size ∧ f[k]? = some t ∧
    (w.cell? ⟨g, k * 3, none⟩ = some (.int .i64 r.k) ∧ w.cell? ⟨g, k * 3 + 1, none⟩ = some (.string r.s) ∧ w.cell? ⟨g, k * 3 + 2, none⟩ = some (.slice r.a r.n r.c)) ∧ VFact w base w.heap.size r t := by
  obtain ⟨rs, h, hrl, hrd⟩ := h
  have hlt := h.lt
  rcases h.2 with ⟨h0, h1⟩ | ⟨g, cap, cur, hv, hbase, hh, h1, h2, h3, h4⟩
  · obtain ⟨_, e, _⟩ := Value.slice.inj h0
    omega
  · obtain ⟨e1, e2, _⟩ := Value.slice.inj hv
    subst e1 e2
    have ht := List.getElem?_eq_getElem (l := f) hk
    have hr := List.getElem?_eq_getElem (l := rs) (i := k) (by omega)
    obtain ⟨e1, e2, e3, e4, e5⟩ := hrd k _ _ hr ht
    have hcell : ∀ i, i < 3 → w.cell? ⟨g, k * 3 + i, none⟩ = (encTR (rs[k]'(by omega)))[i]? := fun i hi => by
      rw [cell_of_row w g _ cur 51 (0, 0) hh, ← flatT_at rs k _ hr i hi]
      have : (cur.toList.take (f.length * 3))[k * 3 + i]? = (rs.flatMap encTR)[k * 3 + i]? := by rw [h4]
      rw [List.getElem?_take, if_pos (by omega)] at this
      rw [← Array.getElem?_toList, this]
    refine ⟨g, rs[k]'(by omega), _, rfl, (hlt g (by rw [hv]; rfl)).2, ht, ⟨hcell 0 (by omega), hcell 1 (by omega), hcell 2 (by omega)⟩, e1, e2, e3, e4, fun b off e => ⟨(e5 b off e).1, (e5 b off e).2.1⟩⟩
theorem VFact.below {w w' : World} {lo0 lo : Nat} {r : TR} {t : TurnL} (h : VFact w lo0 lo r t) (hb : Below lo w w') : VFact w' lo0 lo r t := ⟨h.1, h.2.1, h.2.2.1, h.2.2.2.1.below hb, h.2.2.2.2⟩
end Go.Proofs.YtiofpeckcfdilaaGreatDoor

/- Contract of mirror's Of. -/
namespace Go.Proofs.YtiofpeckcfdilaaGreatDoor
open Go.RowKit

/-- What the peer does at a turn, as it is laid. -/
def mirR (me : ByteArray) (r : TR) : TR := if r.k = 1 then ⟨2, me, r.a, r.n, r.c⟩ else if r.k = 2 then ⟨1, me, r.a, r.n, r.c⟩ else ⟨0, ⟨#[]⟩, none, 0, 0⟩
theorem mirR_reads {w : World} {lo0 lo : Nat} {r : TR} {t : TurnL} {me : ByteArray} (hm : me.size ≤ maxLen) (h : VFact w lo0 lo r t) : VFact w lo0 lo (mirR me r) (mirT me.toList t) := by
  obtain ⟨h1, _, _, h2, h3⟩ := h
  unfold mirR mirT
  rw [h1]
  by_cases k1 : t.kind = 1
  · rw [if_pos k1, if_pos k1]
    exact ⟨rfl, rfl, hm, h2, h3⟩
  · rw [if_neg k1, if_neg k1]
    by_cases k2 : t.kind = 2
    · rw [if_pos k2, if_pos k2]
      exact ⟨rfl, rfl, hm, h2, h3⟩
    · rw [if_neg k2, if_neg k2]
      exact ⟨rfl, by rw [ByteArray.toList_eq], by simp [maxLen, ByteArray.size], Arms.zero _ _ _, fun b off e => by cases e⟩
set_option maxHeartbeats 4000000 in
theorem opposite_any (r : TR) (me : ByteArray) (w : World) :
    Calls Tryz.prog 35 #[.agg #[.int .i64 r.k, .string r.s, .slice r.a r.n r.c], .string me] w fun e w' =>
      e = .returned (.agg #[.int .i64 (mirR me r).k, .string (mirR me r).s, .slice (mirR me r).a (mirR me r).n (mirR me r).c]) ∧ Below w.heap.size w w' := by
  obtain ⟨k, s, a, n, c⟩ := r
  by_cases k1 : k = 1
  · subst k1
    have HR := Lib.hid (show mirR me ⟨1, s, a, n, c⟩ = ⟨2, me, a, n, c⟩ from rfl)
    rw [HR.out]
    dsimp only
    go_enter Tryz.func35, Tryz.ntmps35
    go_wp2
    refine bodyPost_ret (v := .agg #[.int .i64 2, .string me, .slice a n c]) (by simp [results, go_sem]) rfl ?_
    exact ⟨rfl, below_on (tu1 w _) (tu1 _ _)⟩
  · by_cases k2 : k = 2
    · subst k2
      have HR := Lib.hid (show mirR me ⟨2, s, a, n, c⟩ = ⟨1, me, a, n, c⟩ from rfl)
      rw [HR.out]
      dsimp only
      go_enter Tryz.func35, Tryz.ntmps35
      go_wp2
      refine bodyPost_ret (v := .agg #[.int .i64 1, .string me, .slice a n c]) (by simp [results, go_sem]) rfl ?_
      exact ⟨rfl, below_on (tu1 w _) (tu1 _ _)⟩
    · have HR := Lib.hid (show mirR me ⟨k, s, a, n, c⟩ = ⟨0, ⟨#[]⟩, none, 0, 0⟩ by unfold mirR; rw [if_neg k1, if_neg k2])
      rw [HR.out]
      dsimp only
      have e1 : (k == 1) = false := beq_eq_false_iff_ne.2 k1
      have e2 : (k == 2) = false := beq_eq_false_iff_ne.2 k2
      go_enter Tryz.func35, Tryz.ntmps35
      go_wp2
      refine bodyPost_ret (v := .agg #[.int .i64 0, .string ⟨#[]⟩, .slice none 0 0]) (by simp [results, go_sem]) rfl ?_
      exact ⟨rfl, below_on (tu1 w _) (tu1 _ _)⟩
set_option maxHeartbeats 4000000 in
theorem ofClo_any (r : TR) (me : ByteArray) (A : Nat) (w : World) (hA : w.cell? ⟨A, 0, none⟩ = some (.string me)) (hlt : A < w.heap.size) :
    Calls Tryz.prog 34 #[.agg #[.int .i64 r.k, .string r.s, .slice r.a r.n r.c], .pointer (some ⟨A, 0, none⟩)] w fun e w' =>
      e = .returned (.agg #[.int .i64 (mirR me r).k, .string (mirR me r).s, .slice (mirR me r).a (mirR me r).n (mirR me r).c]) ∧ Below w.heap.size w w' := by
  obtain ⟨q, hq⟩ : ∃ q, q = mirR me r := ⟨_, rfl⟩
  have CO := Lib.hid (fun (W : World) => opposite_any r me W)
  rw [← hq] at CO ⊢
  clear hq
  obtain ⟨k, s, a, n, c⟩ := r
  obtain ⟨k', s', a', n', c'⟩ := q
  dsimp only at CO ⊢
  have HB0 := Lib.hid (below_on (tu1 w (.cells #[.int .i64 k, .string s, .slice a n c] 51)) (tu1 (w.alloc (.cells #[.int .i64 k, .string s, .slice a n c] 51)) (.cells #[.int .i64 0, .string ⟨#[]⟩, .slice none 0 0] 51)))
  have hA2 := (HB0.out.cell (p := ⟨A, 0, none⟩) hlt).trans hA
  have HT0 := Lib.hid (TBox.new (w.alloc (.cells #[.int .i64 k, .string s, .slice a n c] 51)) 0 ⟨#[]⟩ none 0 0)
  rw [World.size_alloc] at HT0
  go_enter Tryz.func34, Tryz.ntmps34
  go_wp2_with (first
    | (go_at_call 35; (with_reducible refine (CO.out _).mono ?_)
       rintro e w1 ⟨rfl, hb1⟩
       have HB1 := Lib.hid (below_on HB0.out hb1)
       have HT1 := Lib.hid (show TBox w1 (w.heap.size + 1) 0 ⟨#[]⟩ none 0 0 from (hb1.block (w.heap.size + 1) (by simp)).trans HT0.out)
       obtain ⟨_, _, _⟩ := HT1.out.cells
       have f0 := HT1.out.thaw 0
       have f1 := HT1.out.thaw 1
       have f2 := HT1.out.thaw 2
       clear hb1)
    | fail)
  refine bodyPost_ret (v := .agg #[.int .i64 k', .string s', .slice a' n' c']) (by simp [results, go_sem, *]) rfl ?_
  exact ⟨rfl, ((HB1.out.setCell (by simp) _).setCell (by simp) _).setCell (by simp) _⟩
set_option maxHeartbeats 8000000 in
set_option maxRecDepth 20000 in
theorem each_any (a : Option Addr) (n c : Nat) (us : List TurnL) (me : ByteArray) (A : Nat) (w w0 : World) (lo0 : Nat) (h0 : TOwn w0 lo0 (.slice a n c) us) (hw0 : Below w0.heap.size w0 w) (hul : us.length = n) (hA : w.cell? ⟨A, 0, none⟩ = some (.string me)) (hlt : A < w.heap.size) (hm : me.size ≤ maxLen) (hn : n ≤ 1000) :
    Calls Tryz.prog 33 #[.slice a n c, .func (.func 34) #[] #[.pointer (some ⟨A, 0, none⟩)]] w fun e w' => (∃ v, e = .returned v ∧ VOwn w' lo0 w0.heap.size w.heap.size v (mirL me.toList us)) ∧ Below w.heap.size w w' := by
  have HN := Lib.hid h0
  have HA := Lib.hid hA
  have HLEN := Lib.hid hul
  have HW0 := Lib.hid hw0
  have hlo := hw0.size
  clear h0 hA hw0
  go_enter Tryz.func33, Tryz.ntmps33
  go_wp2
  go_loopw [5, 10] (fun o i wr => ∃ (k : Nat) (v : Value), k ≤ n ∧ i = .int .i64 k ∧ v = o ∧ Hid (VOwn wr lo0 w0.heap.size w.heap.size v ((us.take k).map (mirT me.toList))) ∧ Hid (Below w.heap.size w wr)) (fun _ i _ => n - (intOf i).toNat)
  case atStart => exact ⟨0, _, Nat.zero_le _, rfl, rfl, Lib.hid (VOwn.zero _ _ _ _), Lib.hid (Below.refl _ _)⟩
  case round =>
    obtain ⟨k, v, hk, rfl, hvo, HO, HBr⟩ := hrel
    subst hvo
    by_cases hkn : k < n
    · obtain ⟨b, ⟨kd, s, aa, an, ac⟩, t, rfl, hbb, ht, ⟨q0, q1, q2⟩, hvf⟩ := HN.out.at2 hkn
      dsimp only at q0 q1 q2
      have HBW := Lib.hid (below_on HW0.out HBr.out)
      have r0 := (HBW.out.cell (p := ⟨b, k * 3, none⟩) hbb).trans q0
      have r1 := (HBW.out.cell (p := ⟨b, k * 3 + 1, none⟩) hbb).trans q1
      have r2 := (HBW.out.cell (p := ⟨b, k * 3 + 2, none⟩) hbb).trans q2
      have HST := Lib.hid (show (us.take (k + 1)).map (mirT me.toList) = (us.take k).map (mirT me.toList) ++ [mirT me.toList t] by rw [take_snoc ht, List.map_append]; rfl)
      have hzr := HBr.out.size
      have HB0 := Lib.hid (tu1 wr (.cells #[.int .i64 kd, .string s, .slice aa an ac] 51))
      have HB1 := Lib.hid (below_on HBr.out HB0.out)
      have HRD := Lib.hid (fun (W : World) (hW : Below w0.heap.size w0 W) => mirR_reads (me := me) hm (hvf.below hW))
      have CN := Lib.hid (fun (W : World) (hW : Below w.heap.size w W) => ofClo_any ⟨kd, s, aa, an, ac⟩ me A W ((hW.cell (p := ⟨A, 0, none⟩) hlt).trans HA.out) (by have := hW.size; omega))
      obtain ⟨T, hT⟩ : ∃ T, T = mirT me.toList t := ⟨_, rfl⟩
      obtain ⟨q, hq⟩ : ∃ q, q = mirR me ⟨kd, s, aa, an, ac⟩ := ⟨_, rfl⟩
      rw [← hT] at HST HRD
      rw [← hq] at CN HRD
      clear hT hq
      obtain ⟨k', s', a', n', c'⟩ := q
      dsimp only at CN
      have HFL := Lib.hid (show ((us.take k).map (mirT me.toList)).length ≤ 1000000 by rw [List.length_map, List.length_take]; omega)
      have i1 : (k : Int) < (n : Int) := by omega
      have z1 : b < wr.heap.size := by omega
      clear ht hvf q0 q1 q2
      go_wp2_with (first
        | (at_builtin
           refine wpList_append_vturn rfl (.tmp 14) (.tmp 18) rfl lo0 w0.heap.size w.heap.size v ((us.take k).map (mirT me.toList)) ⟨k', s', a', n', c'⟩ T rfl rfl rfl rfl HO3.out HR3.out hlo hz3 HFL.out w HB3.out ?_
           intro v4 w4 hown hbel
           have HO4 := Lib.hid hown
           have HB4 := Lib.hid hbel
           clear hown hbel)
        | (go_at_call 34; (with_reducible refine (CN.out _ HB1.out).mono ?_)
           rintro e w3 ⟨rfl, hb3⟩
           have HB3 := Lib.hid (below_on HB1.out hb3)
           have HR3 := Lib.hid (HRD.out _ (below_on HBW.out (below_on HB0.out hb3)))
           have HO3 := Lib.hid (HO.out.below (below_on HB0.out hb3) (Nat.le_refl _) (by omega))
           have hz3 : w.heap.size ≤ w3.heap.size := HB3.out.size
           clear hb3)
        | fail)
      go_roundw
      case rel => exact ⟨k + 1, v4, by omega, by go_num, rfl, Lib.hid (by rw [HST.out]; exact HO4.out), HB4⟩
      case measure => simp [intOf]; omega
    · have HE := Lib.hid (show VOwn wr lo0 w0.heap.size w.heap.size v (mirL me.toList us) by
        have := HO.out
        rw [List.take_of_length_le (by rw [HLEN.out]; omega)] at this
        exact this)
      go_wp2
      go_ret
      exact ⟨⟨v, rfl, HE.out⟩, HBr.out⟩
set_option maxHeartbeats 8000000 in
theorem miFault_any (nm me : ByteArray) (a : Option Addr) (n c : Nat) (ts : List TurnL) (w : World) (bound : Nat) (hb : bound ≤ w.heap.size) (h : Turns w bound a n ts) (hm : me.size ≤ maxLen) :
    Calls Tryz.prog 31 #[.agg #[.string nm, .slice a n c], .string me] w fun e w' => e = .returned (.int .i64 (mirE ts me.toList)) ∧ Below w.heap.size w w' := by
  have HB0 := Lib.hid (tu1 w (.cells #[.string nm, .slice a n c] 24))
  have HL := Lib.hid (LBox.new w nm a n c)
  have CM := Lib.hid (fun (W : World) (hW : Below w.heap.size w W) => ownMay_any nm a n c ts W bound (by have := hW.size; omega) (h.below (hW.mono hb)))
  have CP := Lib.hid (fun (W : World) (hW : Below w.heap.size w W) => ownPeers_any nm a n c ts W bound (by have := hW.size; omega) (h.below (hW.mono hb)))
  have CK := Lib.hid (fun (W : World) => may_any me W hm)
  have CH := Lib.hid (fun (W : World) (ra : Option Addr) (rn rc : Nat) (hs : Strs W W.heap.size ra rn (peersT ts)) => has_any ra rn rc (peersT ts) me W _ hs)
  obtain ⟨lc0, lc1⟩ := HL.out.cells
  clear h
  cases hv : locB ts
  · have HE := Lib.hid (show mirE ts me.toList = 1200 by unfold mirE; rw [hv]; rfl)
    rw [hv] at CM
    rw [HE.out]
    clear hv
    go_enter Tryz.func31, Tryz.ntmps31
    go_wp2_with (first
      | (go_at_call 53; (with_reducible refine (CM.out _ HB0.out).mono ?_)
         rintro e w1 ⟨rfl, hb1⟩
         have HB1 := Lib.hid (below_on HB0.out hb1)
         clear hb1)
      | fail)
    go_ret
    exact ⟨rfl, HB1.out⟩
  · rw [hv] at CM
    cases hk : may me.toList
    · have HE := Lib.hid (show mirE ts me.toList = 1200 by unfold mirE; rw [hv, hk]; rfl)
      rw [hk] at CK
      rw [HE.out]
      clear hv hk
      go_enter Tryz.func31, Tryz.ntmps31
      go_wp2_with (first
        | (go_at_call 53; (with_reducible refine (CM.out _ HB0.out).mono ?_)
           rintro e w1 ⟨rfl, hb1⟩
           have HB1 := Lib.hid (below_on HB0.out hb1)
           clear hb1)
        | (go_at_call 26; (with_reducible refine (CK.out _).mono ?_)
           rintro e w2 ⟨rfl, rfl⟩)
        | fail)
      go_ret
      exact ⟨rfl, HB1.out⟩
    · rw [hk] at CK
      have HE := Lib.hid (show mirE ts me.toList = if decide (1 < (peersT ts).length) || hasS (peersT ts) me.toList then 1201 else 0 by unfold mirE; rw [hv, hk]; rfl)
      clear hv hk
      by_cases h1 : 1 < (peersT ts).length
      · have HQ := Lib.hid (show mirE ts me.toList = 1201 by rw [HE.out, decide_eq_true h1]; rfl)
        have H1 := Lib.hid h1
        rw [HQ.out]
        clear h1
        go_enter Tryz.func31, Tryz.ntmps31
        go_wp2_with (first
          | (go_at_call 53; (with_reducible refine (CM.out _ HB0.out).mono ?_)
             rintro e w1 ⟨rfl, hb1⟩
             have HB1 := Lib.hid (below_on HB0.out hb1)
             obtain ⟨_, _⟩ := (HL.out.on hb1).cells
             clear hb1)
          | (go_at_call 26; (with_reducible refine (CK.out _).mono ?_)
             rintro e w2 ⟨rfl, rfl⟩)
          | (go_at_call 25; (with_reducible refine (CP.out _ HB1.out).mono ?_)
             rintro e w3 ⟨⟨ra, rn, rc, rfl, hss⟩, hb3⟩
             have HB3 := Lib.hid (below_on HB1.out hb3)
             have d1 : decide ((1 : Int) < (rn : Int)) = true := decide_eq_true (by have := hss.1; have := H1.out; omega)
             clear hb3 hss)
          | fail)
        go_ret
        exact ⟨rfl, HB3.out⟩
      · have H1 := Lib.hid h1
        cases hh : hasS (peersT ts) me.toList
        all_goals
          have HQ := Lib.hid HE.out
          rw [decide_eq_false h1, hh] at HQ
          rw [HQ.out]
          rw [hh] at CH
          clear h1 hh
          go_enter Tryz.func31, Tryz.ntmps31
          go_wp2_with (first
            | (go_at_call 53; (with_reducible refine (CM.out _ HB0.out).mono ?_)
               rintro e w1 ⟨rfl, hb1⟩
               have HB1 := Lib.hid (below_on HB0.out hb1)
               obtain ⟨_, _⟩ := (HL.out.on hb1).cells
               clear hb1)
            | (go_at_call 26; (with_reducible refine (CK.out _).mono ?_)
               rintro e w2 ⟨rfl, rfl⟩)
            | (go_at_call 25; (with_reducible refine (CP.out _ HB1.out).mono ?_)
               rintro e w3 ⟨⟨ra, rn, rc, rfl, hss⟩, hb3⟩
               have HB3 := Lib.hid (below_on HB1.out hb3)
               have d1 : decide ((1 : Int) < (rn : Int)) = false := decide_eq_false (by have := hss.1; have := H1.out; omega)
               have HS := Lib.hid hss
               clear hb3 hss)
            | (go_at_call 27; (with_reducible refine (CH.out _ _ _ _ HS.out).mono ?_)
               rintro e w4 ⟨rfl, rfl⟩)
            | fail)
          go_ret
          exact ⟨rfl, HB3.out⟩
/-- What Of answers: its type's name and turns. -/
def mirN (ts : List TurnL) (nm : ByteArray) (me : Str) : ByteArray := if mirE ts me = 0 then nm else ⟨#[]⟩
def mirQ (ts : List TurnL) (me : Str) : List TurnL := if mirE ts me = 0 then mirL me (trimT ts) else []
def OfRet (nm : ByteArray) (ts : List TurnL) (me : Str) (w : World) (e : Ending) (w' : World) : Prop :=
  (∃ ra rn rc, e = .returned (.tuple #[.agg #[.string (mirN ts nm me), .slice ra rn rc], .int .i64 (mirE ts me)]) ∧ Turns w' w'.heap.size ra rn (mirQ ts me)) ∧ Below w.heap.size w w'
theorem mirE_ok {ts : List TurnL} {me : Str} (h : mirE ts me = 0) : locB ts = true ∧ may me = true := by
  unfold mirE at h
  cases hv : locB ts
  · rw [hv] at h; simp at h
  · cases hk : may me
    · rw [hv, hk] at h; simp at h
    · exact ⟨rfl, rfl⟩
set_option maxHeartbeats 8000000 in
theorem of_any (nm me : ByteArray) (a : Option Addr) (n c : Nat) (ts : List TurnL) (w : World) (bound : Nat) (hb : bound ≤ w.heap.size) (h : Turns w bound a n ts) (hm : me.size ≤ maxLen) :
    Calls Tryz.prog 11 #[.agg #[.string nm, .slice a n c], .string me] w fun e w' => OfRet nm ts me.toList w e w' := by
  obtain ⟨w0, hw0⟩ : ∃ w0, w0 = ((w.alloc (.cells #[.string nm, .slice a n c] 24)).alloc (.cells #[.string me] 9)).alloc (.cells #[.string ⟨#[]⟩, .slice none 0 0] 24) := ⟨_, rfl⟩
  have hsz0 : w0.heap.size = w.heap.size + 3 := by rw [hw0]; simp
  have HB0 := Lib.hid (show Below w.heap.size w w0 by rw [hw0]; exact below_on (below_on (tu1 w _) (tu1 _ _)) (tu1 _ _))
  have HL0 := Lib.hid (show LBox w0 w.heap.size nm a n c by rw [hw0]; exact ((LBox.new w nm a n c).on (tu1 _ _)).on (tu1 _ _))
  have HX0 := Lib.hid (show LBox w0 (w.heap.size + 2) ⟨#[]⟩ none 0 0 by
    rw [hw0]
    have := LBox.new ((w.alloc (.cells #[.string nm, .slice a n c] 24)).alloc (.cells #[.string me] 9)) ⟨#[]⟩ none 0 0
    rw [World.size_alloc, World.size_alloc] at this
    exact this)
  have hme : w0.cell? ⟨w.heap.size + 1, 0, none⟩ = some (.string me) := by
    have h1 := heap_alloc_new (w.alloc (.cells #[.string nm, .slice a n c] 24)) (.cells #[.string me] 9)
    rw [World.size_alloc] at h1
    rw [hw0]
    refine ((tu1 _ _).cell (p := ⟨w.heap.size + 1, 0, none⟩) (by simp)).trans ?_
    rw [cell_of_row _ _ _ _ _ _ h1]
    rfl
  have HME := Lib.hid hme
  have CF := Lib.hid (miFault_any nm me a n c ts w0 bound (by omega) (h.below (HB0.out.mono hb)) hm)
  have CT := Lib.hid (fun (W : World) (hW : Below w0.heap.size w0 W) => ownTrimO_any nm a n c ts W bound (by have := hW.size; omega) ((h.below (HB0.out.mono hb)).below (hW.mono (by omega))))
  obtain ⟨lc0, lc1⟩ := HL0.out.cells
  obtain ⟨xc0, xc1⟩ := HX0.out.cells
  clear h
  by_cases he : mirE ts me.toList = 0
  · have HN := Lib.hid (show mirN ts nm me.toList = nm by unfold mirN; rw [if_pos he])
    have HQ := Lib.hid (show mirQ ts me.toList = mirL me.toList (trimT ts) by unfold mirQ; rw [if_pos he])
    have HV := Lib.hid (mirE_ok he).1
    have HE := Lib.hid he
    rw [he] at CF
    rw [trimL_of HV.out, trimName_of HV.out] at CT
    clear he
    have H40 := Lib.hid (show (trimT ts).length ≤ 40 by have := trimL_few ts; rw [trimL_of HV.out] at this; exact this)
    subst hw0
    go_enter Tryz.func11, Tryz.ntmps11
    go_wp2_with (first
      | (go_at_call 31; (with_reducible refine CF.out.mono ?_)
         rintro e w1 ⟨rfl, hb1⟩
         have HB1 := Lib.hid hb1
         have HL1 := Lib.hid (HL0.out.on hb1)
         have HX1 := Lib.hid (HX0.out.on hb1)
         have hm1 := (hb1.cell (p := ⟨w.heap.size + 1, 0, none⟩) (by show w.heap.size + 1 < _; omega)).trans HME.out
         obtain ⟨_, _⟩ := HL1.out.cells
         clear hb1)
      | (go_at_call 32; (with_reducible refine (CT.out _ HB1.out).mono ?_)
         rintro e w2 ⟨⟨ra, rn, rc, rfl, ht2⟩, hb2⟩
         have HB2 := Lib.hid (below_on HB1.out hb2)
         have HT2 := Lib.hid ht2
         have HX2 := Lib.hid (HX1.out.on hb2)
         have hz1 : w.heap.size + 3 ≤ w1.heap.size := by have := HB1.out.size; omega
         have hz2 := hb2.size
         obtain ⟨ra', rc', hsl, _⟩ := ht2.sees (by have := H40.out; omega)
         have HRN := Lib.hid (show (trimT ts).length = rn from (Value.slice.inj hsl).2.1.symm)
         have HM2 := Lib.hid ((hb2.cell (p := ⟨w.heap.size + 1, 0, none⟩) (by show w.heap.size + 1 < _; omega)).trans hm1)
         have HM3 := Lib.hid (((tu1 w2 (.cells #[.string nm, .slice ra rn rc] 24)).cell (p := ⟨w.heap.size + 1, 0, none⟩) (by show w.heap.size + 1 < _; omega)).trans HM2.out)
         have HL3 := Lib.hid (LBox.new w2 nm ra rn rc)
         have hr40 : rn ≤ 1000 := by have := H40.out; have := HRN.out; omega
         clear hb2 hm1 hsl ht2)
      | (go_at_call 33; (with_reducible refine (each_any ra rn rc (trimT ts) me (w.heap.size + 1) _ w2 w1.heap.size HT2.out (tu1 w2 _) HRN.out HM3.out (by simp; omega) hm hr40).mono ?_)
         rintro e w4 ⟨⟨v, rfl, hv4⟩, hb4⟩
         have HB4 := Lib.hid (below_on HB2.out (below_on (tu1 w2 _) hb4))
         have HX4 := Lib.hid ((HX2.out.on (tu1 w2 _)).on hb4)
         have HL4 := Lib.hid (HL3.out.on hb4)
         have hz4 := hb4.size
         rw [World.size_alloc] at hz4
         obtain ⟨xa, xc, hxv, _⟩ := hv4.sees (by rw [mir_len]; have := HRN.out; omega) (by omega)
         rw [mir_len, HRN.out] at hxv
         subst hxv
         rw [World.size_alloc] at hv4
         have HV4 := Lib.hid hv4
         obtain ⟨_, _⟩ := HL4.out.cells
         have f1 := HL4.out.thaw 1
         obtain ⟨_, _⟩ := HX4.out.cells
         have f2 := HX4.out.thaw 0
         have f3 := HX4.out.thaw 1
         clear hb4 hv4)
      | fail)
    have hq0 : w.heap.size + 1 + 1 < w1.heap.size := by omega
    have HF := Lib.hid (((HV4.out.beside ((Beside.refl w2.heap.size w4).setCell 1 (.slice xa rn xc)) (by omega) (by omega) (by omega)).beside ((Beside.refl (w.heap.size + 1 + 1) _).setCell 0 (.string nm)) (by omega) (by omega) (by simp; omega)).beside ((Beside.refl (w.heap.size + 1 + 1) _).setCell 1 (.slice xa rn xc)) (by omega) (by omega) (by simp; omega))
    refine bodyPost_ret (v := .tuple #[.agg #[.string nm, .slice xa rn xc], .int .i64 0]) (by simp [results, go_sem, *]) rfl ?_
    refine ⟨⟨xa, rn, xc, by rw [HN.out, HE.out], ?_⟩, (((below_on HB0.out HB4.out).setCell (by show w.heap.size ≤ w2.heap.size; omega) _).setCell (by show w.heap.size ≤ w.heap.size + 1 + 1; omega) _).setCell (by show w.heap.size ≤ w.heap.size + 1 + 1; omega) _⟩
    obtain ⟨ya, yc, hyv, hyt⟩ := HF.out.sees (by rw [mir_len]; have := HRN.out; omega) (by simp; omega)
    rw [mir_len, HRN.out] at hyv hyt
    obtain ⟨e1, _, _⟩ := Value.slice.inj hyv
    subst e1
    rw [HQ.out]
    exact hyt
  · have HN := Lib.hid (show mirN ts nm me.toList = ⟨#[]⟩ by unfold mirN; rw [if_neg he])
    have HQ := Lib.hid (show mirQ ts me.toList = [] by unfold mirQ; rw [if_neg he])
    obtain ⟨E, hE⟩ : ∃ E, E = mirE ts me.toList := ⟨_, rfl⟩
    rw [← hE] at CF he
    have HE := Lib.hid hE
    have en : (E != 0) = true := bne_iff_ne.2 he
    clear he hE
    subst hw0
    go_enter Tryz.func11, Tryz.ntmps11
    go_wp2_with (first
      | (go_at_call 31; (with_reducible refine CF.out.mono ?_)
         rintro e w1 ⟨rfl, hb1⟩
         have HB1 := Lib.hid (below_on HB0.out hb1)
         have HX1 := Lib.hid (HX0.out.on hb1)
         obtain ⟨_, _⟩ := HX1.out.cells
         have f2 := HX1.out.thaw 0
         have f3 := HX1.out.thaw 1
         clear hb1)
      | fail)
    refine bodyPost_ret (v := .tuple #[.agg #[.string ⟨#[]⟩, .slice none 0 0], .int .i64 E]) (by simp [results, go_sem, *]) rfl ?_
    refine ⟨⟨none, 0, 0, by rw [HN.out, ← HE.out], by rw [HQ.out]; exact Turns.zero _ _ _⟩, (HB1.out.setCell (by show w.heap.size ≤ w.heap.size + 1 + 1; omega) _).setCell (by show w.heap.size ≤ w.heap.size + 1 + 1; omega) _⟩
end Go.Proofs.YtiofpeckcfdilaaGreatDoor

/- The statements' first: the chapter's example. -/
namespace Go.Proofs.YtiofpeckcfdilaaGreatDoor
open Go.RowKit

def exM : List TurnL := [⟨1, [98], [⟨[120], 0, [], 1⟩]⟩, ⟨0, [], []⟩]
theorem exM_ok : mirE exM [97] = 0 := by decide +kernel
theorem exM_no : mirE exM [98] = 1201 := by decide +kernel
theorem exM_mir : mirQ exM [97] = [⟨2, [97], [⟨[120], 0, [], 1⟩]⟩, ⟨0, [], []⟩] := by
  unfold mirQ
  rw [if_pos exM_ok]
  rfl
theorem one_list (c : UInt8) : (⟨#[c]⟩ : ByteArray).toList = [c] := by rw [ByteArray.toList_eq]
theorem no_list : (⟨#[]⟩ : ByteArray).toList = [] := by rw [ByteArray.toList_eq]
def exMA : Obj := .cells #[.string ⟨#[120]⟩, .int .i64 0, .string ⟨#[]⟩, .int .i64 1] 67
def exMT (b : Nat) : Obj := .cells #[.int .i64 1, .string ⟨#[98]⟩, .slice (some ⟨b, 0, none⟩) 1 1, .int .i64 0, .string ⟨#[]⟩, .slice none 0 0] 51
theorem exM_turns (w : World) : Turns ((w.alloc exMA).alloc (exMT w.heap.size)) ((w.alloc exMA).alloc (exMT w.heap.size)).heap.size (some ⟨w.heap.size + 1, 0, none⟩) 2 exM := by
  have h2 := heap_alloc_new (w.alloc exMA) (exMT w.heap.size)
  have h1 := ((tu1 (w.alloc exMA) (exMT w.heap.size)).block w.heap.size (by simp)).trans (heap_alloc_new w exMA)
  rw [World.size_alloc] at h2
  have hA : Arms ((w.alloc exMA).alloc (exMT w.heap.size)) ((w.alloc exMA).alloc (exMT w.heap.size)).heap.size (some ⟨w.heap.size, 0, none⟩) 1 [⟨[120], 0, [], 1⟩] := by
    refine ⟨rfl, by omega, fun _ => ⟨w.heap.size, 0, rfl, by simp; omega, fun j x hj => ?_⟩⟩
    obtain rfl : j = 0 := by
      have := (List.getElem?_eq_some_iff.1 hj).1
      simp at this
      omega
    obtain rfl := Option.some.inj hj
    exact ⟨⟨#[120]⟩, ⟨#[]⟩, ⟨by rw [cell_of_row _ _ _ _ _ _ h1]; rfl, by rw [cell_of_row _ _ _ _ _ _ h1]; rfl, by rw [cell_of_row _ _ _ _ _ _ h1]; rfl, by rw [cell_of_row _ _ _ _ _ _ h1]; rfl⟩, one_list 120, no_list, by simp [maxLen, ByteArray.size], by simp [maxLen, ByteArray.size]⟩
  refine ⟨rfl, by omega, fun _ => ⟨w.heap.size + 1, 0, rfl, by simp, fun j x hj => ?_⟩⟩
  have hj2 : j = 0 ∨ j = 1 := by
    have := (List.getElem?_eq_some_iff.1 hj).1
    simp [exM] at this
    omega
  rcases hj2 with rfl | rfl
  · obtain rfl := Option.some.inj hj
    exact ⟨⟨#[98]⟩, some ⟨w.heap.size, 0, none⟩, 1, 1, ⟨by rw [cell_of_row _ _ _ _ _ _ h2]; rfl, by rw [cell_of_row _ _ _ _ _ _ h2]; rfl, by rw [cell_of_row _ _ _ _ _ _ h2]; rfl⟩, one_list 98, by simp [maxLen, ByteArray.size], hA⟩
  · obtain rfl := Option.some.inj hj
    exact ⟨⟨#[]⟩, none, 0, 0, ⟨by rw [cell_of_row _ _ _ _ _ _ h2]; rfl, by rw [cell_of_row _ _ _ _ _ _ h2]; rfl, by rw [cell_of_row _ _ _ _ _ _ h2]; rfl⟩, no_list, by simp [maxLen, ByteArray.size], Arms.zero _ _ _⟩
set_option maxHeartbeats 8000000 in
set_option maxRecDepth 20000 in
theorem miFirst_any (w : World) : Calls Tryz.prog 7 #[] w fun e w' => e = .returned (.bool true) ∧ Below w.heap.size w w' := by
  obtain ⟨W2, hW2⟩ : ∃ W2, W2 = (w.alloc exMA).alloc (exMT w.heap.size) := ⟨_, rfl⟩
  have HT2 := Lib.hid (show Turns W2 W2.heap.size (some ⟨w.heap.size + 1, 0, none⟩) 2 exM by rw [hW2]; exact exM_turns w)
  have HB2 := Lib.hid (show Below w.heap.size w W2 by rw [hW2]; exact below_on (tu1 w exMA) (tu1 _ _))
  have hs2 : W2.heap.size = w.heap.size + 1 + 1 := by rw [hW2]; simp
  have HL3 := Lib.hid (LBox.new W2 ⟨#[116]⟩ (some ⟨w.heap.size + 1, 0, none⟩) 2 2)
  have HBX := Lib.hid (tu1 W2 (.cells #[.string ⟨#[116]⟩, .slice (some ⟨w.heap.size + 1, 0, none⟩) 2 2] 24))
  rw [hs2] at HL3
  have HS2 := Lib.hid hs2
  have CA := Lib.hid (fun (W : World) (hW : Below W2.heap.size W2 W) => of_any ⟨#[116]⟩ ⟨#[97]⟩ (some ⟨w.heap.size + 1, 0, none⟩) 2 2 exM W W2.heap.size hW.size (HT2.out.below hW) (by simp [maxLen, ByteArray.size]))
  have CB := Lib.hid (fun (W : World) (hW : Below W2.heap.size W2 W) => of_any ⟨#[116]⟩ ⟨#[98]⟩ (some ⟨w.heap.size + 1, 0, none⟩) 2 2 exM W W2.heap.size hW.size (HT2.out.below hW) (by simp [maxLen, ByteArray.size]))
  rw [one_list] at CA CB
  unfold OfRet mirN at CA CB
  rw [exM_ok, exM_mir] at CA
  rw [exM_no] at CB
  rw [if_pos rfl] at CA
  rw [if_neg (by decide)] at CB
  obtain ⟨lc0, lc1⟩ := HL3.out.cells
  unfold exMA exMT at hW2
  subst hW2
  clear hs2
  go_enter Tryz.func7, Tryz.ntmps7
  go_upto_region 4 with (first
    | (go_at_call 11; (with_reducible refine (CA.out _ HBX.out).mono ?_)
       rintro e w4 ⟨⟨ra, rn, rc, rfl, ht4⟩, hb4⟩
       have HB4 := Lib.hid (below_on HBX.out hb4)
       have HL4 := Lib.hid (HL3.out.on hb4)
       have HT4 := Lib.hid ht4
       have HM5 := Lib.hid (LBox.new w4 ⟨#[116]⟩ ra rn rc)
       obtain ⟨_, _⟩ := (HL4.out.on (tu1 w4 (.cells #[.string ⟨#[116]⟩, .slice ra rn rc] 24))).cells
       have hz4 := HL4.out.lt
       clear hb4 ht4)
    | (go_at_call 11; (with_reducible refine (CB.out _ (below_on HB4.out (tu1 w4 _))).mono ?_)
       rintro e w6 ⟨⟨xa, xn, xc, rfl, _⟩, hb6⟩
       have HB6 := Lib.hid (below_on (below_on HB4.out (tu1 w4 _)) hb6)
       have HM6 := Lib.hid (HM5.out.on hb6)
       have HT6 := Lib.hid ((HT4.out.on (tu1 w4 _)).on hb6)
       clear hb6)
    | fail)
  obtain rfl : rn = 2 := HT6.out.1.symm
  obtain ⟨b, off, kd, s, aa, an, ac, l, rfl, hbb, ht, ⟨q0, q1, q2⟩, _, _⟩ := HT6.out.at_ (k := 0) (by omega)
  obtain ⟨e1, e2, _⟩ := TurnL.mk.inj (Option.some.inj ht)
  subst e1
  obtain ⟨c0, c1⟩ := HM6.out.cells
  have hm6 := HM6.out.lt
  rw [Nat.zero_mul, Nat.add_zero] at q0 q1 q2
  have es : (s.toList == [97]) = true := by rw [← e2]; rfl
  clear ht e2
  have HBE := Lib.hid (below_on HB2.out HB6.out)
  go_wp2
  go_ret
  exact ⟨rfl, below_on HBE.out (tu1 _ _)⟩
end Go.Proofs.YtiofpeckcfdilaaGreatDoor

/- What the laws share: the name me, and all that is known of the mirror of a type that has no peer but a. -/
namespace Go.Proofs.YtiofpeckcfdilaaGreatDoor
open Go.RowKit

theorem me_list : (⟨#[109, 101]⟩ : ByteArray).toList = [109, 101] := by rw [ByteArray.toList_eq]
theorem me_may : may [109, 101] = true := by decide
theorem me_small : (⟨#[109, 101]⟩ : ByteArray).size ≤ maxLen := by simp [maxLen, ByteArray.size]
/-- All that is known of the mirror of a type that has no peer but a. -/
theorem pair_facts {ts : List TurnL} (h : locB ts = true) (hx : ∀ t ∈ ts, t.kind ≠ 0 → t.peer = [97]) :
    mirE ts [109, 101] = 0 ∧ mirQ ts [109, 101] = mirL [109, 101] (trimT ts) ∧ locB (mirL [109, 101] (trimT ts)) = true ∧ mirE (mirL [109, 101] (trimT ts)) [97] = 0 ∧ mirQ (mirL [109, 101] (trimT ts)) [97] = trimT ts ∧ sameL (trimT ts) ts = true ∧
      (peersT (mirL [109, 101] (trimT ts)) = [] ∨ peersT (mirL [109, 101] (trimT ts)) = [[109, 101]]) := by
  have e1 : mirE ts [109, 101] = 0 := mirE_one h hx me_may (by decide)
  have hv : locB (mirL [109, 101] (trimT ts)) = true := mir_valid (trim_valid h) me_may
  have e2 : mirE (mirL [109, 101] (trimT ts)) [97] = 0 := mirE_one hv (mir_peer _ _) (by decide) (by decide)
  obtain ⟨t1, t2⟩ := mir_twice h (x := [97]) [109, 101] hx
  refine ⟨e1, by unfold mirQ; rw [if_pos e1], hv, e2, by unfold mirQ; rw [if_pos e2]; exact t1, t2, peers_one hv (mir_peer _ _)⟩
end Go.Proofs.YtiofpeckcfdilaaGreatDoor
