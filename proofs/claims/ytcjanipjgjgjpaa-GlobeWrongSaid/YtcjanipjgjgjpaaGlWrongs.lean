/- For GlobeWrong: what makes a protocol none (plain); stores into points and roles that the call made. -/
import Derived.Test.YtcjanipjgjgjpaaGlProtB
import Derived.Test.YtcjanipjgjgjpaaGlSameC
import Derived.Deep.DeepCutAuto
import Derived.Deep.CutBlock
namespace Go.Proofs.Ytcjanipjgjgjpaa
open Go.RowKit

section
variable {nm : Str} {rs : List Str} {ps : List PointL}
theorem wrong_name : may [114, 111, 108, 101, 115] = false := by decide
theorem wrong_twice {r : Str} (h0 : rs[0]? = some r) (h2 : 2 ≤ rs.length) : protB nm (rs.set 1 r) ps = false := by
  refine protB_roles ?_
  cases hc : rolesB (rs.set 1 r)
  · rfl
  · have hd := (rolesB_all hc).2.2.1
    have e0 : (rs.set 1 r)[0]? = some r := by rw [List.getElem?_set_ne (by omega)]; exact h0
    have e1 : (rs.set 1 r)[1]? = some r := List.getElem?_set_self (by omega)
    obtain ⟨l0, g0⟩ := List.getElem?_eq_some_iff.1 e0
    obtain ⟨l1, g1⟩ := List.getElem?_eq_some_iff.1 e1
    exact absurd (g0.trans g1.symm) (List.pairwise_iff_getElem.1 hd 0 1 l0 l1 (by omega))
theorem wrong_few (h : rs.length < 2) : protB nm rs ps = false := protB_roles (rolesB_few (.inl h))
theorem wrong_point {k : Nat} {x : PointL} (hk : k < ps.length) (h : ∀ n, pointB rs n x = false) : protB nm rs (ps.set k x) = false :=
  protB_bad rfl (List.getElem?_set_self hk) (h _)
theorem wrong_self (l : List ArmL) (n : Nat) : pointB rs n ⟨[97], [97], l⟩ = false := by
  rw [pointB_form]
  simp [endB]
theorem wrong_who {q : Str} (hq : q ≠ []) {s : Str} (hs : s ∉ rs) (l : List ArmL) (n : Nat) : pointB rs n ⟨q, s, l⟩ = false := by
  rw [pointB_form]
  have : hasS rs s = false := by unfold hasS; simpa using hs
  rw [this]
  simp [endB, hq]
theorem wrong_armless {q : Str} (hq : q ≠ []) (s : Str) (n : Nat) : pointB rs n ⟨q, s, []⟩ = false := by
  rw [pointB_form]
  simp [endB, hq, armsB]
theorem wrong_next (q s : Str) (lb : Str) (ck : Int) (cn : Str) {z : Int} (hz : z < 0) (n : Nat) : pointB rs n ⟨q, s, [⟨lb, ck, cn, z⟩]⟩ = false := by
  rw [pointB_form]
  have : armsB n [⟨lb, ck, cn, z⟩] = false := by
    cases hc : armsB n [⟨lb, ck, cn, z⟩]
    · rfl
    · have := (armB_all ((armsB_all hc).1 _ (List.mem_singleton.2 rfl))).2.2.1
      dsimp only at this
      omega
  rw [this]
  simp [endB]
theorem wrong_arms (a : ArmL) (n : Nat) : pointB rs n ⟨[], [], [a]⟩ = false := by
  rw [pointB_form]
  simp [endB]
theorem wrong_many (h : 24 < ps.length) : protB nm rs ps = false := protB_few (.inr h)
theorem stranger_not (many : Nat) : ([115, 116, 114, 97, 110, 103, 101, 114] : Str) ∉ rolesL many := by
  intro h
  unfold rolesL at h
  obtain ⟨i, _, hi⟩ := List.mem_map.1 h
  have := congrArg List.length hi
  simp at this
end
theorem flatP_set2 : ∀ (rs : List PR) (k : Nat) (r : PR) (q s : ByteArray), rs[k]? = some r → (rs.set k ⟨q, s, r.a, r.n, r.c⟩).flatMap encPR = ((rs.flatMap encPR).set (k * 3) (.string q)).set (k * 3 + 1) (.string s)
  | [], k, r, q, s, h => by cases h
  | x :: rs, 0, r, q, s, h => by
    obtain rfl := Option.some.inj h
    rw [List.set_cons_zero, List.flatMap_cons, List.flatMap_cons]
    rfl
  | x :: rs, k + 1, r, q, s, h => by
    rw [List.set_cons_succ, List.flatMap_cons, List.flatMap_cons, flatP_set2 rs k r q s h]
    have e : ∀ i, (k + 1) * 3 + i = (encPR x).length + (k * 3 + i) := fun i => by show _ = 3 + _; omega
    have e0 : (k + 1) * 3 = (encPR x).length + k * 3 := e 0
    rw [e 1, e0, List.set_append_right _ _ (by omega), List.set_append_right _ _ (by omega), Nat.add_sub_cancel_left, Nat.add_sub_cancel_left]
theorem flatP_set1 : ∀ (rs : List PR) (k : Nat) (r : PR) (a : Option Addr) (n c : Nat), rs[k]? = some r → (rs.set k ⟨r.q, r.s, a, n, c⟩).flatMap encPR = (rs.flatMap encPR).set (k * 3 + 2) (.slice a n c)
  | [], k, r, a, n, c, h => by cases h
  | x :: rs, 0, r, a, n, c, h => by
    obtain rfl := Option.some.inj h
    rw [List.set_cons_zero, List.flatMap_cons, List.flatMap_cons]
    rfl
  | x :: rs, k + 1, r, a, n, c, h => by
    rw [List.set_cons_succ, List.flatMap_cons, List.flatMap_cons, flatP_set1 rs k r a n c h]
    have e : (k + 1) * 3 + 2 = (encPR x).length + (k * 3 + 2) := by show _ = 3 + _; omega
    rw [e, List.set_append_right _ _ (by omega), Nat.add_sub_cancel_left]
/-- A point's two roles are stored anew. -/
theorem POwn.putRoles {w : World} {base g n c : Nat} {f : List PointL} (h : POwn w base (.slice (some ⟨g, 0, none⟩) n c) f) (hn : f.length = n) {k : Nat} {t : PointL} (hk : f[k]? = some t) (q s : ByteArray) (hq : q.size ≤ maxLen) (hs : s.size ≤ maxLen) :
    POwn ((w.setCell ⟨g, k * 3, none⟩ (.string q)).setCell ⟨g, k * 3 + 1, none⟩ (.string s)) base (.slice (some ⟨g, 0, none⟩) n c) (f.set k ⟨q.toList, s.toList, t.arms⟩) := by
  obtain ⟨rs, h1, h2, h3⟩ := h
  subst hn
  have hkl := (List.getElem?_eq_some_iff.1 hk).1
  have hr := List.getElem?_eq_getElem (l := rs) (i := k) (by omega)
  have hz : ((w.setCell ⟨g, k * 3, none⟩ (.string q)).setCell ⟨g, k * 3 + 1, none⟩ (.string s)).heap.size = w.heap.size := by simp
  have hst := ((h1.stored (k * 3) (.string q)).1.stored (k * 3 + 1) (.string s)).1
  have fin : ∀ (r : PR) (u : PointL), PtAt w base (.slice (some ⟨g, 0, none⟩) f.length c) r u → PtAt ((w.setCell ⟨g, k * 3, none⟩ (.string q)).setCell ⟨g, k * 3 + 1, none⟩ (.string s)) base (.slice (some ⟨g, 0, none⟩) f.length c) r u := fun r u ⟨a1, a2, a3, a4, a5⟩ =>
    ⟨a1, a2, a3, a4.stay (by rw [hz]; exact Nat.le_refl _) (fun b off e => (heap_setCell_ne (fun q => (a5 b off e).2.2 (by rw [q]; rfl))).trans (heap_setCell_ne (fun q => (a5 b off e).2.2 (by rw [q]; rfl)))), fun b off e => ⟨(a5 b off e).1, by rw [hz]; exact (a5 b off e).2.1, (a5 b off e).2.2⟩⟩
  refine ⟨rs.set k ⟨q, s, (rs[k]'(by omega)).a, (rs[k]'(by omega)).n, (rs[k]'(by omega)).c⟩, ?_, by simp [h2], fun j r2 t2 hj ht => ?_⟩
  · rw [flatP_set2 rs k _ q s hr, List.length_set]
    exact hst
  · by_cases hjk : j = k
    · subst hjk
      rw [List.getElem?_set_self (by omega)] at hj ht
      obtain rfl := Option.some.inj hj
      obtain rfl := Option.some.inj ht
      obtain ⟨_, _, _, a4, a5⟩ := fin _ _ (h3 j _ t hr hk)
      exact ⟨⟨rfl, hq⟩, rfl, hs, a4, a5⟩
    · rw [List.getElem?_set_ne (fun e => hjk e.symm)] at hj ht
      exact fin _ _ (h3 j r2 t2 hj ht)
/-- A point's arms are stored anew. -/
theorem POwn.putArms {w : World} {base g n c : Nat} {f : List PointL} (h : POwn w base (.slice (some ⟨g, 0, none⟩) n c) f) (hn : f.length = n) {k : Nat} {t : PointL} (hk : f[k]? = some t) {a : Option Addr} {m d : Nat} {l : List ArmL} (ha : Arms w w.heap.size a m l)
    (hb : ∀ b off, a = some ⟨b, off, none⟩ → base ≤ b ∧ b < w.heap.size ∧ g ≠ b) :
    POwn (w.setCell ⟨g, k * 3 + 2, none⟩ (.slice a m d)) base (.slice (some ⟨g, 0, none⟩) n c) (f.set k ⟨t.src, t.dst, l⟩) := by
  obtain ⟨rs, h1, h2, h3⟩ := h
  subst hn
  have hkl := (List.getElem?_eq_some_iff.1 hk).1
  have hr := List.getElem?_eq_getElem (l := rs) (i := k) (by omega)
  have hz : (w.setCell ⟨g, k * 3 + 2, none⟩ (.slice a m d)).heap.size = w.heap.size := by simp
  have hst := (h1.stored (k * 3 + 2) (.slice a m d)).1
  refine ⟨rs.set k ⟨(rs[k]'(by omega)).q, (rs[k]'(by omega)).s, a, m, d⟩, ?_, by simp [h2], fun j r2 t2 hj ht => ?_⟩
  · rw [flatP_set1 rs k _ a m d hr, List.length_set]
    exact hst
  · by_cases hjk : j = k
    · subst hjk
      rw [List.getElem?_set_self (by omega)] at hj ht
      obtain rfl := Option.some.inj hj
      obtain rfl := Option.some.inj ht
      obtain ⟨a1, a2, a3, _, _⟩ := h3 j _ t hr hk
      exact ⟨a1, a2, a3, ha.stay (by rw [hz]; exact Nat.le_refl _) (fun b off e => heap_setCell_ne (fun q => (hb b off e).2.2 q.symm)), fun b off e => ⟨(hb b off e).1, by rw [hz]; exact (hb b off e).2.1, fun e2 => (hb b off e).2.2 (Option.some.inj e2)⟩⟩
    · rw [List.getElem?_set_ne (fun e => hjk e.symm)] at hj ht
      obtain ⟨a1, a2, a3, a4, a5⟩ := h3 j r2 t2 hj ht
      exact ⟨a1, a2, a3, a4.stay (by rw [hz]; exact Nat.le_refl _) (fun b off e => heap_setCell_ne (fun q => (a5 b off e).2.2 (by rw [q]; rfl))), fun b off e => ⟨(a5 b off e).1, by rw [hz]; exact (a5 b off e).2.1, (a5 b off e).2.2⟩⟩
theorem POwn.thaw {w : World} {base g n c : Nat} {f : List PointL} (h : POwn w base (.slice (some ⟨g, 0, none⟩) n c) f) (hn : f.length = n) (j : Nat) : w.frozen? ⟨g, j, none⟩ = false := by
  obtain ⟨rs, h, hl, hd⟩ := h
  subst hn
  exact h.frozenAt _
/-- A role is stored anew. -/
theorem RRow.put {w : World} {base rb rn rc : Nat} {rs : List Str} (h : RRow w base (some ⟨rb, 0, none⟩) rn rc rs) (j : Nat) (s : ByteArray) : RRow (w.setCell ⟨rb, j, none⟩ (.string s)) base (some ⟨rb, 0, none⟩) rn rc (rs.set j s.toList) ∧ w.frozen? ⟨rb, j, none⟩ = false := by
  have hst := (World.ownsRow.stored h j (.string s)).1
  refine ⟨?_, World.ownsRow.frozenAt h _⟩
  unfold RRow
  rw [List.map_set, show encStr s.toList = .string s by show Value.string (baS s.toList) = _; rw [baS_of]]
  exact hst
/-- A block of strings is none of the points', and none of their arms'. -/
theorem PRow.apart {w : World} {base S rb : Nat} {cur : Array Value} {v : Value} {f : List PointL} (h : PRow w base S v f) (hr : w.heap[rb]? = some (.cells cur 9 (0, 0))) (o : Nat) (u : Value) : PRow (w.setCell ⟨rb, o, none⟩ u) base S v f := by
  obtain ⟨rs, h1, h2, h3, h4⟩ := h
  refine ⟨rs, ownsRow_setCell_other h1 (fun e => ?_) _, h2, fun j r t hj ht => ?_, h4⟩
  · rcases h1.2 with ⟨e0, _⟩ | ⟨g, cap, cur2, hv, _, hh, _⟩
    · rw [e0] at e; cases e
    · rw [hv] at e
      obtain rfl : g = rb := Option.some.inj e
      rw [hr] at hh
      exact absurd (Obj.cells.inj (Option.some.inj hh)).2.1 (by decide)
  · obtain ⟨a1, a2, a3, a4, ts, a5, a6⟩ := h3 j r t hj ht
    refine ⟨a1, a2, a3, a4, ts, ownsRow_setCell_other a5 (fun e => ?_) _, a6⟩
    rcases a5.2 with ⟨e0, _⟩ | ⟨g, cap, cur2, hv, _, hh, _⟩
    · rw [e0] at e; cases e
    · rw [hv] at e
      obtain rfl : g = rb := Option.some.inj e
      rw [hr] at hh
      exact absurd (Obj.cells.inj (Option.some.inj hh)).2.1 (by decide)
theorem RRow.block {w : World} {base rb rn rc : Nat} {rs : List Str} (h : RRow w base (some ⟨rb, 0, none⟩) rn rc rs) : ∃ cur, w.heap[rb]? = some (.cells cur 9 (0, 0)) := by
  rcases h.2 with ⟨e0, _⟩ | ⟨g, cap, cur, hv, _, hh, _⟩
  · cases e0
  · obtain ⟨q1, _, _⟩ := Value.slice.inj hv
    obtain ⟨q2, _, _⟩ := Addr.mk.inj (Option.some.inj q1)
    subst q2
    exact ⟨cur, hh⟩
end Go.Proofs.Ytcjanipjgjgjpaa

/- For GlobeWrong: made protocols after a store. -/
namespace Go.Proofs.Ytcjanipjgjgjpaa
open Go.RowKit

theorem PRow.over {w w' : World} {base S g : Nat} {v : Value} {f : List PointL} (h : PRow w base S v f) (hb : Beside g w w') (hg : S ≤ g) : PRow w' base S v f := by
  obtain ⟨rs, h1, h2, h3, h4, h5, h6⟩ := h
  have hlt := h1.lt
  refine ⟨rs, ⟨h1.1, ?_⟩, h2, fun j r t hr ht => ?_, h4, h5, h6⟩
  · rcases h1.2 with h0 | ⟨k, cap, cur, rfl, hbase, hh, q1, q2, q3, q4⟩
    · exact .inl h0
    · refine .inr ⟨k, cap, cur, rfl, hbase, ?_, q1, q2, q3, q4⟩
      rw [hb.block k (hlt k rfl).2 (by have := h6 k rfl; omega)]
      exact hh
  · obtain ⟨a1, a2, a3, a4, ts, a5, a6⟩ := h3 j r t hr ht
    have hl5 := a5.lt
    refine ⟨a1, a2, a3, a4, ts, ⟨a5.1, ?_⟩, a6⟩
    rcases a5.2 with h0 | ⟨k, cap, cur, e, hbase, hh, q1, q2, q3, q4⟩
    · exact .inl h0
    · refine .inr ⟨k, cap, cur, e, hbase, ?_, q1, q2, q3, q4⟩
      have hob : r.arms.ownBlock = some k := by rw [e]; rfl
      rw [hb.block k (hl5 k hob).2 (by have := (h4 j r k hr hob).2; omega)]
      exact hh
theorem pin_made {W : World} {base' : Nat} {nm : ByteArray} {ra : Option Addr} {rn : Nat} {rs : List Str} {sa : Option Addr} {sn sc : Nat} {ps : List PointL} (hn : nm.size ≤ maxLen) (hr : Strs W W.heap.size ra rn rs) (hp : POwn W base' (.slice sa sn sc) ps) (hl : ps.length = sn) (h9 : sn ≤ 1000) : PIn W nm ra rn rs sa sn ps := by
  refine ⟨hn, hr, ?_⟩
  obtain ⟨a, c, hv, h⟩ := hp.sees (by omega)
  obtain ⟨q1, _, _⟩ := Value.slice.inj hv
  subst q1
  rw [hl] at h
  exact h
theorem PBox.set0 {W : World} {g : Nat} {nm nm' : ByteArray} {ra : Option Addr} {rn rc : Nat} {a : Option Addr} {n c : Nat} (h : PBox W g nm ra rn rc a n c) : PBox (W.setCell ⟨g, 0, none⟩ (.string nm')) g nm' ra rn rc a n c := by
  unfold PBox at h ⊢
  obtain ⟨hlt, hk⟩ := Array.getElem?_eq_some_iff.1 h
  show (W.heap.modify g _)[g]? = _
  rw [Array.getElem?_eq_getElem (by rw [Array.size_modify]; exact hlt), Array.getElem_modify_self, hk]
  rfl
theorem PBox.set1 {W : World} {g : Nat} {nm : ByteArray} {ra ra' : Option Addr} {rn rc rn' rc' : Nat} {a : Option Addr} {n c : Nat} (h : PBox W g nm ra rn rc a n c) : PBox (W.setCell ⟨g, 1, none⟩ (.slice ra' rn' rc')) g nm ra' rn' rc' a n c := by
  unfold PBox at h ⊢
  obtain ⟨hlt, hk⟩ := Array.getElem?_eq_some_iff.1 h
  show (W.heap.modify g _)[g]? = _
  rw [Array.getElem?_eq_getElem (by rw [Array.size_modify]; exact hlt), Array.getElem_modify_self, hk]
  rfl
theorem Strs.pre {W : World} {bound : Nat} {a : Option Addr} {n : Nat} {ss : List Str} (h : Strs W bound a n ss) {m : Nat} (hm : m ≤ n) : Strs W bound a m (ss.take m) := by
  refine ⟨by rw [List.length_take, h.1]; omega, by have := h.2.1; omega, fun s hs => h.max s (List.mem_of_mem_take hs), fun h0 => ?_⟩
  obtain ⟨b, off, e, hb, hc⟩ := h.2.2.2 (by omega)
  refine ⟨b, off, e, hb, fun j s hj => hc j s ?_⟩
  rw [List.getElem?_take] at hj
  split at hj
  · exact hj
  · cases hj
def r0P : PR := ⟨⟨#[]⟩, ⟨#[]⟩, none, 0, 0⟩
theorem made_points (n : Nat) (hn : n ≤ 1000) (W : World) : (Instr.makeSlice 25 (.int .i64 (n : Int)) (.int .i64 (n : Int))).run Try.prog W =
    .ok (.slice (some ⟨W.heap.size, 0, none⟩) n n) (W.alloc (.cells (madeCells #[.string ⟨#[]⟩, .string ⟨#[]⟩, .slice none 0 0] (n * 3)) 40)) := by
  obtain ⟨i, hi, hzz⟩ := Option.map_eq_some_iff.1 info_point
  simp only [Prod.mk.injEq] at hzz
  obtain ⟨hz, hs, hb⟩ := hzz
  have hr := run_make (P := Try.prog) W 25 40 i _ Try.underlying25 hi hz .i64 .i64 (n : Int) (n : Int) (by omega) (by omega) (by rw [hb]; omega) (by omega)
  rw [hs, Int.toNat_natCast] at hr
  exact hr
theorem madeP_flat (n : Nat) : (madeCells #[.string ⟨#[]⟩, .string ⟨#[]⟩, .slice none 0 0] (n * 3)).toList = (List.replicate n r0P).flatMap encPR := by
  refine List.ext_getElem? fun i => ?_
  rcases Nat.lt_or_ge i (n * 3) with hi | hi
  · have h1 := flatP_at (List.replicate n r0P) (i / 3) r0P (by rw [List.getElem?_replicate, if_pos (by omega)]) (i % 3) (Nat.mod_lt _ (by omega))
    rw [show i / 3 * 3 + i % 3 = i by omega] at h1
    rw [h1]
    unfold madeCells
    have h3 : i % 3 = 0 ∨ i % 3 = 1 ∨ i % 3 = 2 := by omega
    rcases h3 with h3 | h3 | h3 <;> simp [h3, hi, encPR, r0P]
  · have hl : ((List.replicate n r0P).flatMap encPR).length = n * 3 := by
      rw [List.length_flatMap]
      simp [encPR, List.map_replicate, List.sum_replicate_nat]
    rw [List.getElem?_eq_none (by simpa [madeCells] using hi), List.getElem?_eq_none (by rw [hl]; exact hi)]
theorem POwn.made (W : World) (n : Nat) (hn : n ≤ 1000) {g : Nat} (hg : g = W.heap.size) : POwn (W.alloc (.cells (madeCells #[.string ⟨#[]⟩, .string ⟨#[]⟩, .slice none 0 0] (n * 3)) 40)) g (.slice (some ⟨g, 0, none⟩) n n) (List.replicate n ⟨[], [], []⟩) := by
  subst hg
  refine ⟨List.replicate n r0P, ?_, by simp, fun j r t hr ht => ?_⟩
  · rw [List.length_replicate]
    refine ⟨?_, .inr ⟨W.heap.size, n, _, rfl, Nat.le_refl _, heap_alloc_new W _, Nat.le_refl _, by unfold maxLen; omega, by simp [madeCells], ?_⟩⟩
    · rw [← madeP_flat]
      simp [madeCells]
    · rw [← madeP_flat, List.take_of_length_le (by simp [madeCells])]
  · have hr := List.eq_of_mem_replicate (List.mem_of_getElem? hr)
    have ht := List.eq_of_mem_replicate (List.mem_of_getElem? ht)
    subst hr ht
    exact ⟨⟨ByteArray.toList_eq _, by simp [r0P, maxLen, ByteArray.size]⟩, ByteArray.toList_eq _, by simp [r0P, maxLen, ByteArray.size], ⟨rfl, by simp [r0P], fun h => absurd h (Nat.lt_irrefl 0)⟩, fun b off e => by cases e⟩
end Go.Proofs.Ytcjanipjgjgjpaa

/- Law: GlobeWrong. -/
namespace Go.Proofs.Ytcjanipjgjgjpaa
open Go.RowKit

theorem low_wrap {m : Nat} (h : m < 9) : wrap64 (-1 - (m : Int)) = -1 - (m : Int) := IntWalk.wrap64_in _ (by omega)
theorem low_neg (m : Nat) : -1 - (m : Int) < 0 := by omega
set_option maxHeartbeats 16000000 in
set_option maxRecDepth 20000 in
theorem globeWrong_walk (a : Option Addr) (n c : Nat) (l : List Int) (y z : Int) (w : World) (h : Nums w w.heap.size a n l) (hlim : n * 8 ≤ 140737488351232) :
    Calls Try.prog 6 #[.slice a n c, .int .i64 y, .int .i64 z] w fun e w' => e = .returned (.bool true) ∧ Below w.heap.size w w' := by
  have HN := Lib.hid h
  have HF := Lib.hid (glFirst_any w)
  have hn0 := h.1
  have HLN := Lib.hid hn0
  clear h hn0
  go_enter Try.func6, Try.ntmps6
  go_upto_region 4 with (first
    | (go_at_call 8; (with_reducible refine HF.out.mono ?_)
       rintro e w1 ⟨rfl, hb1⟩
       have HB1 := Lib.hid hb1
       clear hb1)
    | (go_at_call 10; (with_reducible refine (given_any _).mono ?_)
       rintro e w2 ⟨xa, xb, rfl, _, hb2⟩
       have HB2 := Lib.hid (below_on HB1.out hb2)
       clear hb2)
    | (at_builtin
       refine wpList_append_plus rfl (.tmp 15) (.tmp 16) rfl w2.heap.size w.heap.size (.slice (some ⟨w2.heap.size, 0, none⟩) 1 1) a n c [1] l rfl rfl (IInts.one (W := w2) (cs := #[.int .i64 1]) (base := w2.heap.size) (g := w2.heap.size) 1 rfl rfl (Nat.le_refl _)) ((HN.out.below HB2.out).alloc HB2.out.size _) (by show (1 + n) * 8 ≤ _; omega) (by simp) ?_
       intro v3 w3 hown hgr
       obtain ⟨pa, pc, hv, _, _, _, hnu⟩ := hown.sees
       obtain ⟨pn, hpn⟩ : ∃ pn, pn = ([1] ++ l : List Int).length := ⟨_, rfl⟩
       rw [← hpn] at hv hnu
       subst hv
       have hpl : pn * 8 ≤ 140737488355328 := by rw [hpn, List.length_append, HLN.out]; show (1 + n) * 8 ≤ _; omega
       clear hpn
       have HNU := Lib.hid (show Nums w3 w3.heap.size pa pn (1 :: l) from hnu)
       have HB3 := Lib.hid ((HB2.out.alloc HB2.out.size (.cells #[.int .i64 1] 3)).grown hgr (by have := HB2.out.size; simp; omega) (fun j e => by cases e; exact HB2.out.size))
       have hz3 : 0 < w3.heap.size := by have := hgr.size; simp at this; omega
       clear hown hgr hnu)
    | (go_at_call 9; (with_reducible refine (law1_any xa xb pa pn pc l w3 HNU.out hpl).mono ?_)
       rintro e w4 ⟨⟨many, ⟨hm2, hm4⟩, ra, rc, sa, sn, sc, ps, rfl, hm, hr, hl, hok, h2, h9⟩, hb4⟩
       have HB4 := Lib.hid (below_on HB3.out hb4)
       obtain ⟨hpin, hmade⟩ := made_in hm2 hm4 hm hr hl hok h2 h9
       have HPI := Lib.hid hpin
       have HMD := Lib.hid hmade
       have HM4 := Lib.hid hm
       have HR4 := Lib.hid hr
       have hz4 := hb4.size
       clear hm hr hl hok h2 h9 hb4 hpin hmade)
    | fail)
  have HM5 := Lib.hid (HM4.out.kept (tu1 w4 (.cells #[.string ⟨#[112]⟩, .slice ra many rc, .slice sa sn sc] 27)) hz3)
  have HR5 := Lib.hid (HR4.out.on (tu1 w4 (.cells #[.string ⟨#[112]⟩, .slice ra many rc, .slice sa sn sc] 27)) hz3)
  have HG5 := Lib.hid (GIn.begin (rc := rc) (sc := sc) HB4.out HPI.out)
  generalize hg5 : w4.heap.size = g5 at HG5 HM5 ⊢
  generalize hw5 : w4.alloc (.cells #[.string ⟨#[112]⟩, .slice ra many rc, .slice sa sn sc] 27) = w5 at HG5 HM5 HR5 ⊢
  have hgb : w3.heap.size ≤ g5 := by omega
  have hwB : w.heap.size ≤ w3.heap.size := HB3.out.size
  clear hg5 hw5 HPI HB4 HB3 HNU HB2 HB1 HF HN hpl HM4 HR4 hz4
  generalize hw3 : w3.heap.size = B at HM5 HR5 hz3 hgb hwB
  clear hw3
  obtain ⟨pc0, pc1, pc2⟩ := HG5.out.box.cells
  have hsn2 := HMD.out.low
  have hsn9 := HMD.out.high
  obtain ⟨k, hk, hmy⟩ := mod_lt z sn (by omega) (by omega)
  obtain ⟨m, hm9, hmz⟩ := mod_lt y 9 (by omega) (by omega)
  have hmz : (IntKind.u64.wrap y).tmod 9 = (m : Int) := hmz
  have hne2 : ((sn : Int) == 0) = false := by rw [beq_eq_false_iff_ne]; omega
  have i3 : (k : Int) < (sn : Int) := by omega
  have i4 : (0 : Int) ≤ (k : Int) := by omega
  have hws : IntKind.u64.wrap (sn : Int) = (sn : Int) := IntWalk.u64_in _ (by omega)
  obtain ⟨pb, hpb, hpb1, hpb2⟩ : ∃ pb, sa = some ⟨pb, 0, none⟩ ∧ B ≤ pb ∧ pb < w5.heap.size := by
    obtain ⟨rs, h1, _⟩ := HM5.out
    have hlt := h1.lt
    rcases h1.2 with ⟨_, h0⟩ | ⟨g2, cap, cur, hv, hB, _⟩
    · have := HMD.out.len; omega
    · obtain ⟨q1, _, _⟩ := Value.slice.inj hv
      exact ⟨g2, q1, hB, (hlt g2 (by rw [hv]; rfl)).2⟩
  have hpg : ∀ b, sa = some ⟨b, 0, none⟩ → b < g5 := fun b e => by
    obtain ⟨rs, _, _, _, _, _, h6⟩ := HM5.out
    exact h6 b (by rw [e]; rfl)
  subst hpb
  have hpg := hpg pb rfl
  obtain ⟨rb, hrb, hrb1, hrb2, hrcell⟩ := HR5.out.cell (by have := HMD.out.two; omega)
  subst hrb
  obtain ⟨rcur, hrh⟩ := HR5.out.block
  have HRH := Lib.hid hrh
  have hrg : rb ≠ g5 := fun e => by
    subst e
    have hbx := HG5.out.box
    unfold PBox at hbx
    rw [hrh] at hbx
    exact absurd (Obj.cells.inj (Option.some.inj hbx)).2.1 (by decide)
  have hrp : rb ≠ pb := fun e => by
    subst e
    obtain ⟨rs, h1, _⟩ := HM5.out
    rcases h1.2 with ⟨e0, _⟩ | ⟨g2, cap, cur2, hv, _, hh, _⟩
    · cases e0
    · obtain ⟨q1, _, _⟩ := Value.slice.inj hv
      obtain ⟨q2, _, _⟩ := Addr.mk.inj (Option.some.inj q1)
      subst q2
      rw [hrh] at hh
      exact absurd (Obj.cells.inj (Option.some.inj hh)).2.1 (by decide)
  have hcap : many ≤ rc := by
    rcases HR5.out.2 with ⟨e0, _⟩ | ⟨g2, cap, cur2, hv, _, hh, h1, _⟩
    · cases e0
    · obtain ⟨_, _, q3⟩ := Value.slice.inj hv
      rw [q3]
      exact h1
  have hmt := HMD.out.two
  have hg5l := HG5.out.box.lt
  have hmf := HMD.out.four
  have HPO := Lib.hid HM5.out.powns
  obtain ⟨t, ht⟩ : ∃ t, ps[k]? = some t := ⟨_, List.getElem?_eq_getElem (by rw [HMD.out.len]; exact hk)⟩
  have HPT := Lib.hid ht
  obtain ⟨b9, o9, q9, s9, aa9, an9, ac9, al9, hsa9, hbb9, hx9, ⟨q0, q1, q2⟩, hq9, hs9, hal9⟩ := HG5.out.pin.pts.at_ hk
  obtain ⟨e91, e92, _⟩ := Addr.mk.inj (Option.some.inj hsa9)
  subst e91 e92
  rw [Nat.zero_add] at q0 q1 q2
  have c0 := hrcell 0 _ (rolesL_at (by omega))
  have c1 := hrcell 1 _ (rolesL_at (by omega))
  rw [baS_of] at c0 c1
  have hkl : k < ps.length := by rw [HMD.out.len]; exact hk
  have HKL := Lib.hid hkl
  have tz := fun j => HPO.out.thaw HMD.out.len j
  have t0 := tz (k * 3)
  have t1 := tz (k * 3 + 1)
  have t2 := tz (k * 3 + 2)
  have f0 := HG5.out.box.thaw 0
  have f1 := HG5.out.box.thaw 1
  have f2 := HG5.out.box.thaw 2
  have fr := (HR5.out.put 1 (rolS 0)).2
  have hcat := Lib.hid hrcell
  clear hrcell tz hsa9 hx9 hq9 hs9 hal9 ht hkl hrh
  go_upto_block 0 with fail
  go_cut [] (fun wx => ∃ (nm : ByteArray) (xa : Option Addr) (xn xc : Nat) (rs : List Str) (ya : Option Addr) (yn yc : Nat) (qs : List PointL), Hid (PBox wx g5 nm xa xn xc ya yn yc) ∧ Hid (PIn wx nm xa xn rs ya yn qs) ∧ Hid (protB nm.toList rs qs = false) ∧ Hid (Below w.heap.size w wx))
  case first =>
    have hm : m = 0 ∨ m = 1 ∨ m = 2 ∨ m = 3 ∨ m = 4 ∨ m = 5 ∨ m = 6 ∨ m = 7 ∨ m = 8 := by omega
    clear hm9
    rcases hm with rfl | rfl | rfl | rfl | rfl | rfl | rfl | rfl | rfl
    · go_wp2_with fail
      go_meet
      have hbs := (Beside.refl g5 w5).setCell 0 (.string ⟨#[114, 111, 108, 101, 115]⟩)
      exact ⟨⟨#[114, 111, 108, 101, 115]⟩, _, _, _, _, _, _, _, _, Lib.hid HG5.out.box.set0, Lib.hid (pin_made (by simp [maxLen, ByteArray.size]) ((HR5.out.aside hbs hrg).strs (by omega) (rolesL_max many)) (HM5.out.over hbs (Nat.le_refl _)).powns HMD.out.len (by omega)), Lib.hid (protB_name (by rw [ByteArray.toList_eq]; exact wrong_name)), Lib.hid (HG5.out.bel.trans (hbs.below (by omega) HG5.out.bel.size))⟩
    · go_wp2_with fail
      go_region
      go_wp2_with fail
      go_meet
      have hbs := (Beside.refl rb w5).setCell 1 (.string (rolS 0))
      have hbl : Below w.heap.size w5 (w5.setCell ⟨rb, 1, none⟩ (.string (rolS 0))) := hbs.below (by omega) HG5.out.bel.size
      have hpi : PIn (w5.setCell ⟨rb, 1, none⟩ (.string (rolS 0))) ⟨#[112]⟩ (some ⟨rb, 0, none⟩) many ((rolesL many).set 1 (rolS 0).toList) (some ⟨pb, 0, none⟩) sn ps := pin_made (small1 112) ((HR5.out.put 1 (rolS 0)).1.strs (by omega) (fun x hx => by
        rcases List.mem_or_eq_of_mem_set hx with hx | rfl
        · exact rolesL_max many x hx
        · rw [len_toList]; exact rolS_small 0)) (HM5.out.apart HRH.out 1 _).powns HMD.out.len (by omega)
      have hbx := HG5.out.box.beside hbs (fun e => hrg e.symm)
      have hd := bel_drewN (Below.refl (w5.setCell ⟨rb, 1, none⟩ (.string (rolS 0))).heap.size (w5.setCell ⟨rb, 1, none⟩ (.string (rolS 0)))) 1
      exact ⟨⟨#[112]⟩, _, _, _, _, _, _, _, _, Lib.hid (hbx.on hd), Lib.hid (hpi.on hd), Lib.hid (wrong_twice (rolesL_at (by omega)) (by rw [rolesL_len]; omega)), Lib.hid (bel_drewN (HG5.out.bel.trans hbl) 1)⟩
    · have j1 : (1 : Int) ≤ (rc : Int) := by omega
      have j2 : 1 ≤ rc := by omega
      go_wp2_with fail
      go_meet
      have hbs := (Beside.refl g5 w5).setCell 1 (.slice (some ⟨rb, 0, none⟩) 1 rc)
      exact ⟨⟨#[112]⟩, _, _, _, _, _, _, _, _, Lib.hid HG5.out.box.set1, Lib.hid (pin_made (small1 112) (((HR5.out.aside hbs hrg).strs (by omega) (rolesL_max many)).pre (m := 1) (by omega)) (HM5.out.over hbs (Nat.le_refl _)).powns HMD.out.len (by omega)), Lib.hid (wrong_few (by rw [List.length_take]; omega)), Lib.hid (HG5.out.bel.trans (hbs.below (by omega) HG5.out.bel.size))⟩
    · go_wp2_with fail
      go_meet
      have hbs := ((Beside.refl pb w5).setCell (k * 3) (.string ⟨#[97]⟩)).setCell (k * 3 + 1) (.string ⟨#[97]⟩)
      exact ⟨⟨#[112]⟩, _, _, _, _, _, _, _, _, Lib.hid (HG5.out.box.beside hbs (by omega)), Lib.hid (pin_made (small1 112) ((HR5.out.aside hbs hrp).strs (by omega) (rolesL_max many)) (HPO.out.putRoles HMD.out.len HPT.out ⟨#[97]⟩ ⟨#[97]⟩ (small1 97) (small1 97)) (by rw [List.length_set]; exact HMD.out.len) (by omega)), Lib.hid (wrong_point HKL.out (fun n => by rw [str1]; exact wrong_self _ n)), Lib.hid (HG5.out.bel.trans (hbs.below (by omega) HG5.out.bel.size))⟩
    · go_wp2_with fail
      go_meet
      have hbs := ((Beside.refl pb w5).setCell (k * 3) (.string ⟨#[97]⟩)).setCell (k * 3 + 1) (.string ⟨#[115, 116, 114, 97, 110, 103, 101, 114]⟩)
      exact ⟨⟨#[112]⟩, _, _, _, _, _, _, _, _, Lib.hid (HG5.out.box.beside hbs (by omega)), Lib.hid (pin_made (small1 112) ((HR5.out.aside hbs hrp).strs (by omega) (rolesL_max many)) (HPO.out.putRoles HMD.out.len HPT.out ⟨#[97]⟩ ⟨#[115, 116, 114, 97, 110, 103, 101, 114]⟩ (small1 97) (by simp [maxLen, ByteArray.size])) (by rw [List.length_set]; exact HMD.out.len) (by omega)), Lib.hid (wrong_point HKL.out (fun n => by rw [str1, ByteArray.toList_eq]; exact wrong_who (by simp) (stranger_not many) _ n)), Lib.hid (HG5.out.bel.trans (hbs.below (by omega) HG5.out.bel.size))⟩
    · go_wp2_with fail
      go_meet
      have hbs := (((Beside.refl pb w5).setCell (k * 3) (.string ⟨#[97]⟩)).setCell (k * 3 + 1) (.string ⟨#[98]⟩)).setCell (k * 3 + 2) (.slice none 0 0)
      have hp2 := (HPO.out).putRoles HMD.out.len HPT.out ⟨#[97]⟩ ⟨#[98]⟩ (small1 97) (small1 98)
      have hp3 := hp2.putArms (by rw [List.length_set]; exact HMD.out.len) (List.getElem?_set_self HKL.out) (a := none) (m := 0) (d := 0) (l := []) (⟨rfl, by omega, fun h => absurd h (Nat.lt_irrefl 0)⟩) (fun b off e => by cases e)
      rw [List.set_set] at hp3
      exact ⟨⟨#[112]⟩, _, _, _, _, _, _, _, _, Lib.hid ((HG5.out.box).beside hbs (by omega)), Lib.hid (pin_made (small1 112) (((HR5.out).aside hbs hrp).strs (by omega) (rolesL_max many)) hp3 (by rw [List.length_set]; exact HMD.out.len) (by omega)), Lib.hid (wrong_point HKL.out (fun n => by dsimp only; rw [str1, str1]; exact wrong_armless (by simp) _ n)), Lib.hid ((HG5.out.bel).trans (hbs.below (by omega) (by have := (HG5.out.bel).size; omega)))⟩
    · obtain ⟨m2, hm2, hmy2⟩ := mod_lt z 9 (by omega) (by omega)
      have hmy2 : (IntKind.u64.wrap z).tmod 9 = (m2 : Int) := hmy2
      have e6 : wrap64 (-1 - (m2 : Int)) = -1 - (m2 : Int) := low_wrap hm2
      go_wp2_with fail
      clear e6 hmy2
      go_meet
      have hweq : (((w5.alloc (.cells #[.string ⟨#[120]⟩, .int .i64 0, .string ⟨#[]⟩, .int .i64 (-1 - (m2 : Int))] 48)).setCell ⟨pb, k * 3, none⟩ (.string ⟨#[97]⟩)).setCell ⟨pb, k * 3 + 1, none⟩ (.string ⟨#[98]⟩)).setCell ⟨pb, k * 3 + 2, none⟩ (.slice (some ⟨w5.heap.size, 0, none⟩) 1 1) = (((w5.setCell ⟨pb, k * 3, none⟩ (.string ⟨#[97]⟩)).setCell ⟨pb, k * 3 + 1, none⟩ (.string ⟨#[98]⟩)).setCell ⟨pb, k * 3 + 2, none⟩ (.slice (some ⟨w5.heap.size, 0, none⟩) 1 1)).alloc (.cells #[.string ⟨#[120]⟩, .int .i64 0, .string ⟨#[]⟩, .int .i64 (-1 - (m2 : Int))] 48) := by
        rw [World.setCell_alloc_past _ _ _ _ hpb2, World.setCell_alloc_past _ _ _ _ (by simpa using hpb2), World.setCell_alloc_past _ _ _ _ (by simpa using hpb2)]
      have ha := tu1 w5 (.cells #[.string ⟨#[120]⟩, .int .i64 0, .string ⟨#[]⟩, .int .i64 (-1 - (m2 : Int))] 48)
      have hbs := (((Beside.refl pb (w5.alloc (.cells #[.string ⟨#[120]⟩, .int .i64 0, .string ⟨#[]⟩, .int .i64 (-1 - (m2 : Int))] 48))).setCell (k * 3) (.string ⟨#[97]⟩)).setCell (k * 3 + 1) (.string ⟨#[98]⟩)).setCell (k * 3 + 2) (.slice (some ⟨w5.heap.size, 0, none⟩) 1 1)
      have hp2 := (HM5.out.kept ha hz3).powns.putRoles HMD.out.len HPT.out ⟨#[97]⟩ ⟨#[98]⟩ (small1 97) (small1 98)
      have hnew : (((w5.alloc (.cells #[.string ⟨#[120]⟩, .int .i64 0, .string ⟨#[]⟩, .int .i64 (-1 - (m2 : Int))] 48)).setCell ⟨pb, k * 3, none⟩ (.string ⟨#[97]⟩)).setCell ⟨pb, k * 3 + 1, none⟩ (.string ⟨#[98]⟩)).heap[w5.heap.size]? = some (.cells #[.string ⟨#[120]⟩, .int .i64 0, .string ⟨#[]⟩, .int .i64 (-1 - (m2 : Int))] 48 (0, 0)) := (heap_setCell_ne (by omega)).trans ((heap_setCell_ne (by omega)).trans (heap_alloc_new w5 _))
      have hp3 := hp2.putArms (by rw [List.length_set]; exact HMD.out.len) (List.getElem?_set_self HKL.out) (m := 1) (d := 1) (one_arm (by simp) 120 0 (-1 - (m2 : Int)) hnew) (fun b off e => by
        obtain ⟨e1, _, _⟩ := Addr.mk.inj (Option.some.inj e)
        subst e1
        exact ⟨by omega, by simp, by omega⟩)
      rw [List.set_set] at hp3
      have hbx := (HG5.out.box.on ha).beside hbs (by omega)
      have hpi := pin_made (small1 112) (((HR5.out.on ha hz3).aside hbs hrp).strs (by omega) (rolesL_max many)) hp3 (by rw [List.length_set]; exact HMD.out.len) (by omega)
      have hbl := (below_on HG5.out.bel ha).trans (hbs.below (B := w.heap.size) (by omega) (below_on HG5.out.bel ha).size)
      rw [hweq] at hbx hpi hbl
      exact ⟨⟨#[112]⟩, _, _, _, _, _, _, _, _, Lib.hid hbx, Lib.hid hpi, Lib.hid (wrong_point HKL.out (fun n => by dsimp only; rw [str1, str1]; exact wrong_next _ _ _ _ _ (low_neg m2) n)), Lib.hid hbl⟩
    · go_wp2_with fail
      go_meet
      have hweq : (((w5.alloc (.cells #[.string ⟨#[120]⟩, .int .i64 0, .string ⟨#[]⟩, .int .i64 0] 48)).setCell ⟨pb, k * 3, none⟩ (.string ⟨#[]⟩)).setCell ⟨pb, k * 3 + 1, none⟩ (.string ⟨#[]⟩)).setCell ⟨pb, k * 3 + 2, none⟩ (.slice (some ⟨w5.heap.size, 0, none⟩) 1 1) = (((w5.setCell ⟨pb, k * 3, none⟩ (.string ⟨#[]⟩)).setCell ⟨pb, k * 3 + 1, none⟩ (.string ⟨#[]⟩)).setCell ⟨pb, k * 3 + 2, none⟩ (.slice (some ⟨w5.heap.size, 0, none⟩) 1 1)).alloc (.cells #[.string ⟨#[120]⟩, .int .i64 0, .string ⟨#[]⟩, .int .i64 0] 48) := by
        rw [World.setCell_alloc_past _ _ _ _ hpb2, World.setCell_alloc_past _ _ _ _ (by simpa using hpb2), World.setCell_alloc_past _ _ _ _ (by simpa using hpb2)]
      have ha := tu1 w5 (.cells #[.string ⟨#[120]⟩, .int .i64 0, .string ⟨#[]⟩, .int .i64 0] 48)
      have hbs := (((Beside.refl pb (w5.alloc (.cells #[.string ⟨#[120]⟩, .int .i64 0, .string ⟨#[]⟩, .int .i64 0] 48))).setCell (k * 3) (.string ⟨#[]⟩)).setCell (k * 3 + 1) (.string ⟨#[]⟩)).setCell (k * 3 + 2) (.slice (some ⟨w5.heap.size, 0, none⟩) 1 1)
      have hp2 := (HM5.out.kept ha hz3).powns.putRoles HMD.out.len HPT.out ⟨#[]⟩ ⟨#[]⟩ (small0) (small0)
      have hnew : (((w5.alloc (.cells #[.string ⟨#[120]⟩, .int .i64 0, .string ⟨#[]⟩, .int .i64 0] 48)).setCell ⟨pb, k * 3, none⟩ (.string ⟨#[]⟩)).setCell ⟨pb, k * 3 + 1, none⟩ (.string ⟨#[]⟩)).heap[w5.heap.size]? = some (.cells #[.string ⟨#[120]⟩, .int .i64 0, .string ⟨#[]⟩, .int .i64 0] 48 (0, 0)) := (heap_setCell_ne (by omega)).trans ((heap_setCell_ne (by omega)).trans (heap_alloc_new w5 _))
      have hp3 := hp2.putArms (by rw [List.length_set]; exact HMD.out.len) (List.getElem?_set_self HKL.out) (m := 1) (d := 1) (one_arm (by simp) 120 0 0 hnew) (fun b off e => by
        obtain ⟨e1, _, _⟩ := Addr.mk.inj (Option.some.inj e)
        subst e1
        exact ⟨by omega, by simp, by omega⟩)
      rw [List.set_set] at hp3
      have hbx := (HG5.out.box.on ha).beside hbs (by omega)
      have hpi := pin_made (small1 112) (((HR5.out.on ha hz3).aside hbs hrp).strs (by omega) (rolesL_max many)) hp3 (by rw [List.length_set]; exact HMD.out.len) (by omega)
      have hbl := (below_on HG5.out.bel ha).trans (hbs.below (B := w.heap.size) (by omega) (below_on HG5.out.bel ha).size)
      rw [hweq] at hbx hpi hbl
      exact ⟨⟨#[112]⟩, _, _, _, _, _, _, _, _, Lib.hid hbx, Lib.hid hpi, Lib.hid (wrong_point HKL.out (fun n => by dsimp only; rw [str0]; exact wrong_arms _ n)), Lib.hid hbl⟩
    · have hmk : (Instr.makeSlice 25 (.int .i64 25) (.int .i64 25)).run Try.prog w5 = .ok (.slice (some ⟨w5.heap.size, 0, none⟩) 25 25) (w5.alloc (.cells (madeCells #[.string ⟨#[]⟩, .string ⟨#[]⟩, .slice none 0 0] 75) 40)) := made_points 25 (by omega) w5
      go_wp2_with fail
      go_meet
      have hbs := (Beside.refl g5 w5).setCell 2 (.slice (some ⟨w5.heap.size, 0, none⟩) 25 25)
      have ha := tu1 (w5.setCell ⟨g5, 2, none⟩ (.slice (some ⟨w5.heap.size, 0, none⟩) 25 25)) (.cells (madeCells #[.string ⟨#[]⟩, .string ⟨#[]⟩, .slice none 0 0] 75) 40)
      have hp := POwn.made (w5.setCell ⟨g5, 2, none⟩ (.slice (some ⟨w5.heap.size, 0, none⟩) 25 25)) 25 (by omega) (g := w5.heap.size) (by simp)
      have hbx := (PBox.set (a' := some ⟨w5.heap.size, 0, none⟩) (n' := 25) (c' := 25) HG5.out.box).on ha
      have hpi := pin_made (small1 112) (((HR5.out.aside hbs hrg).below ha (by simp; omega)).strs (by omega) (rolesL_max many)) hp (by simp) (by omega)
      have hbl := HG5.out.bel.trans ((hbs.below (B := w.heap.size) (by omega) HG5.out.bel.size).trans (ha.mono (by have := HG5.out.bel.size; simp; omega)))
      exact ⟨⟨#[112]⟩, _, _, _, _, _, _, _, _, Lib.hid hbx, Lib.hid hpi, Lib.hid (wrong_many (by simp)), Lib.hid hbl⟩
  case rest =>
    obtain ⟨nm, xa, xn, xc, rs, ya, yn, yc, qs, HX, HI, HV, HBw⟩ := hcut
    obtain ⟨w6, hw6⟩ : ∃ w6 : World, w6 = wc := ⟨_, rfl⟩
    subst hw6
    clear HG5 HM5 HR5 HMD hk hmy hm9 hmz hne2 i3 i4 hws hsn2 hsn9 hgb hz3 hpb1 hpb2 pc0 pc1 pc2 q0 q1 q2 c0 c1 t0 t1 t2 f0 f1 f2 fr hcat HPO HPT HKL HRH hcap hmt hmf hrg hrp hpg hwB hrb1 hrb2 hg5l
    obtain ⟨_, _, _⟩ := HX.out.cells
    have CW := Lib.hid (fun (W : World) (hW : Below w6.heap.size w6 W) => show Calls Try.prog 16 #[.agg #[.string nm, .slice xa xn xc, .slice ya yn yc], .slice none 0 0] W fun e w' => e = .returned (.tuple #[.int .i64 0, .bool false]) ∧ Below w6.heap.size w6 w' from
      (PIn.walk (rc := xc) (c := yc) (HI.out.on hW) (va := none) (vn := 0) 0 (ls := []) (Strs.zero _ _ _)).mono fun e w2 h => ⟨by rw [h.1]; unfold walkQ; rw [HV.out]; rfl, below_on hW h.2⟩)
    have CM := Lib.hid (fun (W : World) (hW : Below w6.heap.size w6 W) => (PIn.may (rc := xc) (c := yc) (HI.out.on hW)).mono fun e w2 h => (⟨by rw [h.1, HV.out], below_on hW h.2⟩ : e = .returned (.bool false) ∧ Below w6.heap.size w6 w2))
    have CR := Lib.hid (fun (W : World) (hW : Below w6.heap.size w6 W) => (PIn.reach (rc := xc) (c := yc) (HI.out.on hW)).mono fun e w2 h => (⟨by
      obtain ⟨v, e1, e2⟩ := h.1
      unfold reachQ at e2
      rw [HV.out] at e2
      obtain ⟨za, zc, rfl, _⟩ := e2.sees
      exact ⟨za, zc, e1⟩, below_on hW h.2⟩ : (∃ za zc, e = .returned (.slice za 0 zc)) ∧ Below w6.heap.size w6 w2))
    have CT := Lib.hid (fun (W : World) (hW : Below w6.heap.size w6 W) => (gTrim_any nm HI.out.name xa xn xc rs ya yn yc qs W _ (Nat.le_refl _) (HI.out.on hW).roles (HI.out.on hW).pts).mono fun e w2 h => (⟨by
      obtain ⟨za, zn, zc, ta, tn, tc, e1, e2⟩ := h.1
      have h0 : tn = 0 := by
        have := e2.pts.1
        unfold trimQ at this
        rw [HV.out] at this
        exact this.symm
      subst h0
      have h1 : nameQ nm rs qs = ⟨#[]⟩ := by unfold nameQ; rw [HV.out]; rfl
      rw [h1] at e1
      exact ⟨za, zn, zc, ta, tc, e1⟩, below_on hW h.2⟩ : (∃ za zn zc ta tc, e = .returned (.agg #[.string ⟨#[]⟩, .slice za zn zc, .slice ta 0 tc])) ∧ Below w6.heap.size w6 w2))
    have CN := Lib.hid (fun (g : Nat) (W : World) (hW : Below w6.heap.size w6 W) (hg : W.heap[g]? = some (.cells #[.int .i64 0] 3 (0, 0))) => (PIn.near (rc := xc) (c := yc) (HI.out.on hW) ⟨#[97]⟩ (va := some ⟨g, 0, none⟩) (vn := 1) 1 (l := [0]) (by
      refine ⟨rfl, by omega, fun _ => ⟨g, 0, rfl, (Array.getElem?_eq_some_iff.1 hg).1, fun j x hj => ?_⟩⟩
      have hj0 : j = 0 := by have := (List.getElem?_eq_some_iff.1 hj).1; simp at this; omega
      subst hj0
      obtain rfl := Option.some.inj hj
      rw [cell_of_row _ _ _ _ _ _ hg]
      rfl)).mono fun e w2 h => (⟨by
      obtain ⟨v, e1, e2⟩ := h.1
      unfold nearQ at e2
      rw [HV.out] at e2
      obtain ⟨za, zc, rfl, _⟩ := e2.sees
      exact ⟨za, zc, e1⟩, below_on hW h.2⟩ : (∃ za zc, e = .returned (.slice za 0 zc)) ∧ Below w6.heap.size w6 w2))
    have CL := Lib.hid (fun (W : World) (hW : Below w6.heap.size w6 W) => (PIn.lost (rc := xc) (c := yc) (HI.out.on hW) ⟨#[97]⟩ 0).mono fun e w2 h => (⟨by rw [h.1]; unfold lostQ; rw [HV.out]; rfl, below_on hW h.2⟩ : e = .returned (.bool false) ∧ Below w6.heap.size w6 w2))
    have CS := Lib.hid (fun (W : World) (hW : Below w6.heap.size w6 W) => (gSame_any nm nm HI.out.name HI.out.name xa xa xn xc xn xc rs rs ya ya yn yc yn yc qs qs W _ (Nat.le_refl _) (HI.out.on hW).roles (HI.out.on hW).roles (HI.out.on hW).pts (HI.out.on hW).pts).mono fun e w2 h => (⟨by rw [h.1]; unfold sameQ; rw [HV.out]; rfl, below_on hW h.2⟩ : e = .returned (.bool false) ∧ Below w6.heap.size w6 w2))
    have HK := Lib.hid (fun (W : World) (hW : Below w6.heap.size w6 W) => (HX.out.on hW).cells)
    have hfe := fun za zn zc ta tc W => field_pts ⟨#[]⟩ za ta zn zc 0 tc W
    go_wp2_with (first
      | (go_at_call 16; (with_reducible refine (CW.out _ (Below.refl _ _)).mono ?_)
         rintro e v1 ⟨rfl, h1⟩
         have H1 := Lib.hid h1
         obtain ⟨_, _, _⟩ := HK.out _ h1
         clear h1)
      | (go_at_call 12; (with_reducible refine (CM.out _ H1.out).mono ?_)
         rintro e v2 ⟨rfl, h2⟩
         have H2 := Lib.hid h2
         obtain ⟨_, _, _⟩ := HK.out _ h2
         clear h2)
      | (go_at_call 15; (with_reducible refine (CR.out _ H2.out).mono ?_)
         rintro e v3 ⟨⟨a3, c3, rfl⟩, h3⟩
         have H3 := Lib.hid h3
         obtain ⟨_, _, _⟩ := HK.out _ h3
         clear h3)
      | (go_at_call 11; (with_reducible refine (CT.out _ H3.out).mono ?_)
         rintro e v4 ⟨⟨a4, n4, c4, d4, f4, rfl⟩, h4⟩
         have H4 := Lib.hid h4
         have H4b := Lib.hid (below_on h4 (tu1 v4 (.cells #[.int .i64 0] 3)))
         obtain ⟨_, _, _⟩ := HK.out _ h4
         clear h4)
      | (go_at_call 17; (with_reducible refine (CN.out v4.heap.size _ H4b.out (heap_alloc_new v4 _)).mono ?_)
         rintro e v5 ⟨⟨a5, c5, rfl⟩, h5⟩
         have H5 := Lib.hid h5
         obtain ⟨_, _, _⟩ := HK.out _ h5
         clear h5)
      | (go_at_call 19; (with_reducible refine (CL.out _ H5.out).mono ?_)
         rintro e v6 ⟨rfl, h6⟩
         have H6 := Lib.hid h6
         obtain ⟨_, _, _⟩ := HK.out _ h6
         clear h6)
      | (go_at_call 14; (with_reducible refine (CS.out _ H6.out).mono ?_)
         rintro e v7 ⟨rfl, h7⟩
         have H7 := Lib.hid h7
         clear h7)
      | fail)
    go_ret
    exact ⟨by simp, below_on HBw.out H7.out⟩
end Go.Proofs.Ytcjanipjgjgjpaa
