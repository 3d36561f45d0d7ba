/- Contract of slices.Clone at strings; points that the call makes whose arms lie in older blocks. -/
import Derived.Test.YtpifkgkhdelaeaaGlViss
import Derived.Test.YtpifkgkhdelaeaaTuTrimO
import Derived.Test.YtpifkgkhdelaeaaGlMakes
import Derived.Deep.CutRange
namespace Go.Proofs.Ytpifkgkhdelaeaa
open Go.RowKit

set_option maxHeartbeats 8000000 in
set_option maxRecDepth 20000 in
theorem clone_any (ad : Addr) (n c : Nat) (ss : List Str) (w : World) (bound : Nat) (hb : bound ≤ w.heap.size) (h : Strs w bound (some ad) n ss) (hn : n ≤ 1000) :
    Calls Try.prog 25 #[.slice (some ad) n c] w fun e w' => (∃ xa xc, e = .returned (.slice xa n xc) ∧ RRow w' w.heap.size xa n xc ss) ∧ Below w.heap.size w w' := by
  have HN := Lib.hid h
  have hown : (w.alloc (.cells #[] 9)).ownsRow w.heap.size 9 1 (.slice (some ⟨w.heap.size, 0, none⟩) 0 0) 0 (([] : List Str).map encStr) :=
    ⟨rfl, .inr ⟨w.heap.size, 0, #[], rfl, Nat.le_refl _, heap_alloc_new w _, Nat.le_refl _, by unfold maxLen; omega, rfl, rfl⟩⟩
  have HO := Lib.hid hown
  have hbe : ∀ W, (binOp .eql 24 (.slice (some ad) n c) (.slice none 0 0)).run Try.prog W = .ok (.bool false) W := fun W => by kernel_rfl
  clear h hown
  go_enter Try.func25, Try.ntmps25
  go_wp2_with (first
    | (at_builtin
       refine wpList_append_strs _ rfl (.tmp 5) (.tmp 6) _ rfl w.heap.size 9 Try.underlying24 info9 (.slice (some ⟨w.heap.size, 0, none⟩) 0 0) 0 [] rfl HO.out bound _ n c ss rfl (HN.out.alloc hb _) (by omega) (by simp) ?_
       intro v3 w3 own3 gr3 at3
       obtain ⟨xa, xc, hv3, hst3, _, _⟩ := Strs.of_own (n := n) (ss := ss) (by rw [Nat.zero_add] at own3; exact own3) (by omega) HN.out.max
       subst hv3
       have HS3 := Lib.hid (show RRow w3 w.heap.size xa n xc ss by unfold RRow; rw [Nat.zero_add] at own3; exact own3)
       have HB3 := Lib.hid ((tu1 w (.cells #[] 9)).grown gr3 (by simp) (fun j hj => by cases hj; exact Nat.le_refl _))
       clear own3 gr3 at3 hst3)
    | fail)
  go_ret
  exact ⟨⟨xa, xc, rfl, HS3.out⟩, HB3.out⟩
theorem RRow.aside {w w' : World} {base g b : Nat} {rn rc : Nat} {rs : List Str} (h : RRow w base (some ⟨b, 0, none⟩) rn rc rs) (hb : Beside g w w') (hne : b ≠ g) : RRow w' base (some ⟨b, 0, none⟩) rn rc rs := by
  have hlt := World.ownsRow.lt h b rfl
  refine ⟨h.1, ?_⟩
  rcases h.2 with h0 | ⟨k, cap, cur, e, hbase, hh, q1, q2, q3, q4⟩
  · exact .inl h0
  · refine .inr ⟨k, cap, cur, e, hbase, ?_, q1, q2, q3, q4⟩
    obtain ⟨e1, _, _⟩ := Value.slice.inj e
    obtain ⟨e1, _, _⟩ := Addr.mk.inj (Option.some.inj e1)
    rw [hb.block k (by omega) (by omega)]
    exact hh
theorem PBox.fill {W : World} {g : Nat} {nm nm' : ByteArray} {ra ra' : Option Addr} {rn rc rn' rc' : Nat} {a a' : Option Addr} {n c n' c' : Nat} (h : PBox W g nm ra rn rc a n c) :
    PBox (((W.setCell ⟨g, 0, none⟩ (.string nm')).setCell ⟨g, 1, none⟩ (.slice ra' rn' rc')).setCell ⟨g, 2, none⟩ (.slice a' n' c')) g nm' ra' rn' rc' a' n' c' := by
  have hset : ∀ (V : World) (cur : Array Value) (o : Nat) (u : Value), V.heap[g]? = some (.cells cur 27 (0, 0)) → (V.setCell ⟨g, o, none⟩ u).heap[g]? = some (.cells (cur.set! o u) 27 (0, 0)) := fun V cur o u hV => by
    obtain ⟨hlt, hk2⟩ := Array.getElem?_eq_some_iff.1 hV
    show (V.heap.modify g _)[g]? = _
    rw [Array.getElem?_eq_getElem (by rw [Array.size_modify]; exact hlt), Array.getElem_modify_self, hk2]
    rfl
  exact hset _ _ 2 _ (hset _ _ 1 _ (hset _ _ 0 _ h))
/-- What is laid reads as this point, and its arms lie in blocks from lo on and below base. -/
def PtQ (w : World) (lo base : Nat) (r : PR) (t : PointL) : Prop :=
  (r.q.toList = t.src ∧ r.q.size ≤ maxLen) ∧ r.s.toList = t.dst ∧ r.s.size ≤ maxLen ∧ Arms w w.heap.size r.a r.n t.arms ∧ ∀ b off, r.a = some ⟨b, off, none⟩ → lo ≤ b ∧ b < base
def QOwn (w : World) (lo base : Nat) (v : Value) (f : List PointL) : Prop :=
  ∃ rs : List PR, w.ownsRow base 35 3 v f.length (rs.flatMap encPR) ∧ rs.length = f.length ∧ ∀ (j : Nat) (r : PR) (t : PointL), rs[j]? = some r → f[j]? = some t → PtQ w lo base r t
theorem QOwn.zero (w : World) (lo base : Nat) : QOwn w lo base (.slice none 0 0) [] := ⟨[], World.ownsRow_nil w base 35 3, rfl, fun j r l h => by simp at h⟩
theorem QOwn.beside {w w' : World} {lo base g : Nat} {v : Value} {f : List PointL} (h : QOwn w lo base v f) (hb : Beside g w w') (hg : g < lo) (hlb : lo ≤ base) (hbs : base ≤ w.heap.size) : QOwn w' lo base v f := by
  obtain ⟨rs, h, hrl, hrd⟩ := h
  have hlt := h.lt
  refine ⟨rs, ⟨h.1, ?_⟩, hrl, fun j r t hr ht => ?_⟩
  · rcases h.2 with h0 | ⟨k, cap, cur, rfl, hbase, hh, h1, h2, h3, h4⟩
    · exact .inl h0
    · refine .inr ⟨k, cap, cur, rfl, hbase, ?_, h1, h2, h3, h4⟩
      rw [hb.block k (hlt k rfl).2 (by omega)]
      exact hh
  · obtain ⟨e1, e2, e3, e4, e5⟩ := hrd j r t hr ht
    have hs := hb.size
    exact ⟨e1, e2, e3, e4.stay hs (fun b off e => hb.block b (by have := (e5 b off e).2; omega) (by have := (e5 b off e).1; omega)), e5⟩
theorem QOwn.kept {w w' : World} {lo base : Nat} {v : Value} {f : List PointL} (h : QOwn w lo base v f) (hb : Below w.heap.size w w') (h0 : 0 < lo) (hlb : lo ≤ base) (hbs : base ≤ w.heap.size) : QOwn w' lo base v f := h.beside (g := 0) (Beside.of_below hb) h0 hlb hbs
theorem QOwn.add {W : World} {lo base : Nat} {v : Value} {f : List PointL} {r : PR} {t : PointL} (hB : QOwn W lo base v f) (hA : PtQ W lo base r t) (hb : base ≤ W.heap.size) (hlen : f.length ≤ 1000000) (ty : Nat) :
    ∃ v' w', (Builtin.append_ #[25, 25] ty #[v, .slice (some ⟨W.heap.size, 0, none⟩) 1 1]).run Try.prog (W.alloc (.cells #[.string r.q, .string r.s, .slice r.a r.n r.c] 35)) = .ok v' w' ∧ QOwn w' lo base v' (f ++ [t]) ∧ ∀ w0, Below base w0 W → Below base w0 w' := by
  obtain ⟨i0, hi0, hzz⟩ := Option.map_eq_some_iff.1 info_point
  simp only [Prod.mk.injEq] at hzz
  obtain ⟨hz, hs1, hb1⟩ := hzz
  obtain ⟨rs, hown, hrl, hrd⟩ := hB
  have hown1 : (W.alloc (.cells #[.string r.q, .string r.s, .slice r.a r.n r.c] 35)).ownsRow base 35 3 v f.length (rs.flatMap encPR) := World.ownsRow.alloc hown _
  obtain ⟨v', w', hrun, hown', hgr, _, hat⟩ := run_append_own_at (P := Try.prog) (W.alloc (.cells #[.string r.q, .string r.s, .slice r.a r.n r.c] 35)) base 25 ty 35 i0 _ 3 56 Try.underlying25 hi0 hz hs1 hb1 rfl (by omega) v f.length (rs.flatMap encPR) hown1
    ⟨W.heap.size, 0, none⟩ 1 1 (encPR r) rfl
    (fun j u hu => by
      rw [Go.WideShapes.add_plain, cell_of_row _ _ _ _ _ _ (heap_alloc_new W _), Nat.zero_add, ← hu]
      rw [← Array.getElem?_toList]
      rfl)
    (fun u hu => by
      unfold encPR at hu
      simp only [List.mem_cons, List.not_mem_nil, or_false] at hu
      rcases hu with rfl | rfl | rfl <;> rfl) (by unfold maxLen; omega) (by omega) (by simp; omega)
  have hbel : ∀ w0, Below base w0 W → Below base w0 w' := fun w0 hw0 => (hw0.alloc (by omega) _).grown hgr (by simp; omega) (fun k hk => by
    have := hown1.lt k hk
    omega)
  have hsz : W.heap.size + 1 ≤ w'.heap.size := by
    have := hgr.size
    simpa using this
  have hmove : ∀ (r : PR) (t : PointL), PtQ W lo base r t → PtQ w' lo base r t := fun r t ⟨e1, e2, e3, e4, e5⟩ =>
    ⟨e1, e2, e3, e4.stay (by omega) (fun b off e => (hbel W (Below.refl _ _)).block b (e5 b off e).2), e5⟩
  refine ⟨v', w', hrun, ⟨rs ++ [r], ?_, by simp [hrl], fun j r2 k hj hk => ?_⟩, hbel⟩
  · rw [List.length_append, List.flatMap_append, List.flatMap_cons, List.flatMap_nil, List.append_nil]
    exact hown'
  · rcases Nat.lt_or_ge j rs.length with hlt | hge
    · rw [List.getElem?_append_left hlt] at hj
      rw [List.getElem?_append_left (by omega)] at hk
      exact hmove _ _ (hrd j r2 k hj hk)
    · rw [List.getElem?_append_right hge] at hj
      rw [List.getElem?_append_right (by omega), ← hrl] at hk
      have h0 : j - rs.length = 0 := by
        obtain ⟨h1, _⟩ := List.getElem?_eq_some_iff.1 hj
        simpa using h1
      rw [h0] at hj hk
      obtain rfl : r = r2 := by simpa using hj
      obtain rfl : t = k := by simpa using hk
      exact hmove _ _ hA
theorem wpList_append_qpoint {ops : Array Oper} {rest : List Oper} {o : Oper} {a : Act} {Q : Exit → Act → World → Prop} {W : World} {cells : Array Value} (hgd : o.guard = none) (s x : Operand)
    (ho : o.op = .call { callee := .builtin .append, args := #[s, x], argTypes := #[25, 25] }) (lo base : Nat) (v : Value) (f : List PointL) (r : PR) (t : PointL) (hc : cells = #[.string r.q, .string r.s, .slice r.a r.n r.c])
    (hs : a.eval s = v) {g : Nat} (hx : a.eval x = .slice (some ⟨g, 0, none⟩) 1 1) (hg : g = W.heap.size) (hB : QOwn W lo base v f) (hA : PtQ W lo base r t) (hb : base ≤ W.heap.size) (hlen : f.length ≤ 1000000)
    (w0 : World) (hw : Below base w0 W)
    (h : ∀ v' w', QOwn w' lo base v' (f ++ [t]) → Below base w0 w' → wpList Try.prog ops Q rest (a.put o.dst v') w') : wpList Try.prog ops Q (o :: rest) a (W.alloc (.cells cells 35)) := by
  subst hc hg
  obtain ⟨v', w', hrun, hown, hbel⟩ := hB.add hA hb hlen o.type
  exact wpList_append_lx hgd s x _ ho _ _ _ hs hx hrun (h v' w' hown (hbel w0 hw))
theorem QOwn.sees {w : World} {lo base : Nat} {v : Value} {f : List PointL} (h : QOwn w lo base v f) (hl : f.length ≤ 1000000) : ∃ a c, v = .slice a f.length c ∧ Pts w w.heap.size a f.length f := by
  obtain ⟨rs, h, hrl, hrd⟩ := h
  have hlt := h.lt
  rcases h.2 with ⟨h0, h1⟩ | ⟨g, cap, cur, rfl, hbase, hh, h1, h2, h3, h4⟩
  · have hz : f = [] := List.eq_nil_of_length_eq_zero h1
    subst hz
    exact ⟨none, 0, h0, Pts.zero _ _ _⟩
  · refine ⟨_, cap, rfl, rfl, by omega, fun _ => ⟨g, 0, rfl, (hlt g rfl).2, fun j t hj => ?_⟩⟩
    have hj' : j < f.length := (List.getElem?_eq_some_iff.1 hj).1
    have hr := List.getElem?_eq_getElem (l := rs) (i := j) (by omega)
    obtain ⟨e1, e2, e3, e4, _⟩ := hrd j _ t hr hj
    have hcell : ∀ i, i < 3 → w.cell? ⟨g, 0 + (j * 3 + i), none⟩ = (encPR (rs[j]'(by omega)))[i]? := fun i hi => by
      rw [cell_of_row w g _ cur 35 (0, 0) hh, Nat.zero_add, ← flatP_at rs j _ hr i hi]
      have : (cur.toList.take (f.length * 3))[j * 3 + i]? = (rs.flatMap encPR)[j * 3 + i]? := by rw [h4]
      rw [List.getElem?_take, if_pos (by omega)] at this
      rw [← Array.getElem?_toList, this]
    exact ⟨_, _, _, _, _, ⟨hcell 0 (by omega), hcell 1 (by omega), hcell 2 (by omega)⟩, e1.1, e2, e1.2, e3, e4⟩
/-- A turn of the call's own, in its place; its arms lie from the base on. -/
theorem TOwn.place {w : World} {base : Nat} {a : Option Addr} {n c : Nat} {f : List TurnL} (h : TOwn w base (.slice a n c) f) (hl : f.length = n) {k : Nat} (hk : k < n) :
    ∃ (g : Nat) (r : TR) (t : TurnL), a = some ⟨g, 0, none⟩ ∧ base ≤ g ∧ g < w.heap.size ∧ f[k]? = some t ∧ TurnAt w base (.slice a n c) r t ∧
      w.cell? ⟨g, k * 3, none⟩ = some (.int .i64 r.k) ∧ w.cell? ⟨g, k * 3 + 1, none⟩ = some (.string r.s) ∧ w.cell? ⟨g, k * 3 + 2, none⟩ = some (.slice r.a r.n r.c) := by
  obtain ⟨rs, h, hrl, hrd⟩ := h
  have hlt := h.lt
  rcases h.2 with ⟨h0, h1⟩ | ⟨g, cap, cur, hv, hbase, hh, h1, h2, h3, h4⟩
  · omega
  · obtain ⟨q1, _, _⟩ := Value.slice.inj hv
    subst q1
    have hr := List.getElem?_eq_getElem (l := rs) (i := k) (by omega)
    have ht := List.getElem?_eq_getElem (l := f) (i := k) (by omega)
    have hcell : ∀ i, i < 3 → w.cell? ⟨g, k * 3 + i, none⟩ = (encTR (rs[k]'(by omega)))[i]? := fun i hi => by
      rw [cell_of_row w g _ cur 37 (0, 0) hh, ← flatT_at rs k _ hr i hi]
      have : (cur.toList.take (f.length * 3))[k * 3 + i]? = (rs.flatMap encTR)[k * 3 + i]? := by rw [h4]
      rw [List.getElem?_take, if_pos (by omega)] at this
      rw [← Array.getElem?_toList, this]
    exact ⟨g, _, _, rfl, hbase, (hlt g rfl).2, ht, hrd k _ _ hr ht, hcell 0 (by omega), hcell 1 (by omega), hcell 2 (by omega)⟩
end Go.Proofs.Ytpifkgkhdelaeaa
