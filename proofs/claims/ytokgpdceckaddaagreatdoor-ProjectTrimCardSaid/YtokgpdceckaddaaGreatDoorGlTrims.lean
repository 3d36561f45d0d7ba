/- Contract of slices.Clone at strings; points that the call makes whose arms lie in older blocks. -/
import Derived.Test.YtokgpdceckaddaaGreatDoorGlViss
import Derived.Test.YtokgpdceckaddaaGreatDoorTuTrimO
import Derived.Test.YtokgpdceckaddaaGreatDoorGlMakes
import Derived.Deep.CutRange
import Derived.Deep.RegionWith
import Derived.Test.YtokgpdceckaddaaGreatDoorTuLast
import Derived.Deep.DeepCutAuto
namespace Go.Proofs.YtokgpdceckaddaaGreatDoor
open Go.RowKit

set_option maxHeartbeats 8000000 in
set_option maxRecDepth 20000 in
theorem clone_any (ad : Addr) (n c : Nat) (ss : List Str) (w : World) (bound : Nat) (hb : bound ≤ w.heap.size) (h : Strs w bound (some ad) n ss) (hn : n ≤ 1000) :
    Calls Tryz.prog 52 #[.slice (some ad) n c] w fun e w' => (∃ xa xc, e = .returned (.slice xa n xc) ∧ RRow w' w.heap.size xa n xc ss) ∧ Below w.heap.size w w' := by
  have HN := Lib.hid h
  have hown : (w.alloc (.cells #[] 9)).ownsRow w.heap.size 9 1 (.slice (some ⟨w.heap.size, 0, none⟩) 0 0) 0 (([] : List Str).map encStr) :=
    ⟨rfl, .inr ⟨w.heap.size, 0, #[], rfl, Nat.le_refl _, heap_alloc_new w _, Nat.le_refl _, by unfold maxLen; omega, rfl, rfl⟩⟩
  have HO := Lib.hid hown
  have hbe : ∀ W, (binOp .eql 24 (.slice (some ad) n c) (.slice none 0 0)).run Tryz.prog W = .ok (.bool false) W := fun W => by kernel_rfl
  clear h hown
  go_enter Tryz.func52, Tryz.ntmps52
  go_wp2_with (first
    | (at_builtin
       refine wpList_append_strs _ rfl (.tmp 5) (.tmp 6) _ rfl w.heap.size 9 Tryz.underlying24 info9 (.slice (some ⟨w.heap.size, 0, none⟩) 0 0) 0 [] rfl HO.out bound _ n c ss rfl (HN.out.alloc hb _) (by omega) (by simp) ?_
       intro v3 w3 own3 gr3 at3
       obtain ⟨xa, xc, hv3, hst3, _, _⟩ := Strs.of_own (n := n) (ss := ss) (by rw [Nat.zero_add] at own3; exact own3) (by omega) HN.out.max
       subst hv3
       have HS3 := Lib.hid (show RRow w3 w.heap.size xa n xc ss by unfold RRow; rw [Nat.zero_add] at own3; exact own3)
       have HB3 := Lib.hid ((tu1 w (.cells #[] 9)).grown gr3 (by simp) (fun j hj => by cases hj; exact Nat.le_refl _))
       clear own3 gr3 at3 hst3)
    | fail)
  go_ret
  exact ⟨⟨xa, xc, rfl, HS3.out⟩, HB3.out⟩
theorem RRow.aside {w w' : World} {base g b : Nat} {rn rc : Nat} {rs : List Str} (h : RRow w base (some ⟨b, 0, none⟩) rn rc rs) (hb : Beside g w w') (hne : b ≠ g) : RRow w' base (some ⟨b, 0, none⟩) rn rc rs := by
  have hlt := World.ownsRow.lt h b rfl
  refine ⟨h.1, ?_⟩
  rcases h.2 with h0 | ⟨k, cap, cur, e, hbase, hh, q1, q2, q3, q4⟩
  · exact .inl h0
  · refine .inr ⟨k, cap, cur, e, hbase, ?_, q1, q2, q3, q4⟩
    obtain ⟨e1, _, _⟩ := Value.slice.inj e
    obtain ⟨e1, _, _⟩ := Addr.mk.inj (Option.some.inj e1)
    rw [hb.block k (by omega) (by omega)]
    exact hh
theorem PBox.fill {W : World} {g : Nat} {nm nm' : ByteArray} {ra ra' : Option Addr} {rn rc rn' rc' : Nat} {a a' : Option Addr} {n c n' c' : Nat} (h : PBox W g nm ra rn rc a n c) :
    PBox (((W.setCell ⟨g, 0, none⟩ (.string nm')).setCell ⟨g, 1, none⟩ (.slice ra' rn' rc')).setCell ⟨g, 2, none⟩ (.slice a' n' c')) g nm' ra' rn' rc' a' n' c' := by
  have hset : ∀ (V : World) (cur : Array Value) (o : Nat) (u : Value), V.heap[g]? = some (.cells cur 27 (0, 0)) → (V.setCell ⟨g, o, none⟩ u).heap[g]? = some (.cells (cur.set! o u) 27 (0, 0)) := fun V cur o u hV => by
    obtain ⟨hlt, hk2⟩ := Array.getElem?_eq_some_iff.1 hV
    show (V.heap.modify g _)[g]? = _
    rw [Array.getElem?_eq_getElem (by rw [Array.size_modify]; exact hlt), Array.getElem_modify_self, hk2]
    rfl
  exact hset _ _ 2 _ (hset _ _ 1 _ (hset _ _ 0 _ h))
/-- What is laid reads as this point, and its arms lie in blocks from lo on and below base. -/
def PtQ (w : World) (lo base : Nat) (r : PR) (t : PointL) : Prop :=
  (r.q.toList = t.src ∧ r.q.size ≤ maxLen) ∧ r.s.toList = t.dst ∧ r.s.size ≤ maxLen ∧ Arms w w.heap.size r.a r.n t.arms ∧ ∀ b off, r.a = some ⟨b, off, none⟩ → lo ≤ b ∧ b < base
def QOwn (w : World) (lo base : Nat) (v : Value) (f : List PointL) : Prop :=
  ∃ rs : List PR, w.ownsRow base 63 3 v f.length (rs.flatMap encPR) ∧ rs.length = f.length ∧ ∀ (j : Nat) (r : PR) (t : PointL), rs[j]? = some r → f[j]? = some t → PtQ w lo base r t
theorem QOwn.zero (w : World) (lo base : Nat) : QOwn w lo base (.slice none 0 0) [] := ⟨[], World.ownsRow_nil w base 63 3, rfl, fun j r l h => by simp at h⟩
theorem QOwn.beside {w w' : World} {lo base g : Nat} {v : Value} {f : List PointL} (h : QOwn w lo base v f) (hb : Beside g w w') (hg : g < lo) (hlb : lo ≤ base) (hbs : base ≤ w.heap.size) : QOwn w' lo base v f := by
  obtain ⟨rs, h, hrl, hrd⟩ := h
  have hlt := h.lt
  refine ⟨rs, ⟨h.1, ?_⟩, hrl, fun j r t hr ht => ?_⟩
  · rcases h.2 with h0 | ⟨k, cap, cur, rfl, hbase, hh, h1, h2, h3, h4⟩
    · exact .inl h0
    · refine .inr ⟨k, cap, cur, rfl, hbase, ?_, h1, h2, h3, h4⟩
      rw [hb.block k (hlt k rfl).2 (by omega)]
      exact hh
  · obtain ⟨e1, e2, e3, e4, e5⟩ := hrd j r t hr ht
    have hs := hb.size
    exact ⟨e1, e2, e3, e4.stay hs (fun b off e => hb.block b (by have := (e5 b off e).2; omega) (by have := (e5 b off e).1; omega)), e5⟩
theorem QOwn.kept {w w' : World} {lo base : Nat} {v : Value} {f : List PointL} (h : QOwn w lo base v f) (hb : Below w.heap.size w w') (h0 : 0 < lo) (hlb : lo ≤ base) (hbs : base ≤ w.heap.size) : QOwn w' lo base v f := h.beside (g := 0) (Beside.of_below hb) h0 hlb hbs
theorem QOwn.add {W : World} {lo base : Nat} {v : Value} {f : List PointL} {r : PR} {t : PointL} (hB : QOwn W lo base v f) (hA : PtQ W lo base r t) (hb : base ≤ W.heap.size) (hlen : f.length ≤ 1000000) (ty : Nat) :
    ∃ v' w', (Builtin.append_ #[25, 25] ty #[v, .slice (some ⟨W.heap.size, 0, none⟩) 1 1]).run Tryz.prog (W.alloc (.cells #[.string r.q, .string r.s, .slice r.a r.n r.c] 63)) = .ok v' w' ∧ QOwn w' lo base v' (f ++ [t]) ∧ ∀ w0, Below base w0 W → Below base w0 w' := by
  obtain ⟨i0, hi0, hzz⟩ := Option.map_eq_some_iff.1 info_point
  simp only [Prod.mk.injEq] at hzz
  obtain ⟨hz, hs1, hb1⟩ := hzz
  obtain ⟨rs, hown, hrl, hrd⟩ := hB
  have hown1 : (W.alloc (.cells #[.string r.q, .string r.s, .slice r.a r.n r.c] 63)).ownsRow base 63 3 v f.length (rs.flatMap encPR) := World.ownsRow.alloc hown _
  obtain ⟨v', w', hrun, hown', hgr, _, hat⟩ := run_append_own_at (P := Tryz.prog) (W.alloc (.cells #[.string r.q, .string r.s, .slice r.a r.n r.c] 63)) base 25 ty 63 i0 _ 3 56 Tryz.underlying25 hi0 hz hs1 hb1 rfl (by omega) v f.length (rs.flatMap encPR) hown1
    ⟨W.heap.size, 0, none⟩ 1 1 (encPR r) rfl
    (fun j u hu => by
      rw [Go.WideShapes.add_plain, cell_of_row _ _ _ _ _ _ (heap_alloc_new W _), Nat.zero_add, ← hu]
      rw [← Array.getElem?_toList]
      rfl)
    (fun u hu => by
      unfold encPR at hu
      simp only [List.mem_cons, List.not_mem_nil, or_false] at hu
      rcases hu with rfl | rfl | rfl <;> rfl) (by unfold maxLen; omega) (by omega) (by simp; omega)
  have hbel : ∀ w0, Below base w0 W → Below base w0 w' := fun w0 hw0 => (hw0.alloc (by omega) _).grown hgr (by simp; omega) (fun k hk => by
    have := hown1.lt k hk
    omega)
  have hsz : W.heap.size + 1 ≤ w'.heap.size := by
    have := hgr.size
    simpa using this
  have hmove : ∀ (r : PR) (t : PointL), PtQ W lo base r t → PtQ w' lo base r t := fun r t ⟨e1, e2, e3, e4, e5⟩ =>
    ⟨e1, e2, e3, e4.stay (by omega) (fun b off e => (hbel W (Below.refl _ _)).block b (e5 b off e).2), e5⟩
  refine ⟨v', w', hrun, ⟨rs ++ [r], ?_, by simp [hrl], fun j r2 k hj hk => ?_⟩, hbel⟩
  · rw [List.length_append, List.flatMap_append, List.flatMap_cons, List.flatMap_nil, List.append_nil]
    exact hown'
  · rcases Nat.lt_or_ge j rs.length with hlt | hge
    · rw [List.getElem?_append_left hlt] at hj
      rw [List.getElem?_append_left (by omega)] at hk
      exact hmove _ _ (hrd j r2 k hj hk)
    · rw [List.getElem?_append_right hge] at hj
      rw [List.getElem?_append_right (by omega), ← hrl] at hk
      have h0 : j - rs.length = 0 := by
        obtain ⟨h1, _⟩ := List.getElem?_eq_some_iff.1 hj
        simpa using h1
      rw [h0] at hj hk
      obtain rfl : r = r2 := by simpa using hj
      obtain rfl : t = k := by simpa using hk
      exact hmove _ _ hA
theorem wpList_append_qpoint {ops : Array Oper} {rest : List Oper} {o : Oper} {a : Act} {Q : Exit → Act → World → Prop} {W : World} {cells : Array Value} (hgd : o.guard = none) (s x : Operand)
    (ho : o.op = .call { callee := .builtin .append, args := #[s, x], argTypes := #[25, 25] }) (lo base : Nat) (v : Value) (f : List PointL) (r : PR) (t : PointL) (hc : cells = #[.string r.q, .string r.s, .slice r.a r.n r.c])
    (hs : a.eval s = v) {g : Nat} (hx : a.eval x = .slice (some ⟨g, 0, none⟩) 1 1) (hg : g = W.heap.size) (hB : QOwn W lo base v f) (hA : PtQ W lo base r t) (hb : base ≤ W.heap.size) (hlen : f.length ≤ 1000000)
    (w0 : World) (hw : Below base w0 W)
    (h : ∀ v' w', QOwn w' lo base v' (f ++ [t]) → Below base w0 w' → wpList Tryz.prog ops Q rest (a.put o.dst v') w') : wpList Tryz.prog ops Q (o :: rest) a (W.alloc (.cells cells 63)) := by
  subst hc hg
  obtain ⟨v', w', hrun, hown, hbel⟩ := hB.add hA hb hlen o.type
  exact wpList_append_lx hgd s x _ ho _ _ _ hs hx hrun (h v' w' hown (hbel w0 hw))
theorem QOwn.sees {w : World} {lo base : Nat} {v : Value} {f : List PointL} (h : QOwn w lo base v f) (hl : f.length ≤ 1000000) : ∃ a c, v = .slice a f.length c ∧ Pts w w.heap.size a f.length f := by
  obtain ⟨rs, h, hrl, hrd⟩ := h
  have hlt := h.lt
  rcases h.2 with ⟨h0, h1⟩ | ⟨g, cap, cur, rfl, hbase, hh, h1, h2, h3, h4⟩
  · have hz : f = [] := List.eq_nil_of_length_eq_zero h1
    subst hz
    exact ⟨none, 0, h0, Pts.zero _ _ _⟩
  · refine ⟨_, cap, rfl, rfl, by omega, fun _ => ⟨g, 0, rfl, (hlt g rfl).2, fun j t hj => ?_⟩⟩
    have hj' : j < f.length := (List.getElem?_eq_some_iff.1 hj).1
    have hr := List.getElem?_eq_getElem (l := rs) (i := j) (by omega)
    obtain ⟨e1, e2, e3, e4, _⟩ := hrd j _ t hr hj
    have hcell : ∀ i, i < 3 → w.cell? ⟨g, 0 + (j * 3 + i), none⟩ = (encPR (rs[j]'(by omega)))[i]? := fun i hi => by
      rw [cell_of_row w g _ cur 63 (0, 0) hh, Nat.zero_add, ← flatP_at rs j _ hr i hi]
      have : (cur.toList.take (f.length * 3))[j * 3 + i]? = (rs.flatMap encPR)[j * 3 + i]? := by rw [h4]
      rw [List.getElem?_take, if_pos (by omega)] at this
      rw [← Array.getElem?_toList, this]
    exact ⟨_, _, _, _, _, ⟨hcell 0 (by omega), hcell 1 (by omega), hcell 2 (by omega)⟩, e1.1, e2, e1.2, e3, e4⟩
/-- A turn of the call's own, in its place; its arms lie from the base on. -/
theorem TOwn.place {w : World} {base : Nat} {a : Option Addr} {n c : Nat} {f : List TurnL} (h : TOwn w base (.slice a n c) f) (hl : f.length = n) {k : Nat} (hk : k < n) :
    ∃ (g : Nat) (r : TR) (t : TurnL), a = some ⟨g, 0, none⟩ ∧ base ≤ g ∧ g < w.heap.size ∧ f[k]? = some t ∧ TurnAt w base (.slice a n c) r t ∧
      w.cell? ⟨g, k * 3, none⟩ = some (.int .i64 r.k) ∧ w.cell? ⟨g, k * 3 + 1, none⟩ = some (.string r.s) ∧ w.cell? ⟨g, k * 3 + 2, none⟩ = some (.slice r.a r.n r.c) := by
  obtain ⟨rs, h, hrl, hrd⟩ := h
  have hlt := h.lt
  rcases h.2 with ⟨h0, h1⟩ | ⟨g, cap, cur, hv, hbase, hh, h1, h2, h3, h4⟩
  · omega
  · obtain ⟨q1, _, _⟩ := Value.slice.inj hv
    subst q1
    have hr := List.getElem?_eq_getElem (l := rs) (i := k) (by omega)
    have ht := List.getElem?_eq_getElem (l := f) (i := k) (by omega)
    have hcell : ∀ i, i < 3 → w.cell? ⟨g, k * 3 + i, none⟩ = (encTR (rs[k]'(by omega)))[i]? := fun i hi => by
      rw [cell_of_row w g _ cur 41 (0, 0) hh, ← flatT_at rs k _ hr i hi]
      have : (cur.toList.take (f.length * 3))[k * 3 + i]? = (rs.flatMap encTR)[k * 3 + i]? := by rw [h4]
      rw [List.getElem?_take, if_pos (by omega)] at this
      rw [← Array.getElem?_toList, this]
    exact ⟨g, _, _, rfl, hbase, (hlt g rfl).2, ht, hrd k _ _ hr ht, hcell 0 (by omega), hcell 1 (by omega), hcell 2 (by omega)⟩
end Go.Proofs.YtokgpdceckaddaaGreatDoor

/- Contract of the program's Trim (package globe). -/
namespace Go.Proofs.YtokgpdceckaddaaGreatDoor
open Go.RowKit

theorem field_turns9 (x : ByteArray) (a : Option Addr) (n c : Nat) (W : World) : (Instr.field 34 (.agg #[.string x, .slice a n c]) 1).run Tryz.prog W = .ok (.slice a n c) W := by kernel_rfl
def nameQ (nm : ByteArray) (rs : List Str) (ps : List PointL) : ByteArray := if protB nm.toList rs ps then nm else ⟨#[]⟩
def rolesQ (nm : Str) (rs : List Str) (ps : List PointL) : List Str := if protB nm rs ps then rs else []
/-- What Trim answers. -/
def TrimRet (nm : ByteArray) (rs : List Str) (ps : List PointL) (e : Ending) (w' : World) : Prop :=
  ∃ xa xn xc sa sn sc, e = .returned (.agg #[.string (nameQ nm rs ps), .slice xa xn xc, .slice sa sn sc]) ∧ PIn w' (nameQ nm rs ps) xa xn (rolesQ nm.toList rs ps) sa sn (trimQ nm.toList rs ps)
theorem ownsRow_blocks {w w' : World} {base : Nat} {t : TypeId} {sz : Nat} {v : Value} {n : Nat} {row : List Value} (h : w.ownsRow base t sz v n row) (hb : ∀ b, base ≤ b → b < w.heap.size → w'.heap[b]? = w.heap[b]?) : w'.ownsRow base t sz v n row := by
  have hlt := h.lt
  refine ⟨h.1, ?_⟩
  rcases h.2 with h0 | ⟨k, cap, cur, e, hbase, hh, q1, q2, q3, q4⟩
  · exact .inl h0
  · exact .inr ⟨k, cap, cur, e, hbase, (hb k hbase (hlt k (by rw [e]; rfl)).2).trans hh, q1, q2, q3, q4⟩
theorem QOwn.blocks {w w' : World} {lo base : Nat} {v : Value} {f : List PointL} (h : QOwn w lo base v f) (hz : w.heap.size ≤ w'.heap.size) (hlb : lo ≤ base) (hbs : base ≤ w.heap.size) (hb : ∀ b, lo ≤ b → b < w.heap.size → w'.heap[b]? = w.heap[b]?) : QOwn w' lo base v f := by
  obtain ⟨rs, h, hrl, hrd⟩ := h
  refine ⟨rs, ownsRow_blocks h (fun b h1 h2 => hb b (by omega) h2), hrl, fun j r t hr ht => ?_⟩
  obtain ⟨e1, e2, e3, e4, e5⟩ := hrd j r t hr ht
  exact ⟨e1, e2, e3, e4.stay hz (fun b off e => hb b (e5 b off e).1 (by have := (e5 b off e).2; omega)), e5⟩
theorem TOwn.blocks {w w' : World} {base : Nat} {v : Value} {f : List TurnL} (h : TOwn w base v f) (hz : w.heap.size ≤ w'.heap.size) (hb : ∀ b, base ≤ b → b < w.heap.size → w'.heap[b]? = w.heap[b]?) : TOwn w' base v f := by
  obtain ⟨rs, h, hrl, hrd⟩ := h
  refine ⟨rs, ownsRow_blocks h hb, hrl, fun j r t hr ht => ?_⟩
  obtain ⟨e1, e2, e3, e4, e5⟩ := hrd j r t hr ht
  exact ⟨e1, e2, e3, e4.stay hz (fun b off e => hb b (e5 b off e).1 (e5 b off e).2.1), fun b off e => ⟨(e5 b off e).1, by have := (e5 b off e).2.1; omega, (e5 b off e).2.2⟩⟩
/-- What Trim answers stays wherever the blocks stay that the call made. -/
def TrimRet2 (nm : ByteArray) (rs : List Str) (ps : List PointL) (w : World) (e : Ending) (w' : World) : Prop :=
  ∃ xa xn xc sa sn sc, e = .returned (.agg #[.string (nameQ nm rs ps), .slice xa xn xc, .slice sa sn sc]) ∧ ∀ W : World, w'.heap.size ≤ W.heap.size → (∀ b, w.heap.size ≤ b → b < w'.heap.size → W.heap[b]? = w'.heap[b]?) → PIn W (nameQ nm rs ps) xa xn (rolesQ nm.toList rs ps) sa sn (trimQ nm.toList rs ps)
set_option maxHeartbeats 16000000 in
set_option maxRecDepth 20000 in
theorem gTrim2_any (nm : ByteArray) (hnm : nm.size ≤ maxLen) (ra : Option Addr) (rn rc : Nat) (rs : List Str) (a : Option Addr) (n c : Nat) (ps : List PointL) (w : World) (bound : Nat) (hb : bound ≤ w.heap.size) (hr : Strs w bound ra rn rs) (h : Pts w bound a n ps) :
    Calls Tryz.prog 26 #[.agg #[.string nm, .slice ra rn rc, .slice a n c]] w fun e w' => TrimRet2 nm rs ps w e w' ∧ Below w.heap.size w w' := by
  have HB0 := Lib.hid (below_on (tu1 w (.cells #[.string nm, .slice ra rn rc, .slice a n c] 27)) (tu1 (w.alloc (.cells #[.string nm, .slice ra rn rc, .slice a n c] 27)) (.cells #[.string ⟨#[]⟩, .slice none 0 0, .slice none 0 0] 27)))
  have HP := Lib.hid ((PBox.new w nm ra rn rc a n c).on (tu1 (w.alloc (.cells #[.string nm, .slice ra rn rc, .slice a n c] 27)) (.cells #[.string ⟨#[]⟩, .slice none 0 0, .slice none 0 0] 27)))
  have HX := Lib.hid (PBox.new (w.alloc (.cells #[.string nm, .slice ra rn rc, .slice a n c] 27)) ⟨#[]⟩ none 0 0 none 0 0)
  rw [World.size_alloc] at HX
  have CM := Lib.hid (fun (W : World) (hW : Below w.heap.size w W) => gMay_any nm hnm ra rn rc rs a n c ps W bound (by have := hW.size; omega) (hr.below (hW.mono hb)) (h.below (hW.mono hb)))
  obtain ⟨lc0, lc1, lc2⟩ := HP.out.cells
  obtain ⟨xc0, xc1, xc2⟩ := HX.out.cells
  have HN := Lib.hid h
  have HLEN := Lib.hid h.1
  cases hv : protB nm.toList rs ps
  · rw [hv] at CM
    have HZ := Lib.hid (show trimQ nm.toList rs ps = [] by unfold trimQ; rw [hv]; rfl)
    have HY := Lib.hid (show nameQ nm rs ps = ⟨#[]⟩ by unfold nameQ; rw [hv]; rfl)
    have HR := Lib.hid (show rolesQ nm.toList rs ps = [] by unfold rolesQ; rw [hv]; rfl)
    clear h hr hv
    go_enter Tryz.func26, Tryz.ntmps26
    go_wp2_with (first
      | (go_at_call 16; (with_reducible refine (CM.out _ HB0.out).mono ?_)
         rintro e w1 ⟨rfl, hb1⟩
         have HB1 := Lib.hid (below_on HB0.out hb1)
         have HX1 := Lib.hid (HX.out.on hb1)
         obtain ⟨yc0, yc1, yc2⟩ := HX1.out.cells
         have f0 := HX1.out.thaw 0
         have f1 := HX1.out.thaw 1
         have f2 := HX1.out.thaw 2
         clear hb1)
      | fail)
    refine bodyPost_ret (v := .agg #[.string ⟨#[]⟩, .slice none 0 0, .slice none 0 0]) (by simp [results, go_sem, yc0, yc1, yc2]) rfl ?_
    exact ⟨⟨none, 0, 0, none, 0, 0, by rw [HY.out], fun W _ _ => by rw [HY.out, HZ.out, HR.out]; exact ⟨by simp [maxLen, ByteArray.size], Strs.zero _ _ _, Pts.zero _ _ _⟩⟩, ((HB1.out.setCell (by simp) _).setCell (by simp) _).setCell (by simp) _⟩
  rw [hv] at CM
  have HZ := Lib.hid (show trimQ nm.toList rs ps = trimP ps by unfold trimQ; rw [hv]; rfl)
  have HY := Lib.hid (show nameQ nm rs ps = nm by unfold nameQ; rw [hv]; rfl)
  have HR := Lib.hid (show rolesQ nm.toList rs ps = rs by unfold rolesQ; rw [hv]; rfl)
  have HNM := Lib.hid hnm
  have hloc := prot_loc hv
  have HLOC := Lib.hid hloc
  obtain ⟨_, hrb, h1, h24, _⟩ := protB_all hv
  have hlen := h.1
  have hrl := hr.1
  have hr2 := (rolesB_all hrb).1
  have hr5 := (rolesB_all hrb).2.1
  have hrn0 : 0 < rn := by omega
  have hn24 : n ≤ 24 := by omega
  obtain ⟨rad, hrad⟩ : ∃ rad, ra = some rad := by
    obtain ⟨b, off, e, _⟩ := hr.at_ (k := 0) (by omega)
    exact ⟨_, e⟩
  subst hrad
  have CC := Lib.hid (fun (W : World) (hW : Below w.heap.size w W) => clone_any rad rn rc rs W bound (by have := hW.size; omega) (hr.below (hW.mono hb)) (by omega))
  have CG := Lib.hid (fun (W : World) (hW : Below w.heap.size w W) => gGraph_any nm (some rad) rn rc a n c ps W bound (by have := hW.size; omega) (h.below (hW.mono hb)) (by omega))
  have hfew : (reachP ps).length ≤ 24 := by
    have := reach_few hloc
    rw [List.length_map] at this
    unfold reachP
    omega
  have HFEW := Lib.hid hfew
  have HRX := Lib.hid hr.max
  have hrn5 : rn ≤ 1000 := by omega
  clear h hr hv hloc hrb h1 hlen hrl hfew
  go_enter Tryz.func26, Tryz.ntmps26
  go_upto_region 3 with (first
    | (go_at_call 16; (with_reducible refine (CM.out _ HB0.out).mono ?_)
       rintro e w1 ⟨rfl, hb1⟩
       have HB1 := Lib.hid (below_on HB0.out hb1)
       have HX1 := Lib.hid (HX.out.on hb1)
       have HP1 := Lib.hid (HP.out.on hb1)
       obtain ⟨_, _, _⟩ := HP1.out.cells
       have hz1 : w.heap.size + 2 ≤ w1.heap.size := HX1.out.lt
       clear hb1)
    | fail)
  have hz1' : w.heap.size < w1.heap.size := by omega
  have hz1'' : w.heap.size + 1 < w1.heap.size := by omega
  go_cut [3] (fun t3 wx => ∃ (g3 yb yc : Nat), t3 = .pointer (some ⟨g3, 0, none⟩) ∧ w.heap.size + 2 ≤ g3 ∧ w.heap.size + 2 ≤ yb ∧ yb ≠ g3 ∧ Hid (PBox wx g3 nm (some ⟨yb, 0, none⟩) rn yc none 0 0) ∧ Hid (RRow wx w.heap.size (some ⟨yb, 0, none⟩) rn yc rs) ∧ Hid (PBox wx w.heap.size nm (some rad) rn rc a n c) ∧ Hid (PBox wx (w.heap.size + 1) ⟨#[]⟩ none 0 0 none 0 0) ∧ Hid (Below w.heap.size w wx))
  case first =>
    have HB1d := Lib.hid (show Below w.heap.size w w1.drew from bel_drewN HB1.out 1)
    have HB1e := Lib.hid (show Below w1.heap.size w1 (w1.alloc (.cells #[.string ⟨#[]⟩, .slice none 0 0, .slice none 0 0] 27)).drew from bel_drewN (tu1 w1 _) 1)
    have HB1f := Lib.hid (below_on HB1.out HB1e.out)
    have HZ1 := Lib.hid (PBox.new w1 ⟨#[]⟩ none 0 0 none 0 0)
    have HKS := Lib.hid (fun (W : World) (hL : PBox W w.heap.size nm (some rad) rn rc a n c) => show W.cell? ⟨w.heap.size, 0, none⟩ = some (.string nm) ∧ W.cell? ⟨w.heap.size, 1, none⟩ = some (.slice (some rad) rn rc) ∧ W.cell? ⟨w.heap.size, 2, none⟩ = some (.slice a n c) from hL.cells)
    have HPd := Lib.hid (show PBox w1.drew w.heap.size nm (some rad) rn rc a n c from HP1.out)
    refine wp_region_last2 (S := fun W => W.cell? ⟨w.heap.size, 0, none⟩ = some (.string nm) ∧ W.cell? ⟨w.heap.size, 1, none⟩ = some (.slice (some rad) rn rc) ∧ W.cell? ⟨w.heap.size, 2, none⟩ = some (.slice a n c)) rfl (by kernel_rfl) (by kernel_rfl) (HKS.out _ HPd.out) (fun hHeld => ?_)
    simp only [List.pop_toArray, List.dropLast_cons_cons, List.dropLast_singleton]
    try simp only [Act.put, List.setIfInBounds_toArray]
    refine' wpAnyH_take (i := 0) (v := _) rfl (by kernel_rfl) (by kernel_rfl) (by kernel_rfl) (fun _ _ _ h => h) (Or.inl ⟨by rfl, ?hy0⟩) (by assumption) ?rest0
    case hy0 =>
      intro W hSw
      (try dsimp only at hSw)
      first | (go_simp; done) | (go_simp; with_reducible rfl)
    try simp only [Act.put, List.setIfInBounds_toArray]
    refine' wpAnyH_take (i := 1) (v := _) rfl (by kernel_rfl) (by kernel_rfl) (by kernel_rfl) (fun _ _ _ h => h) (Or.inl ⟨by rfl, ?hy1⟩) (by assumption) ?rest1
    case hy1 =>
      intro W hSw
      (try dsimp only at hSw)
      first | (go_simp; done) | (go_simp; with_reducible rfl)
    try simp only [Act.put]
    refine' wpAnyH_take (i := 2) (v := _) rfl (by kernel_rfl) (by kernel_rfl) (by kernel_rfl) (fun _ _ _ h => h) (Or.inl ⟨by rfl, ?hy2⟩) (by assumption) ?rest2
    case hy2 =>
      intro W hSw
      (try dsimp only at hSw)
      first | (go_simp; done) | (go_simp; with_reducible rfl)
    try simp only [Act.put]
    refine' wpAnyH_take (i := 3) (v := _) rfl (by kernel_rfl) (by kernel_rfl) (by kernel_rfl) (fun _ _ _ h => h) (Or.inl ⟨by rfl, ?hy3⟩) (by assumption) ?rest3
    case hy3 =>
      intro W hSw
      (try dsimp only at hSw)
      first | (go_simp; done) | (go_simp; with_reducible rfl)
    try simp only [Act.put]
    refine wpAnyH_ready (rs := [4, 6]) (by kernel_rfl) (by simp) ?_
    refine AllReadyH.cons (i := 4) (o := _) rfl (fun K hK => ?a4) (AllReadyH.cons (i := 6) (o := _) rfl (fun K hK => ?a6) AllReadyH.nil)
    case a4 =>
      go_simp
      go_at_call 52
      with_reducible refine (CC.out _ HB1d.out).mono ?_
      rintro e w2 ⟨⟨ya, yc, he, hs2⟩, hb2⟩
      subst he
      have hb2 : Below w1.heap.size w1 w2 := ⟨hb2.os, hb2.tape, hb2.output, hb2.size, hb2.block⟩
      obtain ⟨yb, hyb, hyb1, hyb2, _⟩ := hs2.cell hrn0
      subst hyb
      have HB2 := Lib.hid hb2
      have HS2 := Lib.hid (hs2.low (base' := w.heap.size) (by show w.heap.size ≤ w1.heap.size; omega))
      have HP2 := Lib.hid (HP1.out.on hb2)
      have HX2 := Lib.hid (HX1.out.on hb2)
      clear hs2 hb2
      refine hK.out _ _ (HKS.out _ HP2.out) (fun hHeld => ?_)
      clear hK K
      try simp only [Act.put, List.setIfInBounds_toArray, List.set_cons_zero, List.set_cons_succ]
      refine' wpAnyH_take (i := 5) (v := _) rfl (by kernel_rfl) (by kernel_rfl) (by kernel_rfl) (fun _ _ _ h => h) (Or.inl ⟨by rfl, ?hya5⟩) (by assumption) ?resta5
      case hya5 =>
        intro W hSw
        (try dsimp only at hSw)
        first | (go_simp; done) | (go_simp; with_reducible rfl)
      try simp only [Act.put, List.setIfInBounds_toArray]
      refine wpAnyH_ready (rs := [6]) (by kernel_rfl) (by simp) ?_
      refine AllReadyH.cons (i := 6) (o := _) rfl (fun K hK => ?_) AllReadyH.nil
      go_simp
      refine hK.out _ _ (HKS.out _ (HP2.out.on (tu1 _ _))) (fun hHeld => ?_)
      clear hK K
      try simp only [Act.put, List.setIfInBounds_toArray]
      refine wpAnyH_done (by kernel_rfl) ?_ _
      unfold LastPost
      go_simp
      go_wp2_with fail
      go_meet
      have hz2 := HB2.out.size
      have hb3 := tu1 w2 (.cells #[.string nm, .slice (some ⟨yb, 0, none⟩) rn yc, .slice none 0 0] 27)
      have hy1 : w1.heap.size ≤ yb := hyb1
      exact ⟨w2.heap.size, yb, yc, rfl, by omega, by omega, by omega, Lib.hid (PBox.new w2 _ _ _ _ _ _ _), Lib.hid (HS2.out.below hb3 hyb2), Lib.hid (HP2.out.on hb3), Lib.hid (HX2.out.on hb3), Lib.hid (below_on (below_on HB1.out HB2.out) hb3)⟩
    case a6 =>
      go_simp
      refine hK.out _ _ (HKS.out _ (HP1.out.on HB1e.out)) (fun hHeld => ?_)
      clear hK K
      try simp only [Act.put, List.setIfInBounds_toArray, List.set_cons_zero, List.set_cons_succ]
      refine wpAnyH_ready (rs := [4]) (by kernel_rfl) (by simp) ?_
      refine AllReadyH.cons (i := 4) (o := _) rfl (fun K hK => ?_) AllReadyH.nil
      go_simp
      go_at_call 52
      with_reducible refine (CC.out _ HB1f.out).mono ?_
      rintro e w2 ⟨⟨ya, yc, he, hs2⟩, hb2⟩
      subst he
      obtain ⟨yb, hyb, hyb1, hyb2, _⟩ := hs2.cell hrn0
      subst hyb
      have hb2' : Below w1.heap.size w1 w2 := below_on HB1e.out hb2
      have HB2 := Lib.hid hb2'
      have hy1 : w1.heap.size + 1 ≤ yb := by
        have : (w1.alloc (.cells #[.string ⟨#[]⟩, .slice none 0 0, .slice none 0 0] 27)).drew.heap.size = w1.heap.size + 1 := by simp
        omega
      have HS2 := Lib.hid (hs2.low (base' := w.heap.size) (by show w.heap.size ≤ (w1.alloc _).heap.size; simp; omega))
      have HP2 := Lib.hid (HP1.out.on hb2')
      have HX2 := Lib.hid (HX1.out.on hb2')
      have HQ2 := Lib.hid (show PBox w2 w1.heap.size ⟨#[]⟩ none 0 0 none 0 0 from (hb2.block w1.heap.size (by show w1.heap.size < (w1.alloc _).heap.size; simp)).trans HZ1.out)
      clear hs2 hb2 hb2'
      refine hK.out _ _ (HKS.out _ HP2.out) (fun hHeld => ?_)
      clear hK K
      try simp only [Act.put, List.setIfInBounds_toArray, List.set_cons_zero, List.set_cons_succ]
      refine' wpAnyH_take (i := 5) (v := _) rfl (by kernel_rfl) (by kernel_rfl) (by kernel_rfl) (fun _ _ _ h => h) (Or.inl ⟨by rfl, ?hyb5⟩) (by assumption) ?restb5
      case hyb5 =>
        intro W hSw
        (try dsimp only at hSw)
        first | (go_simp; done) | (go_simp; with_reducible rfl)
      try simp only [Act.put, List.setIfInBounds_toArray]
      refine wpAnyH_done (by kernel_rfl) ?_ _
      unfold LastPost
      obtain ⟨_, _, _⟩ := HQ2.out.cells
      have vf0 := HQ2.out.thaw 0
      have vf1 := HQ2.out.thaw 1
      have vf2 := HQ2.out.thaw 2
      go_simp
      go_wp2_with fail
      go_meet
      have hbs := (((Beside.refl w1.heap.size w2).setCell 0 (.string nm)).setCell 1 (.slice (some ⟨yb, 0, none⟩) rn yc)).setCell 2 (.slice none 0 0)
      exact ⟨w1.heap.size, yb, yc, rfl, by omega, by omega, by omega, Lib.hid HQ2.out.fill, Lib.hid (HS2.out.aside hbs (by omega)), Lib.hid (HP2.out.beside hbs (by omega)), Lib.hid (HX2.out.beside hbs (by omega)), Lib.hid ((below_on HB1.out HB2.out).trans (hbs.below (by omega) (by have := HB2.out.size; omega)))⟩
  case rest =>
    obtain ⟨g3, yb, yc, rfl, hg3, hyb, hyg, HQ3, HRo, HPx, HXx, HBx⟩ := hcut
    have hg3l := HQ3.out.lt
    obtain ⟨_, _, _⟩ := HPx.out.cells
    clear HB0 HP HX CM lc0 lc1 lc2 xc0 xc1 xc2 CC HB1 HX1 HP1 hz1 hz1' hz1''
    go_upto_region 5 with (first
      | (go_at_call 53; (with_reducible refine (CG.out _ HBx.out).mono ?_)
         rintro e w4 ⟨⟨g, rfl, ht⟩, hb4⟩
         have HT4 := Lib.hid ht
         have HB4 := Lib.hid hb4
         clear ht hb4)
      | fail)
    have HL5 := Lib.hid (LBox.new w4 ⟨#[]⟩ (some ⟨g, 0, none⟩) n n)
    have hb45 := tu1 w4 (.cells #[.string ⟨#[]⟩, .slice (some ⟨g, 0, none⟩) n n] 34)
    have HB5 := Lib.hid (below_on HB4.out hb45)
    have HT5 := Lib.hid (show Turns _ _ (some ⟨g, 0, none⟩) n (ps.map asT) from (HT4.out.below hb45).more hb45.size)
    generalize hg5 : w4.heap.size = g5 at HL5 ⊢
    generalize hw5 : w4.alloc (.cells #[.string ⟨#[]⟩, .slice (some ⟨g, 0, none⟩) n n] 34) = w5 at HL5 HB5 HT5 ⊢
    clear hw5 hg5 hb45 HB4 HT4 CG
    obtain ⟨_, _⟩ := HL5.out.cells
    have CR := Lib.hid (ownReach_any ⟨#[]⟩ (some ⟨g, 0, none⟩) n n (ps.map asT) w5 _ (Nat.le_refl _) HT5.out)
    have HRL := Lib.hid (show reachL (ps.map asT) = reachP ps by unfold reachL reachP; rw [HLOC.out]; rfl)
    have HTL := Lib.hid (show trimL (ps.map asT) = trimT (ps.map asT) by unfold trimL; rw [HLOC.out]; rfl)
    rw [HRL.out] at CR
    have hml : (trimT (ps.map asT)).length = (reachP ps).length := by rw [← trimP_asT HLOC.out, List.length_map, trimP_len]
    obtain ⟨mn, hmn⟩ : ∃ mn, mn = (reachP ps).length := ⟨_, rfl⟩
    have hml2 : (rowI (reachP ps)).length = mn := by rw [rowI_len, hmn]
    have HML := Lib.hid (hml.trans hmn.symm)
    have HMN := Lib.hid hmn
    have HML2 := Lib.hid hml2
    have hmn24 : mn ≤ 24 := by have := HFEW.out; omega
    clear hml hmn hml2
    have hfe := fun xa xn xc W => field_turns9 (trimName (ps.map asT) ⟨#[]⟩) xa xn xc W
    go_wp2_with (first
      | (go_at_call 54; (with_reducible refine CR.out.mono ?_)
         rintro e w6 ⟨⟨v, rfl, hi⟩, hb6⟩
         obtain ⟨ya, yc2, hv, _, _, _, hnu⟩ := hi.sees
         rw [HML2.out] at hv hnu
         subst hv
         have HR6 := Lib.hid hnu
         have HIL := Lib.hid hi.lt
         have hz5 := HB5.out.size
         have HB6 := Lib.hid (below_on HB5.out hb6)
         have HL6 := Lib.hid (HL5.out.on hb6)
         obtain ⟨_, _⟩ := HL6.out.cells
         have CT := Lib.hid (ownTrimO_any ⟨#[]⟩ (some ⟨g, 0, none⟩) n n (ps.map asT) w6 _ (Nat.le_refl _) ((HT5.out.below hb6).more hb6.size))
         rw [HTL.out] at CT
         clear hi hb6 hnu)
      | (go_at_call 27; (with_reducible refine CT.out.mono ?_)
         rintro e w7 ⟨⟨ta, tn, tc, rfl, hto⟩, hb7⟩
         have htn : tn = mn := by
           obtain ⟨_, _, hv, _⟩ := hto.sees (by have := HML.out; omega)
           obtain ⟨_, h2, _⟩ := Value.slice.inj hv
           rw [h2, HML.out]
         subst htn
         have HTO := Lib.hid hto
         have HR7 := Lib.hid (HR6.out.on hb7)
         have HB7 := Lib.hid (below_on HB6.out hb7)
         have hz7 := hb7.size
         have hz6 := HB6.out.size
         clear hto hb7)
      | fail)
    have HQ7 := Lib.hid (HQ3.out.on HB7.out)
    have HR3 := Lib.hid (HRo.out.below HB7.out (World.ownsRow.lt HRo.out yb rfl).2)
    have HP7 := Lib.hid (HPx.out.on HB7.out)
    have HX7 := Lib.hid (HXx.out.on HB7.out)
    have HBW := Lib.hid (below_on HBx.out HB7.out)
    have hzx := HBx.out.size
    clear HQ3 HRo HPx HXx HBx HB5 HB6 HB7 HL5 HL6 HT5 CR CT HR6
    go_loopw [27] (fun i wr => ∃ (k : Nat) (sa : Option Addr) (sn sc : Nat), k ≤ tn ∧ i = .int .i64 k ∧ Hid (QOwn wr w6.heap.size w7.heap.size (.slice sa sn sc) ((trimP ps).take k)) ∧ Hid (PBox wr g3 nm (some ⟨yb, 0, none⟩) rn yc sa sn sc) ∧ Hid (Beside g3 w7 wr)) (fun i _ => tn - (intOf i).toNat)
    case atStart => exact ⟨0, none, 0, 0, Nat.zero_le _, rfl, Lib.hid (by rw [List.take_zero]; exact QOwn.zero _ _ _), HQ7, Lib.hid (Beside.refl _ _)⟩
    case round =>
      obtain ⟨k, sa, sn, sc, hk, rfl, HO, HQ, HBr⟩ := hrel
      have hzr := HBr.out.size
      have HPr := Lib.hid (HP7.out.beside HBr.out (by omega))
      have HXr := Lib.hid (HX7.out.beside HBr.out (by omega))
      obtain ⟨_, _, _⟩ := HPr.out.cells
      by_cases hlt : k < tn
      · have i1 : (k : Int) < (tn : Int) := by omega
        have i2 : (0 : Int) ≤ (k : Int) := by omega
        obtain ⟨tg, r, t, hta, htg1, htg2, htk, htat, t0, t1, t2⟩ := HTO.out.place HML.out hlt
        subst hta
        obtain ⟨p, hp, hpn, hpt⟩ := trimP_turn HLOC.out htk
        obtain ⟨yb2, yo2, x9, hya, hyb2, hx9, hy9⟩ := HR7.out.at_ hlt
        subst hya
        obtain ⟨p9, hp9, hp9'⟩ := rowI_at hx9
        subst hp9
        obtain rfl : p9 = p := by rw [hp] at hp9'; exact (Option.some.inj hp9').symm
        rw [HLEN.out] at hpn
        have hyg2 : yb2 ≠ g3 := by have := (HIL.out yb2 rfl).1; omega
        obtain ⟨b, off, q, s, aa, an, ac, al, hsa, hbb, hx, ⟨q0, q1, q2⟩, hq, hs, hal⟩ := HN.out.at_ hpn
        subst hsa
        have hpo : pointOf ps p9 = ⟨q.toList, s.toList, al⟩ := by unfold pointOf; rw [hx]; rfl
        obtain ⟨e1, e2, e3, e4, e5⟩ := htat
        have HST := Lib.hid (show (trimP ps).take (k + 1) = (trimP ps).take k ++ [(⟨q.toList, s.toList, t.arms⟩ : PointL)] by rw [take_snoc hpt, hpo])
        have HPQ := Lib.hid (fun (W : World) (hW : Beside g3 w7 W) => show PtQ W w6.heap.size w7.heap.size ⟨q, s, r.a, r.n, r.c⟩ ⟨q.toList, s.toList, t.arms⟩ from
          ⟨⟨rfl, hq⟩, rfl, hs, e4.stay hW.size (fun b off e => hW.block b (e5 b off e).2.1 (by have := (e5 b off e).1; omega)), fun b off e => ⟨(e5 b off e).1, (e5 b off e).2.1⟩⟩)
        have HFL := Lib.hid (show ((trimP ps).take k).length ≤ 1000000 by rw [List.length_take]; omega)
        have HTL := Lib.hid (show ((trimP ps).take k ++ [(⟨q.toList, s.toList, t.arms⟩ : PointL)]).length ≤ 1000000 by rw [List.length_append, List.length_take, List.length_singleton]; omega)
        have hbw : Below w.heap.size w wr := HBW.out.trans (HBr.out.below (by omega) (by omega))
        have r0 := (hbw.cell (p := ⟨b, off + p9 * 3, none⟩) (by show b < _; omega)).trans q0
        have r1 := (hbw.cell (p := ⟨b, off + p9 * 3 + 1, none⟩) (by show b < _; omega)).trans q1
        have r2 := (hbw.cell (p := ⟨b, off + p9 * 3 + 2, none⟩) (by show b < _; omega)).trans q2
        have u0 := (HBr.out.cell (p := ⟨tg, k * 3, none⟩) (by show tg < _; omega) (by show tg ≠ _; omega)).trans t0
        have u1 := (HBr.out.cell (p := ⟨tg, k * 3 + 1, none⟩) (by show tg < _; omega) (by show tg ≠ _; omega)).trans t1
        have u2 := (HBr.out.cell (p := ⟨tg, k * 3 + 2, none⟩) (by show tg < _; omega) (by show tg ≠ _; omega)).trans t2
        have y0 := (HBr.out.cell (p := ⟨yb2, yo2 + k, none⟩) (by show yb2 < _; omega) (by show yb2 ≠ _; exact hyg2)).trans hy9
        have z1 : b < wr.heap.size := by omega
        have z2 : yb2 < wr.heap.size := by omega
        have z3 : g3 < wr.heap.size := by omega
        have i3 : (p9 : Int) < (n : Int) := by omega
        have HP9 := Lib.hid (show Below wr.heap.size wr (wr.alloc (.cells #[.int .i64 r.k, .string r.s, .slice r.a r.n r.c] 41)) from tu1 _ _)
        have HT9 := Lib.hid (TBox.new wr r.k r.s r.a r.n r.c)
        clear htk hp hpt hx9 hp9' hx hq hs hal e1 e2 e3 e4 e5 q0 q1 q2 t0 t1 t2 hy9 hpo hbw
        go_upto_region 9 with fail
        generalize hg8 : wr.heap.size = g8 at HT9 ⊢
        generalize hw8 : wr.alloc (.cells #[.int .i64 r.k, .string r.s, .slice r.a r.n r.c] 41) = w8 at HP9 HT9 ⊢
        have HB9 := Lib.hid (show Below w8.heap.size w8 (w8.alloc (.cells #[.string q, .string s, .slice aa an ac] 63)).drew from bel_drewN (tu1 _ _) 1)
        have HX9 := Lib.hid (show (w8.alloc (.cells #[.string q, .string s, .slice aa an ac] 63)).drew.heap[w8.heap.size]? = some (.cells #[.string q, .string s, .slice aa an ac] 63 (0, 0)) from heap_alloc_new w8 _)
        have hz8 := HP9.out.size
        clear hw8
        have HP8 := Lib.hid (HPr.out.on HP9.out)
        obtain ⟨_, _, _⟩ := HP8.out.cells
        have s0 := (HP9.out.cell (p := ⟨b, off + p9 * 3, none⟩) z1).trans r0
        have s1 := (HP9.out.cell (p := ⟨b, off + p9 * 3 + 1, none⟩) z1).trans r1
        have s2 := (HP9.out.cell (p := ⟨b, off + p9 * 3 + 2, none⟩) z1).trans r2
        have sy := (HP9.out.cell (p := ⟨yb2, yo2 + k, none⟩) z2).trans y0
        have z4 : b < w8.heap.size := by omega
        have z5 : yb2 < w8.heap.size := by omega
        have z6 : w.heap.size < w8.heap.size := by omega
        have hz9 := HB9.out.size
        have HBX := Lib.hid (show Beside g3 w7 (w8.alloc (.cells #[.string q, .string s, .slice aa an ac] 63)).drew from bes_below (bes_below HBr.out HP9.out (by omega)) HB9.out (by omega))
        go_region
        go_upto_region 10 with fail
        generalize hg9 : w8.heap.size = g9 at HX9 ⊢
        generalize hw9 : (w8.alloc (.cells #[.string q, .string s, .slice aa an ac] 63)).drew = w9 at HX9 HB9 HBX ⊢
        clear hw9 s0 s1 s2 sy r0 r1 r2 y0 u0 u1 u2
        have HQ9 := Lib.hid ((HQ.out.on HP9.out).on HB9.out)
        have HT9b := Lib.hid (HB9.out.block g8 (by have := HT9.out.lt; omega) |>.trans HT9.out)
        have HO9 := Lib.hid ((HO.out.kept HP9.out (by omega) (by omega) (by omega)).kept HB9.out (by omega) (by omega) (by omega))
        have hz9' := HB9.out.size
        obtain ⟨_, _, _⟩ := HQ9.out.cells
        obtain ⟨_, _, _⟩ := (show TBox w9 g8 r.k r.s r.a r.n r.c from HT9b.out).cells
        have x0 : w9.cell? ⟨g9, 0, none⟩ = some (.string q) := by rw [cell_of_row _ _ _ _ _ _ HX9.out]; rfl
        have x1 : w9.cell? ⟨g9, 1, none⟩ = some (.string s) := by rw [cell_of_row _ _ _ _ _ _ HX9.out]; rfl
        have HZ6 := Lib.hid (show w6.heap.size ≤ w7.heap.size ∧ w7.heap.size ≤ w9.heap.size ∧ g3 < w6.heap.size from ⟨by omega, by omega, by omega⟩)
        go_wp2_with (first
          | (at_builtin
             refine wpList_append_qpoint rfl (.tmp 41) (.tmp 49) rfl w6.heap.size w7.heap.size (.slice sa sn sc) ((trimP ps).take k) ⟨q, s, r.a, r.n, r.c⟩ ⟨q.toList, s.toList, t.arms⟩ rfl rfl rfl rfl HO9.out (HPQ.out _ HBX.out) HZ6.out.2.1 HFL.out w9 (Below.refl _ _) ?_
             intro v4 w4 hown hbel
             obtain ⟨sa4, sc4, hv4, _⟩ := hown.sees HTL.out
             obtain ⟨sn4, hn4⟩ : ∃ x, x = ((trimP ps).take k ++ [(⟨q.toList, s.toList, t.arms⟩ : PointL)]).length := ⟨_, rfl⟩
             rw [← hn4] at hv4
             clear hn4
             subst hv4
             have HO4 := Lib.hid hown
             have HB4 := Lib.hid hbel
             have HQ4 := Lib.hid (show PBox w4 g3 nm (some ⟨yb, 0, none⟩) rn yc sa sn sc from (hbel.block g3 (by have := HZ6.out; omega)).trans HQ9.out)
             obtain ⟨_, _, _⟩ := HQ4.out.cells
             have vf2 := HQ4.out.thaw 2
             clear hown hbel)
          | fail)
        go_roundw
        case rel => exact ⟨k + 1, sa4, sn4, sc4, by omega, by go_num, Lib.hid (by rw [HST.out]; exact HO4.out.beside ((Beside.refl g3 w4).setCell 2 (.slice sa4 sn4 sc4)) HZ6.out.2.2 HZ6.out.1 (by have := HB4.out.size; have := HZ6.out; omega)), Lib.hid (PBox.set HQ4.out), Lib.hid ((bes_below HBX.out HB4.out (Nat.le_refl _)).setCell 2 (.slice sa4 sn4 sc4))⟩
        case measure => simp [intOf]; omega
      · have hkt : k = tn := by omega
        subst hkt
        have hall : (trimP ps).take k = trimP ps := List.take_of_length_le (by rw [trimP_len, ← HMN.out]; exact Nat.le_refl _)
        rw [hall] at HO
        obtain ⟨fa, fc, hv, _⟩ := HO.out.sees (by rw [trimP_len, ← HMN.out]; omega)
        rw [trimP_len, ← HMN.out] at hv
        obtain ⟨e1, e2, e3⟩ := Value.slice.inj hv
        subst e2
        clear e1 e3
        have HRr := Lib.hid (HR3.out.aside HBr.out hyg)
        obtain ⟨_, _, _⟩ := HQ.out.cells
        obtain ⟨zc0, zc1, zc2⟩ := HXr.out.cells
        have zf0 := HXr.out.thaw 0
        have zf1 := HXr.out.thaw 1
        have zf2 := HXr.out.thaw 2
        clear hv hall
        go_wp2_with fail
        refine bodyPost_ret (v := .agg #[.string nm, .slice (some ⟨yb, 0, none⟩) rn yc, .slice sa sn sc]) (by simp [results, go_sem, zc0, zc1, zc2]) rfl ?_
        have hbs := (((Beside.refl (w.heap.size + 1) wr).setCell 0 (.string nm)).setCell 1 (.slice (some ⟨yb, 0, none⟩) rn yc)).setCell 2 (.slice sa sn sc)
        have hend := HO.out.beside hbs (by omega) (by omega) (by omega)
        refine ⟨⟨some ⟨yb, 0, none⟩, rn, yc, sa, sn, sc, by rw [HY.out], fun W hz2 hb2 => ?_⟩, HBW.out.trans ((HBr.out.below (by omega) (by omega)).trans (hbs.below (by omega) (by omega)))⟩
        rw [HY.out, HR.out, HZ.out]
        obtain ⟨ga, gc, hgv, hpts⟩ := (hend.blocks hz2 (by omega) (by simp; omega) (fun b h1 h2 => hb2 b (by omega) h2)).sees (by rw [trimP_len, ← HMN.out]; omega)
        rw [trimP_len, ← HMN.out] at hgv hpts
        obtain ⟨q1, _, _⟩ := Value.slice.inj hgv
        subst q1
        exact ⟨HNM.out, RRow.strs (show RRow W w.heap.size (some ⟨yb, 0, none⟩) rn yc rs from ownsRow_blocks (HRr.out.aside hbs (by omega)) hb2) hrn5 HRX.out, hpts⟩
theorem gTrim_any (nm : ByteArray) (hnm : nm.size ≤ maxLen) (ra : Option Addr) (rn rc : Nat) (rs : List Str) (a : Option Addr) (n c : Nat) (ps : List PointL) (w : World) (bound : Nat) (hb : bound ≤ w.heap.size) (hr : Strs w bound ra rn rs) (h : Pts w bound a n ps) :
    Calls Tryz.prog 26 #[.agg #[.string nm, .slice ra rn rc, .slice a n c]] w fun e w' => TrimRet nm rs ps e w' ∧ Below w.heap.size w w' :=
  (gTrim2_any nm hnm ra rn rc rs a n c ps w bound hb hr h).mono fun e w' k => by
    obtain ⟨⟨xa, xn, xc, sa, sn, sc, e1, e2⟩, hb⟩ := k
    exact ⟨⟨xa, xn, xc, sa, sn, sc, e1, e2 w' (Nat.le_refl _) (fun _ _ _ => rfl)⟩, hb⟩
end Go.Proofs.YtokgpdceckaddaaGreatDoor
