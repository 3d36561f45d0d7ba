/- Rows of local types: what such a slice reads as, and append to one. -/
import Derived.Test.YtokgpdceckaddaaGreatDoorTuRows
import Derived.Test.YtokgpdceckaddaaGreatDoorPjUs
import Derived.Test.YtokgpdceckaddaaGreatDoorPjOwns
namespace Go.Proofs.YtokgpdceckaddaaGreatDoor
open Go.RowKit

/-- The turns are read in the window of blocks from lo to hi alone. -/
def WTurns (w : World) (lo hi : Nat) (a : Option Addr) (n : Nat) (ts : List TurnL) : Prop := ∀ w' : World, (∀ b, lo ≤ b → b < hi → w'.heap[b]? = w.heap[b]?) → Turns w' hi a n ts
theorem WTurns.self {w : World} {lo hi : Nat} {a : Option Addr} {n : Nat} {ts : List TurnL} (h : WTurns w lo hi a n ts) : Turns w hi a n ts := h w (fun _ _ _ => rfl)
theorem WTurns.stay {w w' : World} {lo hi : Nat} {a : Option Addr} {n : Nat} {ts : List TurnL} (h : WTurns w lo hi a n ts) (hk : ∀ b, lo ≤ b → b < hi → w'.heap[b]? = w.heap[b]?) : WTurns w' lo hi a n ts := fun w2 h2 => h w2 (fun b h3 h4 => (h2 b h3 h4).trans (hk b h3 h4))
theorem WTurns.zero (w : World) (lo hi : Nat) (a : Option Addr) : WTurns w lo hi a 0 [] := fun _ _ => Turns.zero _ _ _
theorem TOwn.win {w : World} {base : Nat} {a : Option Addr} {n c : Nat} {f : List TurnL} (h : TOwn w base (.slice a n c) f) (hl : f.length ≤ 1000000) : WTurns w base w.heap.size a n f := fun w' hk => by
  obtain ⟨a2, c2, hv, ht⟩ := h.sees hl
  obtain ⟨q1, q2, _⟩ := Value.slice.inj hv
  subst q1 q2
  obtain ⟨rs, h, hrl, hrd⟩ := h
  have hlt := h.lt
  rcases h.2 with ⟨h0, h1⟩ | ⟨g, cap, cur, hv, hbase, hh, h1, h2, h3, h4⟩
  · have hz : f = [] := List.eq_nil_of_length_eq_zero h1
    subst hz
    exact Turns.zero _ _ _
  · obtain ⟨q1, _, _⟩ := Value.slice.inj hv
    subst q1
    have hg := (hlt g rfl)
    refine ⟨rfl, by omega, fun _ => ⟨g, 0, rfl, hg.2, fun j t hj => ?_⟩⟩
    have hj' : j < f.length := (List.getElem?_eq_some_iff.1 hj).1
    have hr := List.getElem?_eq_getElem (l := rs) (i := j) (by omega)
    obtain ⟨e1, e2, e3, e4, e5⟩ := hrd j _ t hr hj
    have hcell : ∀ i, i < 3 → w'.cell? ⟨g, 0 + (j * 3 + i), none⟩ = (encTR (rs[j]'(by omega)))[i]? := fun i hi => by
      rw [World.cell?_of_block (hk g hg.1 hg.2), cell_of_row w g _ cur 41 (0, 0) hh, Nat.zero_add, ← flatT_at rs j _ hr i hi]
      have : (cur.toList.take (f.length * 3))[j * 3 + i]? = (rs.flatMap encTR)[j * 3 + i]? := by rw [h4]
      rw [List.getElem?_take, if_pos (by omega)] at this
      rw [← Array.getElem?_toList, this]
    have c0 := hcell 0 (by omega)
    have c1 := hcell 1 (by omega)
    have c2 := hcell 2 (by omega)
    exact ⟨(rs[j]'(by omega)).s, (rs[j]'(by omega)).a, (rs[j]'(by omega)).n, (rs[j]'(by omega)).c, ⟨c0.trans (by rw [← e1]; rfl), c1, c2⟩, e2, e3, e4.stay (Nat.le_refl _) (fun b off e => hk b (e5 b off e).1 (e5 b off e).2.1)⟩
/-- A local type: its name, its turns. -/
abbrev LocL := Str × List TurnL
/-- The slice with this address and length reads as these local types. -/
def Locs (w : World) (bound : Nat) (a : Option Addr) (n : Nat) (f : List LocL) : Prop :=
  f.length = n ∧ n ≤ 1000000 ∧ (0 < n → ∃ b off, a = some ⟨b, off, none⟩ ∧ b < bound ∧ ∀ (j : Nat) (l : LocL), f[j]? = some l → ∃ (s : ByteArray) (aa : Option Addr) (an ac : Nat), (w.cell? ⟨b, off + j * 2, none⟩ = some (.string s) ∧ w.cell? ⟨b, off + j * 2 + 1, none⟩ = some (.slice aa an ac)) ∧ s.toList = l.1 ∧ s.size ≤ maxLen ∧ Turns w bound aa an l.2)
section
variable {w w' : World} {bound bound' : Nat} {a : Option Addr} {n : Nat} {f : List LocL}
theorem Locs.below (h : Locs w bound a n f) (hb : Below bound w w') : Locs w' bound a n f :=
  ⟨h.1, h.2.1, fun hn => by
    obtain ⟨b, off, e, hlt, hc⟩ := h.2.2 hn
    refine ⟨b, off, e, hlt, fun j x hj => ?_⟩
    obtain ⟨s, aa, an, ac, ⟨c0, c1⟩, h1, h2, h3⟩ := hc j x hj
    exact ⟨s, aa, an, ac, ⟨(hb.cell (p := ⟨b, _, none⟩) hlt).trans c0, (hb.cell (p := ⟨b, _, none⟩) hlt).trans c1⟩, h1, h2, h3.below hb⟩⟩
theorem Locs.more (h : Locs w bound a n f) (hb : bound ≤ bound') : Locs w bound' a n f :=
  ⟨h.1, h.2.1, fun hn => by
    obtain ⟨b, off, e, hlt, hc⟩ := h.2.2 hn
    refine ⟨b, off, e, by omega, fun j x hj => ?_⟩
    obtain ⟨s, aa, an, ac, c, h1, h2, h3⟩ := hc j x hj
    exact ⟨s, aa, an, ac, c, h1, h2, h3.more hb⟩⟩
theorem Locs.zero (w : World) (bound : Nat) (a : Option Addr) : Locs w bound a 0 [] := ⟨rfl, by omega, fun h => absurd h (Nat.lt_irrefl 0)⟩
theorem Locs.on {W W' : World} {a : Option Addr} {n : Nat} {f : List LocL} (h : Locs W W.heap.size a n f) (hb : Below W.heap.size W W') : Locs W' W'.heap.size a n f := (h.below hb).more hb.size
theorem Locs.at_ (h : Locs w bound a n f) {k : Nat} (hk : k < n) : ∃ (b off : Nat) (s : ByteArray) (aa : Option Addr) (an ac : Nat) (ts : List TurnL), a = some ⟨b, off, none⟩ ∧ b < bound ∧ f[k]? = some (s.toList, ts) ∧ (w.cell? ⟨b, off + k * 2, none⟩ = some (.string s) ∧ w.cell? ⟨b, off + k * 2 + 1, none⟩ = some (.slice aa an ac)) ∧ s.size ≤ maxLen ∧ Turns w bound aa an ts := by
  obtain ⟨b, off, e, hb, hc⟩ := h.2.2 (by omega)
  have hk' : k < f.length := by rw [h.1]; exact hk
  obtain ⟨s, aa, an, ac, c, h1, h2, h3⟩ := hc k _ (List.getElem?_eq_getElem hk')
  exact ⟨b, off, s, aa, an, ac, f[k].2, e, hb, by rw [List.getElem?_eq_getElem hk', h1], c, h2, h3⟩
end
structure LR where
  s : ByteArray
  a : Option Addr
  n : Nat
  c : Nat
def encLR (r : LR) : List Value := [.string r.s, .slice r.a r.n r.c]
/-- A laid local type: its turns lie in a window that the array v does not meet. -/
def LocAt (w : World) (v : Value) (r : LR) (t : LocL) : Prop :=
  r.s.toList = t.1 ∧ r.s.size ≤ maxLen ∧ ∃ lo hi, hi ≤ w.heap.size ∧ (∀ b, v.ownBlock = some b → b < lo ∨ hi ≤ b) ∧ WTurns w lo hi r.a r.n t.2
def LOwn (w : World) (base : Nat) (v : Value) (f : List LocL) : Prop :=
  ∃ rs : List LR, w.ownsRow base 34 2 v f.length (rs.flatMap encLR) ∧ rs.length = f.length ∧ ∀ (j : Nat) (r : LR) (t : LocL), rs[j]? = some r → f[j]? = some t → LocAt w v r t
theorem LOwn.zero (w : World) (base : Nat) : LOwn w base (.slice none 0 0) [] := ⟨[], World.ownsRow_nil w base 34 2, rfl, fun j r l h => by simp at h⟩
theorem LOwn.kept {w w' : World} {base : Nat} {v : Value} {f : List LocL} (h : LOwn w base v f) (hb : Below w.heap.size w w') : LOwn w' base v f := by
  obtain ⟨rs, h, hrl, hrd⟩ := h
  have hlt := h.lt
  have hs := hb.size
  refine ⟨rs, ⟨h.1, ?_⟩, hrl, fun j r t hr ht => ?_⟩
  · rcases h.2 with h0 | ⟨k, cap, cur, rfl, hbase, hh, h1, h2, h3, h4⟩
    · exact .inl h0
    · refine .inr ⟨k, cap, cur, rfl, hbase, ?_, h1, h2, h3, h4⟩
      rw [hb.block k (hlt k rfl).2]
      exact hh
  · obtain ⟨e1, e2, lo, hi, e3, e4, e5⟩ := hrd j r t hr ht
    exact ⟨e1, e2, lo, hi, by omega, e4, e5.stay (fun b _ h2 => hb.block b (by omega))⟩
theorem flatL_at : ∀ (l : List LR) (j : Nat) (t : LR), l[j]? = some t → ∀ i, i < 2 → (l.flatMap encLR)[j * 2 + i]? = (encLR t)[i]? := by
  intro l
  induction l with
  | nil => intro j t h; cases h
  | cons x l ih =>
    intro j t h i hi
    rw [List.flatMap_cons]
    cases j with
    | zero =>
      injection h with h
      subst h
      rw [Nat.zero_mul, Nat.zero_add, List.getElem?_append_left hi]
    | succ j =>
      have e : (j + 1) * 2 + i = 2 + (j * 2 + i) := by omega
      rw [e, List.getElem?_append_right (by show 2 ≤ _; omega)]
      show (l.flatMap encLR)[2 + (j * 2 + i) - 2]? = _
      rw [Nat.add_sub_cancel_left]
      exact ih j t h i hi
theorem info_local : (Tryz.prog.info? 34).map (fun i => (i.zero, i.size, i.bytes)) = some (some (.agg #[.string ⟨#[]⟩, .slice none 0 0]), 2, 40) := by kernel_rfl
theorem LOwn.add {W : World} {base : Nat} {v : Value} {f : List LocL} {r : LR} {t : LocL} (hB : LOwn W base v f) (hA : LocAt W v r t) (hb : base ≤ W.heap.size) (hlen : f.length ≤ 1000000) (ty : Nat) :
    ∃ v' w', (Builtin.append_ #[53, 53] ty #[v, .slice (some ⟨W.heap.size, 0, none⟩) 1 1]).run Tryz.prog (W.alloc (.cells #[.string r.s, .slice r.a r.n r.c] 34)) = .ok v' w' ∧ LOwn w' base v' (f ++ [t]) ∧ ∀ w0, Below base w0 W → Below base w0 w' := by
  obtain ⟨i0, hi0, hzz⟩ := Option.map_eq_some_iff.1 info_local
  simp only [Prod.mk.injEq] at hzz
  obtain ⟨hz, hs1, hb1⟩ := hzz
  obtain ⟨rs, hown, hrl, hrd⟩ := hB
  have hown1 : (W.alloc (.cells #[.string r.s, .slice r.a r.n r.c] 34)).ownsRow base 34 2 v f.length (rs.flatMap encLR) := World.ownsRow.alloc hown _
  obtain ⟨v', w', hrun, hown', hgr, _, hat⟩ := run_append_own_at (P := Tryz.prog) (W.alloc (.cells #[.string r.s, .slice r.a r.n r.c] 34)) base 53 ty 34 i0 _ 2 40 Tryz.underlying53 hi0 hz hs1 hb1 rfl (by omega) v f.length (rs.flatMap encLR) hown1
    ⟨W.heap.size, 0, none⟩ 1 1 (encLR r) rfl
    (fun j u hu => by
      rw [Go.WideShapes.add_plain, cell_of_row _ _ _ _ _ _ (heap_alloc_new W _), Nat.zero_add, ← hu]
      rw [← Array.getElem?_toList]
      rfl)
    (fun u hu => by
      unfold encLR at hu
      simp only [List.mem_cons, List.not_mem_nil, or_false] at hu
      rcases hu with rfl | rfl <;> rfl) (by unfold maxLen; omega) (by omega) (by simp; omega)
  have hbel : ∀ B, B ≤ base → ∀ w0, Below B w0 W → Below B w0 w' := fun B hB w0 hw0 => (hw0.alloc (by omega) _).grown hgr (by simp; omega) (fun k hk => by
    have := hown1.lt k hk
    omega)
  have hsz : W.heap.size + 1 ≤ w'.heap.size := by
    have := hgr.size
    simpa using this
  have hblk : ∀ b, b < W.heap.size → v.ownBlock ≠ some b → w'.heap[b]? = W.heap[b]? := fun b hbl hne => (hgr.block b (by simp; omega) (fun e => hne e.symm)).trans ((tu1 W _).block b hbl)
  have hmove : ∀ (r : LR) (t : LocL), LocAt W v r t → LocAt w' v' r t := fun r t ⟨e1, e2, lo, hi, e3, e4, e5⟩ =>
    ⟨e1, e2, lo, hi, by omega, fun b hb2 => by
      rcases hat with e | e
      · rw [e] at hb2; exact e4 b hb2
      · rw [e] at hb2
        have := Option.some.inj hb2
        simp at this
        omega, e5.stay (fun b h1 h2 => hblk b (by omega) (fun e => by have := e4 b e; omega))⟩
  refine ⟨v', w', hrun, ⟨rs ++ [r], ?_, by simp [hrl], fun j r2 k hj hk => ?_⟩, fun w0 hw0 => hbel base (Nat.le_refl _) w0 hw0⟩
  · rw [List.length_append, List.flatMap_append, List.flatMap_cons, List.flatMap_nil, List.append_nil]
    exact hown'
  · rcases Nat.lt_or_ge j rs.length with hlt | hge
    · rw [List.getElem?_append_left hlt] at hj
      rw [List.getElem?_append_left (by omega)] at hk
      exact hmove _ _ (hrd j r2 k hj hk)
    · rw [List.getElem?_append_right hge] at hj
      rw [List.getElem?_append_right (by omega), ← hrl] at hk
      have h0 : j - rs.length = 0 := by
        obtain ⟨h1, _⟩ := List.getElem?_eq_some_iff.1 hj
        simpa using h1
      rw [h0] at hj hk
      obtain rfl : r = r2 := by simpa using hj
      obtain rfl : t = k := by simpa using hk
      exact hmove _ _ hA
theorem wpList_append_loc {ops : Array Oper} {rest : List Oper} {o : Oper} {a : Act} {Q : Exit → Act → World → Prop} {W : World} {cells : Array Value} (hgd : o.guard = none) (s x : Operand)
    (ho : o.op = .call { callee := .builtin .append, args := #[s, x], argTypes := #[53, 53] }) (base : Nat) (v : Value) (f : List LocL) (r : LR) (t : LocL) (hc : cells = #[.string r.s, .slice r.a r.n r.c])
    (hs : a.eval s = v) {g : Nat} (hx : a.eval x = .slice (some ⟨g, 0, none⟩) 1 1) (hg : g = W.heap.size) (hB : LOwn W base v f) (hA : LocAt W v r t) (hb : base ≤ W.heap.size) (hlen : f.length ≤ 1000000)
    (w0 : World) (hw : Below base w0 W)
    (h : ∀ v' w', LOwn w' base v' (f ++ [t]) → Below base w0 w' → wpList Tryz.prog ops Q rest (a.put o.dst v') w') : wpList Tryz.prog ops Q (o :: rest) a (W.alloc (.cells cells 34)) := by
  subst hc hg
  obtain ⟨v', w', hrun, hown, hbel⟩ := hB.add hA hb hlen o.type
  exact wpList_append_lx hgd s x _ ho _ _ _ hs hx hrun (h v' w' hown (hbel w0 hw))
theorem LOwn.sees {w : World} {base : Nat} {v : Value} {f : List LocL} (h : LOwn w base v f) (hl : f.length ≤ 1000000) : ∃ a c, v = .slice a f.length c ∧ Locs w w.heap.size a f.length f := by
  obtain ⟨rs, h, hrl, hrd⟩ := h
  have hlt := h.lt
  rcases h.2 with ⟨h0, h1⟩ | ⟨g, cap, cur, rfl, hbase, hh, h1, h2, h3, h4⟩
  · have hz : f = [] := List.eq_nil_of_length_eq_zero h1
    subst hz
    exact ⟨none, 0, h0, Locs.zero _ _ _⟩
  · refine ⟨_, cap, rfl, rfl, by omega, fun _ => ⟨g, 0, rfl, (hlt g rfl).2, fun j t hj => ?_⟩⟩
    have hj' : j < f.length := (List.getElem?_eq_some_iff.1 hj).1
    have hr := List.getElem?_eq_getElem (l := rs) (i := j) (by omega)
    obtain ⟨e1, e2, lo, hi, e3, _, e5⟩ := hrd j _ t hr hj
    have hcell : ∀ i, i < 2 → w.cell? ⟨g, 0 + (j * 2 + i), none⟩ = (encLR (rs[j]'(by omega)))[i]? := fun i hi => by
      rw [cell_of_row w g _ cur 34 (0, 0) hh, Nat.zero_add, ← flatL_at rs j _ hr i hi]
      have : (cur.toList.take (f.length * 2))[j * 2 + i]? = (rs.flatMap encLR)[j * 2 + i]? := by rw [h4]
      rw [List.getElem?_take, if_pos (by omega)] at this
      rw [← Array.getElem?_toList, this]
    have c0 := hcell 0 (by omega)
    have c1 := hcell 1 (by omega)
    exact ⟨(rs[j]'(by omega)).s, (rs[j]'(by omega)).a, (rs[j]'(by omega)).n, (rs[j]'(by omega)).c, ⟨c0, c1⟩, e1, e2, e5.self.more e3⟩
end Go.Proofs.YtokgpdceckaddaaGreatDoor

/- Contract of the program's All: the projections to all roles, or the first error. -/
namespace Go.Proofs.YtokgpdceckaddaaGreatDoor
open Go.RowKit

/-- The projections to the roles from the i-th on, behind those that are there. -/
def allF (nm : Str) (ps : List PointL) : List Str → Nat → List LocL → List LocL × Int × Int
  | [], _, out => (out, 0, 0)
  | r :: rs, i, out => match roleP ps r with
    | .error e => ([], (i : Int), e)
    | .ok ts => allF nm ps rs (i + 1) (out ++ [(nm ++ 46 :: r, ts)])
def allQ (nm : Str) (rs : List Str) (ps : List PointL) : List LocL × Int × Int := if protB nm rs ps then allF nm ps rs 0 [] else ([], 0, 800)
def AllRet (w : World) (R : List LocL × Int × Int) (e : Ending) (w' : World) : Prop :=
  (∃ (a : Option Addr) (n c : Nat), e = .returned (.tuple #[.slice a n c, .int .i64 R.2.1, .int .i64 R.2.2]) ∧ Locs w' w'.heap.size a n R.1) ∧ Below w.heap.size w w'
theorem allF_ok {nm : Str} {ps : List PointL} : ∀ (rs : List Str) (i : Nat) (out : List LocL) (L : List LocL), allF nm ps rs i out = (L, 0, 0) → (∀ r ∈ rs, ∀ e, roleP ps r = .error e → e ≠ 0) → L.length = out.length + rs.length
  | [], _, out, L, h, _ => by
    obtain rfl := (Prod.mk.inj h).1
    simp
  | r :: rs, i, out, L, h, he => by
    unfold allF at h
    cases hx : roleP ps r with
    | error e =>
      rw [hx] at h
      exact absurd (Prod.mk.inj (Prod.mk.inj h).2).2 (he r List.mem_cons_self e hx)
    | ok ts =>
      rw [hx] at h
      have := allF_ok rs (i + 1) _ L h (fun r hr => he r (List.mem_cons_of_mem _ hr))
      simp only [List.length_append, List.length_cons, List.length_nil] at this ⊢
      omega
theorem allF_at {nm : Str} {ps : List PointL} {rs : List Str} {k : Nat} {r : Str} {f : List LocL} (h : rs[k]? = some r) : allF nm ps (rs.drop k) k f = match roleP ps r with
    | .error e => ([], (k : Int), e)
    | .ok ts => allF nm ps (rs.drop (k + 1)) (k + 1) (f ++ [(nm ++ 46 :: r, ts)]) := by
  obtain ⟨hk, hr⟩ := List.getElem?_eq_some_iff.1 h
  rw [List.drop_eq_getElem_cons hk, hr]
  rfl
theorem LOwn.lt {w : World} {base : Nat} {v : Value} {f : List LocL} (h : LOwn w base v f) : ∀ b, v.ownBlock = some b → base ≤ b ∧ b < w.heap.size := by
  obtain ⟨rs, h, _, _⟩ := h
  exact h.lt
set_option maxHeartbeats 8000000 in
set_option maxRecDepth 20000 in
theorem all_any (nm : ByteArray) (ra : Option Addr) (rn rc : Nat) (rs : List Str) (a : Option Addr) (n c : Nat) (ps : List PointL) (w : World) (hP : PIn w nm ra rn rs a n ps) :
    Calls Tryz.prog 24 #[.agg #[.string nm, .slice ra rn rc, .slice a n c]] w fun e w' => AllRet w (allQ nm.toList rs ps) e w' := by
  have HIN := Lib.hid hP
  have HB0 := Lib.hid (tu1 w (.cells #[.string nm, .slice ra rn rc, .slice a n c] 27))
  have HBX := Lib.hid (PBox.new w nm ra rn rc a n c)
  obtain ⟨w1, hw1⟩ : ∃ w1, w1 = w.alloc (.cells #[.string nm, .slice ra rn rc, .slice a n c] 27) := ⟨_, rfl⟩
  rw [← hw1] at HB0 HBX
  have HW1 := Lib.hid hw1
  obtain ⟨S, hS⟩ : ∃ S, S = w.heap.size := ⟨_, rfl⟩
  have HS := Lib.hid hS
  rw [← hS] at HBX
  have CM := Lib.hid ((hP.on HB0.out).may (rc := rc) (c := c))
  obtain ⟨R, hR⟩ : ∃ R, R = allQ nm.toList rs ps := ⟨_, rfl⟩
  rw [← hR]
  unfold allQ at hR
  have HR := Lib.hid hR
  clear hP hR hw1 hS
  obtain ⟨c0, c1, c2⟩ := HBX.out.cells
  cases hv : protB nm.toList rs ps
  · have HZ := Lib.hid (show R = ([], 0, 800) by rw [HR.out, hv]; rfl)
    rw [hv] at CM
    clear hv
    go_enter Tryz.func24, Tryz.ntmps24
    go_upto_region 1 with fail
    rw [← HW1.out, ← HS.out]
    go_wp2_with (first
      | (go_at_call 16; (with_reducible refine CM.out.mono ?_)
         rintro e w2 ⟨rfl, hb2⟩
         have HB2 := Lib.hid hb2
         clear hb2)
      | fail)
    refine bodyPost_ret (v := .tuple #[.slice none 0 0, .int .i64 0, .int .i64 800]) (by simp [results, go_sem]) rfl ?_
    rw [HZ.out]
    exact ⟨⟨none, 0, 0, rfl, Locs.zero _ _ _⟩, below_on HB0.out HB2.out⟩
  · rw [hv] at CM
    have HVV := Lib.hid hv
    have HRR := Lib.hid (show R = allF nm.toList ps rs 0 [] by rw [HR.out, hv]; rfl)
    have hr5 : rn ≤ 5 := by
      have h1 := (protB_all hv).2.1
      unfold rolesB at h1
      simp only [Bool.and_eq_true, decide_eq_true_eq] at h1
      have := HIN.out.roles.1
      omega
    clear hv HR
    go_enter Tryz.func24, Tryz.ntmps24
    go_upto_region 1 with fail
    rw [← HW1.out, ← HS.out]
    go_upto_region 4 with (first
      | (go_at_call 16; (with_reducible refine CM.out.mono ?_)
         rintro e w2 ⟨rfl, hb2⟩
         have HB2 := Lib.hid hb2
         clear hb2)
      | fail)
    have HBW := Lib.hid (below_on HB0.out HB2.out)
    have HX2 := Lib.hid (HBX.out.on HB2.out)
    have HI2 := Lib.hid (HIN.out.on HBW.out)
    obtain ⟨S2, hS2⟩ : ∃ S2, S2 = w2.heap.size := ⟨_, rfl⟩
    have HS2 := Lib.hid hS2
    clear c0 c1 c2 CM HBX HB2 hS2
    obtain ⟨c0, c1, c2⟩ := HX2.out.cells
    go_wp2_with fail
    go_loopw [5, 16] (fun sl i wr => ∃ (k : Nat) (v : Value) (f : List LocL), k ≤ rn ∧ i = .int .i64 k ∧ v = sl ∧ f.length = k ∧ Hid (LOwn wr S2 v f) ∧ Hid (R = allF nm.toList ps (rs.drop k) k f) ∧ Hid (Below w2.heap.size w2 wr)) (fun _ i _ => rn - (intOf i).toNat)
    case atStart => exact ⟨0, _, [], Nat.zero_le _, rfl, rfl, rfl, Lib.hid (LOwn.zero _ _), HRR, Lib.hid (Below.refl _ _)⟩
    case round =>
      obtain ⟨k, v, f, hk, rfl, hvs, hf, HO, HJ, HBr⟩ := hrel
      subst hvs
      obtain ⟨d0, d1, d2⟩ := (HX2.out.on HBr.out).cells
      have HBWr := Lib.hid (below_on HBW.out HBr.out)
      by_cases hlt : k < rn
      · obtain ⟨rb, ro, t, rfl, hrb, ht, hc⟩ := (HI2.out.on HBr.out).roles.part1 hlt
        have i1 : (k : Int) < (rn : Int) := by omega
        have i2 : (0 : Int) ≤ (k : Int) := by omega
        have CR := role_any nm (some ⟨rb, ro, none⟩) rn rc rs a n c ps t wr (HI2.out.on HBr.out)
        rw [roleQ_in HVV.out (List.contains_iff_mem.2 (List.mem_of_getElem? ht))] at CR
        have hst := HJ.out
        rw [allF_at ht] at hst
        clear ht
        cases hx : roleP ps t.toList with
        | error er =>
          rw [hx] at CR hst
          have HZ := Lib.hid (show R = ([], (k : Int), er) from hst)
          have CR := Lib.hid (show Calls Tryz.prog 15 #[.agg #[.string nm, .slice (some ⟨rb, ro, none⟩) rn rc, .slice a n c], .string t] wr fun e w' => e = .returned (.tuple #[.agg #[.string ⟨#[]⟩, .slice none 0 0], .int .i64 er]) ∧ Below wr.heap.size wr w' from CR)
          have her : (er != 0) = true := by simp [bne, beq_eq_false_iff_ne.2 (roleP_err hx)]
          clear hst hx
          go_wp2_with (first
            | (go_at_call 15; (with_reducible refine CR.out.mono ?_)
               rintro e w3 ⟨rfl, hb3⟩
               have HB3 := Lib.hid (below_on HBWr.out hb3)
               clear hb3)
            | fail)
          refine bodyPost_ret (v := .tuple #[.slice none 0 0, .int .i64 (k : Int), .int .i64 er]) (by simp [results, go_sem]) rfl ?_
          rw [HZ.out]
          exact ⟨⟨none, 0, 0, rfl, Locs.zero _ _ _⟩, below_on HB3.out (tu1 w3 _)⟩
        | ok ts =>
          rw [hx] at CR hst
          have HZ := Lib.hid (show R = allF nm.toList ps (rs.drop (k + 1)) (k + 1) (f ++ [(nm.toList ++ 46 :: t.toList, ts)]) from hst)
          have CR := Lib.hid (show Calls Tryz.prog 15 #[.agg #[.string nm, .slice (some ⟨rb, ro, none⟩) rn rc, .slice a n c], .string t] wr fun e w' => (∃ (s : ByteArray) (a : Option Addr) (n c : Nat), e = .returned (.tuple #[.agg #[.string s, .slice a n c], .int .i64 0]) ∧ s.toList = nm.toList ++ 46 :: t.toList ∧ s.size ≤ maxLen ∧ ∃ base, wr.heap.size ≤ base ∧ TOwn w' base (.slice a n c) ts) ∧ Below wr.heap.size wr w' from CR)
          have hl := lookP_some hx
          clear hst hx
          go_upto_region 8 with (first
            | (go_at_call 15; (with_reducible refine CR.out.mono ?_)
               rintro e w3 ⟨⟨s1, a1, n1, c1, rfl, hs1, hs2, base, hbase, hto⟩, hb3⟩
               have HB3 := Lib.hid hb3
               have HS1 := Lib.hid hs1
               have HT3 := Lib.hid (hto.win (by omega))
               clear hs1 hto hb3)
            | fail)
          have hb4 := below_on HB3.out (tu1 w3 (.cells #[.string s1, .slice a1 n1 c1] 34))
          have HO4 := Lib.hid (HO.out.kept hb4)
          have HX4 := Lib.hid (LBox.new w3 s1 a1 n1 c1)
          have hz3 := HB3.out.size
          have hzr := HBr.out.size
          have HB4 := Lib.hid (below_on HBr.out hb4)
          have HA4 := Lib.hid (show LocAt (w3.alloc (.cells #[.string s1, .slice a1 n1 c1] 34)) v ⟨s1, a1, n1, c1⟩ (nm.toList ++ 46 :: t.toList, ts) from ⟨HS1.out, hs2, base, w3.heap.size, by simp, fun b hb => .inl (by have := HO.out.lt b hb; omega), HT3.out.stay (fun b _ h2 => (tu1 w3 _).block b h2)⟩)
          have hz4 : S2 ≤ (w3.alloc (.cells #[.string s1, .slice a1 n1 c1] 34)).heap.size := by have := HS2.out; simp; omega
          generalize hg4 : w3.heap.size = g4 at HX4 ⊢
          generalize hw4 : w3.alloc (.cells #[.string s1, .slice a1 n1 c1] 34) = w4 at HO4 HX4 HB4 HA4 hz4 ⊢
          clear hb4 hg4 hw4 HB3 HT3 d0 d1 d2
          obtain ⟨x0, x1⟩ := HX4.out.cells
          go_wp2_with (first
            | (at_builtin
               refine wpList_append_loc rfl (.tmp 31) (.tmp 33) rfl S2 v f ⟨s1, a1, n1, c1⟩ (nm.toList ++ 46 :: t.toList, ts) rfl rfl rfl rfl HO4.out HA4.out hz4 (by omega) w2 (HS2.out ▸ HB4.out) ?_
               intro v5 w5 ho5 hb5
               have HO5 := Lib.hid ho5
               have HB5 := Lib.hid (show Below w2.heap.size w2 w5 from HS2.out ▸ hb5)
               clear ho5 hb5)
            | fail)
          go_roundw
          case rel => exact ⟨k + 1, _, _, by omega, by go_num, rfl, by simp; omega, HO5, HZ, HB5⟩
          case measure => simp [intOf]; omega
      · have hkr : k = rn := by omega
        have HZ := Lib.hid (show R = (f, 0, 0) by rw [HJ.out, List.drop_of_length_le (by rw [HI2.out.roles.1]; omega)]; rfl)
        obtain ⟨va, vc, hva, hlo⟩ := HO.out.sees (by omega)
        subst hva
        have HL := Lib.hid hlo
        clear hlo
        go_wp2_with fail
        refine bodyPost_ret (v := .tuple #[.slice va f.length vc, .int .i64 0, .int .i64 0]) (by simp [results, go_sem]) rfl ?_
        rw [HZ.out]
        exact ⟨⟨va, _, vc, rfl, HL.out⟩, HBWr.out⟩
end Go.Proofs.YtokgpdceckaddaaGreatDoor
