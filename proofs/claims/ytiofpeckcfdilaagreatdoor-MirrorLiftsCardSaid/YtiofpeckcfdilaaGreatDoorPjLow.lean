/- Plain: the projection of a protocol to a role. No program stands in this text. -/
import Derived.Test.YtiofpeckcfdilaaGreatDoorGlPlains
import Derived.Test.YtiofpeckcfdilaaGreatDoorRef2
import Derived.Test.YtiofpeckcfdilaaGreatDoorGlViss
import Derived.Laws.EntriesVeiled
import Derived.Test.YtiofpeckcfdilaaGreatDoorShelf
import Derived.Deep.CutRange
import Derived.Deep.RegionHeld3
import Derived.BigQuiet
import Derived.Test.YtiofpeckcfdilaaGreatDoorRef0
import Derived.Lib.AppendStr
import Derived.Lib.ItoaNum
import Derived.Test.YtiofpeckcfdilaaGreatDoorTuOwns
namespace Go.Proofs.YtiofpeckcfdilaaGreatDoor
open Go.RowKit

section
variable (ps : List PointL) (r : Str)
/-- Is a place lost for the role? -/
def lostP (k : Nat) : Bool := (nearP ps r [k]).isEmpty
/-- Of what is met, some is lost and some is not. -/
def mixedP (s : List Nat) : Bool := (metL (outsP ps r) ps.length s).any (lostP ps r) && (metL (outsP ps r) ps.length s).any (fun k => !lostP ps r k)
/-- Looking at some places: the turn, and the near sets of all turns. -/
def lookP (ns : List (List Nat)) (s : List Nat) : Except Int (Nat × List (List Nat)) :=
  if mixedP ps r s then .error 801
  else if nearP ps r s ∈ ns then .ok (ns.idxOf (nearP ps r s), ns)
  else if ns.length = 40 then .error 805
  else .ok (ns.length, ns ++ [nearP ps r s])
/-- The labels of some points, rising. -/
def labelsP (pts : List PointL) : List Str := Lib.compact (sortS (pts.flatMap fun x => x.arms.map ArmL.label))
/-- The arms of some points that have a label. -/
def armsAt (pts : List PointL) (s : Str) : List ArmL := (pts.flatMap PointL.arms).filter fun a => a.label == s
def sameRolesP (pts : List PointL) : Bool := pts.all fun x => x.src == (pointOf pts 0).src && x.dst == (pointOf pts 0).dst
def sameLabelsP (pts : List PointL) (ls : List Str) : Bool := pts.all fun x => decide (x.arms.length = ls.length)
def firstA (l : List ArmL) : ArmL := l.headD ⟨[], 0, [], 0⟩
def sameCarriesP (pts : List PointL) (ls : List Str) : Bool := ls.all fun s => (armsAt pts s).all fun a => decide (a.ck = (firstA (armsAt pts s)).ck) && a.cn == (firstA (armsAt pts s)).cn
def faultP (k : Int) (pts : List PointL) (ls : List Str) : Int :=
  if sameRolesP pts = false then 802
  else if k = 1 ∧ sameLabelsP pts ls = false then 803
  else if 6 < ls.length then 805
  else if sameCarriesP pts ls = false then 804
  else 0
def nextsP (l : List ArmL) : List Nat := l.map fun a => a.next.toNat
def armP (pts : List PointL) (s : Str) (ns : List (List Nat)) : Except Int (ArmL × List (List Nat)) :=
  match lookP ps r ns (nextsP (armsAt pts s)) with
  | .error e => .error e
  | .ok (k, ns') => .ok (⟨s, (firstA (armsAt pts s)).ck, (firstA (armsAt pts s)).cn, (k : Int)⟩, ns')
def armsP (pts : List PointL) : List Str → List ArmL → List (List Nat) → Except Int (List ArmL × List (List Nat))
  | [], out, ns => .ok (out, ns)
  | s :: l, out, ns => match armP ps r pts s ns with
    | .error e => .error e
    | .ok (a, ns') => armsP pts l (out ++ [a]) ns'
/-- The points of a near set. -/
def ptsOf (near : List Nat) : List PointL := near.map (pointOf ps)
def kindP (pts : List PointL) : Int := if (pointOf pts 0).dst == r then 2 else 1
def peerP (pts : List PointL) : Str := if (pointOf pts 0).dst == r then (pointOf pts 0).src else (pointOf pts 0).dst
def turnP (near : List Nat) (ns : List (List Nat)) : Except Int (TurnL × List (List Nat)) :=
  if near = [] then .ok (⟨0, [], []⟩, ns)
  else if faultP (kindP r (ptsOf ps near)) (ptsOf ps near) (labelsP (ptsOf ps near)) ≠ 0 then .error (faultP (kindP r (ptsOf ps near)) (ptsOf ps near) (labelsP (ptsOf ps near)))
  else match armsP ps r (ptsOf ps near) (labelsP (ptsOf ps near)) [] ns with
    | .error e => .error e
    | .ok (l, ns') => .ok (⟨kindP r (ptsOf ps near), peerP r (ptsOf ps near), l⟩, ns')
/-- The turns, from one on. -/
def turnsP : Nat → Nat → List TurnL → List (List Nat) → Except Int (List TurnL)
  | 0, _, _, _ => .error 805
  | fuel + 1, i, out, ns => match ns[i]? with
    | none => .ok out
    | some near => match turnP ps r near ns with
      | .error e => .error e
      | .ok (t, ns') => turnsP fuel (i + 1) (out ++ [t]) ns'
def roleP : Except Int (List TurnL) :=
  match lookP ps r [] [0] with
  | .error e => .error e
  | .ok (_, ns) => turnsP ps r 41 0 [] ns
end
def roleQ (nm : Str) (rs : List Str) (ps : List PointL) (r : Str) : Except Int (List TurnL) := if protB nm rs ps && hasS rs r then roleP ps r else .error 800
end Go.Proofs.YtiofpeckcfdilaaGreatDoor

/- A view (package project) in memory: its box, the marks of what is lost, the near sets. -/
namespace Go.Proofs.YtiofpeckcfdilaaGreatDoor
open Go.RowKit Go.Maps Go.WideMaps

/-- What is kept of a view's box. -/
structure VC where
  nm : ByteArray
  ra : Option Addr
  rn : Nat
  rc : Nat
  a : Option Addr
  n : Nat
  c : Nat
  r : ByteArray
def VBox (W : World) (g : Nat) (k : VC) (la : Option Addr) (ln lc : Nat) (na : Option Addr) (nn nc : Nat) (mb : Nat) : Prop :=
  W.heap[g]? = some (.cells #[.string k.nm, .slice k.ra k.rn k.rc, .slice k.a k.n k.c, .string k.r, .slice la ln lc, .slice na nn nc, .map (some mb)] 96 (0, 0))
section
variable {W W' : World} {g mb : Nat} {k : VC} {la na : Option Addr} {ln lc nn nc : Nat}
theorem VBox.lt (h : VBox W g k la ln lc na nn nc mb) : g < W.heap.size := (Array.getElem?_eq_some_iff.1 h).1
theorem VBox.block (h : VBox W g k la ln lc na nn nc mb) (hb : W'.heap[g]? = W.heap[g]?) : VBox W' g k la ln lc na nn nc mb := hb.trans h
theorem VBox.on (h : VBox W g k la ln lc na nn nc mb) (hb : Below W.heap.size W W') : VBox W' g k la ln lc na nn nc mb := (hb.block g h.lt).trans h
theorem VBox.cells (h : VBox W g k la ln lc na nn nc mb) : W.cell? ⟨g, 0, none⟩ = some (.string k.nm) ∧ W.cell? ⟨g, 1, none⟩ = some (.slice k.ra k.rn k.rc) ∧ W.cell? ⟨g, 2, none⟩ = some (.slice k.a k.n k.c) ∧ W.cell? ⟨g, 3, none⟩ = some (.string k.r) ∧
    W.cell? ⟨g, 4, none⟩ = some (.slice la ln lc) ∧ W.cell? ⟨g, 5, none⟩ = some (.slice na nn nc) ∧ W.cell? ⟨g, 6, none⟩ = some (.map (some mb)) := by
  unfold VBox at h
  refine ⟨?_, ?_, ?_, ?_, ?_, ?_, ?_⟩
  all_goals (rw [cell_of_row _ _ _ _ _ _ h]; rfl)
theorem VBox.thaw (h : VBox W g k la ln lc na nn nc mb) (o : Nat) : W.frozen? ⟨g, o, none⟩ = false := by
  unfold VBox at h
  unfold World.frozen?
  rw [h]
  simp
theorem VBox.new (w : World) (k : VC) (la : Option Addr) (ln lc : Nat) (na : Option Addr) (nn nc mb : Nat) : VBox (w.alloc (.cells #[.string k.nm, .slice k.ra k.rn k.rc, .slice k.a k.n k.c, .string k.r, .slice la ln lc, .slice na nn nc, .map (some mb)] 96)) w.heap.size k la ln lc na nn nc mb := heap_alloc_new w _
theorem VBox.setLost {la' : Option Addr} {ln' lc' : Nat} (h : VBox W g k la ln lc na nn nc mb) : VBox (W.setCell ⟨g, 4, none⟩ (.slice la' ln' lc')) g k la' ln' lc' na nn nc mb := by
  unfold VBox at h ⊢
  obtain ⟨hlt, hk⟩ := Array.getElem?_eq_some_iff.1 h
  show (W.heap.modify g _)[g]? = _
  rw [Array.getElem?_eq_getElem (by rw [Array.size_modify]; exact hlt), Array.getElem_modify_self, hk]
  rfl
theorem VBox.setNears {na' : Option Addr} {nn' nc' : Nat} (h : VBox W g k la ln lc na nn nc mb) : VBox (W.setCell ⟨g, 5, none⟩ (.slice na' nn' nc')) g k la ln lc na' nn' nc' mb := by
  unfold VBox at h ⊢
  obtain ⟨hlt, hk⟩ := Array.getElem?_eq_some_iff.1 h
  show (W.heap.modify g _)[g]? = _
  rw [Array.getElem?_eq_getElem (by rw [Array.size_modify]; exact hlt), Array.getElem_modify_self, hk]
  rfl
end
/-- A row that the call made stays where its block stays. -/
theorem ownsRow_stay {w w' : World} {base : Nat} {t : TypeId} {sz : Nat} {v : Value} {n : Nat} {row : List Value} (h : w.ownsRow base t sz v n row) (hb : ∀ b, v.ownBlock = some b → w'.heap[b]? = w.heap[b]?) : w'.ownsRow base t sz v n row := by
  refine ⟨h.1, ?_⟩
  rcases h.2 with h0 | ⟨k, cap, cur, e, hbase, hh, q1, q2, q3, q4⟩
  · exact .inl h0
  · exact .inr ⟨k, cap, cur, e, hbase, (hb k (by rw [e]; rfl)).trans hh, q1, q2, q3, q4⟩
/-- Marks that the call made. -/
def encBo (b : Bool) : Value := .bool b
def BOwn (w : World) (base : Nat) (v : Value) (l : List Bool) : Prop := w.ownsRow base 4 1 v l.length (l.map encBo)
theorem BOwn.zero (w : World) (base : Nat) : BOwn w base (.slice none 0 0) [] := World.ownsRow_nil w base 4 1
theorem info_bool8 : (Tryz.prog.info? 4).map (fun i => (i.zero, i.size, i.bytes)) = some (some (.bool false), 1, 1) := by kernel_rfl
/-- One mark more. -/
theorem BOwn.add {w : World} {base : Nat} {v : Value} {l : List Bool} (h : BOwn w base v l) (hb : base ≤ w.heap.size) (x : Bool) (hlen : l.length ≤ 1000000) (ty : Nat) :
    ∃ v' w', (Builtin.append_ #[92, 92] ty #[v, .slice (some ⟨w.heap.size, 0, none⟩) 1 1]).run Tryz.prog (w.alloc (.cells #[.bool x] 4)) = .ok v' w' ∧ BOwn w' base v' (l ++ [x]) ∧ (w.alloc (.cells #[.bool x] 4)).grownBy w' v.ownBlock ∧ (v'.ownBlock = v.ownBlock ∨ v'.ownBlock = some (w.heap.size + 1)) := by
  obtain ⟨i0, hi0, hzz⟩ := Option.map_eq_some_iff.1 info_bool8
  simp only [Prod.mk.injEq] at hzz
  obtain ⟨hz, hs1, hb1⟩ := hzz
  obtain ⟨v', w', hrun, hown, hgr, _, hat⟩ := run_append_own_at (P := Tryz.prog) (w.alloc (.cells #[.bool x] 4)) base 92 ty 4 i0 _ 1 1 Tryz.underlying92 hi0 hz hs1 hb1 rfl (by omega) v l.length (l.map encBo) (World.ownsRow.alloc h _)
    ⟨w.heap.size, 0, none⟩ 1 1 [.bool x] rfl
    (fun j u hu => by
      have hj : j = 0 := by
        rcases Nat.eq_zero_or_pos j with h | h
        · exact h
        · rw [List.getElem?_eq_none (by simp; omega)] at hu; cases hu
      subst hj
      obtain rfl : (Value.bool x) = u := by simpa using hu
      rw [Go.WideShapes.add_plain, cell_of_row _ _ _ _ _ _ (heap_alloc_new w _)]
      rfl)
    (fun u hu => by rw [List.mem_singleton.1 hu]; rfl) (by unfold maxLen; omega) (by omega) (by simp; omega)
  refine ⟨v', w', hrun, ?_, hgr, ?_⟩
  · unfold BOwn
    rw [List.length_append, List.map_append]
    exact hown
  · simpa using hat
theorem wpList_append_bools {ops : Array Oper} {rest : List Oper} {o : Oper} {a : Act} {Q : Exit → Act → World → Prop} {W : World} {cells : Array Value} (hgd : o.guard = none) (s x : Operand)
    (ho : o.op = .call { callee := .builtin .append, args := #[s, x], argTypes := #[92, 92] }) (base : Nat) (v : Value) (l : List Bool) (n : Bool) (hc : cells = #[.bool n])
    (hs : a.eval s = v) {g : Nat} (hx : a.eval x = .slice (some ⟨g, 0, none⟩) 1 1) (hg : g = W.heap.size) (hB : BOwn W base v l) (hb : base ≤ W.heap.size) (hlen : l.length ≤ 1000000)
    (h : ∀ v' w', BOwn w' base v' (l ++ [n]) → (W.alloc (.cells #[.bool n] 4)).grownBy w' v.ownBlock → (v'.ownBlock = v.ownBlock ∨ v'.ownBlock = some (W.heap.size + 1)) → wpList Tryz.prog ops Q rest (a.put o.dst v') w') : wpList Tryz.prog ops Q (o :: rest) a (W.alloc (.cells cells 4)) := by
  subst hc hg
  obtain ⟨v', w', hrun, hown, hgr, hat⟩ := hB.add hb n hlen o.type
  exact wpList_append_lx hgd s x _ ho _ _ _ hs hx hrun (h v' w' hown hgr hat)
theorem BOwn.cell {w : World} {base : Nat} {v : Value} {l : List Bool} (h : BOwn w base v l) {j : Nat} {x : Bool} (hj : l[j]? = some x) : ∃ b cap, v = .slice (some ⟨b, 0, none⟩) l.length cap ∧ base ≤ b ∧ b < w.heap.size ∧ w.cell? ⟨b, j, none⟩ = some (.bool x) := by
  have hlt := World.ownsRow.lt h
  have hj' := (List.getElem?_eq_some_iff.1 hj).1
  rcases h.2 with ⟨h0, h1⟩ | ⟨g, cap, cur, rfl, hbase, hh, h1, h2, h3, h4⟩
  · omega
  · refine ⟨g, cap, rfl, hbase, (hlt g rfl).2, ?_⟩
    rw [cell_of_row w g _ cur 4 (0, 0) hh]
    have : (cur.toList.take (l.length * 1))[j]? = (l.map encBo)[j]? := by rw [h4]
    rw [List.getElem?_take, if_pos (by omega), List.getElem?_map, hj] at this
    rw [← Array.getElem?_toList, this]
    rfl
theorem Nums.stay {w w' : World} {a : Option Addr} {n : Nat} {l : List Int} (h : Nums w w.heap.size a n l) (hz : w.heap.size ≤ w'.heap.size) (hb : ∀ b off, a = some ⟨b, off, none⟩ → w'.heap[b]? = w.heap[b]?) : Nums w' w'.heap.size a n l :=
  ⟨h.1, h.2.1, fun hn => by
    obtain ⟨b, off, e, hlt, hc⟩ := h.2.2 hn
    refine ⟨b, off, e, by omega, fun j x hj => ?_⟩
    have h1 := hc j x hj
    have h2 := hb b off e
    unfold World.cell? at h1 ⊢
    dsimp only at h1 h2 ⊢
    rw [h2]
    exact h1⟩
def encS8 (r : Option Addr × Nat × Nat) : Value := .slice r.1 r.2.1 r.2.2
def blk (a : Option Addr) : List Nat := match a with
  | some p => [p.block]
  | none => []
theorem blk_some {b off : Nat} {a : Option Addr} (h : a = some ⟨b, off, none⟩) : b ∈ blk a := by subst h; simp [blk]
theorem blk_own {a : Option Addr} {n c u : Nat} (h : u ∈ blk a) : (Value.slice a n c).ownBlock = some u := by
  cases a with
  | none => cases h
  | some p =>
    obtain rfl := List.mem_singleton.1 h
    rfl
/-- The near sets that the call has met: each in a block of U. -/
def NOwn (w : World) (base : Nat) (v : Value) (ns : List (List Nat)) (U : List Nat) : Prop :=
  ∃ rs : List (Option Addr × Nat × Nat), w.ownsRow base 25 1 v ns.length (rs.map encS8) ∧ rs.length = ns.length ∧
    (∀ (j : Nat) (r : Option Addr × Nat × Nat) (l : List Nat), rs[j]? = some r → ns[j]? = some l → Nums w w.heap.size r.1 r.2.1 (rowI l) ∧ ∀ b off, r.1 = some ⟨b, off, none⟩ → b ∈ U) ∧
    ∀ u ∈ U, base ≤ u ∧ u < w.heap.size ∧ v.ownBlock ≠ some u
theorem NOwn.zero (w : World) (base : Nat) : NOwn w base (.slice none 0 0) [] [] := ⟨[], World.ownsRow_nil w base 25 1, rfl, fun j r l h => by simp at h, fun u h => by cases h⟩
theorem NOwn.lt {w : World} {base : Nat} {v : Value} {ns : List (List Nat)} {U : List Nat} (h : NOwn w base v ns U) : ∀ b, v.ownBlock = some b → base ≤ b ∧ b < w.heap.size := by
  obtain ⟨rs, h, _⟩ := h
  exact h.lt
theorem NOwn.used {w : World} {base : Nat} {v : Value} {ns : List (List Nat)} {U : List Nat} (h : NOwn w base v ns U) : ∀ u ∈ U, base ≤ u ∧ u < w.heap.size ∧ v.ownBlock ≠ some u := by
  obtain ⟨rs, _, _, _, h⟩ := h
  exact h
theorem NOwn.stay {w w' : World} {base : Nat} {v : Value} {ns : List (List Nat)} {U : List Nat} (h : NOwn w base v ns U) (hz : w.heap.size ≤ w'.heap.size) (hv : ∀ b, v.ownBlock = some b → w'.heap[b]? = w.heap[b]?) (hu : ∀ u ∈ U, w'.heap[u]? = w.heap[u]?) : NOwn w' base v ns U := by
  obtain ⟨rs, h, hrl, hrd, hus⟩ := h
  refine ⟨rs, ownsRow_stay h hv, hrl, fun j r l hr hl => ?_, fun u h1 => ⟨(hus u h1).1, by have := (hus u h1).2.1; omega, (hus u h1).2.2⟩⟩
  obtain ⟨e1, e2⟩ := hrd j r l hr hl
  exact ⟨e1.stay hz (fun b off e => hu b (e2 b off e)), e2⟩
theorem info_intS8 : (Tryz.prog.info? 25).map (fun i => (i.zero, i.size, i.bytes)) = some (some (.slice none 0 0), 1, 24) := by kernel_rfl
theorem NOwn.add {W : World} {base : Nat} {v : Value} {ns : List (List Nat)} {U : List Nat} {aa : Option Addr} {an ac : Nat} {l : List Nat} (hB : NOwn W base v ns U) (hA : Nums W W.heap.size aa an (rowI l)) (hAb : ∀ u ∈ blk aa, base ≤ u ∧ u < W.heap.size ∧ v.ownBlock ≠ some u) (hb : base ≤ W.heap.size) (hlen : ns.length ≤ 1000000) (ty : Nat) :
    ∃ v' w', (Builtin.append_ #[93, 93] ty #[v, .slice (some ⟨W.heap.size, 0, none⟩) 1 1]).run Tryz.prog (W.alloc (.cells #[.slice aa an ac] 25)) = .ok v' w' ∧ NOwn w' base v' (ns ++ [l]) (U ++ blk aa) ∧ (W.alloc (.cells #[.slice aa an ac] 25)).grownBy w' v.ownBlock ∧ (v'.ownBlock = v.ownBlock ∨ v'.ownBlock = some (W.heap.size + 1)) := by
  obtain ⟨i0, hi0, hzz⟩ := Option.map_eq_some_iff.1 info_intS8
  simp only [Prod.mk.injEq] at hzz
  obtain ⟨hz, hs1, hb1⟩ := hzz
  obtain ⟨rs, hown, hrl, hrd, hus⟩ := hB
  have hown1 : (W.alloc (.cells #[.slice aa an ac] 25)).ownsRow base 25 1 v ns.length (rs.map encS8) := World.ownsRow.alloc hown _
  obtain ⟨v', w', hrun, hown', hgr, _, hat⟩ := run_append_own_at (P := Tryz.prog) (W.alloc (.cells #[.slice aa an ac] 25)) base 93 ty 25 i0 _ 1 24 Tryz.underlying93 hi0 hz hs1 hb1 rfl (by omega) v ns.length (rs.map encS8) hown1
    ⟨W.heap.size, 0, none⟩ 1 1 [.slice aa an ac] rfl
    (fun j u hu => by
      have hj : j = 0 := by
        rcases Nat.eq_zero_or_pos j with h | h
        · exact h
        · rw [List.getElem?_eq_none (by simp; omega)] at hu; cases hu
      subst hj
      obtain rfl : (Value.slice aa an ac) = u := by simpa using hu
      rw [Go.WideShapes.add_plain, cell_of_row _ _ _ _ _ _ (heap_alloc_new W _)]
      rfl)
    (fun u hu => by rw [List.mem_singleton.1 hu]; rfl) (by unfold maxLen; omega) (by omega) (by simp; omega)
  have hsz : W.heap.size + 1 ≤ w'.heap.size := by
    have := hgr.size
    simpa using this
  have hat2 : v'.ownBlock = v.ownBlock ∨ v'.ownBlock = some (W.heap.size + 1) := by simpa using hat
  have hblk : ∀ b, b < W.heap.size → v.ownBlock ≠ some b → w'.heap[b]? = W.heap[b]? := fun b hbl hne => (hgr.block b (by simp; omega) (fun e => hne e.symm)).trans ((tu1 W _).block b hbl)
  have hnew : ∀ b, b < W.heap.size → v.ownBlock ≠ some b → v'.ownBlock ≠ some b := fun b hbl hne => by
    rcases hat2 with e | e
    · rw [e]; exact hne
    · rw [e]
      intro e2
      have := Option.some.inj e2
      omega
  refine ⟨v', w', hrun, ⟨rs ++ [(aa, an, ac)], ?_, by simp [hrl], fun j r k hj hk => ?_, fun u h1 => ?_⟩, hgr, hat2⟩
  · rw [List.length_append, List.map_append]
    exact hown'
  · rcases Nat.lt_or_ge j rs.length with hlt | hge
    · rw [List.getElem?_append_left hlt] at hj
      rw [List.getElem?_append_left (by omega)] at hk
      obtain ⟨e1, e2⟩ := hrd j r k hj hk
      exact ⟨e1.stay (by omega) (fun b off e => hblk b (hus b (e2 b off e)).2.1 (hus b (e2 b off e)).2.2), fun b off e => List.mem_append_left _ (e2 b off e)⟩
    · rw [List.getElem?_append_right hge] at hj
      rw [List.getElem?_append_right (by omega), ← hrl] at hk
      have h0 : j - rs.length = 0 := by
        obtain ⟨h1, _⟩ := List.getElem?_eq_some_iff.1 hj
        simpa using h1
      rw [h0] at hj hk
      obtain rfl : (aa, an, ac) = r := by simpa using hj
      obtain rfl : l = k := by simpa using hk
      exact ⟨hA.stay (by omega) (fun b off e => hblk b (hAb b (blk_some e)).2.1 (hAb b (blk_some e)).2.2), fun b off e => List.mem_append_right _ (blk_some e)⟩
  · rcases List.mem_append.1 h1 with h | h
    · exact ⟨(hus u h).1, by have := (hus u h).2.1; omega, hnew u (hus u h).2.1 (hus u h).2.2⟩
    · exact ⟨(hAb u h).1, by have := (hAb u h).2.1; omega, hnew u (hAb u h).2.1 (hAb u h).2.2⟩
theorem wpList_append_near {ops : Array Oper} {rest : List Oper} {o : Oper} {a : Act} {Q : Exit → Act → World → Prop} {W : World} {cells : Array Value} (hgd : o.guard = none) (s x : Operand)
    (ho : o.op = .call { callee := .builtin .append, args := #[s, x], argTypes := #[93, 93] }) (base : Nat) (v : Value) (ns : List (List Nat)) (U : List Nat) (aa : Option Addr) (an ac : Nat) (l : List Nat) (hc : cells = #[.slice aa an ac])
    (hs : a.eval s = v) {g : Nat} (hx : a.eval x = .slice (some ⟨g, 0, none⟩) 1 1) (hg : g = W.heap.size) (hB : NOwn W base v ns U) (hA : Nums W W.heap.size aa an (rowI l)) (hAb : ∀ u ∈ blk aa, base ≤ u ∧ u < W.heap.size ∧ v.ownBlock ≠ some u) (hb : base ≤ W.heap.size) (hlen : ns.length ≤ 1000000)
    (h : ∀ v' w', NOwn w' base v' (ns ++ [l]) (U ++ blk aa) → (W.alloc (.cells #[.slice aa an ac] 25)).grownBy w' v.ownBlock → (v'.ownBlock = v.ownBlock ∨ v'.ownBlock = some (W.heap.size + 1)) → wpList Tryz.prog ops Q rest (a.put o.dst v') w') : wpList Tryz.prog ops Q (o :: rest) a (W.alloc (.cells cells 25)) := by
  subst hc hg
  obtain ⟨v', w', hrun, hown, hgr, hat⟩ := hB.add hA hAb hb hlen o.type
  exact wpList_append_lx hgd s x _ ho _ _ _ hs hx hrun (h v' w' hown hgr hat)
theorem NOwn.at_ {w : World} {base : Nat} {v : Value} {ns : List (List Nat)} {U : List Nat} (h : NOwn w base v ns U) {j : Nat} (hj : j < ns.length) : ∃ (b cap : Nat) (aa : Option Addr) (an ac : Nat) (l : List Nat), v = .slice (some ⟨b, 0, none⟩) ns.length cap ∧ base ≤ b ∧ b < w.heap.size ∧ ns[j]? = some l ∧ w.cell? ⟨b, j, none⟩ = some (.slice aa an ac) ∧ Nums w w.heap.size aa an (rowI l) := by
  obtain ⟨rs, h, hrl, hrd, _⟩ := h
  have hlt := h.lt
  rcases h.2 with ⟨h0, h1⟩ | ⟨g, cap, cur, rfl, hbase, hh, h1, h2, h3, h4⟩
  · omega
  · have hr := List.getElem?_eq_getElem (l := rs) (i := j) (by omega)
    have hl := List.getElem?_eq_getElem hj
    obtain ⟨e1, e2⟩ := hrd j _ _ hr hl
    refine ⟨g, cap, _, _, (rs[j]'(by omega)).2.2, _, rfl, hbase, (hlt g rfl).2, hl, ?_, e1⟩
    rw [cell_of_row w g _ cur 25 (0, 0) hh]
    have : (cur.toList.take (ns.length * 1))[j]? = (rs.map encS8)[j]? := by rw [h4]
    rw [List.getElem?_take, if_pos (by omega), List.getElem?_map, hr] at this
    rw [← Array.getElem?_toList, this]
    rfl
theorem NOwn.form {w : World} {base : Nat} {v : Value} {ns : List (List Nat)} {U : List Nat} (h : NOwn w base v ns U) : ∃ a cap, v = .slice a ns.length cap := by
  obtain ⟨rs, h, hrl, hrd, _⟩ := h
  rcases h.2 with ⟨h0, h1⟩ | ⟨g, cap, cur, rfl, hbase, hh, h1, h2, h3, h4⟩
  · rw [h1]; exact ⟨none, 0, h0⟩
  · exact ⟨_, cap, rfl⟩
end Go.Proofs.YtiofpeckcfdilaaGreatDoor

/- Contracts of the view's span and mayBeLost. -/
namespace Go.Proofs.YtiofpeckcfdilaaGreatDoor
open Go.RowKit Go.Maps

theorem hasI8_any (a : Option Addr) (n c : Nat) (row : List Nat) (x : Nat) (w : World) (bound : Nat) (h : Nums w bound a n (rowI row)) :
    Calls Tryz.prog 128 #[.slice a n c, .int .i64 (x : Int)] w fun e w' => e = .returned (.bool (decide (x ∈ row))) ∧ w' = w := by
  have hl := h.1
  have hn := h.2.1
  rcases Nat.eq_zero_or_pos n with rfl | hp
  · have hz : row = [] := by
      have : (rowI row).length = 0 := hl
      rw [rowI_len] at this
      exact List.eq_nil_of_length_eq_zero this
    subst hz
    exact (Tryz.slices_Contains_int_empty a c (x : Int) w).mono fun e w' k => ⟨by rw [k.1]; rfl, k.2⟩
  · obtain ⟨b, off, e, hb, hc⟩ := h.2.2 hp
    subst e
    refine (Tryz.slices_Contains_int b off n c (rowI row) (x : Int) w (Nat.le_of_eq hl.symm) hn (fun j hj => ?_)).mono fun e w' k => ⟨?_, k.2⟩
    · rw [hc j _ (List.getElem?_eq_getElem hj), List.getD_eq_getElem?_getD, List.getElem?_eq_getElem hj]
      rfl
    · rw [k.1, List.take_of_length_le (Nat.le_of_eq hl)]
      congr 2
      rw [Bool.eq_iff_iff, List.contains_iff_mem, decide_eq_true_eq]
      unfold rowI
      rw [List.mem_map]
      exact ⟨fun ⟨y, hy, e⟩ => by have : y = x := by omega
                                  rwa [← this], fun hx => ⟨x, hx, rfl⟩⟩
/-- The box of the list under way, and the list. -/
def SpB (W : World) (s : Nat) (va : Option Addr) (vn vc : Nat) : Prop := W.heap[s]? = some (.cells #[.slice va vn vc] 25 (0, 0))
def SpIn (W : World) (s : Nat) (row : List Nat) : Prop := ∃ (va : Option Addr) (vn vc : Nat), SpB W s va vn vc ∧ IInts W (s + 1) (.slice va vn vc) (rowI row)
theorem SpIn.lt {W : World} {s : Nat} {row : List Nat} (h : SpIn W s row) : s < W.heap.size := by
  obtain ⟨va, vn, vc, h1, _⟩ := h
  exact (Array.getElem?_eq_some_iff.1 h1).1
theorem SpIn.on {W W' : World} {s : Nat} {row : List Nat} (h : SpIn W s row) (hb : Below W.heap.size W W') : SpIn W' s row := by
  have hl := h.lt
  obtain ⟨va, vn, vc, h1, h2⟩ := h
  exact ⟨va, vn, vc, (hb.block s hl).trans h1, h2.below hb (Nat.le_refl _)⟩
set_option maxHeartbeats 8000000 in
set_option maxRecDepth 20000 in
theorem meet8_any (s x : Nat) (row : List Nat) (w : World) (h : SpIn w s row) (hl : row.length ≤ 900) :
    Calls Tryz.prog 127 #[.int .i64 (x : Int), .pointer (some ⟨s, 0, none⟩)] w fun e w' => e = .returned (.tuple #[]) ∧ SpIn w' s (addN row [x]) ∧ Below s w w' := by
  have hlt := h.lt
  obtain ⟨va, vn, vc, h1, h2⟩ := h
  have c1 : w.cell? ⟨s, 0, none⟩ = some (.slice va vn vc) := by rw [cell_of_row _ _ _ _ _ _ h1]; rfl
  have CC := Lib.hid (show Calls Tryz.prog 128 #[.slice va vn vc, .int .i64 (x : Int)] w fun e w' => e = .returned (.bool (decide (x ∈ row))) ∧ w' = w from by
    obtain ⟨oa, oc, hv, _, _, _, hnu⟩ := h2.sees
    obtain ⟨e1, e2, e3⟩ := Value.slice.inj hv
    rw [← e1, ← e2] at hnu
    exact hasI8_any va vn vc row x w _ hnu)
  have HI2 := Lib.hid h2
  have H1 := Lib.hid h1
  by_cases hm : x ∈ row
  · rw [decide_eq_true hm] at CC
    have HV := Lib.hid (show SpIn w s (addN row [x]) from by
      rw [show addN row [x] = row by rw [addN, if_pos hm, addN]]
      exact ⟨va, vn, vc, h1, h2⟩)
    clear hm h1 h2
    go_enter Tryz.func127, Tryz.ntmps127
    go_wp2_with (first
      | (go_at_call 128; (with_reducible refine CC.out.mono ?_)
         rintro e w3 ⟨rfl, rfl⟩)
      | fail)
    go_end0
    exact ⟨rfl, HV.out, Below.refl _ _⟩
  · rw [decide_eq_false hm] at CC
    have HE := Lib.hid (show addN row [x] = row ++ [x] by rw [addN, if_neg hm, addN])
    have f1 : w.frozen? ⟨s, 0, none⟩ = false := by
      unfold World.frozen?
      rw [h1]
      simp
    have hne : ∀ b, (Value.slice va vn vc).ownBlock = some b → s + 1 ≤ b := fun b hb => (World.ownsRow.lt h2 b hb).1
    have HNE := Lib.hid hne
    clear hm h1 h2 hne
    go_enter Tryz.func127, Tryz.ntmps127
    go_wp2_with (first
      | (go_at_call 128; (with_reducible refine CC.out.mono ?_)
         rintro e w3 ⟨rfl, rfl⟩)
      | (at_builtin
         refine wpList_append_iints2 rfl (.tmp 7) (.tmp 9) rfl (s + 1) (.slice va vn vc) (rowI row) (x : Int) rfl rfl rfl rfl HI2.out (by omega) (by rw [rowI_len]; omega) ?_
         intro v5 w5 ho5 hg5 hat5
         obtain ⟨oa5, oc5, hv5, _, _, _, _⟩ := ho5.sees
         obtain ⟨m5, hm5⟩ : ∃ m5, m5 = (rowI row ++ [(x : Int)]).length := ⟨_, rfl⟩
         rw [← hm5] at hv5
         clear hm5
         subst hv5
         have HO5 := Lib.hid ho5
         have hsz5 := hg5.size
         rw [World.size_alloc] at hsz5
         have q1 := (hg5.block s (by simp; omega) (fun e => by have := HNE.out _ e.symm; omega)).trans (((tu1 _ (.cells #[.int .i64 (x : Int)] 3)).block s (by omega)).trans H1.out)
         have R1 := Lib.hid q1
         have g1 := (show SpB w5 s va vn vc from q1)
         have g2 : w5.cell? ⟨s, 0, none⟩ = some (.slice va vn vc) := by rw [cell_of_row _ _ _ _ _ _ q1]; rfl
         have g3 : w5.frozen? ⟨s, 0, none⟩ = false := by unfold World.frozen?; rw [q1]; simp
         have HB5 := Lib.hid (((Below.refl s _).alloc (by omega) (.cells #[.int .i64 (x : Int)] 3)).grown hg5 (by simp; omega) (fun k e => by have := HNE.out k e; omega))
         clear ho5 hg5 hat5 q1 g1)
      | fail)
    go_end0
    refine ⟨rfl, ?_, HB5.out.setCell (Nat.le_refl _) _⟩
    rw [HE.out]
    refine ⟨oa5, m5, oc5, ?_, ?_⟩
    · obtain ⟨hlt, hk2⟩ := Array.getElem?_eq_some_iff.1 R1.out
      show (w5.heap.modify s _)[s]? = _
      rw [Array.getElem?_eq_getElem (by rw [Array.size_modify]; exact hlt), Array.getElem_modify_self, hk2]
      rfl
    · have h6 := ownsRow_setCell_other HO5.out (a := ⟨s, 0, none⟩) (fun e => by have h7 := (World.ownsRow.lt HO5.out _ e).1; change s + 1 ≤ s at h7; omega) (.slice oa5 m5 oc5)
      unfold rowI at h6 ⊢
      rw [List.map_append]
      exact h6
/-- What the view's functions read of a protocol and a role that may be. -/
structure VProt (W : World) (k : VC) (rs : List Str) (ps : List PointL) : Prop where
  pts : Pts W W.heap.size k.a k.n ps
  roles : Strs W W.heap.size k.ra k.rn rs
  name : k.nm.size ≤ maxLen
  ok : protB k.nm.toList rs ps = true
theorem VProt.len {W : World} {k : VC} {rs : List Str} {ps : List PointL} (h : VProt W k rs ps) : ps.length = k.n := h.pts.1
theorem VProt.few {W : World} {k : VC} {rs : List Str} {ps : List PointL} (h : VProt W k rs ps) : k.n ≤ 24 := by
  have := (protB_all h.ok).2.2.2.1
  have := h.len
  omega
theorem VProt.on {W W' : World} {k : VC} {rs : List Str} {ps : List PointL} (h : VProt W k rs ps) (hb : Below W.heap.size W W') : VProt W' k rs ps := ⟨h.pts.on hb, h.roles.on hb, h.name, h.ok⟩
set_option maxHeartbeats 16000000 in
set_option maxRecDepth 20000 in
theorem pSpan_any (g : Nat) (k : VC) (la na : Option Addr) (ln lc nn nc mb : Nat) (rs : List Str) (ps : List PointL) (va : Option Addr) (vn vc : Nat) (s : List Nat) (w : World) (hV : VBox w g k la ln lc na nn nc mb) (hP : VProt w k rs ps) (hs : Nums w w.heap.size va vn (rowI s)) (hsn : ∀ x ∈ s, x < k.n) :
    Calls Tryz.prog 111 #[.pointer (some ⟨g, 0, none⟩), .slice va vn vc] w fun e w' => (∃ v, e = .returned v ∧ IInts w' w.heap.size v (rowI (metL (outsP ps k.r.toList) k.n s))) ∧ Below w.heap.size w w' := by
  obtain ⟨S, hS⟩ : ∃ S, S = w.heap.size := ⟨_, rfl⟩
  have HLEN := Lib.hid hP.len
  have hn24 := hP.few
  have HN := Lib.hid hP.pts
  have HL := Lib.hid hs
  have HOK := Lib.hid hP.ok
  have hvn := hs.2.1
  have HLN := Lib.hid (show s.length = vn by have := hs.1; rwa [rowI_len] at this)
  have HSN := Lib.hid hsn
  have HVB := Lib.hid hV
  obtain ⟨R, hR⟩ : ∃ R, metL (outsP ps k.r.toList) k.n s = R := ⟨_, rfl⟩
  rw [hR]
  have HRR := Lib.hid (show bfs (outsP ps k.r.toList) (k.n - 0) 0 (addN [] s) = R by rw [Nat.sub_zero]; exact hR)
  have hgl := hV.lt
  clear hR
  obtain ⟨w2, hw2⟩ : ∃ w2, w2 = w.alloc (.cells #[.slice none 0 0] 25) := ⟨_, rfl⟩
  have hs2 : w2.heap.size = S + 1 := by rw [hw2, hS]; simp
  have HB2 := Lib.hid (show Below w.heap.size w w2 by rw [hw2]; exact tu1 _ _)
  have HSP := Lib.hid (show SpIn w2 S (addN [] (s.take 0)) from ⟨none, 0, 0, by rw [hw2, hS]; exact heap_alloc_new w _, IInts.zero _ _⟩)
  have hcf : ∀ (args : Array Value) (w : World), (callFunc 127 args).run Tryz.prog w = .ok (.enter 127 args) w := enters_of Tryz.func127 (by kernel_rfl) rfl
  have HW2 := Lib.hid hw2
  clear hP hs hsn hV hw2
  go_enter Tryz.func111, Tryz.ntmps111
  go_upto_region 3 with fail
  rw [← HW2.out]
  rw [← hS]
  have hsw1 : S ≤ w.heap.size := Nat.le_of_eq hS
  have hsw2 : w.heap.size ≤ S := Nat.le_of_eq hS.symm
  clear hS
  have hsz2 : S + 1 ≤ w2.heap.size := by omega
  clear hs2
  go_wp2_with fail
  go_loopw [16] (fun i wr => ∃ j : Nat, j ≤ vn ∧ i = .int .i64 j ∧ Hid (SpIn wr S (addN [] (s.take j))) ∧ Hid (Below S w2 wr)) (fun i _ => vn - (intOf i).toNat)
  case atStart => exact ⟨0, Nat.zero_le _, rfl, HSP, Lib.hid (Below.refl _ _)⟩
  case round =>
    obtain ⟨j, hj, rfl, HV, HBr⟩ := hrel
    have HB := Lib.hid (HB2.out.trans (HBr.out.mono (by omega)))
    have hzr := HBr.out.size
    by_cases hlt : j < vn
    · obtain ⟨b, off, x, rfl, hbb, hx, hc⟩ := HL.out.at_ hlt
      obtain ⟨y, rfl, hy⟩ := rowI_at hx
      have r0 := (HB.out.cell (p := ⟨b, off + j, none⟩) (by show b < _; omega)).trans hc
      have i1 : (j : Int) < (vn : Int) := by omega
      have i2 : (0 : Int) ≤ (j : Int) := by omega
      have HST := Lib.hid (show addN [] (s.take (j + 1)) = addN (addN [] (s.take j)) [y] by rw [tuTake_at hy, addN_two])
      have HFW := Lib.hid (show (addN [] (s.take j)).length ≤ 900 from by
        have := nodup_few (n := k.n) (addN_nodup (s.take j) [] (by simp)) (fun z hz => by
          rcases (addN_mem z _ _).1 hz with h1 | h1
          · cases h1
          · exact HSN.out z (List.mem_of_mem_take h1))
        omega)
      clear hx hc hy
      go_wp2_with (first
        | (go_at_call 127; (with_reducible refine (meet8_any S y _ _ HV.out HFW.out).mono ?_)
           rintro e w4 ⟨rfl, hv4, hb4⟩
           have HV4 := Lib.hid hv4
           have HB4 := Lib.hid (HBr.out.trans hb4)
           clear hv4 hb4)
        | fail)
      go_roundw
      case rel => exact ⟨j + 1, by omega, by go_num, Lib.hid (by rw [HST.out]; exact HV4.out), HB4⟩
      case measure => simp [intOf]; omega
    · have hall : s.take j = s := List.take_of_length_le (by have := HLN.out; omega)
      rw [hall] at HV
      have d1 : decide ((j : Int) < (vn : Int)) = false := decide_eq_false (by omega)
      obtain ⟨wz, hwz⟩ : ∃ wz : World, wz = wr := ⟨_, rfl⟩
      subst hwz
      have HZN := Lib.hid (show (addN [] s).Nodup ∧ ∀ x ∈ addN [] s, x < k.n from ⟨addN_nodup _ _ (by simp), fun z hz => by
        rcases (addN_mem z _ _).1 hz with h1 | h1
        · cases h1
        · exact HSN.out z h1⟩)
      clear hall
      go_wp2_with fail
      go_loopw [9] (fun i wr => ∃ (j : Nat) (row : List Nat), i = .int .i64 j ∧ j ≤ k.n ∧ Hid (row.Nodup ∧ ∀ x ∈ row, x < k.n) ∧ Hid (bfs (outsP ps k.r.toList) (k.n - j) j row = R) ∧ Hid (SpIn wr S row) ∧ Hid (Below S w2 wr)) (fun i _ => k.n - (intOf i).toNat)
      case atStart => exact ⟨0, _, rfl, Nat.zero_le _, HZN, HRR, HV, HBr⟩
      case round =>
        obtain ⟨j, row, rfl, hjn, HRO, HF, HVj, HBj⟩ := hrel
        have HBJ := Lib.hid (HB2.out.trans (HBj.out.mono (by omega)))
        have hzj := HBj.out.size
        obtain ⟨_, _, pc2, pc3, _, _, _⟩ := (HVB.out.block (HBJ.out.block g (by omega))).cells
        obtain ⟨ma, mn, mc, x1, x4⟩ := HVj.out
        have vc2 : wr.cell? ⟨S, 0, none⟩ = some (.slice ma mn mc) := by rw [cell_of_row _ _ _ _ _ _ x1]; rfl
        have hfew := nodup_few HRO.out.1 HRO.out.2
        obtain ⟨oa, oc, hva, _, _, _, hon⟩ := x4.sees
        rw [rowI_len] at hva hon
        obtain ⟨m, hm⟩ : ∃ m, m = row.length := ⟨_, rfl⟩
        rw [← hm] at hva hon hfew
        obtain ⟨e1, e2, e3⟩ := Value.slice.inj hva
        subst e1 e2 e3
        have HON := Lib.hid hon
        have HIR := Lib.hid x4
        have hvlt := HVj.out.lt
        have HM := Lib.hid hm
        have hgj : g < wr.heap.size := by omega
        clear x1 x4 hon hva
        by_cases hlt2 : j < mn
        · have hp := List.getElem?_eq_getElem (show j < row.length by omega)
          obtain ⟨p, hpe⟩ : ∃ p, row[j]'(show j < row.length by omega) = p := ⟨_, rfl⟩
          rw [hpe] at hp
          have hpn := HRO.out.2 p (List.mem_of_getElem? hp)
          obtain ⟨b1, o1, y1, hma, hb1, hy1, k0⟩ := HON.out.at_ hlt2
          have hy2 : y1 = (p : Int) := by
            unfold rowI at hy1
            rw [List.getElem?_map, hp] at hy1
            exact (Option.some.inj hy1).symm
          subst hy2 hma
          obtain ⟨b, off, q, sq, aa, an, ac, al, hka, hbb, hx, ⟨q0, q1, q2⟩, hq, hs, hal⟩ := HN.out.at_ hpn
          rw [hka] at pc2
          have r0 := (HBJ.out.cell (p := ⟨b, off + p * 3, none⟩) (by show b < _; omega)).trans q0
          have r1 := (HBJ.out.cell (p := ⟨b, off + p * 3 + 1, none⟩) (by show b < _; omega)).trans q1
          have r2 := (HBJ.out.cell (p := ⟨b, off + p * 3 + 2, none⟩) (by show b < _; omega)).trans q2
          have hpo : pointOf ps p = ⟨q.toList, sq.toList, al⟩ := by unfold pointOf; rw [hx]; rfl
          have hstep : bfs (outsP ps k.r.toList) (k.n - (j + 1)) (j + 1) (addN row (outsP ps k.r.toList p)) = R := by
            have h1 := HF.out
            rw [show k.n - j = (k.n - (j + 1)) + 1 by omega, bfs_some _ hp] at h1
            exact h1
          have hnd := addN_nodup (outsP ps k.r.toList p) row HRO.out.1
          have hlt3 : ∀ x ∈ addN row (outsP ps k.r.toList p), x < k.n := fun x hx2 => by
            rcases (addN_mem x _ _).1 hx2 with hx2 | hx2
            · exact HRO.out.2 x hx2
            · have := outs_lt HOK.out k.r.toList p (by rw [HLEN.out]; exact hpn) x hx2
              rw [HLEN.out] at this
              exact this
          have HNEW := Lib.hid (And.intro (And.intro hnd hlt3) hstep)
          have HOU := Lib.hid (show outsP ps k.r.toList p = if inP ⟨q.toList, sq.toList, al⟩ k.r.toList then [] else al.map fun a => a.next.toNat by unfold outsP; rw [hpo])
          have HAL := Lib.hid hal
          have hanz := hal.2.1
          have HGD := Lib.hid (show ∀ x ∈ al, 0 ≤ x.next ∧ x.next < (k.n : Int) from fun x hxa => by
            rcases pointB_ways ((protB_all HOK.out).2.2.2.2 _ (List.mem_of_getElem? hx)) with h0 | ⟨_, _, _, _, h4⟩
            · have h5 := (endB_iff.1 h0).2.2
              dsimp only at h5
              rw [h5] at hxa
              cases hxa
            · have := (armB_all ((armsB_all h4).1 x hxa)).2.2
              rw [HLEN.out] at this
              exact this)
          have hi1 : (j : Int) < (mn : Int) := by omega
          have hbz : b < wr.heap.size := by omega
          have hi2 : (0 : Int) ≤ (j : Int) := by omega
          have hi3 : (p : Int) < (k.n : Int) := by omega
          have hi4 : (0 : Int) ≤ (p : Int) := by omega
          clear hp hpe hy1 q0 q1 q2 hal hstep hnd hlt3 hpo hx hq hs hm
          go_wp2_with fail
          go_region
          generalize hwx : (wr.alloc (.cells #[.string q, .string sq, .slice aa an ac] 82)).drew = wx
          have hbx : Below wr.heap.size wr wx := by
            rw [← hwx]
            have := tu1 wr (.cells #[.string q, .string sq, .slice aa an ac] 82)
            exact ⟨this.os, this.tape, this.output, this.size, this.block⟩
          have hxb : wx.heap[wr.heap.size]? = some (.cells #[.string q, .string sq, .slice aa an ac] 82 (0, 0)) := by rw [← hwx]; exact heap_alloc_new wr _
          have t0 : wx.cell? ⟨wr.heap.size, 0, none⟩ = some (.string q) := by rw [cell_of_row _ _ _ _ _ _ hxb]; rfl
          have t1 : wx.cell? ⟨wr.heap.size, 1, none⟩ = some (.string sq) := by rw [cell_of_row _ _ _ _ _ _ hxb]; rfl
          have t2 : wx.cell? ⟨wr.heap.size, 2, none⟩ = some (.slice aa an ac) := by rw [cell_of_row _ _ _ _ _ _ hxb]; rfl
          have u3 := (hbx.cell (p := ⟨g, 3, none⟩) hgj).trans pc3
          have HVX := Lib.hid (HVj.out.on hbx)
          have HBX := Lib.hid (HBj.out.trans (hbx.mono (by omega)))
          have hzx := hbx.size
          clear hwx hbx hxb
          obtain ⟨wo, hwo⟩ : ∃ wo : World, wo = wr := ⟨_, rfl⟩
          subst hwo
          cases hin1 : (q.toList == k.r.toList)
          · cases hin2 : (sq.toList == k.r.toList)
            · have HO2 := Lib.hid (show outsP ps k.r.toList p = al.map fun a => a.next.toNat by rw [HOU.out, show inP ⟨q.toList, sq.toList, al⟩ k.r.toList = false by unfold inP; rw [hin1, hin2]; rfl]; rfl)
              go_wp2_with fail
              go_quiet (fail)
              clear hin1 hin2
              go_wp2_with fail
              go_loopw [60] (fun i wr => ∃ k2 : Nat, k2 ≤ an ∧ i = .int .i64 k2 ∧ Hid (SpIn wr S (addN row ((al.take k2).map fun a => a.next.toNat))) ∧ Hid (Below S w2 wr)) (fun i _ => an - (intOf i).toNat)
              case atStart => exact ⟨0, Nat.zero_le _, rfl, Lib.hid (by rw [List.take_zero]; exact HVX.out.on (bel_drewN (Below.refl _ _) _)), Lib.hid (bel_drewN HBX.out _)⟩
              case round =>
                obtain ⟨k2, hk2, rfl, HVk, HBk⟩ := hrel
                by_cases hlt4 : k2 < an
                · obtain ⟨lb, lo, s6, u6, ck, nx, rfl, hlb, hx6, ⟨z0, z1, z2, z3⟩, _, _⟩ := HAL.out.at_ hlt4
                  have HBK := Lib.hid (HB2.out.trans (HBk.out.mono (by omega)))
                  have g0 := (HBK.out.cell (p := ⟨lb, lo + k2 * 4, none⟩) (by show lb < _; omega)).trans z0
                  have g1 := (HBK.out.cell (p := ⟨lb, lo + k2 * 4 + 1, none⟩) (by show lb < _; omega)).trans z1
                  have g2 := (HBK.out.cell (p := ⟨lb, lo + k2 * 4 + 2, none⟩) (by show lb < _; omega)).trans z2
                  have g3 := (HBK.out.cell (p := ⟨lb, lo + k2 * 4 + 3, none⟩) (by show lb < _; omega)).trans z3
                  have hgd := HGD.out _ (List.mem_of_getElem? hx6)
                  dsimp only at hgd
                  obtain ⟨y, rfl⟩ : ∃ y : Nat, nx = (y : Int) := ⟨nx.toNat, by omega⟩
                  have hst : addN row ((al.take (k2 + 1)).map fun a => a.next.toNat) = addN (addN row ((al.take k2).map fun a => a.next.toNat)) [y] := by
                    rw [tuTake_at hx6, List.map_append, addN_two]
                    rfl
                  have HST := Lib.hid hst
                  have HFW := Lib.hid (show (addN row ((al.take k2).map fun a => a.next.toNat)).length ≤ 900 from by
                    have := nodup_few (n := k.n) (addN_nodup ((al.take k2).map fun a => a.next.toNat) row HRO.out.1) (fun z hz => by
                      rcases (addN_mem z _ _).1 hz with h1 | h1
                      · exact HRO.out.2 z h1
                      · obtain ⟨x9, hx9, rfl⟩ := List.mem_map.1 h1
                        have := HGD.out x9 (List.mem_of_mem_take hx9)
                        omega)
                    omega)
                  have j1 : (k2 : Int) < (an : Int) := by omega
                  have j2 : (0 : Int) ≤ (k2 : Int) := by omega
                  have hzk := HBk.out.size
                  have HVa := Lib.hid (HVk.out.on (tu1 wr (.cells #[.string s6, .int .i64 ck, .string u6, .int .i64 (y : Int)] 67)))
                  have HBa := Lib.hid (HBk.out.trans ((tu1 wr (.cells #[.string s6, .int .i64 ck, .string u6, .int .i64 (y : Int)] 67)).mono (by omega)))
                  clear z0 z1 z2 z3 hx6 hgd hst
                  go_wp2_with (first
                    | (go_at_call 127; (with_reducible refine (meet8_any S y _ _ HVa.out HFW.out).mono ?_)
                       rintro e w6 ⟨rfl, hv6, hb6⟩
                       have HV6 := Lib.hid hv6
                       have HB6 := Lib.hid (HBa.out.trans hb6)
                       clear hv6 hb6)
                    | fail)
                  go_roundw
                  case rel => exact ⟨k2 + 1, by omega, by go_num, Lib.hid (by rw [HST.out]; exact HV6.out), HB6⟩
                  case measure => simp [intOf]; omega
                · have HVE := Lib.hid (show SpIn wr S (addN row (outsP ps k.r.toList p)) by
                    have h1 := HVk.out
                    rw [List.take_of_length_le (by have := HAL.out.1; omega), ← HO2.out] at h1
                    exact h1)
                  have d3 : decide ((k2 : Int) < (an : Int)) = false := decide_eq_false (by omega)
                  go_wp2_with fail
                  go_roundw
                  case rel => exact ⟨j + 1, _, by go_num, by omega, Lib.hid HNEW.out.1, Lib.hid HNEW.out.2, HVE, HBk⟩
                  case measure => simp [intOf]; omega
            · have HO2 := Lib.hid (show addN row (outsP ps k.r.toList p) = row by rw [HOU.out, show inP ⟨q.toList, sq.toList, al⟩ k.r.toList = true by unfold inP; rw [hin1, hin2]; rfl]; rfl)
              go_wp2_with fail
              go_quiet (fail)
              go_wp2_with fail
              go_roundw
              case rel => exact ⟨j + 1, row, by go_num, by omega, HRO, Lib.hid (by have := HNEW.out.2; rw [HO2.out] at this; exact this), Lib.hid (HVX.out.on (bel_drewN (Below.refl _ _) _)), Lib.hid (bel_drewN HBX.out _)⟩
              case measure => simp [intOf]; omega
          · have HO2 := Lib.hid (show addN row (outsP ps k.r.toList p) = row by rw [HOU.out, show inP ⟨q.toList, sq.toList, al⟩ k.r.toList = true by unfold inP; rw [hin1]; rfl]; rfl)
            go_wp2_with fail
            go_quiet (fail)
            go_wp2_with fail
            go_roundw
            case rel => exact ⟨j + 1, row, by go_num, by omega, HRO, Lib.hid (by have := HNEW.out.2; rw [HO2.out] at this; exact this), Lib.hid (HVX.out.on (bel_drewN (Below.refl _ _) _)), Lib.hid (bel_drewN HBX.out _)⟩
            case measure => simp [intOf]; omega
        · have HZ := Lib.hid (show row = R by have h1 := HF.out; rw [bfs_none _ (by omega)] at h1; exact h1)
          have HRI := Lib.hid (show IInts wr w.heap.size _ (rowI R) by rw [← HZ.out]; exact IInts.low (base' := w.heap.size) HIR.out (by omega))
          have d3 : decide ((j : Int) < (mn : Int)) = false := decide_eq_false (by omega)
          have d4 : decide (j < mn) = false := decide_eq_false hlt2
          clear hm
          go_wp2_with fail
          go_ret
          exact ⟨⟨_, rfl, HRI.out⟩, HBJ.out⟩
/-- Marks that may be read. -/
def LMk (W : World) (la : Option Addr) (n : Nat) (f : Nat → Bool) : Prop := ∃ b, la = some ⟨b, 0, none⟩ ∧ b < W.heap.size ∧ ∀ j, j < n → W.cell? ⟨b, j, none⟩ = some (.bool (f j))
theorem LMk.on {W W' : World} {la : Option Addr} {n : Nat} {f : Nat → Bool} (h : LMk W la n f) (hb : Below W.heap.size W W') : LMk W' la n f := by
  obtain ⟨b, e, hlt, hc⟩ := h
  exact ⟨b, e, Nat.lt_of_lt_of_le hlt hb.size, fun j hj => (hb.cell (p := ⟨b, j, none⟩) hlt).trans (hc j hj)⟩
theorem mixed_count (M : List Nat) (f : Nat → Bool) : (M.any f && M.any (fun k => !f k)) = (decide (0 < M.countP f) && decide (M.countP f < M.length)) := by
  have h1 : M.any f = decide (0 < M.countP f) := by
    rw [Bool.eq_iff_iff, decide_eq_true_eq, List.any_eq_true, List.countP_pos_iff]
  have h2 : M.any (fun k => !f k) = decide (M.countP f < M.length) := by
    rw [Bool.eq_iff_iff, decide_eq_true_eq, List.any_eq_true]
    have h3 := List.countP_le_length (p := f) (l := M)
    have h4 := List.countP_eq_length (p := f) (l := M)
    constructor
    · rintro ⟨x, hx, hf⟩
      rcases Nat.lt_or_ge (M.countP f) M.length with h | h
      · exact h
      · have := h4.1 (by omega) x hx
        rw [this] at hf
        cases hf
    · intro h
      by_cases hall : ∀ x ∈ M, f x = true
      · have := h4.2 hall
        omega
      · obtain ⟨x, hx, hf⟩ : ∃ x, x ∈ M ∧ ¬ f x = true := by
          by_cases h9 : ∃ x, x ∈ M ∧ ¬ f x = true
          · exact h9
          · exact absurd (fun x hx => by
              by_cases hf : f x = true
              · exact hf
              · exact absurd ⟨x, hx, hf⟩ h9) hall
        exact ⟨x, hx, by cases hfx : f x <;> simp_all⟩
  rw [h1, h2]
theorem metL_few (ps : List PointL) (r : Str) {nm : Str} {rs : List Str} (h : protB nm rs ps = true) {s : List Nat} (hs : ∀ x ∈ s, x < ps.length) : (metL (outsP ps r) ps.length s).length ≤ ps.length ∧ ∀ x ∈ metL (outsP ps r) ps.length s, x < ps.length := by
  have h1 := metL_row h r hs ps.length 0
  refine ⟨nodup_few (n := ps.length) ?_ h1, h1⟩
  exact bfs_nodup (outsP ps r) ps.length 0 (addN [] s) (addN_nodup s [] (by simp))
set_option maxHeartbeats 8000000 in
set_option maxRecDepth 20000 in
theorem mayBe_any (g : Nat) (k : VC) (la na : Option Addr) (lc nn nc mb : Nat) (rs : List Str) (ps : List PointL) (va : Option Addr) (vn vc : Nat) (s : List Nat) (w : World) (hV : VBox w g k la k.n lc na nn nc mb) (hP : VProt w k rs ps) (hL : LMk w la k.n (lostP ps k.r.toList)) (hs : Nums w w.heap.size va vn (rowI s)) (hsn : ∀ x ∈ s, x < k.n) :
    Calls Tryz.prog 82 #[.pointer (some ⟨g, 0, none⟩), .slice va vn vc] w fun e w' => e = .returned (.bool (mixedP ps k.r.toList s)) ∧ Below w.heap.size w w' := by
  have CS := Lib.hid (pSpan_any g k la na k.n lc nn nc mb rs ps va vn vc s w hV hP hs hsn)
  have hln := hP.len
  obtain ⟨hm1, hm2⟩ := metL_few ps k.r.toList hP.ok (s := s) (fun x hx => by rw [hln]; exact hsn x hx)
  have hn24 := hP.few
  rw [hln] at hm1 hm2
  have hmx : mixedP ps k.r.toList s = (decide (0 < (metL (outsP ps k.r.toList) k.n s).countP (lostP ps k.r.toList)) && decide ((metL (outsP ps k.r.toList) k.n s).countP (lostP ps k.r.toList) < (metL (outsP ps k.r.toList) k.n s).length)) := by
    unfold mixedP
    rw [mixed_count, hln]
  obtain ⟨M, hM⟩ : ∃ M, M = metL (outsP ps k.r.toList) k.n s := ⟨_, rfl⟩
  rw [← hM] at CS hm1 hm2 hmx
  obtain ⟨R, hR⟩ : ∃ R, R = mixedP ps k.r.toList s := ⟨_, rfl⟩
  rw [← hR]
  have HR := Lib.hid (hR.trans hmx)
  clear hR
  have HVB := Lib.hid hV
  have HLM := Lib.hid hL
  have HM2 := Lib.hid hm2
  clear hM hV hP hL hs hsn hln hmx hm2
  go_enter Tryz.func82, Tryz.ntmps82
  obtain ⟨mn, hmn⟩ : ∃ mn, mn = M.length := ⟨_, rfl⟩
  have HMN := Lib.hid hmn
  have hmn24 : mn ≤ 24 := by omega
  clear hmn hm1
  go_upto_region 3 with (first
    | (go_at_call 111; (with_reducible refine CS.out.mono ?_)
       rintro e w1 ⟨⟨v1, rfl, h1⟩, hb1⟩
       obtain ⟨oa, oc, hv1, _, _, _, hnu⟩ := h1.sees
       rw [rowI_len, ← HMN.out] at hv1 hnu
       subst hv1
       have HNU := Lib.hid hnu
       have HB1 := Lib.hid hb1
       clear h1 hb1 hnu)
    | fail)
  have HV1 := Lib.hid (HVB.out.on HB1.out)
  have HL1 := Lib.hid (HLM.out.on HB1.out)
  obtain ⟨_, _, _, _, pc4, _, _⟩ := HV1.out.cells
  obtain ⟨lb, hlb, hlz, hlq⟩ := HL1.out
  clear hlq
  subst hlb
  have HLC := Lib.hid (show ∀ j, j < k.n → w1.cell? ⟨lb, j, none⟩ = some (.bool (lostP ps k.r.toList j)) from by
    obtain ⟨b9, e9, _, h9⟩ := HL1.out
    obtain ⟨q1, _, _⟩ := Addr.mk.inj (Option.some.inj e9)
    subst q1
    exact h9)
  go_wp2_with fail
  go_loop [6, 14] (fun c i => ∃ j : Nat, j ≤ mn ∧ c = .int .i64 (((M.take j).countP (lostP ps k.r.toList) : Nat) : Int) ∧ i = .int .i64 j) (fun _ i => mn - (intOf i).toNat)
  case atStart => exact ⟨0, Nat.zero_le _, rfl, rfl⟩
  case round =>
    obtain ⟨j, hj, rfl, rfl⟩ := hrel
    by_cases hlt : j < mn
    · obtain ⟨b, off, x, rfl, hbb, hx, hc⟩ := HNU.out.at_ hlt
      obtain ⟨y, rfl, hy⟩ := rowI_at hx
      have hyn := HM2.out y (List.mem_of_getElem? hy)
      have l1 := HLC.out y hyn
      have i1 : (j : Int) < (mn : Int) := by omega
      have i2 : (0 : Int) ≤ (j : Int) := by omega
      have i3 : (y : Int) < (k.n : Int) := by omega
      have i4 : (0 : Int) ≤ (y : Int) := by omega
      have hst : (M.take (j + 1)).countP (lostP ps k.r.toList) = (M.take j).countP (lostP ps k.r.toList) + (if lostP ps k.r.toList y then 1 else 0) := by
        rw [tuTake_at hy, List.countP_append, List.countP_cons, List.countP_nil]
        simp
      have hcl : (M.take j).countP (lostP ps k.r.toList) ≤ 24 := by
        have h1 := List.countP_le_length (p := lostP ps k.r.toList) (l := M.take j)
        rw [List.length_take] at h1
        omega
      obtain ⟨cn, hcn⟩ : ∃ cn, cn = (M.take j).countP (lostP ps k.r.toList) := ⟨_, rfl⟩
      rw [← hcn] at hst hcl ⊢
      cases hf : lostP ps k.r.toList y
      · rw [hf] at l1 hst
        have HST := Lib.hid hst
        clear hst hx hy hcn hf
        go_wp2_with fail
        go_round
        case rel => exact ⟨j + 1, by omega, by rw [HST.out]; rfl, by go_num⟩
        case measure => simp [intOf]; omega
      · rw [hf] at l1 hst
        have HST := Lib.hid hst
        clear hst hx hy hcn hf
        go_wp2_with fail
        go_round
        case rel => exact ⟨j + 1, by omega, by rw [HST.out]; go_num, by go_num⟩
        case measure => simp [intOf]; omega
    · have hall : M.take j = M := List.take_of_length_le (by have := HMN.out; omega)
      rw [hall]
      have hcl : M.countP (lostP ps k.r.toList) ≤ 24 := by
        have h1 := List.countP_le_length (p := lostP ps k.r.toList) (l := M)
        have := HMN.out
        omega
      obtain ⟨cn, hcn⟩ : ∃ cn, cn = M.countP (lostP ps k.r.toList) := ⟨_, rfl⟩
      have HCN := Lib.hid hcn
      rw [← hcn] at hcl ⊢
      have d1 : decide ((j : Int) < (mn : Int)) = false := decide_eq_false (by omega)
      clear hall hcn
      by_cases h0 : 0 < cn
      · have d2 : decide ((0 : Int) < (cn : Int)) = true := decide_eq_true (by omega)
        have d2' : (0 : Int) < (cn : Int) := by omega
        by_cases h1 : cn < mn
        · have d4 : decide ((cn : Int) < (mn : Int)) = true := decide_eq_true (by omega)
          have HZ := Lib.hid (show R = true by rw [HR.out, ← HMN.out, ← HCN.out, decide_eq_true h0, decide_eq_true h1]; rfl)
          go_wp2_with fail
          go_ret
          exact ⟨ret_bool HZ.out.symm, HB1.out⟩
        · have d4 : decide ((cn : Int) < (mn : Int)) = false := decide_eq_false (by omega)
          have HZ := Lib.hid (show R = false by rw [HR.out, ← HMN.out, ← HCN.out, decide_eq_true h0, decide_eq_false h1]; rfl)
          go_wp2_with fail
          go_ret
          exact ⟨ret_bool HZ.out.symm, HB1.out⟩
      · have d2 : decide ((0 : Int) < (cn : Int)) = false := decide_eq_false (by omega)
        have HZ := Lib.hid (show R = false by rw [HR.out, ← HMN.out, ← HCN.out, decide_eq_false h0]; rfl)
        go_wp2_with fail
        go_ret
        exact ⟨ret_bool HZ.out.symm, HB1.out⟩
end Go.Proofs.YtiofpeckcfdilaaGreatDoor

/- The key of a near set: plain; contracts of strconv.AppendInt at small numbers and of the program's key. -/
namespace Go.Proofs.YtiofpeckcfdilaaGreatDoor
open Go.RowKit

def keyS (l : List Nat) : Str := l.flatMap fun x => Lib.decDigits x ++ [32]
def dec2 (x : Nat) : List UInt8 := if x < 10 then [UInt8.ofNat (48 + x)] else [UInt8.ofNat (48 + x / 10), UInt8.ofNat (48 + x % 10)]
theorem decTwo8 {x : Nat} (h : x < 100) : Lib.decDigits x = dec2 x := by
  unfold dec2
  rw [Lib.decDigits]
  split
  · rfl
  · rw [Lib.decDigits, dif_pos (show x / 10 < 10 by omega)]
    rfl
theorem dec2_clean : ∀ x, x < 24 → ¬ (32 : UInt8) ∈ dec2 x := by decide +kernel
theorem dec2_inj : ∀ x, x < 24 → ∀ y, y < 24 → dec2 x = dec2 y → x = y := by decide +kernel
theorem dec2_len (x : Nat) : (dec2 x).length ≤ 2 := by
  unfold dec2
  split <;> simp
theorem key_split {b : Str} (hb : ¬ (32 : UInt8) ∈ b) {r s : Str} : ∀ {a : Str}, ¬ (32 : UInt8) ∈ a → a ++ 32 :: r = b ++ 32 :: s → a = b ∧ r = s := by
  induction b with
  | nil =>
    intro a ha h
    cases a with
    | nil => exact ⟨rfl, (List.cons.inj h).2⟩
    | cons x a =>
      have := (List.cons.inj h).1
      exact absurd (by rw [this]; simp) ha
  | cons y b ih =>
    intro a ha h
    cases a with
    | nil =>
      have := (List.cons.inj h).1
      exact absurd (by rw [← this]; simp) hb
    | cons x a =>
      obtain ⟨h1, h2⟩ := List.cons.inj h
      obtain ⟨h3, h4⟩ := ih (fun e => hb (List.mem_cons_of_mem _ e)) (fun e => ha (List.mem_cons_of_mem _ e)) h2
      exact ⟨by rw [h1, h3], h4⟩
theorem keyS_cons (x : Nat) (l : List Nat) : keyS (x :: l) = Lib.decDigits x ++ 32 :: keyS l := by
  unfold keyS
  rw [List.flatMap_cons, List.append_assoc]
  rfl
theorem keyS_inj : ∀ {l m : List Nat}, (∀ x ∈ l, x < 24) → (∀ x ∈ m, x < 24) → keyS l = keyS m → l = m
  | [], [], _, _, _ => rfl
  | [], y :: m, _, _, h => by rw [keyS_cons] at h; exact absurd h (by simp [keyS])
  | x :: l, [], _, _, h => by rw [keyS_cons] at h; exact absurd h.symm (by simp [keyS])
  | x :: l, y :: m, hl, hm, h => by
    have hx := hl x (by simp)
    have hy := hm y (by simp)
    rw [keyS_cons, keyS_cons, decTwo8 (by omega), decTwo8 (by omega)] at h
    obtain ⟨h1, h2⟩ := key_split (dec2_clean y hy) (dec2_clean x hx) h
    rw [dec2_inj x hx y hy h1, keyS_inj (fun z hz => hl z (by simp [hz])) (fun z hz => hm z (by simp [hz])) h2]
theorem keyS_len (l : List Nat) (h : ∀ x ∈ l, x < 24) : (keyS l).length ≤ 3 * l.length := by
  induction l with
  | nil => exact Nat.le_refl _
  | cons x l ih =>
    have hx := h x (by simp)
    rw [keyS_cons, decTwo8 (by omega), List.length_append, List.length_cons, List.length_cons]
    have h1 := dec2_len x
    have h2 := ih (fun z hz => h z (by simp [hz]))
    omega
theorem keyS_snoc (l : List Nat) (x : Nat) : keyS (l ++ [x]) = (keyS l ++ Lib.decDigits x) ++ [32] := by
  unfold keyS
  rw [List.flatMap_append, List.flatMap_cons, List.flatMap_nil, List.append_nil, List.append_assoc]
/-- Bytes that the call made, and a text behind them. -/
theorem wpList_append_text {ops : Array Oper} {rest : List Oper} {o : Oper} {a : Act} {Q : Exit → Act → World → Prop} {W : World} (hgd : o.guard = none) (s x : Operand)
    (ho : o.op = .call { callee := .builtin .append, args := #[s, x], argTypes := #[143, 9] }) (base : Nat) (v : Value) (l news : Str)
    (hs : a.eval s = v) (hx : a.eval x = .string ⟨news.toArray⟩) (hB : Bytes W base v l) (hb : base ≤ W.heap.size) (hlen : l.length + news.length ≤ 1000000)
    (h : ∀ v' w', Bytes w' base v' (l ++ news) → W.grownBy w' v.ownBlock → wpList Tryz.prog ops Q rest (a.put o.dst v') w') : wpList Tryz.prog ops Q (o :: rest) a W := by
  obtain ⟨i0, hi0, hzz⟩ := Option.map_eq_some_iff.1 info_byte
  simp only [Prod.mk.injEq] at hzz
  obtain ⟨hz, hs1, hb1⟩ := hzz
  have hn : (⟨news.toArray⟩ : ByteArray).size = news.length := by simp [ByteArray.size]
  obtain ⟨v', w', hrun, hown, hgr, _⟩ := Lib.run_append_own_string (P := Tryz.prog) (w := W) base 143 9 o.type 5 i0 Tryz.underlying143 Tryz.underlying9 hi0 hz hs1 hb1 v l.length (l.map encU8) hB ⟨news.toArray⟩ (by rw [hn]; unfold maxLen; omega) (by rw [hn]; omega) hb
  have hown2 : Bytes w' base v' (l ++ news) := by
    unfold Bytes
    rw [List.length_append, List.map_append]
    rw [hn] at hown
    exact hown
  exact wpList_plain hgd fun K hK => by
    unfold Oper.wp execOp
    simp only [ho, resolve, invoke, builtin, Sem.run_bind, Sem.run_pure, Result.andThen_ok, List.map_toArray, List.map_cons, List.map_nil, hs, hx, hrun]
    exact hK _ _ (h v' w' hown2 hgr)
set_option maxHeartbeats 4000000 in
theorem appUint_any (v : Value) (l : Str) (x : Nat) (hx : x < 24) (w : World) (base : Nat) (hB : Bytes w base v l) (hb : base ≤ w.heap.size) (hl : l.length ≤ 1000) :
    Calls Tryz.prog 153 #[v, .int .u64 (x : Int), .int .i64 10] w fun e w' => (∃ v', e = .returned v' ∧ Bytes w' base v' (l ++ Lib.decDigits x)) ∧ Below base w w' := by
  have CS := Lib.hid (fun W => Tryz.internal_strconv_small x (by omega) W)
  have HB := Lib.hid hB
  have HLN := Lib.hid (show (Lib.decDigits x).length ≤ 2 by rw [decTwo8 (by omega)]; exact dec2_len x)
  have d1 : decide ((x : Int) < 100) = true := decide_eq_true (by omega)
  have d2 : (x : Int) < 100 := by omega
  have e1 : IntKind.i64.wrap (x : Int) = (x : Int) := by simp [IntKind.wrap, IntKind.bits, IntKind.signed]; omega
  clear hB
  go_enter Tryz.func153, Tryz.ntmps153
  go_wp2_with (first
    | (go_at_call 164; (with_reducible refine (CS.out _).mono ?_)
       rintro e w1 ⟨rfl, rfl⟩)
    | (at_builtin
       refine wpList_append_text rfl (.tmp 13) (.tmp 16) rfl base v l (Lib.decDigits x) rfl rfl HB.out hb (by have := HLN.out; omega) ?_
       intro v2 w2 ho2 hg2
       have HO2 := Lib.hid ho2
       have HB2 := Lib.hid ((Below.refl base w1).grown hg2 hb (fun k e => (World.ownsRow.lt HB.out k e).1))
       clear ho2 hg2)
    | fail)
  go_ret
  exact ⟨⟨_, rfl, HO2.out⟩, HB2.out⟩
set_option maxHeartbeats 4000000 in
theorem appInt0_any (v : Value) (l : Str) (x : Nat) (hx : x < 24) (w : World) (base : Nat) (hB : Bytes w base v l) (hb : base ≤ w.heap.size) (hl : l.length ≤ 1000) :
    Calls Tryz.prog 130 #[v, .int .i64 (x : Int), .int .i64 10] w fun e w' => (∃ v', e = .returned v' ∧ Bytes w' base v' (l ++ Lib.decDigits x)) ∧ Below base w w' := by
  have CU := Lib.hid (appUint_any v l x hx w base hB hb hl)
  have e1 : IntKind.u64.wrap (x : Int) = (x : Int) := by simp [IntKind.wrap, IntKind.bits, IntKind.signed]; omega
  have d1 : decide ((x : Int) < 0) = false := decide_eq_false (by omega)
  clear hB
  go_enter Tryz.func130, Tryz.ntmps130
  go_wp2_with (first
    | (go_at_call 153; (with_reducible refine CU.out.mono ?_)
       rintro e w1 ⟨⟨v1, rfl, h1⟩, hb1⟩
       have H1 := Lib.hid (And.intro h1 hb1)
       clear h1 hb1)
    | fail)
  go_ret
  exact ⟨⟨_, rfl, H1.out.1⟩, H1.out.2⟩
set_option maxHeartbeats 4000000 in
theorem appInt_any (v : Value) (l : Str) (x : Nat) (hx : x < 24) (w : World) (base : Nat) (hB : Bytes w base v l) (hb : base ≤ w.heap.size) (hl : l.length ≤ 1000) :
    Calls Tryz.prog 114 #[v, .int .i64 (x : Int), .int .i64 10] w fun e w' => (∃ v', e = .returned v' ∧ Bytes w' base v' (l ++ Lib.decDigits x)) ∧ Below base w w' := by
  have CU := Lib.hid (appInt0_any v l x hx w base hB hb hl)
  clear hB
  go_enter Tryz.func114, Tryz.ntmps114
  go_wp2_with (first
    | (go_at_call 130; (with_reducible refine CU.out.mono ?_)
       rintro e w1 ⟨⟨v1, rfl, h1⟩, hb1⟩
       have H1 := Lib.hid (And.intro h1 hb1)
       clear h1 hb1)
    | fail)
  go_ret
  exact ⟨⟨_, rfl, H1.out.1⟩, H1.out.2⟩
theorem Bytes.below8 {w w' : World} {base B : Nat} {v : Value} {l : Str} (h : Bytes w base v l) (hb : Below B w w') (hB : w.heap.size ≤ B) : Bytes w' base v l :=
  ownsRow_stay h (fun b e => hb.block b (by have := (World.ownsRow.lt h b e).2; omega))
set_option maxHeartbeats 8000000 in
theorem key_any (a : Option Addr) (n c : Nat) (l : List Nat) (w : World) (bound : Nat) (hbo : bound ≤ w.heap.size) (h : Nums w bound a n (rowI l)) (hl : ∀ x ∈ l, x < 24) (hn : n ≤ 24) :
    Calls Tryz.prog 84 #[.slice a n c] w fun e w' => e = .returned (.string (lxS (keyS l))) ∧ Below w.heap.size w w' := by
  have HN := Lib.hid h
  have HL := Lib.hid hl
  have HLN := Lib.hid (show l.length = n by have := h.1; rwa [rowI_len] at this)
  have hcv : ∀ (W : World) (v : Value) (s : Str), Bytes W w.heap.size v s → (convert 143 9 v).run Tryz.prog W = .ok (.string (lxS s)) W := fun W v s h => Bytes.text h
  have HCV := Lib.hid hcv
  clear h hl hcv
  go_enter Tryz.func84, Tryz.ntmps84
  go_wp2_with fail
  go_loopw [3, 8] (fun o i wr => ∃ (k : Nat) (v : Value), k ≤ n ∧ i = .int .i64 k ∧ v = o ∧ Hid (Bytes wr w.heap.size v (keyS (l.take k))) ∧ Hid (Below w.heap.size w wr)) (fun _ i _ => n - (intOf i).toNat)
  case atStart => exact ⟨0, _, Nat.zero_le _, rfl, rfl, Lib.hid (Bytes.zero _ _), Lib.hid (Below.refl _ _)⟩
  case round =>
    obtain ⟨k, v, hk, rfl, hvo, HO, HBr⟩ := hrel
    subst hvo
    have hzr := HBr.out.size
    by_cases hlt : k < n
    · obtain ⟨b, off, x, rfl, hbb, hx, hc⟩ := (HN.out.below (HBr.out.mono hbo)).at_ hlt
      obtain ⟨y, rfl, hy⟩ := rowI_at hx
      have hy24 := HL.out y (List.mem_of_getElem? hy)
      have i1 : (k : Int) < (n : Int) := by omega
      have i2 : (0 : Int) ≤ (k : Int) := by omega
      obtain ⟨kk, hkk⟩ : ∃ kk, kk = keyS (l.take k) := ⟨_, rfl⟩
      rw [← hkk] at HO
      have HST := Lib.hid (show keyS (l.take (k + 1)) = (kk ++ Lib.decDigits y) ++ [32] by rw [tuTake_at hy, keyS_snoc, hkk])
      have HKL := Lib.hid (show kk.length ≤ 72 by
        have h1 := keyS_len (l.take k) (fun x hx => HL.out x (List.mem_of_mem_take hx))
        rw [List.length_take, ← hkk] at h1
        omega)
      have HDL := Lib.hid (show (Lib.decDigits y).length ≤ 2 by rw [decTwo8 (by omega)]; exact dec2_len y)
      have CA := Lib.hid (appInt_any v kk y hy24 wr w.heap.size HO.out hzr (by have := HKL.out; omega))
      clear hx hy hkk
      go_wp2_with (first
        | (go_at_call 114; (with_reducible refine CA.out.mono ?_)
           rintro e w3 ⟨⟨v3, rfl, h3⟩, hb3⟩
           have HO3 := Lib.hid h3
           have HB3 := Lib.hid (HBr.out.trans hb3)
           clear h3 hb3)
        | (at_builtin
           refine wpList_append_bytes rfl (.tmp 14) (.tmp 15) rfl w.heap.size v3 (kk ++ Lib.decDigits y) [32] rfl rfl rfl HO3.out (by have := HB3.out.size; omega) (by rw [List.length_append, List.length_singleton]; have := HKL.out; have := HDL.out; omega) w HB3.out ?_
           intro v4 w4 ho4 hb4
           have HO4 := Lib.hid ho4
           have HB4 := Lib.hid hb4
           clear ho4 hb4)
        | fail)
      go_roundw
      case rel => exact ⟨k + 1, _, by omega, by go_num, rfl, Lib.hid (by rw [HST.out]; exact HO4.out), HB4⟩
      case measure => simp [intOf]; omega
    · have hall : l.take k = l := List.take_of_length_le (by have := HLN.out; omega)
      rw [hall] at HO
      have d1 : decide ((k : Int) < (n : Int)) = false := decide_eq_false (by omega)
      have hcv := HCV.out wr v (keyS l) HO.out
      clear hall
      go_wp2_with fail
      go_ret
      exact ⟨rfl, HBr.out⟩
end Go.Proofs.YtiofpeckcfdilaaGreatDoor

/- Contract of the view's look. -/
namespace Go.Proofs.YtiofpeckcfdilaaGreatDoor
open Go.RowKit Go.Maps Go.WideMaps

theorem startP_all8 {n : Nat} {l : List Nat} (h : ∀ x ∈ l, x < n) : startP n (rowI l) = l := by
  unfold startP rowI
  rw [List.filter_eq_self.2 (fun x hx => by
    obtain ⟨y, hy, rfl⟩ := List.mem_map.1 hx
    have := h y hy
    simp
    omega), List.map_map]
  rw [show (Int.toNat ∘ fun n : Nat => (n : Int)) = id from funext fun x => Int.toNat_natCast x, List.map_id]
theorem keyL_ne8 {x y : Str} (h : x ≠ y) : keyL x ≠ keyL y := by
  unfold keyL
  intro e
  injection e with e
  exact h e
/-- The block holds a map from each text of the row to its index there. -/
def KMap (w : World) (b : Nat) (row : List Str) : Prop :=
  ∃ (n : Nat) (D : DataW Unit), w.ownsMap Tryz.prog 9 (plainElem Tryz.prog 3) b n D ∧ n ≤ row.length ∧ row.length ≤ 1000 ∧
    ∀ s : Str, D.atKey (keyL s) (.lit (.int .i64 0)) = .lit (.int .i64 ((if s ∈ row then row.idxOf s else 0 : Nat) : Int)) ∧ Maps.has D (keyL s) = decide (s ∈ row)
theorem KMap.made (w : World) : KMap (w.alloc (.map #[] 0)) w.heap.size [] :=
  ⟨0, .map [], World.ownsMap_made _ _ _ _, Nat.le_refl _, by simp, fun x => ⟨rfl, rfl⟩⟩
theorem KMap.lt {w : World} {b : Nat} {row : List Str} (h : KMap w b row) : b < w.heap.size := by
  obtain ⟨n, D, h1, _⟩ := h
  exact h1.lt
theorem KMap.block {w w' : World} {b : Nat} {row : List Str} (h : KMap w b row) (hb : w'.heap[b]? = w.heap[b]?) : KMap w' b row := by
  obtain ⟨n, D, ⟨es, clock, h1, h2⟩, h3⟩ := h
  exact ⟨n, D, ⟨es, clock, hb.trans h1, h2⟩, h3⟩
theorem zeroInt8 (w : World) : (zeroValue 3).run Tryz.prog w = .ok (.int .i64 0) w := by kernel_rfl
theorem intwf8 {x : Nat} (h : x ≤ 1000000) : (Lit.int .i64 (x : Int)).wf = true := WalkArith.wf_i64 (by omega)
theorem KMap.look_ok {w : World} {b : Nat} {row : List Str} (h : KMap w b row) {x : Str} (hx : x.length ≤ maxLen) :
    (Instr.lookup 94 (.map (some b)) (.string (lxS x)) true).run Tryz.prog w = .ok (.tuple #[.int .i64 ((if x ∈ row then row.idxOf x else 0 : Nat) : Int), .bool (decide (x ∈ row))]) w := by
  obtain ⟨n, D, h1, _, _, h4⟩ := h
  have hw0 : (Lit.int .i64 0).wf = true := by decide
  obtain ⟨v, ps, hrun, hv⟩ := h1.look_ok keyed9 Tryz.underlying94 (zeroInt8 w) (plainElem_int Tryz.underlying3 hw0) (show keyOf Tryz.prog 9 (.string (lxS x)) = some (keyL x) from key_ok x hx)
  obtain ⟨c, rfl, hc, _⟩ := plainElem_int_inv Tryz.underlying3 hv
  obtain ⟨h5, h6⟩ := h4 x
  have h7 := (Lit.int.inj (DataW.lit.inj ((congrArg Prod.fst hc).symm.trans h5))).2
  rw [h6] at hrun
  subst h7
  exact hrun
theorem KMap.put {w : World} {b : Nat} {row : List Str} (h : KMap w b row) {x : Str} (hx : x.length ≤ maxLen) (hm : x ∉ row) (hl : row.length ≤ 900) :
    ∃ w', (Instr.mapUpdate 94 (.map (some b)) (.string (lxS x)) (.int .i64 ((row.length : Nat) : Int))).run Tryz.prog w = .ok () w' ∧ KMap w' b (row ++ [x]) ∧ w.grownBy w' (some b) := by
  obtain ⟨n, D, h1, h2, h3, h4⟩ := h
  obtain ⟨w', hrun, hown, hgr⟩ := h1.update keyed9 Tryz.underlying94 (by unfold maxLen; omega) (show keyOf Tryz.prog 9 (.string (lxS x)) = some (keyL x) from key_ok x hx) (plainElem_int Tryz.underlying3 (intwf8 (x := row.length) (by omega)))
  refine ⟨w', hrun, ⟨n + 1, _, hown, by simp; omega, by simp; omega, fun y => ?_⟩, hgr⟩
  by_cases e : y = x
  · subst e
    constructor
    · rw [atKey_put_same h1.isMap (show WideAt.IsKeyLit (keyL y) from trivial)]
      rw [if_pos (by simp), List.idxOf_append, if_neg hm]
      simp
    · rw [has_put_same h1.isMap (show WideAt.IsKeyLit (keyL y) from trivial)]
      simp
  · have hne := keyL_ne8 e
    obtain ⟨h5, h6⟩ := h4 y
    have hiff : y ∈ row ++ [x] ↔ y ∈ row := by simp [e]
    constructor
    · rw [atKey_put_other hne, h5]
      by_cases hy : y ∈ row
      · rw [if_pos hy, if_pos (hiff.2 hy), List.idxOf_append, if_pos hy]
      · rw [if_neg hy, if_neg (fun c => hy (hiff.1 c))]
    · rw [has_put_other hne, h6, decide_eq_decide.2 hiff]
theorem wpList_mapUpdate_key {ops : Array Oper} {rest : List Oper} {o : Oper} {a : Act} {Q : Exit → Act → World → Prop} {W : World} (hg : o.guard = none) (m x v : Operand) (hop : o.op = Op.mapUpdate 94 m x v)
    (b : Nat) (row : List Str) (hm : a.eval m = .map (some b)) (hown : KMap W b row) (y : Str) (hy : y.length ≤ maxLen) (hn : y ∉ row) (hl : row.length ≤ 900) (hx : a.eval x = .string (lxS y)) (hv : a.eval v = .int .i64 ((row.length : Nat) : Int))
    (hK : ∀ w', KMap w' b (row ++ [y]) → W.grownBy w' (some b) → wpList Tryz.prog ops Q rest (a.put o.dst undef) w') :
    wpList Tryz.prog ops Q (o :: rest) a W := by
  refine wpList_plain hg fun K' hK' => ?_
  obtain ⟨w', hrun, r1, r2⟩ := hown.put hy hn hl
  unfold Oper.wp
  simp [execOp, hop, hm, hx, hv, hrun, Result.andThen]
  exact hK' _ _ (hK w' r1 r2)
theorem key_mem {n : Nat} {ns : List (List Nat)} {l : List Nat} (hn : n ≤ 24) (hns : ∀ m ∈ ns, ∀ x ∈ m, x < n) (hl : ∀ x ∈ l, x < n) : keyS l ∈ ns.map keyS ↔ l ∈ ns := by
  rw [List.mem_map]
  exact ⟨fun ⟨m, hm, e⟩ => by rw [← keyS_inj (fun x hx => by have := hns m hm x hx; omega) (fun x hx => by have := hl x hx; omega) e]; exact hm, fun h => ⟨l, h, rfl⟩⟩
theorem key_idx {n : Nat} (hn : n ≤ 24) {l : List Nat} (hl : ∀ x ∈ l, x < n) : ∀ {ns : List (List Nat)}, (∀ m ∈ ns, ∀ x ∈ m, x < n) → (ns.map keyS).idxOf (keyS l) = ns.idxOf l
  | [], _ => rfl
  | m :: ns, h => by
    rw [List.map_cons, List.idxOf_cons, List.idxOf_cons]
    by_cases e : m = l
    · subst e
      simp
    · have hk : keyS m ≠ keyS l := fun c => e (keyS_inj (fun x hx => by have := h m (by simp) x hx; omega) (fun x hx => by have := hl x hx; omega) c)
      rw [beq_eq_false_iff_ne.2 e, beq_eq_false_iff_ne.2 hk, cond_false, cond_false, key_idx hn hl (fun q hq => h q (by simp [hq]))]
/-- A view, with the near sets that it has met. -/
structure VIn (W : World) (B0 base g mb : Nat) (k : VC) (la : Option Addr) (lc : Nat) (na : Option Addr) (nn nc : Nat) (rs : List Str) (ps : List PointL) (ns : List (List Nat)) (U : List Nat) : Prop where
  box : VBox W g k la k.n lc na nn nc mb
  pts : Pts W B0 k.a k.n ps
  roles : Strs W B0 k.ra k.rn rs
  name : k.nm.size ≤ maxLen
  ok : protB k.nm.toList rs ps = true
  has : hasS rs k.r.toList = true
  lost : ∃ lb, la = some ⟨lb, 0, none⟩ ∧ B0 ≤ lb ∧ lb < base ∧ lb ≠ g ∧ lb ≠ mb ∧ ∀ j, j < k.n → W.cell? ⟨lb, j, none⟩ = some (.bool (lostP ps k.r.toList j))
  nears : NOwn W base (.slice na nn nc) ns U
  map : KMap W mb (ns.map keyS)
  low : B0 ≤ g ∧ B0 ≤ mb ∧ g < base ∧ mb < base ∧ g ≠ mb ∧ base ≤ W.heap.size
  few : ns.length ≤ 40
  small : ∀ l ∈ ns, ∀ x ∈ l, x < k.n
section
variable {W W' : World} {B0 base g mb : Nat} {k : VC} {la na : Option Addr} {lc nn nc : Nat} {rs : List Str} {ps : List PointL} {ns : List (List Nat)} {U : List Nat}
theorem VIn.prot (h : VIn W B0 base g mb k la lc na nn nc rs ps ns U) : VProt W k rs ps :=
  ⟨h.pts.more (by have := h.low; omega), h.roles.more (by have := h.low; omega), h.name, h.ok⟩
theorem VIn.marks (h : VIn W B0 base g mb k la lc na nn nc rs ps ns U) : LMk W la k.n (lostP ps k.r.toList) := by
  obtain ⟨lb, e, _, h2, _, _, h5⟩ := h.lost
  exact ⟨lb, e, by have := h.low; omega, h5⟩
theorem VIn.len (h : VIn W B0 base g mb k la lc na nn nc rs ps ns U) : nn = ns.length := by
  obtain ⟨a, c, e⟩ := h.nears.form
  exact (Value.slice.inj e).2.1
theorem VIn.on (h : VIn W B0 base g mb k la lc na nn nc rs ps ns U) (hb : Below W.heap.size W W') : VIn W' B0 base g mb k la lc na nn nc rs ps ns U := by
  have hl := h.low
  have hz := hb.size
  refine ⟨h.box.on hb, h.pts.below (hb.mono (by omega)), h.roles.below (hb.mono (by omega)), h.name, h.ok, h.has, ?_, h.nears.stay hz (fun b e => hb.block b (h.nears.lt b e).2) (fun u hu => hb.block u (h.nears.used u hu).2.1), h.map.block (hb.block mb (by omega)), by omega, h.few, h.small⟩
  obtain ⟨lb, e, h1, h2, h3, h4, h5⟩ := h.lost
  exact ⟨lb, e, h1, h2, h3, h4, fun j hj => (hb.cell (p := ⟨lb, j, none⟩) (by show lb < _; omega)).trans (h5 j hj)⟩
/-- A view stays where its own blocks stay. -/
theorem VIn.stayed (h : VIn W B0 base g mb k la lc na nn nc rs ps ns U) (hb : Below B0 W W') (hk : ∀ b, b < W.heap.size → (b < base ∨ b ∈ U ∨ (Value.slice na nn nc).ownBlock = some b) → W'.heap[b]? = W.heap[b]?) : VIn W' B0 base g mb k la lc na nn nc rs ps ns U := by
  have hl := h.low
  have hz := hb.size
  refine ⟨h.box.block (hk g (by omega) (.inl (by omega))), h.pts.below hb, h.roles.below hb, h.name, h.ok, h.has, ?_, h.nears.stay hz (fun b e => hk b (h.nears.lt b e).2 (.inr (.inr e))) (fun u hu => hk u (h.nears.used u hu).2.1 (.inr (.inl hu))), h.map.block (hk mb (by omega) (.inl (by omega))), by omega, h.few, h.small⟩
  obtain ⟨lb, e, h1, h2, h3, h4, h5⟩ := h.lost
  exact ⟨lb, e, h1, h2, h3, h4, fun j hj => (World.cell?_of_block (a := ⟨lb, j, none⟩) (hk lb (by omega) (.inl h2))).trans (h5 j hj)⟩
end
/-- What a call on a view may have changed: its box, its map, the row of its near sets. -/
structure Aside (B0 g mb : Nat) (v v' : Value) (W W' : World) : Prop where
  bel : Below B0 W W'
  keep : ∀ b, b < W.heap.size → b ≠ g → b ≠ mb → v.ownBlock ≠ some b → W'.heap[b]? = W.heap[b]?
  own : ∀ b, b < W.heap.size → v.ownBlock ≠ some b → v'.ownBlock ≠ some b
theorem Aside.of_below {B0 g mb : Nat} {v : Value} {W W' : World} (hB : B0 ≤ W.heap.size) (hb : Below W.heap.size W W') : Aside B0 g mb v v W W' :=
  ⟨hb.mono hB, fun b h _ _ _ => hb.block b h, fun _ _ h => h⟩
theorem Aside.trans {B0 g mb : Nat} {v v' v2 : Value} {W W' W2 : World} (h : Aside B0 g mb v v' W W') (h2 : Aside B0 g mb v' v2 W' W2) : Aside B0 g mb v v2 W W2 :=
  ⟨h.bel.trans h2.bel, fun b hb hg hm hv => (h2.keep b (by have := h.bel.size; omega) hg hm (h.own b hb hv)).trans (h.keep b hb hg hm hv), fun b hb hv => h2.own b (by have := h.bel.size; omega) (h.own b hb hv)⟩
/-- What look answers. -/
def LookRet (W : World) (B0 base g mb : Nat) (k : VC) (la : Option Addr) (lc : Nat) (v : Value) (rs : List Str) (ps : List PointL) (U : List Nat) (r : Except Int (Nat × List (List Nat))) (e : Ending) (w' : World) : Prop :=
  match r with
  | .error er => e = .returned (.tuple #[.int .i64 0, .int .i64 er]) ∧ Below W.heap.size W w'
  | .ok (j, ns') => e = .returned (.tuple #[.int .i64 (j : Int), .int .i64 0]) ∧ ∃ na' nn' nc' U', VIn w' B0 base g mb k la lc na' nn' nc' rs ps ns' U' ∧ Aside B0 g mb v (.slice na' nn' nc') W w' ∧ ∀ u ∈ U', u ∈ U ∨ W.heap.size ≤ u
theorem isIn8 {a b : Nat} (h : a = b) : ((a : Int) == (b : Int)) = true := by rw [h]; simp
set_option maxHeartbeats 16000000 in
set_option maxRecDepth 20000 in
theorem look_any (B0 base g mb : Nat) (k : VC) (la na : Option Addr) (lc nn nc : Nat) (rs : List Str) (ps : List PointL) (ns : List (List Nat)) (U : List Nat) (va : Option Addr) (vn vc : Nat) (s : List Nat) (w : World) (hV : VIn w B0 base g mb k la lc na nn nc rs ps ns U) (hs : Nums w w.heap.size va vn (rowI s)) (hsn : ∀ x ∈ s, x < k.n) :
    Calls Tryz.prog 51 #[.pointer (some ⟨g, 0, none⟩), .slice va vn vc] w fun e w' => LookRet w B0 base g mb k la lc (.slice na nn nc) rs ps U (lookP ps k.r.toList ns s) e w' := by
  have HV := Lib.hid hV
  have HS := Lib.hid hs
  have CM := Lib.hid (mayBe_any g k la na lc nn nc mb rs ps va vn vc s w hV.box hV.prot hV.marks hs hsn)
  have hn24 := hV.prot.few
  have hlen := hV.prot.len
  have HNQ := Lib.hid (show nearQ k.nm.toList rs ps k.r.toList (rowI s) = nearP ps k.r.toList s by
    unfold nearQ
    rw [hV.ok, hV.has, hlen, startP_all8 hsn]
    rfl)
  have hsm : ∀ x ∈ nearP ps k.r.toList s, x < k.n := fun x hx => by
    unfold nearP spanP at hx
    have := List.mem_range.1 (List.mem_filter.1 (List.mem_filter.1 hx).1).1
    omega
  have hnl : (nearP ps k.r.toList s).length ≤ 24 := by
    unfold nearP spanP
    have h1 := List.length_filter_le (fun p => inP (pointOf ps p) k.r.toList) ((List.range ps.length).filter fun p => decide (p ∈ metL (outsP ps k.r.toList) ps.length s))
    have h2 := List.length_filter_le (fun p => decide (p ∈ metL (outsP ps k.r.toList) ps.length s)) (List.range ps.length)
    rw [List.length_range] at h2
    omega
  obtain ⟨L, hL⟩ : ∃ L, L = nearP ps k.r.toList s := ⟨_, rfl⟩
  have hlk : lookP ps k.r.toList ns s = if mixedP ps k.r.toList s then .error 801 else if L ∈ ns then .ok (ns.idxOf L, ns) else if ns.length = 40 then .error 805 else .ok (ns.length, ns ++ [L]) := by
    unfold lookP
    rw [← hL]
  rw [← hL] at hsm hnl HNQ
  rw [hlk]
  have HSM := Lib.hid hsm
  clear hV hs hsn hlk hL hsm hlen
  cases hmx : mixedP ps k.r.toList s
  · rw [hmx] at CM
    have CN := Lib.hid (fun (W : World) (hW : Below w.heap.size w W) => (PIn.near (rc := k.rc) (c := k.c) (show PIn W k.nm k.ra k.rn rs k.a k.n ps from ⟨HV.out.name, (HV.out.prot.on hW).roles, (HV.out.prot.on hW).pts⟩) k.r vc (HS.out.on hW)).mono fun e w2 h => (⟨by
      obtain ⟨v, e1, e2⟩ := h.1
      rw [HNQ.out] at e2
      exact ⟨v, e1, e2⟩, below_on hW h.2⟩ : (∃ v, e = .returned v ∧ IInts w2 W.heap.size v (rowI L)) ∧ Below w.heap.size w w2))
    have HK := Lib.hid (fun (W : World) (hW : Below w.heap.size w W) => (HV.out.on hW).box.cells)
    obtain ⟨xn, hxn⟩ : ∃ xn, xn = L.length := ⟨_, rfl⟩
    have HXN := Lib.hid hxn
    rw [← hxn] at hnl
    have HKL := Lib.hid (show (keyS L).length ≤ maxLen by
      have h1 := keyS_len L (fun x hx => by have := HSM.out x hx; omega)
      unfold maxLen
      omega)
    have HNN := Lib.hid HV.out.len
    have hns40 := HV.out.few
    rw [if_neg (show ¬ (false = true) by simp)]
    clear hmx hxn
    by_cases hm : L ∈ ns
    · rw [if_pos hm]
      have LK := Lib.hid (fun (W : World) (hW : Below w.heap.size w W) => show (Instr.lookup 94 (.map (some mb)) (.string (lxS (keyS L))) true).run Tryz.prog W = .ok (.tuple #[.int .i64 ((ns.idxOf L : Nat) : Int), .bool true]) W from by
        have h1 := (HV.out.on hW).map.look_ok HKL.out
        have h2 := (key_mem hn24 HV.out.small HSM.out).2 hm
        rwa [if_pos h2, decide_eq_true h2, key_idx hn24 HSM.out HV.out.small] at h1)
      clear hm
      go_enter Tryz.func51, Tryz.ntmps51
      go_upto_region 3 with (first
        | (go_at_call 82; (with_reducible refine CM.out.mono ?_)
           rintro e w1 ⟨rfl, hb1⟩
           have HB1 := Lib.hid hb1
           have hz1 := hb1.size
           clear hb1)
        | fail)
      have H0 := Lib.hid (show Below w.heap.size w w1.drew from bel_drewN HB1.out 1)
      go_region_held3 (fun W => W.cell? ⟨g, 0, none⟩ = some (.string k.nm) ∧ W.cell? ⟨g, 1, none⟩ = some (.slice k.ra k.rn k.rc) ∧ W.cell? ⟨g, 2, none⟩ = some (.slice k.a k.n k.c) ∧ W.cell? ⟨g, 3, none⟩ = some (.string k.r) ∧ W.cell? ⟨g, 4, none⟩ = some (.slice la k.n lc) ∧ W.cell? ⟨g, 5, none⟩ = some (.slice na nn nc) ∧ W.cell? ⟨g, 6, none⟩ = some (.map (some mb)))
      (first | exact HK.out _ H0.out | exact HK.out _ H2.out)
      (first
      | (go_at_call 83; (with_reducible refine (CN.out _ H0.out).mono ?_)
         rintro e w2 ⟨⟨v2, rfl, h2⟩, hb2⟩
         obtain ⟨xa, xc, hv2, _, _, _, hnu⟩ := h2.sees
         rw [rowI_len, ← HXN.out] at hv2 hnu
         subst hv2
         have H2 := Lib.hid hb2
         have HX2 := Lib.hid (show ∀ u ∈ blk xa, w1.heap.size ≤ u ∧ u < w2.heap.size from fun u hu => World.ownsRow.lt h2 u (blk_own hu))
         have HN2 := Lib.hid hnu
         clear hb2 h2 hnu)
      | fail)
      have CK := Lib.hid (key_any xa xn xc L w2 _ (Nat.le_refl _) HN2.out (fun x hx => by have := HSM.out x hx; omega) (by omega))
      go_wp2_with (first
        | (go_at_call 84; (with_reducible refine CK.out.mono ?_)
           rintro e w3 ⟨rfl, hb3⟩
           have HB3 := Lib.hid (below_on H2.out hb3)
           have HN3 := Lib.hid (HN2.out.on hb3)
           have hz3 := hb3.size
           have hlk := LK.out w3 HB3.out
           obtain ⟨_, _, _, _, _, _, _⟩ := HK.out _ HB3.out
           clear hb3)
        | fail)
      go_ret2
      exact ⟨rfl, na, nn, nc, U, HV.out.on HB3.out, Aside.of_below (by have := HV.out.low; omega) HB3.out, fun u hu => .inl hu⟩
    · rw [if_neg hm]
      have HNM := Lib.hid (show ¬ keyS L ∈ ns.map keyS from fun h => hm ((key_mem hn24 HV.out.small HSM.out).1 h))
      have LK := Lib.hid (fun (W : World) (hW : Below w.heap.size w W) => show (Instr.lookup 94 (.map (some mb)) (.string (lxS (keyS L))) true).run Tryz.prog W = .ok (.tuple #[.int .i64 0, .bool false]) W from by
        have h1 := (HV.out.on hW).map.look_ok HKL.out
        rwa [if_neg HNM.out, decide_eq_false HNM.out] at h1)
      clear hm
      by_cases h40 : ns.length = 40
      · rw [if_pos h40]
        have d4 : ((nn : Int) == 40) = true := by rw [beq_iff_eq, HNN.out, h40]; rfl
        clear h40 hns40
        go_enter Tryz.func51, Tryz.ntmps51
        go_upto_region 3 with (first
          | (go_at_call 82; (with_reducible refine CM.out.mono ?_)
             rintro e w1 ⟨rfl, hb1⟩
             have HB1 := Lib.hid hb1
             have hz1 := hb1.size
             clear hb1)
          | fail)
        have H0 := Lib.hid (show Below w.heap.size w w1.drew from bel_drewN HB1.out 1)
        go_region_held3 (fun W => W.cell? ⟨g, 0, none⟩ = some (.string k.nm) ∧ W.cell? ⟨g, 1, none⟩ = some (.slice k.ra k.rn k.rc) ∧ W.cell? ⟨g, 2, none⟩ = some (.slice k.a k.n k.c) ∧ W.cell? ⟨g, 3, none⟩ = some (.string k.r) ∧ W.cell? ⟨g, 4, none⟩ = some (.slice la k.n lc) ∧ W.cell? ⟨g, 5, none⟩ = some (.slice na nn nc) ∧ W.cell? ⟨g, 6, none⟩ = some (.map (some mb)))
        (first | exact HK.out _ H0.out | exact HK.out _ H2.out)
        (first
        | (go_at_call 83; (with_reducible refine (CN.out _ H0.out).mono ?_)
           rintro e w2 ⟨⟨v2, rfl, h2⟩, hb2⟩
           obtain ⟨xa, xc, hv2, _, _, _, hnu⟩ := h2.sees
           rw [rowI_len, ← HXN.out] at hv2 hnu
           subst hv2
           have H2 := Lib.hid hb2
           have HX2 := Lib.hid (show ∀ u ∈ blk xa, w1.heap.size ≤ u ∧ u < w2.heap.size from fun u hu => World.ownsRow.lt h2 u (blk_own hu))
           have HN2 := Lib.hid hnu
           clear hb2 h2 hnu)
        | fail)
        have CK := Lib.hid (key_any xa xn xc L w2 _ (Nat.le_refl _) HN2.out (fun x hx => by have := HSM.out x hx; omega) (by omega))
        go_wp2_with (first
          | (go_at_call 84; (with_reducible refine CK.out.mono ?_)
             rintro e w3 ⟨rfl, hb3⟩
             have HB3 := Lib.hid (below_on H2.out hb3)
             have HN3 := Lib.hid (HN2.out.on hb3)
             have hz3 := hb3.size
             have hlk := LK.out w3 HB3.out
             obtain ⟨_, _, _, _, _, _, _⟩ := HK.out _ HB3.out
             clear hb3)
          | fail)
        go_ret2
        exact ⟨rfl, HB3.out⟩
      · rw [if_neg h40]
        have d4 : ((nn : Int) == 40) = false := by rw [beq_eq_false_iff_ne, HNN.out]; omega
        have HNV := Lib.hid (show Value.int .i64 (nn : Int) = Value.int .i64 (((ns.map keyS).length : Nat) : Int) by rw [HNN.out, List.length_map])
        have H39 := Lib.hid (show ns.length ≤ 39 by omega)
        have HLOW := Lib.hid HV.out.low
        have HOB := Lib.hid HV.out.nears.lt
        have HUS := Lib.hid HV.out.nears.used
        clear h40 hns40
        go_enter Tryz.func51, Tryz.ntmps51
        go_upto_region 3 with (first
          | (go_at_call 82; (with_reducible refine CM.out.mono ?_)
             rintro e w1 ⟨rfl, hb1⟩
             have HB1 := Lib.hid hb1
             have hz1 := hb1.size
             clear hb1)
          | fail)
        have H0 := Lib.hid (show Below w.heap.size w w1.drew from bel_drewN HB1.out 1)
        go_region_held3 (fun W => W.cell? ⟨g, 0, none⟩ = some (.string k.nm) ∧ W.cell? ⟨g, 1, none⟩ = some (.slice k.ra k.rn k.rc) ∧ W.cell? ⟨g, 2, none⟩ = some (.slice k.a k.n k.c) ∧ W.cell? ⟨g, 3, none⟩ = some (.string k.r) ∧ W.cell? ⟨g, 4, none⟩ = some (.slice la k.n lc) ∧ W.cell? ⟨g, 5, none⟩ = some (.slice na nn nc) ∧ W.cell? ⟨g, 6, none⟩ = some (.map (some mb)))
        (first | exact HK.out _ H0.out | exact HK.out _ H2.out)
        (first
        | (go_at_call 83; (with_reducible refine (CN.out _ H0.out).mono ?_)
           rintro e w2 ⟨⟨v2, rfl, h2⟩, hb2⟩
           obtain ⟨xa, xc, hv2, _, _, _, hnu⟩ := h2.sees
           rw [rowI_len, ← HXN.out] at hv2 hnu
           subst hv2
           have H2 := Lib.hid hb2
           have HX2 := Lib.hid (show ∀ u ∈ blk xa, w1.heap.size ≤ u ∧ u < w2.heap.size from fun u hu => World.ownsRow.lt h2 u (blk_own hu))
           have HN2 := Lib.hid hnu
           clear hb2 h2 hnu)
        | fail)
        have CK := Lib.hid (key_any xa xn xc L w2 _ (Nat.le_refl _) HN2.out (fun x hx => by have := HSM.out x hx; omega) (by omega))
        go_wp2_with (first
          | (go_at_call 84; (with_reducible refine CK.out.mono ?_)
             rintro e w3 ⟨rfl, hb3⟩
             have HB3 := Lib.hid (below_on H2.out hb3)
             have HN3 := Lib.hid (HN2.out.on hb3)
             have hz3 := hb3.size
             have hlk := LK.out w3 HB3.out
             obtain ⟨_, _, _, _, _, _, _⟩ := HK.out _ HB3.out
             clear hb3)
          | (at_mapUpdate
             refine wpList_mapUpdate_key rfl (.tmp 47) (.tmp 48) (.tmp 49) rfl mb (ns.map keyS) rfl (HV.out.on HB3.out).map (keyS L) HKL.out HNM.out (by rw [List.length_map]; have := H39.out; omega) rfl HNV.out ?_
             intro w4 hk4 hg4
             have hz4 := hg4.size
             have HG4 := Lib.hid (show ∀ b, b < w3.heap.size → b ≠ mb → w4.heap[b]? = w3.heap[b]? from fun b h1 h2 => hg4.block b h1 (fun e => h2 (Option.some.inj e)))
             have HM4 := Lib.hid hk4
             have HBA4 := Lib.hid (show Below B0 w w4 from (HB3.out.mono (by have := HLOW.out; omega)).grown hg4 (by have := HLOW.out; have := HB3.out.size; omega) (fun j e => by cases e; exact HLOW.out.2.1))
             have HX4 := Lib.hid (show VBox w4 g k la k.n lc na nn nc mb from (HG4.out g (by have := HLOW.out; have := HB3.out.size; omega) HLOW.out.2.2.2.2.1).trans (HV.out.on HB3.out).box)
             have HO4 := Lib.hid ((HV.out.on HB3.out).nears.stay hz4 (fun b e => HG4.out b (by have := HOB.out b e; have := HB3.out.size; omega) (by have := HOB.out b e; have := HLOW.out; omega)) (fun u hu => HG4.out u (by have := HUS.out u hu; have := HB3.out.size; omega) (by have := HUS.out u hu; have := HLOW.out; omega)))
             have HN4 := Lib.hid (HN3.out.stay hz4 (fun b off e => HG4.out b (by have := HX2.out b (blk_some e); omega) (by have := HX2.out b (blk_some e); have := HLOW.out; have := HB1.out.size; omega)))
             obtain ⟨_, _, _, _, _, _, _⟩ := HX4.out.cells
             clear hk4 hg4)
          | (at_builtin
             refine wpList_append_near rfl (.tmp 54) (.tmp 56) rfl base (.slice na nn nc) ns U xa xn xc L rfl rfl rfl rfl HO4.out HN4.out (fun b e => by
               have h1 := HX2.out b e
               have h2 := HLOW.out
               have h3 := HB1.out.size
               refine ⟨by omega, by omega, fun e2 => ?_⟩
               have := (HOB.out b e2).2
               omega) (by have := HLOW.out; have := HB3.out.size; omega) (by have := H39.out; omega) ?_
             intro v5 w5 ho5 hg5 hat5
             obtain ⟨a5, c5, hv5⟩ := ho5.form
             obtain ⟨n5, hn5⟩ : ∃ n5, n5 = (ns ++ [L]).length := ⟨_, rfl⟩
             rw [← hn5] at hv5
             clear hn5
             subst hv5
             have hz5 := hg5.size
             rw [World.size_alloc] at hz5
             have HG5 := Lib.hid (show ∀ b, b < w4.heap.size → (Value.slice na nn nc).ownBlock ≠ some b → w5.heap[b]? = w4.heap[b]? from fun b h1 h2 => (hg5.block b (by simp; omega) (fun e => h2 e.symm)).trans ((tu1 w4 _).block b h1))
             have HO5 := Lib.hid ho5
             have HA5 := Lib.hid hat5
             have HBA5 := Lib.hid (show Below B0 w w5 from (HBA4.out.alloc (by have := HLOW.out; have := HB3.out.size; omega) _).grown hg5 (by have := HLOW.out; have := HB3.out.size; simp; omega) (fun j e => by have := (HOB.out j e).1; have := HLOW.out; omega))
             have HX5 := Lib.hid (show VBox w5 g k la k.n lc na nn nc mb from (HG5.out g (by have := HLOW.out; have := HB3.out.size; omega) (fun e => by have := (HOB.out g e).1; have := HLOW.out; omega)).trans HX4.out)
             obtain ⟨_, _, _, _, _, _, _⟩ := HX5.out.cells
             have vf5 := HX5.out.thaw 5
             clear ho5 hg5 hat5)
          | fail)
        go_ret2
        have hl := HLOW.out
        have hzw := HB3.out.size
        have hkeep : ∀ b, b < w.heap.size → b ≠ g → b ≠ mb → (Value.slice na nn nc).ownBlock ≠ some b → (w5.setCell ⟨g, 5, none⟩ (.slice a5 n5 c5)).heap[b]? = w.heap[b]? := fun b h1 h2 h3 h4 =>
          (heap_setCell_ne h2).trans ((HG5.out b (by omega) h4).trans ((HG4.out b (by omega) h3).trans (HB3.out.block b h1)))
        have hbel : Below B0 w (w5.setCell ⟨g, 5, none⟩ (.slice a5 n5 c5)) := HBA5.out.setCell hl.1 _
        refine ⟨by show Ending.returned (.tuple #[.int .i64 (nn : Int), .int .i64 0]) = _; rw [HNN.out], a5, n5, c5, U ++ blk xa, ⟨HX5.out.setNears, HV.out.pts.below hbel, HV.out.roles.below hbel, HV.out.name, HV.out.ok, HV.out.has, ?_, ?_, ?_, ⟨hl.1, hl.2.1, hl.2.2.1, hl.2.2.2.1, hl.2.2.2.2.1, by rw [World.size_setCell]; omega⟩, by rw [List.length_append, List.length_singleton]; have := H39.out; omega, ?_⟩, ⟨hbel, hkeep, ?_⟩, ?_⟩
        · obtain ⟨lb, e, h1, h2, h3, h4, h5⟩ := HV.out.lost
          exact ⟨lb, e, h1, h2, h3, h4, fun j hj => (World.cell?_of_block (a := ⟨lb, j, none⟩) (hkeep lb (by omega) h3 h4 (fun e => by have := (HOB.out lb e).1; omega))).trans (h5 j hj)⟩
        · exact HO5.out.stay (by rw [World.size_setCell]; exact Nat.le_refl _) (fun b e => heap_setCell_ne (by have := HO5.out.lt b e; omega)) (fun u hu => heap_setCell_ne (by have := HO5.out.used u hu; omega))
        · rw [List.map_append]
          exact HM4.out.block ((heap_setCell_ne (by omega)).trans (HG5.out mb (by omega) (fun e => by have := (HOB.out mb e).1; omega)))
        · intro l h x hx
          rcases List.mem_append.1 h with h | h
          · exact HV.out.small l h x hx
          · obtain rfl := List.mem_singleton.1 h
            exact HSM.out x hx
        · intro b hb hne
          rcases HA5.out with h | h
          · rw [h]; exact hne
          · rw [h]
            intro e
            have := Option.some.inj e
            omega
        · intro u hu
          rcases List.mem_append.1 hu with h | h
          · exact .inl h
          · exact .inr (by have := HX2.out u h; omega)
  · rw [hmx] at CM
    rw [if_pos rfl]
    clear hmx
    go_enter Tryz.func51, Tryz.ntmps51
    go_wp2_with (first
      | (go_at_call 82; (with_reducible refine CM.out.mono ?_)
         rintro e w1 ⟨rfl, hb1⟩
         have HB1 := Lib.hid hb1
         clear hb1)
      | fail)
    go_ret2
    exact ⟨rfl, HB1.out⟩
end Go.Proofs.YtiofpeckcfdilaaGreatDoor

/- Contracts of the program's armsOf and sameCarries. -/
namespace Go.Proofs.YtiofpeckcfdilaaGreatDoor
open Go.RowKit

theorem flat_le {α β : Type} (g : α → List β) (f : List α) (k : Nat) : ((f.take k).flatMap g).length ≤ (f.flatMap g).length := by
  conv => rhs; rw [← List.take_append_drop k f, List.flatMap_append, List.length_append]
  omega
theorem armsAt_le (f : List PointL) (s : Str) : (armsAt f s).length ≤ (f.flatMap PointL.arms).length := List.length_filter_le _ _
theorem armsAt_more {f : List PointL} {k : Nat} {x : PointL} (h : f[k]? = some x) (s : Str) : armsAt (f.take (k + 1)) s = armsAt (f.take k) s ++ x.arms.filter fun a => a.label == s := by
  unfold armsAt
  rw [tuTake_at h, List.flatMap_append, List.filter_append]
  congr 1
  simp
theorem flat_more {α β : Type} (g : α → List β) {f : List α} {k : Nat} {x : α} (h : f[k]? = some x) : (f.take (k + 1)).flatMap g = (f.take k).flatMap g ++ g x := by
  rw [tuTake_at h, List.flatMap_append]
  simp
set_option maxHeartbeats 16000000 in
set_option maxRecDepth 20000 in
theorem armsOf_any (a : Option Addr) (n c : Nat) (f : List PointL) (lab : ByteArray) (w : World) (bound : Nat) (hb : bound ≤ w.heap.size) (h : Pts w bound a n f) (htot : (f.flatMap PointL.arms).length ≤ 1000) :
    Calls Tryz.prog 118 #[.slice a n c, .string lab] w fun e w' => (∃ v, e = .returned v ∧ AOwn w' w.heap.size v (armsAt f lab.toList)) ∧ Below w.heap.size w w' := by
  have HN := Lib.hid h
  have HLEN := Lib.hid h.1
  have hsn := h.2.1
  have HTOT := Lib.hid htot
  clear h htot
  go_enter Tryz.func118, Tryz.ntmps118
  go_wp2_with fail
  go_loopw [5, 12] (fun o i wr => ∃ (k : Nat) (v : Value), k ≤ n ∧ i = .int .i64 k ∧ v = o ∧ Hid (AOwn wr w.heap.size v (armsAt (f.take k) lab.toList)) ∧ Hid (Below w.heap.size w wr)) (fun _ i _ => n - (intOf i).toNat)
  case atStart => exact ⟨0, _, Nat.zero_le _, rfl, rfl, Lib.hid (AOwn.zero _ _), Lib.hid (Below.refl _ _)⟩
  case round =>
    obtain ⟨k, v, hk, rfl, hvo, HO, HBr⟩ := hrel
    subst hvo
    have hzr := HBr.out.size
    by_cases hlt : k < n
    · obtain ⟨b, off, q, s, aa, an, ac, al, rfl, hbb, hx, ⟨q0, q1, q2⟩, hq, hs, hal⟩ := HN.out.at_ hlt
      have r0 := (HBr.out.cell (p := ⟨b, off + k * 3, none⟩) (by show b < _; omega)).trans q0
      have r1 := (HBr.out.cell (p := ⟨b, off + k * 3 + 1, none⟩) (by show b < _; omega)).trans q1
      have r2 := (HBr.out.cell (p := ⟨b, off + k * 3 + 2, none⟩) (by show b < _; omega)).trans q2
      have i1 : (k : Int) < (n : Int) := by omega
      have i2 : (0 : Int) ≤ (k : Int) := by omega
      have HAL := Lib.hid hal
      have HSM := Lib.hid (armsAt_more hx lab.toList)
      have HFL := Lib.hid (show (armsAt (f.take k) lab.toList).length + al.length ≤ 1000 by
        have h1 := armsAt_le (f.take k) lab.toList
        have h2 := flat_le PointL.arms f (k + 1)
        rw [flat_more PointL.arms hx, List.length_append] at h2
        have := HTOT.out
        dsimp only at h2
        omega)
      have hanz := hal.2.1
      have HB1 := Lib.hid (HBr.out.trans ((tu1 wr (.cells #[.string q, .string s, .slice aa an ac] 82)).mono hzr))
      have HO1 := Lib.hid (HO.out.alloc (.cells #[.string q, .string s, .slice aa an ac] 82))
      clear q0 q1 q2 hx hq hs hal
      go_wp2_with fail
      go_loopw [5, 19] (fun o i wr => ∃ (k2 : Nat) (v : Value), k2 ≤ an ∧ i = .int .i64 k2 ∧ v = o ∧ Hid (AOwn wr w.heap.size v (armsAt (f.take k) lab.toList ++ (al.take k2).filter fun a => a.label == lab.toList)) ∧ Hid (Below w.heap.size w wr)) (fun _ i _ => an - (intOf i).toNat)
      case atStart => exact ⟨0, _, Nat.zero_le _, rfl, rfl, Lib.hid (by rw [List.take_zero, List.filter_nil, List.append_nil]; exact HO1.out), HB1⟩
      case round =>
        obtain ⟨k2, v, hk2, rfl, hvo, HO, HBr⟩ := hrel
        subst hvo
        have hzr := HBr.out.size
        by_cases hlt2 : k2 < an
        · obtain ⟨lb, lo, s6, u6, ck, nx, rfl, hlb, hx6, ⟨z0, z1, z2, z3⟩, hs6, hu6⟩ := HAL.out.at_ hlt2
          have g0 := (HBr.out.cell (p := ⟨lb, lo + k2 * 4, none⟩) (by show lb < _; omega)).trans z0
          have g1 := (HBr.out.cell (p := ⟨lb, lo + k2 * 4 + 1, none⟩) (by show lb < _; omega)).trans z1
          have g2 := (HBr.out.cell (p := ⟨lb, lo + k2 * 4 + 2, none⟩) (by show lb < _; omega)).trans z2
          have g3 := (HBr.out.cell (p := ⟨lb, lo + k2 * 4 + 3, none⟩) (by show lb < _; omega)).trans z3
          have j1 : (k2 : Int) < (an : Int) := by omega
          have j2 : (0 : Int) ≤ (k2 : Int) := by omega
          have hst : (al.take (k2 + 1)).filter (fun a => a.label == lab.toList) = (al.take k2).filter (fun a => a.label == lab.toList) ++ (if (s6.toList == lab.toList) = true then [⟨s6.toList, ck, u6.toList, nx⟩] else []) := by
            rw [tuTake_at hx6, List.filter_append]
            congr 1
            rw [List.filter_cons, List.filter_nil]
          have HLE := Lib.hid (show (armsAt (f.take k) lab.toList ++ (al.take k2).filter fun a => a.label == lab.toList).length ≤ 1000 by
            rw [List.length_append]
            have h1 := List.length_filter_le (fun a => a.label == lab.toList) (al.take k2)
            rw [List.length_take] at h1
            have := HFL.out
            omega)
          have HB2 := Lib.hid (HBr.out.trans ((tu1 wr (.cells #[.string s6, .int .i64 ck, .string u6, .int .i64 nx] 67)).mono hzr))
          have HO2 := Lib.hid (HO.out.alloc (.cells #[.string s6, .int .i64 ck, .string u6, .int .i64 nx] 67))
          have HSU := Lib.hid (And.intro hs6 hu6)
          clear z0 z1 z2 z3 hx6 hs6 hu6
          cases hq : (s6.toList == lab.toList)
          · rw [hq, if_neg (by simp), List.append_nil] at hst
            have HST := Lib.hid hst
            clear hst
            go_wp2_with fail
            go_roundw
            case rel => exact ⟨k2 + 1, _, by omega, by go_num, rfl, Lib.hid (by rw [HST.out]; exact HO2.out), HB2⟩
            case measure => simp [intOf]; omega
          · rw [hq, if_pos rfl] at hst
            have HST := Lib.hid hst
            obtain ⟨ll, hll⟩ : ∃ ll, ll = armsAt (f.take k) lab.toList ++ (al.take k2).filter (fun a => a.label == lab.toList) := ⟨_, rfl⟩
            rw [← hll] at HO2 HLE
            have HLL := Lib.hid hll
            clear hst hll
            go_wp2_with (first
              | (at_builtin
                 refine wpList_append_arms rfl (.tmp 27) (.tmp 29) rfl w.heap.size v ll _ 1 1 [⟨s6.toList, ck, u6.toList, nx⟩] rfl rfl (HO2.out.alloc _) (ARow.one (W := wr.alloc (.cells #[.string s6, .int .i64 ck, .string u6, .int .i64 nx] 67)) ⟨s6, ck, u6, nx⟩ (by simp) rfl ⟨HSU.out.1, HSU.out.2⟩) (by simp; omega) (by have := HLE.out; omega) ?_
                 intro v3 w3 ho3 hb3
                 have HO3 := Lib.hid ho3
                 have HB3 := Lib.hid (((HB2.out.alloc (by simp; omega) _).trans hb3))
                 clear ho3 hb3)
              | fail)
            go_roundw
            case rel => exact ⟨k2 + 1, _, by omega, by go_num, rfl, Lib.hid (by rw [HST.out, ← List.append_assoc, ← HLL.out]; exact HO3.out), HB3⟩
            case measure => simp [intOf]; omega
        · have hall : al.take k2 = al := List.take_of_length_le (by have := HAL.out.1; omega)
          rw [hall, ← HSM.out] at HO
          have d3 : decide ((k2 : Int) < (an : Int)) = false := decide_eq_false (by omega)
          clear hall
          go_wp2_with fail
          go_roundw
          case rel => exact ⟨k + 1, _, by omega, by go_num, rfl, HO, HBr⟩
          case measure => simp [intOf]; omega
    · have hall : f.take k = f := List.take_of_length_le (by have := HLEN.out; omega)
      rw [hall] at HO
      have d3 : decide ((k : Int) < (n : Int)) = false := decide_eq_false (by omega)
      clear hall
      go_wp2_with fail
      go_ret
      exact ⟨⟨_, rfl, HO.out⟩, HBr.out⟩
end Go.Proofs.YtiofpeckcfdilaaGreatDoor

/- Contract of the view's arm. -/
namespace Go.Proofs.YtiofpeckcfdilaaGreatDoor
open Go.RowKit

/-- The box of an arm that the call made. -/
def ABx (W : World) (x : Nat) (s : ByteArray) (ck : Int) (u : ByteArray) (nx : Int) : Prop := W.heap[x]? = some (.cells #[.string s, .int .i64 ck, .string u, .int .i64 nx] 67 (0, 0))
section
variable {W W' : World} {x : Nat} {s u : ByteArray} {ck nx : Int}
theorem ABx.lt (h : ABx W x s ck u nx) : x < W.heap.size := (Array.getElem?_eq_some_iff.1 h).1
theorem ABx.on (h : ABx W x s ck u nx) (hb : Below W.heap.size W W') : ABx W' x s ck u nx := (hb.block x h.lt).trans h
theorem ABx.cells (h : ABx W x s ck u nx) : W.cell? ⟨x, 0, none⟩ = some (.string s) ∧ W.cell? ⟨x, 1, none⟩ = some (.int .i64 ck) ∧ W.cell? ⟨x, 2, none⟩ = some (.string u) ∧ W.cell? ⟨x, 3, none⟩ = some (.int .i64 nx) := by
  unfold ABx at h
  refine ⟨?_, ?_, ?_, ?_⟩
  all_goals (rw [cell_of_row _ _ _ _ _ _ h]; rfl)
theorem ABx.thaw (h : ABx W x s ck u nx) (o : Nat) : W.frozen? ⟨x, o, none⟩ = false := by
  unfold ABx at h
  unfold World.frozen?
  rw [h]
  simp
end
/-- What arm answers. -/
def ArmRet (W : World) (B0 base g mb : Nat) (k : VC) (la : Option Addr) (lc : Nat) (v : Value) (rs : List Str) (ps : List PointL) (U : List Nat) (lab : ByteArray) (r : Except Int (ArmL × List (List Nat))) (e : Ending) (w' : World) : Prop :=
  match r with
  | .error er => (∃ (s u : ByteArray) (ck nx : Int), e = .returned (.tuple #[.agg #[.string s, .int .i64 ck, .string u, .int .i64 nx], .int .i64 er])) ∧ Below W.heap.size W w'
  | .ok (x, ns') => (∃ u : ByteArray, u.toList = x.cn ∧ u.size ≤ maxLen ∧ e = .returned (.tuple #[.agg #[.string lab, .int .i64 x.ck, .string u, .int .i64 x.next], .int .i64 0])) ∧ x.label = lab.toList ∧
    ∃ na' nn' nc' U', VIn w' B0 base g mb k la lc na' nn' nc' rs ps ns' U' ∧ Aside B0 g mb v (.slice na' nn' nc') W w' ∧ ∀ u ∈ U', u ∈ U ∨ W.heap.size ≤ u
set_option maxHeartbeats 16000000 in
set_option maxRecDepth 20000 in
theorem arm_any (B0 base g mb : Nat) (k : VC) (la na : Option Addr) (lc nn nc : Nat) (rs : List Str) (ps : List PointL) (ns : List (List Nat)) (U : List Nat) (pa : Option Addr) (pn pc : Nat) (f : List PointL) (lab : ByteArray) (w : World) (hV : VIn w B0 base g mb k la lc na nn nc rs ps ns U) (hP : Pts w w.heap.size pa pn f)
    (htot : (f.flatMap PointL.arms).length ≤ 1000) (hpos : 0 < (armsAt f lab.toList).length) (hnx : ∀ a ∈ armsAt f lab.toList, 0 ≤ a.next ∧ a.next < (k.n : Int)) :
    Calls Tryz.prog 88 #[.pointer (some ⟨g, 0, none⟩), .slice pa pn pc, .string lab] w fun e w' => ArmRet w B0 base g mb k la lc (.slice na nn nc) rs ps U lab (armP ps k.r.toList f lab.toList ns) e w' := by
  have HV := Lib.hid hV
  have HLOW := Lib.hid hV.low
  have HOB := Lib.hid hV.nears.lt
  have HUS := Lib.hid hV.nears.used
  have hz1 : (w.alloc (.cells #[.string ⟨#[]⟩, .int .i64 0, .string ⟨#[]⟩, .int .i64 0] 67)).heap.size = w.heap.size + 1 := by simp
  have HX1 := Lib.hid (show ABx (w.alloc (.cells #[.string ⟨#[]⟩, .int .i64 0, .string ⟨#[]⟩, .int .i64 0] 67)) w.heap.size ⟨#[]⟩ 0 ⟨#[]⟩ 0 from heap_alloc_new w _)
  have HB1 := Lib.hid (tu1 w (.cells #[.string ⟨#[]⟩, .int .i64 0, .string ⟨#[]⟩, .int .i64 0] 67))
  obtain ⟨w1, hw1⟩ : ∃ w1, w1 = w.alloc (.cells #[.string ⟨#[]⟩, .int .i64 0, .string ⟨#[]⟩, .int .i64 0] 67) := ⟨_, rfl⟩
  rw [← hw1] at hz1 HX1 HB1
  have HW := Lib.hid hw1
  have hal := armsAt_le f lab.toList
  have CA := Lib.hid ((armsOf_any pa pn pc f lab w1 w1.heap.size (Nat.le_refl _) (hP.on HB1.out) htot).mono fun e w2 k => (by
    obtain ⟨⟨v, e1, e2⟩, e3⟩ := k
    obtain ⟨xa, xc, hv, hA, _, _⟩ := e2.sees (by omega)
    exact ⟨⟨xa, xc, by rw [e1, hv], hA, fun u hu => by
      obtain ⟨bs, ho, _⟩ := e2
      exact World.ownsRow.lt ho u (by rw [hv]; exact blk_own hu)⟩, e3⟩ : (∃ xa xc, e = .returned (.slice xa (armsAt f lab.toList).length xc) ∧ Arms w2 w2.heap.size xa (armsAt f lab.toList).length (armsAt f lab.toList) ∧ ∀ u ∈ blk xa, w1.heap.size ≤ u ∧ u < w2.heap.size) ∧ Below w1.heap.size w1 w2))
  obtain ⟨l, hl⟩ : ∃ l, l = armsAt f lab.toList := ⟨_, rfl⟩
  have harm : armP ps k.r.toList f lab.toList ns = match lookP ps k.r.toList ns (nextsP l) with
    | .error e => .error e
    | .ok (j, ns') => .ok (⟨lab.toList, (firstA l).ck, (firstA l).cn, (j : Int)⟩, ns') := by unfold armP; rw [hl]; all_goals (cases lookP ps k.r.toList ns (nextsP (armsAt f lab.toList)) <;> rfl)
  rw [← hl] at CA hpos hnx hal
  obtain ⟨R, hR⟩ : ∃ R, R = armP ps k.r.toList f lab.toList ns := ⟨_, rfl⟩
  rw [← hR]
  have HRR := Lib.hid (hR.trans harm)
  obtain ⟨m, hm⟩ : ∃ m, m = l.length := ⟨_, rfl⟩
  rw [← hm] at CA hpos hal
  have HM := Lib.hid hm
  have HNX := Lib.hid hnx
  have hm1000 : m ≤ 1000 := by omega
  clear hV hP htot hnx hl harm hm hw1 hR
  go_enter Tryz.func88, Tryz.ntmps88
  go_upto_region 1 with fail
  rw [← HW.out]
  go_upto_region 3 with (first
    | (go_at_call 118; (with_reducible refine CA.out.mono ?_)
       rintro e w2 ⟨⟨xa, xc, rfl, hA, hxb⟩, hb2⟩
       have HA := Lib.hid hA
       have HXB := Lib.hid hxb
       have HB2 := Lib.hid hb2
       have hz2 := hb2.size
       clear hA hxb hb2)
    | fail)
  go_wp2_with fail
  go_loopw [9, 19] (fun o i wr => ∃ (j : Nat) (v : Value), j ≤ m ∧ i = .int .i64 j ∧ v = o ∧ Hid (IInts wr w2.heap.size v (rowI (nextsP (l.take j)))) ∧ Hid (Below w2.heap.size w2 wr)) (fun _ i _ => m - (intOf i).toNat)
  case atStart => exact ⟨0, _, Nat.zero_le _, rfl, rfl, Lib.hid (IInts.zero _ _), Lib.hid (Below.refl _ _)⟩
  case round =>
    obtain ⟨j, v, hj, rfl, hvo, HO, HBr⟩ := hrel
    subst hvo
    have hzr := HBr.out.size
    by_cases hlt : j < m
    · obtain ⟨lb, lo, s6, u6, ck, nx, rfl, hlb, hx6, ⟨z0, z1, z2, z3⟩, _, _⟩ := HA.out.at_ hlt
      have g0 := (HBr.out.cell (p := ⟨lb, lo + j * 4, none⟩) (by show lb < _; omega)).trans z0
      have g1 := (HBr.out.cell (p := ⟨lb, lo + j * 4 + 1, none⟩) (by show lb < _; omega)).trans z1
      have g2 := (HBr.out.cell (p := ⟨lb, lo + j * 4 + 2, none⟩) (by show lb < _; omega)).trans z2
      have g3 := (HBr.out.cell (p := ⟨lb, lo + j * 4 + 3, none⟩) (by show lb < _; omega)).trans z3
      have j1 : (j : Int) < (m : Int) := by omega
      have j2 : (0 : Int) ≤ (j : Int) := by omega
      have hgd := HNX.out _ (List.mem_of_getElem? hx6)
      dsimp only at hgd
      obtain ⟨y, rfl⟩ : ∃ y : Nat, nx = (y : Int) := ⟨nx.toNat, by omega⟩
      obtain ⟨row, hrow⟩ : ∃ row, row = nextsP (l.take j) := ⟨_, rfl⟩
      have HST := Lib.hid (show nextsP (l.take (j + 1)) = row ++ [y] by unfold nextsP at hrow ⊢; rw [tuTake_at hx6, List.map_append, ← hrow]; rfl)
      have HRL := Lib.hid (show row.length ≤ 1000 by rw [hrow]; unfold nextsP; rw [List.length_map, List.length_take]; omega)
      rw [← hrow] at HO
      have HO1 := Lib.hid (HO.out.alloc (.cells #[.string s6, .int .i64 ck, .string u6, .int .i64 (y : Int)] 67))
      have HB3 := Lib.hid (HBr.out.trans ((tu1 wr (.cells #[.string s6, .int .i64 ck, .string u6, .int .i64 (y : Int)] 67)).mono hzr))
      clear z0 z1 z2 z3 hx6 hgd hrow
      go_wp2_with (first
        | (at_builtin
           refine wpList_append_iints rfl (.tmp 23) (.tmp 26) rfl w2.heap.size v (rowI row) (y : Int) rfl rfl rfl (by simp) HO1.out (by simp; omega) (by rw [rowI_len]; have := HRL.out; omega) _ HB3.out ?_
           intro v3 w3 ho3 hb3
           have HO3 := Lib.hid ho3
           have HB4 := Lib.hid hb3
           clear ho3 hb3)
        | fail)
      go_roundw
      case rel => exact ⟨j + 1, _, by omega, by go_num, rfl, Lib.hid (by rw [HST.out]; unfold rowI; rw [List.map_append]; exact HO3.out), HB4⟩
      case measure => simp [intOf]; omega
    · have hall : l.take j = l := List.take_of_length_le (by have := HM.out; omega)
      rw [hall] at HO
      have d3 : decide ((j : Int) < (m : Int)) = false := decide_eq_false (by omega)
      obtain ⟨oa, oc, hvv, _, _, _, hnu⟩ := HO.out.sees
      obtain ⟨on, hon⟩ : ∃ on, on = (rowI (nextsP l)).length := ⟨_, rfl⟩
      rw [← hon] at hvv hnu
      subst hvv
      obtain ⟨w3, hw3⟩ : ∃ w3 : World, w3 = wr := ⟨_, rfl⟩
      subst hw3
      have HB3 := Lib.hid (show Below w.heap.size w w3 from below_on HB1.out ((below_on (Below.refl _ _) HB2.out).trans (HBr.out.mono (by omega))))
      have CL := Lib.hid (look_any B0 base g mb k la na lc nn nc rs ps ns U oa on oc (nextsP l) w3 (HV.out.on HB3.out) hnu (fun x hx => by
        unfold nextsP at hx
        obtain ⟨a, ha, rfl⟩ := List.mem_map.1 hx
        have := HNX.out a ha
        omega))
      obtain ⟨lb, lo, s6, u6, ck, nx, hxa, hlb, hx6, ⟨_, y1, y2, _⟩, _, hu6⟩ := HA.out.at_ hpos
      rw [Nat.zero_mul, Nat.add_zero] at y1 y2
      have hfa : firstA l = ⟨s6.toList, ck, u6.toList, nx⟩ := by
        unfold firstA
        cases l with
        | nil => cases hx6
        | cons z r => exact (Option.some.inj hx6)
      have HFA := Lib.hid hfa
      have hlb1 := HXB.out lb (blk_some hxa)
      subst hxa
      have HX3 := Lib.hid (show ABx w3 w.heap.size ⟨#[]⟩ 0 ⟨#[]⟩ 0 from (HX1.out.on HB2.out).on HBr.out)
      have k1 := (HBr.out.cell (p := ⟨lb, lo + 1, none⟩) hlb).trans y1
      have k2 := (HBr.out.cell (p := ⟨lb, lo + 2, none⟩) hlb).trans y2
      have HK12 := Lib.hid (And.intro k1 k2)
      have i0 : (0 : Int) < (m : Int) := by omega
      clear hall hnu hx6 y1 y2 hon hfa k1 k2
      cases hlk : lookP ps k.r.toList ns (nextsP l) with
      | error er =>
        rw [hlk] at CL
        have HE := Lib.hid (show R = .error er by rw [HRR.out, hlk])
        clear hlk
        go_wp2_with (first
          | (go_at_call 51; (with_reducible refine CL.out.mono ?_)
             rintro e w4 ⟨rfl, hb4⟩
             have HB4 := Lib.hid hb4
             have HX4 := Lib.hid (HX3.out.on hb4)
             obtain ⟨c0, c1, c2, c3⟩ := HX4.out.cells
             have f0 := HX4.out.thaw 0
             have f1 := HX4.out.thaw 1
             have f2 := HX4.out.thaw 2
             have f3 := HX4.out.thaw 3
             have q1 := (hb4.cell (p := ⟨lb, lo + 1, none⟩) (by show lb < _; omega)).trans HK12.out.1
             have q2 := (hb4.cell (p := ⟨lb, lo + 2, none⟩) (by show lb < _; omega)).trans HK12.out.2
             clear hb4)
          | fail)
        refine bodyPost_ret (v := .tuple #[.agg #[.string lab, .int .i64 ck, .string u6, .int .i64 0], .int .i64 er]) (by simp [results, go_sem, c0, c1, c2, c3]) rfl ?_
        rw [HE.out]
        exact ⟨⟨lab, u6, ck, 0, rfl⟩, ((((below_on HB3.out HB4.out).setCell (Nat.le_refl _) _).setCell (Nat.le_refl _) _).setCell (Nat.le_refl _) _).setCell (Nat.le_refl _) _⟩
      | ok p =>
        obtain ⟨jj, ns'⟩ := p
        rw [hlk] at CL
        have HE := Lib.hid (show R = .ok (⟨lab.toList, ck, u6.toList, (jj : Int)⟩, ns') by rw [HRR.out, hlk]; dsimp only; rw [HFA.out])
        clear hlk
        go_wp2_with (first
          | (go_at_call 51; (with_reducible refine CL.out.mono ?_)
             rintro e w4 ⟨rfl, na', nn', nc', U', hv4, has4, hu4⟩
             have HV4 := Lib.hid hv4
             have HS4 := Lib.hid has4
             have HU4 := Lib.hid hu4
             have HX4 := Lib.hid (show ABx w4 w.heap.size ⟨#[]⟩ 0 ⟨#[]⟩ 0 from (has4.keep w.heap.size HX3.out.lt (by have := HLOW.out; omega) (by have := HLOW.out; omega) (fun e => by have := HOB.out _ e; omega)).trans HX3.out)
             obtain ⟨c0, c1, c2, c3⟩ := HX4.out.cells
             have f0 := HX4.out.thaw 0
             have f1 := HX4.out.thaw 1
             have f2 := HX4.out.thaw 2
             have f3 := HX4.out.thaw 3
             have hq := has4.keep lb (by omega) (by have := HLOW.out; omega) (by have := HLOW.out; omega) (fun e => by have := HOB.out _ e; omega)
             have q1 := (World.cell?_of_block (a := ⟨lb, lo + 1, none⟩) hq).trans HK12.out.1
             have q2 := (World.cell?_of_block (a := ⟨lb, lo + 2, none⟩) hq).trans HK12.out.2
             clear hv4 has4 hu4 hq)
          | fail)
        refine bodyPost_ret (v := .tuple #[.agg #[.string lab, .int .i64 ck, .string u6, .int .i64 (jj : Int)], .int .i64 0]) (by simp [results, go_sem, c0, c1, c2, c3]) rfl ?_
        rw [HE.out]
        have hbs := ((((Beside.refl w.heap.size w4).setCell 0 (.string lab)).setCell 1 (.int .i64 ck)).setCell 2 (.string u6)).setCell 3 (.int .i64 (jj : Int))
        have hl := HLOW.out
        have hz4 := HS4.out.bel.size
        refine ⟨⟨u6, rfl, hu6, rfl⟩, rfl, na', nn', nc', U', HV4.out.stayed (hbs.below (by omega) (by omega)) (fun b h1 h2 => hbs.block b h1 (fun e => ?_)), ⟨HB3.out.mono (by omega) |>.trans (HS4.out.bel.trans (hbs.below (by omega) (by omega))), fun b h1 h2 h3 h4 => (hbs.block b (by omega) (by omega)).trans ((HS4.out.keep b (by omega) h2 h3 h4).trans (HB3.out.block b h1)), fun b h1 h4 => HS4.out.own b (by omega) h4⟩, fun u hu => ?_⟩
        · subst e
          rcases h2 with h | h | h
          · omega
          · rcases HU4.out _ h with h | h
            · have := HUS.out _ h; omega
            · have := HX3.out.lt; omega
          · exact HS4.out.own _ HX3.out.lt (fun e => by have := HOB.out _ e; omega) h
        · rcases HU4.out u hu with h | h
          · exact .inl h
          · exact .inr (by omega)
end Go.Proofs.YtiofpeckcfdilaaGreatDoor

/- Contracts of the program's sameRoles and sameLabels. -/
namespace Go.Proofs.YtiofpeckcfdilaaGreatDoor
open Go.RowKit

theorem all_at8 {α : Type} {P : α → Bool} {f : List α} {k : Nat} {x : α} (h : f[k]? = some x) : (f.drop k).all P = (P x && (f.drop (k + 1)).all P) := by
  obtain ⟨h1, e⟩ := List.getElem?_eq_some_iff.1 h
  rw [List.drop_eq_getElem_cons h1, e, List.all_cons]
set_option maxHeartbeats 16000000 in
set_option maxRecDepth 20000 in
theorem sameRoles_any (b off n c : Nat) (f : List PointL) (w : World) (bound : Nat) (hb : bound ≤ w.heap.size) (h : Pts w bound (some ⟨b, off, none⟩) n f) (hn : 0 < n) :
    Calls Tryz.prog 115 #[.slice (some ⟨b, off, none⟩) n c] w fun e w' => e = .returned (.bool (sameRolesP f)) ∧ Below w.heap.size w w' := by
  have HN := Lib.hid h
  have HLEN := Lib.hid h.1
  have hsn := h.2.1
  obtain ⟨b9, o9, qz, sz, az, zn, zc, zl, hab, hbz, hx0, ⟨zc0, zc1, _⟩, _, _, _⟩ := h.at_ hn
  obtain ⟨e1, e2, _⟩ := Addr.mk.inj (Option.some.inj hab)
  subst e1 e2
  rw [Nat.zero_mul, Nat.add_zero] at zc0 zc1
  have hp0 : pointOf f 0 = ⟨qz.toList, sz.toList, zl⟩ := by unfold pointOf; rw [hx0]; rfl
  obtain ⟨R, hR⟩ : ∃ R, R = sameRolesP f := ⟨_, rfl⟩
  rw [← hR]
  unfold sameRolesP at hR
  rw [hp0] at hR
  have HR := Lib.hid hR
  have HZ0 := Lib.hid (And.intro zc0 zc1)
  clear h hab hx0 hp0 hR zc0 zc1
  go_enter Tryz.func115, Tryz.ntmps115
  go_wp2_with fail
  go_loopw [7] (fun i wr => ∃ k : Nat, k ≤ n ∧ i = .int .i64 k ∧ Hid (R = (f.drop k).all fun x => x.src == qz.toList && x.dst == sz.toList) ∧ Hid (Below w.heap.size w wr)) (fun i _ => n - (intOf i).toNat)
  case atStart => exact ⟨0, Nat.zero_le _, rfl, Lib.hid HR.out, Lib.hid (Below.refl _ _)⟩
  case round =>
    obtain ⟨k, hk, rfl, HK, HBr⟩ := hrel
    have hzr := HBr.out.size
    by_cases hlt : k < n
    · obtain ⟨b8, o8, q, s, aa, an, ac, al, hab, hbb, hx, ⟨q0, q1, q2⟩, hq, hs, hal⟩ := HN.out.at_ hlt
      obtain ⟨e1, e2, _⟩ := Addr.mk.inj (Option.some.inj hab)
      subst e1 e2
      have r0 := (HBr.out.cell (p := ⟨b, off + k * 3, none⟩) (by show b < _; omega)).trans q0
      have r1 := (HBr.out.cell (p := ⟨b, off + k * 3 + 1, none⟩) (by show b < _; omega)).trans q1
      have r2 := (HBr.out.cell (p := ⟨b, off + k * 3 + 2, none⟩) (by show b < _; omega)).trans q2
      have i1 : (k : Int) < (n : Int) := by omega
      have i2 : (0 : Int) ≤ (k : Int) := by omega
      have i3 : (0 : Int) < (n : Int) := by omega
      have hst := HK.out.trans (all_at8 (P := fun x : PointL => x.src == qz.toList && x.dst == sz.toList) hx)
      dsimp only at hst
      obtain ⟨wx, hwx⟩ : ∃ wx, wx = wr.alloc (.cells #[.string q, .string s, .slice aa an ac] 82) := ⟨_, rfl⟩
      have hbx : Below wr.heap.size wr wx := by rw [hwx]; exact tu1 wr _
      have hxb : wx.heap[wr.heap.size]? = some (.cells #[.string q, .string s, .slice aa an ac] 82 (0, 0)) := by rw [hwx]; exact heap_alloc_new wr _
      have x0 : wx.cell? ⟨wr.heap.size, 0, none⟩ = some (.string q) := by rw [cell_of_row _ _ _ _ _ _ hxb]; rfl
      have x1 : wx.cell? ⟨wr.heap.size, 1, none⟩ = some (.string s) := by rw [cell_of_row _ _ _ _ _ _ hxb]; rfl
      have z0 := (hbx.cell (p := ⟨b, off, none⟩) (by show b < _; omega)).trans ((HBr.out.cell (p := ⟨b, off, none⟩) (by show b < _; omega)).trans HZ0.out.1)
      have z1 := (hbx.cell (p := ⟨b, off + 1, none⟩) (by show b < _; omega)).trans ((HBr.out.cell (p := ⟨b, off + 1, none⟩) (by show b < _; omega)).trans HZ0.out.2)
      have HBX := Lib.hid (HBr.out.trans (hbx.mono hzr))
      have HWX := Lib.hid hwx
      clear hx hq hs hal q0 q1 q2 hab hbx hxb hwx
      go_upto_region 4 with fail
      rw [← HWX.out]
      cases c1 : (q.toList == qz.toList)
      · rw [c1, Bool.false_and, Bool.false_and] at hst
        have d1 : (q.toList != qz.toList) = true := by rw [bne, c1]; rfl
        have HZ := Lib.hid hst
        clear hst
        go_quiet (fail)
        go_wp2_with fail
        go_ret
        exact ⟨ret_bool HZ.out.symm, bel_drewN HBX.out _⟩
      rw [c1, Bool.true_and] at hst
      have d1 : (q.toList != qz.toList) = false := by rw [bne, c1]; rfl
      cases c2 : (s.toList == sz.toList)
      · rw [c2, Bool.false_and] at hst
        have d2 : (s.toList != sz.toList) = true := by rw [bne, c2]; rfl
        have HZ := Lib.hid hst
        clear hst
        go_quiet (fail)
        go_wp2_with fail
        go_ret
        exact ⟨ret_bool HZ.out.symm, bel_drewN HBX.out _⟩
      · rw [c2, Bool.true_and] at hst
        have d2 : (s.toList != sz.toList) = false := by rw [bne, c2]; rfl
        have HZ := Lib.hid hst
        clear hst
        go_quiet (fail)
        go_wp2_with fail
        go_roundw
        case rel => exact ⟨k + 1, by omega, by go_num, HZ, Lib.hid (bel_drewN HBX.out _)⟩
        case measure => simp [intOf]; omega
    · have HZ := Lib.hid (show R = true by rw [HK.out, List.drop_of_length_le (by rw [HLEN.out]; omega)]; rfl)
      have d3 : decide ((k : Int) < (n : Int)) = false := decide_eq_false (by omega)
      go_wp2_with fail
      go_ret
      exact ⟨ret_bool HZ.out.symm, HBr.out⟩
set_option maxHeartbeats 16000000 in
set_option maxRecDepth 20000 in
theorem sameLabels_any (a : Option Addr) (n c : Nat) (f : List PointL) (la : Option Addr) (ln lc : Nat) (ls : List Str) (hls : ls.length = ln) (w : World) (bound : Nat) (hb : bound ≤ w.heap.size) (h : Pts w bound a n f) :
    Calls Tryz.prog 116 #[.slice a n c, .slice la ln lc] w fun e w' => e = .returned (.bool (sameLabelsP f ls)) ∧ Below w.heap.size w w' := by
  have HN := Lib.hid h
  have HLEN := Lib.hid h.1
  have hsn := h.2.1
  obtain ⟨R, hR⟩ : ∃ R, R = sameLabelsP f ls := ⟨_, rfl⟩
  rw [← hR]
  unfold sameLabelsP at hR
  rw [hls] at hR
  have HR := Lib.hid hR
  clear h hR
  go_enter Tryz.func116, Tryz.ntmps116
  go_wp2_with fail
  go_loopw [9] (fun i wr => ∃ k : Nat, k ≤ n ∧ i = .int .i64 k ∧ Hid (R = (f.drop k).all fun x => decide (x.arms.length = ln)) ∧ Hid (Below w.heap.size w wr)) (fun i _ => n - (intOf i).toNat)
  case atStart => exact ⟨0, Nat.zero_le _, rfl, Lib.hid HR.out, Lib.hid (Below.refl _ _)⟩
  case round =>
    obtain ⟨k, hk, rfl, HK, HBr⟩ := hrel
    have hzr := HBr.out.size
    by_cases hlt : k < n
    · obtain ⟨b, off, q, s, aa, an, ac, al, rfl, hbb, hx, ⟨q0, q1, q2⟩, hq, hs, hal⟩ := HN.out.at_ hlt
      have r0 := (HBr.out.cell (p := ⟨b, off + k * 3, none⟩) (by show b < _; omega)).trans q0
      have r1 := (HBr.out.cell (p := ⟨b, off + k * 3 + 1, none⟩) (by show b < _; omega)).trans q1
      have r2 := (HBr.out.cell (p := ⟨b, off + k * 3 + 2, none⟩) (by show b < _; omega)).trans q2
      have i1 : (k : Int) < (n : Int) := by omega
      have i2 : (0 : Int) ≤ (k : Int) := by omega
      have hst := HK.out.trans (all_at8 (P := fun x : PointL => decide (x.arms.length = ln)) hx)
      dsimp only at hst
      rw [hal.1] at hst
      have HB1 := Lib.hid (HBr.out.trans ((tu1 wr (.cells #[.string q, .string s, .slice aa an ac] 82)).mono hzr))
      clear hx hq hs hal q0 q1 q2
      by_cases he : an = ln
      · rw [decide_eq_true he, Bool.true_and] at hst
        have d1 : ((an : Int) != (ln : Int)) = false := by rw [he]; simp
        have HZ := Lib.hid hst
        clear hst he
        go_wp2_with fail
        go_roundw
        case rel => exact ⟨k + 1, by omega, by go_num, HZ, HB1⟩
        case measure => simp [intOf]; omega
      · rw [decide_eq_false he, Bool.false_and] at hst
        have d1 : ((an : Int) != (ln : Int)) = true := by rw [bne_iff_ne]; omega
        have HZ := Lib.hid hst
        clear hst
        go_wp2_with fail
        go_ret
        exact ⟨ret_bool HZ.out.symm, HB1.out⟩
    · have HZ := Lib.hid (show R = true by rw [HK.out, List.drop_of_length_le (by rw [HLEN.out]; omega)]; rfl)
      have d3 : decide ((k : Int) < (n : Int)) = false := decide_eq_false (by omega)
      go_wp2_with fail
      go_ret
      exact ⟨ret_bool HZ.out.symm, HBr.out⟩
end Go.Proofs.YtiofpeckcfdilaaGreatDoor

/- Contracts of the program's sameCarries and fault. -/
namespace Go.Proofs.YtiofpeckcfdilaaGreatDoor
open Go.RowKit

theorem Strs.part8 {w : World} {bound : Nat} {a : Option Addr} {n : Nat} {ss : List Str} (h : Strs w bound a n ss) {k : Nat} (hk : k < n) : ∃ (b off : Nat) (t : ByteArray), a = some ⟨b, off, none⟩ ∧ b < bound ∧ ss[k]? = some t.toList ∧ w.cell? ⟨b, off + k, none⟩ = some (.string t) := by
  obtain ⟨b, off, e, hb, hc⟩ := h.at_ hk
  have hl : k < ss.length := by rw [h.1]; exact hk
  refine ⟨b, off, baS (ss.getD k []), e, hb, ?_, hc⟩
  rw [List.getElem?_eq_getElem hl, List.getD_eq_getElem?_getD, List.getElem?_eq_getElem hl]
  show some _ = some (baS ss[k]).toList
  rw [ByteArray.toList_eq]
  simp [baS]
set_option maxHeartbeats 16000000 in
set_option maxRecDepth 20000 in
theorem sameCarries_any (a : Option Addr) (n c : Nat) (f : List PointL) (la : Option Addr) (ln lc : Nat) (ls : List Str) (w : World) (bound : Nat) (hb : bound ≤ w.heap.size) (h : Pts w bound a n f) (hl : Strs w bound la ln ls) (htot : (f.flatMap PointL.arms).length ≤ 1000) :
    Calls Tryz.prog 117 #[.slice a n c, .slice la ln lc] w fun e w' => e = .returned (.bool (sameCarriesP f ls)) ∧ Below w.heap.size w w' := by
  have HL := Lib.hid hl
  have HLL := Lib.hid hl.1
  have hln := hl.2.1
  have CA := Lib.hid (fun (lab : ByteArray) (W : World) (hW : Below w.heap.size w W) => (armsOf_any a n c f lab W bound (by have := hW.size; omega) (h.below (hW.mono hb)) htot).mono fun e w2 k => (by
    obtain ⟨⟨v, e1, e2⟩, e3⟩ := k
    obtain ⟨xa, xc, hv, hA, _, _⟩ := e2.sees (by have := armsAt_le f lab.toList; omega)
    exact ⟨⟨xa, xc, by rw [e1, hv], hA⟩, below_on hW e3⟩ : (∃ xa xc, e = .returned (.slice xa (armsAt f lab.toList).length xc) ∧ Arms w2 w2.heap.size xa (armsAt f lab.toList).length (armsAt f lab.toList)) ∧ Below w.heap.size w w2))
  have HAL := Lib.hid (fun (s : Str) => show (armsAt f s).length ≤ 1000 by have := armsAt_le f s; omega)
  obtain ⟨R, hR⟩ : ∃ R, R = sameCarriesP f ls := ⟨_, rfl⟩
  rw [← hR]
  unfold sameCarriesP at hR
  have HR := Lib.hid hR
  clear h hl hR htot
  go_enter Tryz.func117, Tryz.ntmps117
  go_wp2_with fail
  go_loopw [12] (fun i wr => ∃ k : Nat, k ≤ ln ∧ i = .int .i64 k ∧ Hid (R = (ls.drop k).all fun s => (armsAt f s).all fun a => decide (a.ck = (firstA (armsAt f s)).ck) && a.cn == (firstA (armsAt f s)).cn) ∧ Hid (Below w.heap.size w wr)) (fun i _ => ln - (intOf i).toNat)
  case atStart => exact ⟨0, Nat.zero_le _, rfl, Lib.hid HR.out, Lib.hid (Below.refl _ _)⟩
  case round =>
    obtain ⟨k, hk, rfl, HK, HBr⟩ := hrel
    have hzr := HBr.out.size
    by_cases hlt : k < ln
    · obtain ⟨b, off, lab, rfl, hbb, hx, q0⟩ := HL.out.part8 hlt
      have r0 := (HBr.out.cell (p := ⟨b, off + k, none⟩) (by show b < _; omega)).trans q0
      have i1 : (k : Int) < (ln : Int) := by omega
      have i2 : (0 : Int) ≤ (k : Int) := by omega
      have hst := HK.out.trans (all_at8 (P := fun s => (armsAt f s).all fun a => decide (a.ck = (firstA (armsAt f s)).ck) && a.cn == (firstA (armsAt f s)).cn) hx)
      have CL := Lib.hid (CA.out lab wr HBr.out)
      have hal1 := HAL.out lab.toList
      obtain ⟨l, hl⟩ : ∃ l, l = armsAt f lab.toList := ⟨_, rfl⟩
      rw [← hl] at hst CL hal1
      obtain ⟨m, hm⟩ : ∃ m, m = l.length := ⟨_, rfl⟩
      rw [← hm] at CL hal1
      obtain ⟨N, hN⟩ : ∃ N, N = (ls.drop (k + 1)).all fun s => (armsAt f s).all fun a => decide (a.ck = (firstA (armsAt f s)).ck) && a.cn == (firstA (armsAt f s)).cn := ⟨_, rfl⟩
      rw [← hN] at hst
      have HN := Lib.hid hN
      have HST := Lib.hid hst
      have HM := Lib.hid hm
      clear hst hx q0 hl hm hN
      go_wp2_with (first
        | (go_at_call 118; (with_reducible refine CL.out.mono ?_)
           rintro e w3 ⟨⟨xa, xc, rfl, hA⟩, hb3⟩
           have HA := Lib.hid hA
           have HB3 := Lib.hid hb3
           clear hA hb3)
        | fail)
      go_loopw [21] (fun i wr => ∃ j : Nat, j ≤ m ∧ i = .int .i64 j ∧ Hid (R = ((l.drop j).all (fun a => decide (a.ck = (firstA l).ck) && a.cn == (firstA l).cn) && N)) ∧ Hid (Below w3.heap.size w3 wr)) (fun i _ => m - (intOf i).toNat)
      case atStart => exact ⟨0, Nat.zero_le _, rfl, HST, Lib.hid (Below.refl _ _)⟩
      case round =>
        obtain ⟨j, hj, rfl, HJ, HBj⟩ := hrel
        have hzj := HBj.out.size
        by_cases hlt2 : j < m
        · obtain ⟨lb, lo, s6, u6, ck, nx, hxa, hlb, hx6, ⟨z0, z1, z2, z3⟩, _, _⟩ := HA.out.at_ hlt2
          obtain ⟨lb9, lo9, s9, u9, ck9, nx9, hxa9, _, hx9, ⟨_, y1, y2, _⟩, _, _⟩ := HA.out.at_ (show 0 < m by omega)
          rw [hxa] at hxa9
          obtain ⟨e1, e2, _⟩ := Addr.mk.inj (Option.some.inj hxa9)
          subst e1 e2 hxa
          have g0 := (HBj.out.cell (p := ⟨lb, lo + j * 4, none⟩) (by show lb < _; omega)).trans z0
          have g1 := (HBj.out.cell (p := ⟨lb, lo + j * 4 + 1, none⟩) (by show lb < _; omega)).trans z1
          have g2 := (HBj.out.cell (p := ⟨lb, lo + j * 4 + 2, none⟩) (by show lb < _; omega)).trans z2
          have g3 := (HBj.out.cell (p := ⟨lb, lo + j * 4 + 3, none⟩) (by show lb < _; omega)).trans z3
          rw [Nat.zero_mul, Nat.add_zero] at y1 y2
          have j1 : (j : Int) < (m : Int) := by omega
          have j2 : (0 : Int) ≤ (j : Int) := by omega
          have j3 : (0 : Int) < (m : Int) := by omega
          have hfa : firstA l = ⟨s9.toList, ck9, u9.toList, nx9⟩ := by
            unfold firstA
            cases l with
            | nil => cases hx9
            | cons z r => exact (Option.some.inj hx9)
          have hst := HJ.out
          rw [all_at8 (P := fun a : ArmL => decide (a.ck = (firstA l).ck) && a.cn == (firstA l).cn) hx6] at hst
          have hPP : (decide (ck = (firstA l).ck) && u6.toList == (firstA l).cn) = ((ck == ck9) && (u6.toList == u9.toList)) := by
            rw [hfa]
            rfl
          dsimp only at hst
          rw [hPP] at hst
          obtain ⟨wx, hwx⟩ : ∃ wx, wx = wr.alloc (.cells #[.string s6, .int .i64 ck, .string u6, .int .i64 nx] 67) := ⟨_, rfl⟩
          have hbx : Below wr.heap.size wr wx := by rw [hwx]; exact tu1 wr _
          have hxb : wx.heap[wr.heap.size]? = some (.cells #[.string s6, .int .i64 ck, .string u6, .int .i64 nx] 67 (0, 0)) := by rw [hwx]; exact heap_alloc_new wr _
          have x1 : wx.cell? ⟨wr.heap.size, 1, none⟩ = some (.int .i64 ck) := by rw [cell_of_row _ _ _ _ _ _ hxb]; rfl
          have x2 : wx.cell? ⟨wr.heap.size, 2, none⟩ = some (.string u6) := by rw [cell_of_row _ _ _ _ _ _ hxb]; rfl
          have t1 := (hbx.cell (p := ⟨lb, lo + 1, none⟩) (by show lb < _; omega)).trans ((HBj.out.cell (p := ⟨lb, lo + 1, none⟩) (by show lb < _; omega)).trans y1)
          have t2 := (hbx.cell (p := ⟨lb, lo + 2, none⟩) (by show lb < _; omega)).trans ((HBj.out.cell (p := ⟨lb, lo + 2, none⟩) (by show lb < _; omega)).trans y2)
          have HBX := Lib.hid (HBj.out.trans (hbx.mono hzj))
          have HWX := Lib.hid hwx
          clear hx6 hx9 z0 z1 z2 z3 y1 y2 hbx hxb hwx hfa hPP
          go_upto_region 8 with fail
          rw [← HWX.out]
          cases c1 : (ck == ck9)
          · rw [c1, Bool.false_and, Bool.false_and, Bool.false_and] at hst
            have HZ := Lib.hid hst
            clear hst
            go_quiet (fail)
            go_wp2_with fail
            go_ret
            exact ⟨ret_bool HZ.out.symm, bel_drewN (below_on HB3.out HBX.out) _⟩
          rw [c1, Bool.true_and] at hst
          cases c2 : (u6.toList == u9.toList)
          · rw [c2, Bool.false_and, Bool.false_and] at hst
            have HZ := Lib.hid hst
            clear hst
            go_quiet (fail)
            go_wp2_with fail
            go_ret
            exact ⟨ret_bool HZ.out.symm, bel_drewN (below_on HB3.out HBX.out) _⟩
          · rw [c2, Bool.true_and] at hst
            have HZ := Lib.hid hst
            clear hst
            go_quiet (fail)
            go_wp2_with fail
            go_roundw
            case rel => exact ⟨j + 1, by omega, by go_num, HZ, Lib.hid (bel_drewN HBX.out _)⟩
            case measure => simp [intOf]; omega
        · have HZ := Lib.hid (show R = N by rw [HJ.out, List.drop_of_length_le (by rw [← HM.out]; omega)]; rfl)
          have d3 : decide ((j : Int) < (m : Int)) = false := decide_eq_false (by omega)
          go_wp2_with fail
          go_roundw
          case rel => exact ⟨k + 1, by omega, by go_num, Lib.hid (HZ.out.trans HN.out), Lib.hid (below_on HB3.out HBj.out)⟩
          case measure => simp [intOf]; omega
    · have HZ := Lib.hid (show R = true by rw [HK.out, List.drop_of_length_le (by rw [HLL.out]; omega)]; rfl)
      have d3 : decide ((k : Int) < (ln : Int)) = false := decide_eq_false (by omega)
      go_wp2_with fail
      go_ret
      exact ⟨ret_bool HZ.out.symm, HBr.out⟩
set_option maxHeartbeats 8000000 in
set_option maxRecDepth 20000 in
theorem fault_any (kd : Int) (b off n c : Nat) (f : List PointL) (la : Option Addr) (ln lc : Nat) (ls : List Str) (w : World) (bound : Nat) (hb : bound ≤ w.heap.size) (h : Pts w bound (some ⟨b, off, none⟩) n f) (hn : 0 < n) (hl : Strs w bound la ln ls) (htot : (f.flatMap PointL.arms).length ≤ 1000) :
    Calls Tryz.prog 87 #[.int .i64 kd, .slice (some ⟨b, off, none⟩) n c, .slice la ln lc] w fun e w' => e = .returned (.int .i64 (faultP kd f ls)) ∧ Below w.heap.size w w' := by
  have C1 := Lib.hid (sameRoles_any b off n c f w bound hb h hn)
  have C2 := Lib.hid (fun (W : World) (hW : Below w.heap.size w W) => (sameLabels_any (some ⟨b, off, none⟩) n c f la ln lc ls hl.1 W bound (by have := hW.size; omega) (h.below (hW.mono hb))).mono fun e w2 k => (⟨k.1, below_on hW k.2⟩ : e = .returned (.bool (sameLabelsP f ls)) ∧ Below w.heap.size w w2))
  have C3 := Lib.hid (fun (W : World) (hW : Below w.heap.size w W) => (sameCarries_any (some ⟨b, off, none⟩) n c f la ln lc ls W bound (by have := hW.size; omega) (h.below (hW.mono hb)) (hl.below (hW.mono hb)) htot).mono fun e w2 k => (⟨k.1, below_on hW k.2⟩ : e = .returned (.bool (sameCarriesP f ls)) ∧ Below w.heap.size w w2))
  have hls := hl.1
  obtain ⟨R, hR⟩ : ∃ R, R = faultP kd f ls := ⟨_, rfl⟩
  rw [← hR]
  unfold faultP at hR
  rw [hls] at hR
  clear h hl htot
  cases h1 : sameRolesP f
  · rw [h1] at C1 hR
    have HZ := Lib.hid (show R = 802 from hR)
    clear hR h1
    go_enter Tryz.func87, Tryz.ntmps87
    go_wp2_with (first
      | (go_at_call 115; (with_reducible refine C1.out.mono ?_)
         rintro e w1 ⟨rfl, hb1⟩
         have HB1 := Lib.hid hb1
         clear hb1)
      | fail)
    go_ret
    exact ⟨ret_int HZ.out.symm, HB1.out⟩
  rw [h1] at C1 hR
  rw [if_neg (by simp)] at hR
  by_cases h2 : kd = 1 ∧ sameLabelsP f ls = false
  · rw [if_pos h2] at hR
    obtain ⟨rfl, h22⟩ := h2
    rw [h22] at C2
    have HZ := Lib.hid hR
    clear hR h1 h22
    go_enter Tryz.func87, Tryz.ntmps87
    go_wp2_with (first
      | (go_at_call 115; (with_reducible refine C1.out.mono ?_)
         rintro e w1 ⟨rfl, hb1⟩
         have HB1 := Lib.hid hb1
         clear hb1)
      | (go_at_call 116; (with_reducible refine (C2.out _ HB1.out).mono ?_)
         rintro e w2 ⟨rfl, hb2⟩
         have HB2 := Lib.hid hb2
         clear hb2)
      | fail)
    go_ret
    exact ⟨ret_int HZ.out.symm, HB2.out⟩
  rw [if_neg h2] at hR
  -- behind the labels
  by_cases h6 : 6 < ln
  · rw [if_pos h6] at hR
    have d6 : decide ((6 : Int) < (ln : Int)) = true := decide_eq_true (by omega)
    have d6' : (6 : Int) < (ln : Int) := by omega
    have HZ := Lib.hid hR
    by_cases hk : kd = 1
    · subst hk
      have h22 : sameLabelsP f ls = true := by cases h9 : sameLabelsP f ls; exact absurd ⟨rfl, h9⟩ h2; rfl
      rw [h22] at C2
      clear hR h1 h22 h2
      go_enter Tryz.func87, Tryz.ntmps87
      go_wp2_with (first
        | (go_at_call 115; (with_reducible refine C1.out.mono ?_)
           rintro e w1 ⟨rfl, hb1⟩
           have HB1 := Lib.hid hb1
           clear hb1)
        | (go_at_call 116; (with_reducible refine (C2.out _ HB1.out).mono ?_)
           rintro e w2 ⟨rfl, hb2⟩
           have HB2 := Lib.hid hb2
           clear hb2)
        | fail)
      go_ret
      exact ⟨ret_int HZ.out.symm, HB2.out⟩
    · have k1 : (kd == 1) = false := by rw [beq_eq_false_iff_ne]; exact hk
      clear hR h1 h2
      go_enter Tryz.func87, Tryz.ntmps87
      go_wp2_with (first
        | (go_at_call 115; (with_reducible refine C1.out.mono ?_)
           rintro e w1 ⟨rfl, hb1⟩
           have HB1 := Lib.hid hb1
           clear hb1)
        | fail)
      go_ret
      exact ⟨ret_int HZ.out.symm, HB1.out⟩
  rw [if_neg h6] at hR
  have d6 : decide ((6 : Int) < (ln : Int)) = false := decide_eq_false (by omega)
  obtain ⟨q, hq⟩ : ∃ q, q = sameCarriesP f ls := ⟨_, rfl⟩
  rw [← hq] at hR C3
  by_cases hk : kd = 1
  · subst hk
    have h22 : sameLabelsP f ls = true := by cases h9 : sameLabelsP f ls; exact absurd ⟨rfl, h9⟩ h2; rfl
    rw [h22] at C2
    clear h1 h22 h2 hq
    cases q
    · have HZ := Lib.hid (show R = 804 from hR)
      clear hR
      go_enter Tryz.func87, Tryz.ntmps87
      go_wp2_with (first
        | (go_at_call 115; (with_reducible refine C1.out.mono ?_)
           rintro e w1 ⟨rfl, hb1⟩
           have HB1 := Lib.hid hb1
           clear hb1)
        | (go_at_call 116; (with_reducible refine (C2.out _ HB1.out).mono ?_)
           rintro e w2 ⟨rfl, hb2⟩
           have HB2 := Lib.hid hb2
           clear hb2)
        | (go_at_call 117; (with_reducible refine (C3.out _ HB2.out).mono ?_)
           rintro e w3 ⟨rfl, hb3⟩
           have HB3 := Lib.hid hb3
           clear hb3)
        | fail)
      go_ret
      exact ⟨ret_int HZ.out.symm, HB3.out⟩
    · have HZ := Lib.hid (show R = 0 from hR)
      clear hR
      go_enter Tryz.func87, Tryz.ntmps87
      go_wp2_with (first
        | (go_at_call 115; (with_reducible refine C1.out.mono ?_)
           rintro e w1 ⟨rfl, hb1⟩
           have HB1 := Lib.hid hb1
           clear hb1)
        | (go_at_call 116; (with_reducible refine (C2.out _ HB1.out).mono ?_)
           rintro e w2 ⟨rfl, hb2⟩
           have HB2 := Lib.hid hb2
           clear hb2)
        | (go_at_call 117; (with_reducible refine (C3.out _ HB2.out).mono ?_)
           rintro e w3 ⟨rfl, hb3⟩
           have HB3 := Lib.hid hb3
           clear hb3)
        | fail)
      go_ret
      exact ⟨ret_int HZ.out.symm, HB3.out⟩
  · have k1 : (kd == 1) = false := by rw [beq_eq_false_iff_ne]; exact hk
    clear h1 h2 hq
    cases q
    · have HZ := Lib.hid (show R = 804 from hR)
      clear hR
      go_enter Tryz.func87, Tryz.ntmps87
      go_wp2_with (first
        | (go_at_call 115; (with_reducible refine C1.out.mono ?_)
           rintro e w1 ⟨rfl, hb1⟩
           have HB1 := Lib.hid hb1
           clear hb1)
        | (go_at_call 117; (with_reducible refine (C3.out _ HB1.out).mono ?_)
           rintro e w3 ⟨rfl, hb3⟩
           have HB3 := Lib.hid hb3
           clear hb3)
        | fail)
      go_ret
      exact ⟨ret_int HZ.out.symm, HB3.out⟩
    · have HZ := Lib.hid (show R = 0 from hR)
      clear hR
      go_enter Tryz.func87, Tryz.ntmps87
      go_wp2_with (first
        | (go_at_call 115; (with_reducible refine C1.out.mono ?_)
           rintro e w1 ⟨rfl, hb1⟩
           have HB1 := Lib.hid hb1
           clear hb1)
        | (go_at_call 117; (with_reducible refine (C3.out _ HB1.out).mono ?_)
           rintro e w3 ⟨rfl, hb3⟩
           have HB3 := Lib.hid hb3
           clear hb3)
        | fail)
      go_ret
      exact ⟨ret_int HZ.out.symm, HB3.out⟩
end Go.Proofs.YtiofpeckcfdilaaGreatDoor

/- Contract of the program's labelsOf. -/
namespace Go.Proofs.YtiofpeckcfdilaaGreatDoor
open Go.RowKit Go.Sort

theorem strs_one9 (w : World) (g : Nat) (s : ByteArray) (hg : g = w.heap.size) (hs : s.size ≤ maxLen) : Strs (w.alloc (.cells #[.string s] 9)) (w.heap.size + 1) (some ⟨g, 0, none⟩) 1 [s.toList] := by
  subst hg
  exact strs_one w s hs
def labs8 (f : List PointL) : List Str := f.flatMap fun x => x.arms.map ArmL.label
theorem labs8_len (f : List PointL) : (labs8 f).length = (f.flatMap PointL.arms).length := by
  unfold labs8
  rw [List.length_flatMap, List.length_flatMap]
  simp
set_option maxHeartbeats 16000000 in
set_option maxRecDepth 20000 in
theorem labelsOf_any (a : Option Addr) (n c : Nat) (f : List PointL) (w : World) (bound : Nat) (hb : bound ≤ w.heap.size) (h : Pts w bound a n f) (htot : (f.flatMap PointL.arms).length ≤ 1000) (hne : 0 < (labs8 f).length) :
    Calls Tryz.prog 86 #[.slice a n c] w fun e w' => (∃ v, e = .returned v ∧ w'.ownsRow w.heap.size 9 1 v (labelsP f).length ((labelsP f).map encStr)) ∧ Below w.heap.size w w' := by
  have HN := Lib.hid h
  have HLEN := Lib.hid h.1
  have hsn := h.2.1
  have HTOT := Lib.hid (show (labs8 f).length ≤ 1000 by rw [labs8_len]; exact htot)
  have HNE := Lib.hid hne
  clear h htot hne
  go_enter Tryz.func86, Tryz.ntmps86
  go_wp2_with fail
  go_loopw [3, 10] (fun o i wr => ∃ (k m : Nat) (v : Value), k ≤ n ∧ i = .int .i64 k ∧ v = o ∧ Hid (m = (labs8 (f.take k)).length) ∧ Hid (wr.ownsRow w.heap.size 9 1 v m ((labs8 (f.take k)).map encStr)) ∧ Hid (Below w.heap.size w wr)) (fun _ i _ => n - (intOf i).toNat)
  case atStart => exact ⟨0, 0, _, Nat.zero_le _, rfl, rfl, Lib.hid rfl, Lib.hid (World.ownsRow_nil _ _ _ _), Lib.hid (Below.refl _ _)⟩
  case round =>
    obtain ⟨k, m, v, hk, rfl, hvo, HM, HO, HBr⟩ := hrel
    subst hvo
    have hzr := HBr.out.size
    by_cases hlt : k < n
    · obtain ⟨b, off, q, s, aa, an, ac, al, rfl, hbb, hx, ⟨q0, q1, q2⟩, hq, hs, hal⟩ := HN.out.at_ hlt
      have r0 := (HBr.out.cell (p := ⟨b, off + k * 3, none⟩) (by show b < _; omega)).trans q0
      have r1 := (HBr.out.cell (p := ⟨b, off + k * 3 + 1, none⟩) (by show b < _; omega)).trans q1
      have r2 := (HBr.out.cell (p := ⟨b, off + k * 3 + 2, none⟩) (by show b < _; omega)).trans q2
      have i1 : (k : Int) < (n : Int) := by omega
      have i2 : (0 : Int) ≤ (k : Int) := by omega
      have HAL := Lib.hid hal
      have HSM := Lib.hid (show labs8 (f.take (k + 1)) = labs8 (f.take k) ++ al.map ArmL.label from flat_more _ hx)
      have HFL := Lib.hid (show m + al.length ≤ 1000 by
        have h2 := flat_le (fun x : PointL => x.arms.map ArmL.label) f (k + 1)
        have h3 := HSM.out
        unfold labs8 at h3
        rw [h3, List.length_append, List.length_map] at h2
        have h4 := HTOT.out
        have h5 := HM.out
        unfold labs8 at h4 h5
        omega)
      have hanz := hal.2.1
      have HB1 := Lib.hid (HBr.out.trans ((tu1 wr (.cells #[.string q, .string s, .slice aa an ac] 82)).mono hzr))
      have HO1 := Lib.hid (World.ownsRow.alloc HO.out (.cells #[.string q, .string s, .slice aa an ac] 82))
      clear q0 q1 q2 hx hq hs hal
      go_wp2_with fail
      go_loopw [3, 17] (fun o i wr => ∃ (k2 m2 : Nat) (v : Value), k2 ≤ an ∧ i = .int .i64 k2 ∧ v = o ∧ Hid (m2 = m + k2) ∧ Hid (wr.ownsRow w.heap.size 9 1 v m2 ((labs8 (f.take k) ++ (al.take k2).map ArmL.label).map encStr)) ∧ Hid (Below w.heap.size w wr)) (fun _ i _ => an - (intOf i).toNat)
      case atStart => exact ⟨0, m, _, Nat.zero_le _, rfl, rfl, Lib.hid rfl, Lib.hid (by rw [List.take_zero, List.map_nil, List.append_nil]; exact HO1.out), HB1⟩
      case round =>
        obtain ⟨k2, m2, v, hk2, rfl, hvo, HM2, HO, HBr⟩ := hrel
        subst hvo
        have hzr := HBr.out.size
        by_cases hlt2 : k2 < an
        · obtain ⟨lb, lo, s6, u6, ck, nx, rfl, hlb, hx6, ⟨z0, z1, z2, z3⟩, hs6, hu6⟩ := HAL.out.at_ hlt2
          have g0 := (HBr.out.cell (p := ⟨lb, lo + k2 * 4, none⟩) (by show lb < _; omega)).trans z0
          have g1 := (HBr.out.cell (p := ⟨lb, lo + k2 * 4 + 1, none⟩) (by show lb < _; omega)).trans z1
          have g2 := (HBr.out.cell (p := ⟨lb, lo + k2 * 4 + 2, none⟩) (by show lb < _; omega)).trans z2
          have g3 := (HBr.out.cell (p := ⟨lb, lo + k2 * 4 + 3, none⟩) (by show lb < _; omega)).trans z3
          have j1 : (k2 : Int) < (an : Int) := by omega
          have j2 : (0 : Int) ≤ (k2 : Int) := by omega
          obtain ⟨ll, hll⟩ : ∃ ll, ll = labs8 (f.take k) ++ (al.take k2).map ArmL.label := ⟨_, rfl⟩
          have HST := Lib.hid (show labs8 (f.take k) ++ (al.take (k2 + 1)).map ArmL.label = ll ++ [s6.toList] by rw [tuTake_at hx6, List.map_append, ← List.append_assoc, ← hll]; rfl)
          rw [← hll] at HO
          have HMS := Lib.hid (show m2 ≤ 1000 by have := HM2.out; have := HFL.out; have := HAL.out.1; omega)
          have HB2 := Lib.hid (HBr.out.trans ((tu1 wr (.cells #[.string s6, .int .i64 ck, .string u6, .int .i64 nx] 67)).mono hzr))
          have HO2 := Lib.hid (World.ownsRow.alloc HO.out (.cells #[.string s6, .int .i64 ck, .string u6, .int .i64 nx] 67))
          have HSU := Lib.hid hs6
          clear z0 z1 z2 z3 hx6 hs6 hu6 hll
          go_wp2_with (first
            | (at_builtin
               refine wpList_append_strs _ rfl (.tmp 21) (.tmp 24) _ rfl w.heap.size 9 Tryz.underlying34 info9 _ m2 ll rfl (World.ownsRow.alloc HO2.out _) _ _ 1 1 [s6.toList] rfl (strs_one9 (wr.alloc (.cells #[.string s6, .int .i64 ck, .string u6, .int .i64 nx] 67)) _ s6 (by simp) HSU.out) (by have := HMS.out; omega) (by simp; omega) ?_
               intro v3 w3 own3 gr3 at3
               have HO3 := Lib.hid own3
               have HB3 := Lib.hid ((HB2.out.alloc (by simp; omega) _).grown gr3 (by simp; omega) (fun j hj => (World.ownsRow.lt HO2.out j hj).1))
               clear own3 gr3 at3)
            | fail)
          go_roundw
          case rel => exact ⟨k2 + 1, m2 + 1, _, by omega, by go_num, rfl, Lib.hid (by rw [HM2.out]; omega), Lib.hid (by rw [HST.out]; exact HO3.out), HB3⟩
          case measure => simp [intOf]; omega
        · have hall : al.take k2 = al := List.take_of_length_le (by have := HAL.out.1; omega)
          rw [hall, ← HSM.out] at HO
          have HMN := Lib.hid (show m2 = (labs8 (f.take (k + 1))).length by
            have h1 := HM2.out
            have h2 := HM.out
            have h3 := HAL.out.1
            rw [HSM.out, List.length_append, List.length_map]
            omega)
          have d3 : decide ((k2 : Int) < (an : Int)) = false := decide_eq_false (by omega)
          clear hall
          go_wp2_with fail
          go_roundw
          case rel => exact ⟨k + 1, m2, _, by omega, by go_num, rfl, HMN, HO, HBr⟩
          case measure => simp [intOf]; omega
    · have hall : f.take k = f := List.take_of_length_le (by have := HLEN.out; omega)
      rw [hall] at HO HM
      obtain ⟨all, hal⟩ : ∃ all, all = labs8 f := ⟨_, rfl⟩
      rw [← hal] at HO HM
      have HALL := Lib.hid hal
      have hnn : v ≠ .slice none 0 0 := by
        rintro rfl
        have h9 := HNE.out
        rw [← hal, ← HM.out] at h9
        rcases HO.out.2 with ⟨_, h0⟩ | ⟨g, cap, cur, h0, _⟩
        · omega
        · cases h0
      obtain ⟨g, cap, hvv, hbg, hgl, hncap, hcm, hlen, hH⟩ := Lib.holds_of_ownsRow HO.out hnn
      subst hvv
      have hm1000 : m ≤ 1000 := by have := HTOT.out; rw [← hal, ← HM.out] at this; exact this
      have hso := Tryz.slices_Sort_string g 0 cap all wr hH hgl (by rw [← HM.out]; omega)
      rw [← HM.out] at hso
      have HS := Lib.hid hso
      have HH := Lib.hid hH
      have d3 : decide ((k : Int) < (n : Int)) = false := decide_eq_false (by omega)
      obtain ⟨wo, hwo⟩ : ∃ wo : World, wo = wr := ⟨_, rfl⟩
      subst hwo
      clear hall hal hso hH hnn hlen
      go_wp2_with (first
        | (go_at_call 92; refine HS.out.mono ?_; rintro e w3 ⟨rfl, nn, os, rfl⟩
           have hl2 : (sortS all).length = m := (List.length_mergeSort _).trans HM.out.symm
           have hH2 : Holds encStr (grow (putRow encStr (Sort.ahead wo nn) g 0 (sortS all).toArray) os) g 0 (sortS all).toArray :=
             holds_grow encStr _ os g 0 _ (by simpa [putRow, mapBlock, Sort.ahead] using hgl) (holds_putRow encStr _ g 0 _ _ (holds_ahead encStr wo nn g 0 _ HH.out) (by simp [hl2, HM.out]))
           have hcomp := Tryz.slices_Compact_string g 0 cap (sortS all) _ hH2 (by omega) (by omega)
           rw [hl2] at hcomp
           have HC := Lib.hid hcomp
           clear hcomp hl2 hH2)
        | (go_at_call 93; refine HC.out.mono ?_; rintro e w4 ⟨rfl, qq, rfl⟩)
        | fail)
      go_ret
      have he := put_end (nn := nn) (os := os) (q := qq) HM.out.symm HO.out HBr.out hbg
      have hlb : labelsP f = Lib.compact (sortS all) := by unfold labelsP; rw [HALL.out]; rfl
      rw [hlb]
      exact ⟨⟨_, rfl, he.1⟩, he.2⟩
end Go.Proofs.YtiofpeckcfdilaaGreatDoor

/- Points that the call copied; contract of the view's points. -/
namespace Go.Proofs.YtiofpeckcfdilaaGreatDoor
open Go.RowKit

/-- A point as it is laid. -/
structure PR8 where
  q : ByteArray
  s : ByteArray
  a : Option Addr
  n : Nat
  c : Nat
def encP8 (r : PR8) : List Value := [.string r.q, .string r.s, .slice r.a r.n r.c]
def EOwn (w : World) (lo base : Nat) (v : Value) (f : List PointL) : Prop :=
  ∃ rs : List PR8, w.ownsRow base 82 3 v f.length (rs.flatMap encP8) ∧ rs.length = f.length ∧ ∀ (j : Nat) (r : PR8) (t : PointL), rs[j]? = some r → f[j]? = some t → (r.q.toList = t.src ∧ r.q.size ≤ maxLen) ∧ r.s.toList = t.dst ∧ r.s.size ≤ maxLen ∧ Arms w lo r.a r.n t.arms
theorem EOwn.zero (w : World) (lo base : Nat) : EOwn w lo base (.slice none 0 0) [] := ⟨[], World.ownsRow_nil w base 82 3, rfl, fun j r l h => by simp at h⟩
theorem EOwn.lt {w : World} {lo base : Nat} {v : Value} {f : List PointL} (h : EOwn w lo base v f) : ∀ b, v.ownBlock = some b → base ≤ b ∧ b < w.heap.size := by
  obtain ⟨rs, h, _⟩ := h
  exact h.lt
theorem EOwn.stay {w w' : World} {lo base : Nat} {v : Value} {f : List PointL} (h : EOwn w lo base v f) (hb : ∀ b, v.ownBlock = some b → w'.heap[b]? = w.heap[b]?) (hl : Below lo w w') : EOwn w' lo base v f := by
  obtain ⟨rs, h, hrl, hrd⟩ := h
  refine ⟨rs, ownsRow_stay h hb, hrl, fun j r t hr ht => ?_⟩
  obtain ⟨e1, e2, e3, e4⟩ := hrd j r t hr ht
  exact ⟨e1, e2, e3, e4.below hl⟩
theorem flatE_at : ∀ (l : List PR8) (j : Nat) (t : PR8), l[j]? = some t → ∀ i, i < 3 → (l.flatMap encP8)[j * 3 + i]? = (encP8 t)[i]? := by
  intro l
  induction l with
  | nil => intro j t h; cases h
  | cons x l ih =>
    intro j t h i hi
    rw [List.flatMap_cons]
    cases j with
    | zero =>
      injection h with h
      subst h
      rw [Nat.zero_mul, Nat.zero_add, List.getElem?_append_left hi]
    | succ j =>
      have e : (j + 1) * 3 + i = 3 + (j * 3 + i) := by omega
      rw [e, List.getElem?_append_right (by show 3 ≤ _; omega)]
      show (l.flatMap encP8)[3 + (j * 3 + i) - 3]? = _
      rw [Nat.add_sub_cancel_left]
      exact ih j t h i hi
theorem info_point8 : (Tryz.prog.info? 82).map (fun i => (i.zero, i.size, i.bytes)) = some (some (.agg #[.string ⟨#[]⟩, .string ⟨#[]⟩, .slice none 0 0]), 3, 56) := by kernel_rfl
theorem wpList_append_epoint {ops : Array Oper} {rest : List Oper} {o : Oper} {a : Act} {Q : Exit → Act → World → Prop} {W : World} {cells : Array Value} (hgd : o.guard = none) (s x : Operand)
    (ho : o.op = .call { callee := .builtin .append, args := #[s, x], argTypes := #[35, 35] }) (lo base : Nat) (v : Value) (f : List PointL) (r : PR8) (t : PointL) (hc : cells = #[.string r.q, .string r.s, .slice r.a r.n r.c])
    (hs : a.eval s = v) {g : Nat} (hx : a.eval x = .slice (some ⟨g, 0, none⟩) 1 1) (hg : g = W.heap.size) (hB : EOwn W lo base v f) (hA : (r.q.toList = t.src ∧ r.q.size ≤ maxLen) ∧ r.s.toList = t.dst ∧ r.s.size ≤ maxLen ∧ Arms W lo r.a r.n t.arms) (hlb : lo ≤ base) (hb : base ≤ W.heap.size) (hlen : f.length ≤ 1000000)
    (w0 : World) (hw : Below base w0 W)
    (h : ∀ v' w', EOwn w' lo base v' (f ++ [t]) → Below base w0 w' → wpList Tryz.prog ops Q rest (a.put o.dst v') w') : wpList Tryz.prog ops Q (o :: rest) a (W.alloc (.cells cells 82)) := by
  subst hc hg
  obtain ⟨i0, hi0, hzz⟩ := Option.map_eq_some_iff.1 info_point8
  simp only [Prod.mk.injEq] at hzz
  obtain ⟨hz, hs1, hb1⟩ := hzz
  obtain ⟨rs, hown, hrl, hrd⟩ := hB
  have hown1 : (W.alloc (.cells #[.string r.q, .string r.s, .slice r.a r.n r.c] 82)).ownsRow base 82 3 v f.length (rs.flatMap encP8) := World.ownsRow.alloc hown _
  obtain ⟨v', w', hrun, hown', hgr, _, hat⟩ := run_append_own_at (P := Tryz.prog) (W.alloc (.cells #[.string r.q, .string r.s, .slice r.a r.n r.c] 82)) base 35 o.type 82 i0 _ 3 56 Tryz.underlying35 hi0 hz hs1 hb1 rfl (by omega) v f.length (rs.flatMap encP8) hown1
    ⟨W.heap.size, 0, none⟩ 1 1 (encP8 r) rfl
    (fun j u hu => by
      rw [Go.WideShapes.add_plain, cell_of_row _ _ _ _ _ _ (heap_alloc_new W _), Nat.zero_add, ← hu]
      rw [← Array.getElem?_toList]
      rfl)
    (fun u hu => by
      unfold encP8 at hu
      simp only [List.mem_cons, List.not_mem_nil, or_false] at hu
      rcases hu with rfl | rfl | rfl <;> rfl) (by unfold maxLen; omega) (by omega) (by simp; omega)
  have hbel : ∀ w0, Below base w0 W → Below base w0 w' := fun w0 hw0 => (hw0.alloc (by omega) _).grown hgr (by simp; omega) (fun k hk => by
    have := hown1.lt k hk
    omega)
  have hmove : ∀ (r : PR8) (t : PointL), ((r.q.toList = t.src ∧ r.q.size ≤ maxLen) ∧ r.s.toList = t.dst ∧ r.s.size ≤ maxLen ∧ Arms W lo r.a r.n t.arms) → ((r.q.toList = t.src ∧ r.q.size ≤ maxLen) ∧ r.s.toList = t.dst ∧ r.s.size ≤ maxLen ∧ Arms w' lo r.a r.n t.arms) := fun r t ⟨e1, e2, e3, e4⟩ =>
    ⟨e1, e2, e3, e4.below ((hbel W (Below.refl _ _)).mono hlb)⟩
  refine wpList_append_lx hgd s x _ ho _ _ _ hs hx hrun (h v' w' ⟨rs ++ [r], ?_, by simp [hrl], fun j r2 k hj hk => ?_⟩ (hbel w0 hw))
  · rw [List.length_append, List.flatMap_append, List.flatMap_cons, List.flatMap_nil, List.append_nil]
    exact hown'
  · rcases Nat.lt_or_ge j rs.length with hlt | hge
    · rw [List.getElem?_append_left hlt] at hj
      rw [List.getElem?_append_left (by omega)] at hk
      exact hmove _ _ (hrd j r2 k hj hk)
    · rw [List.getElem?_append_right hge] at hj
      rw [List.getElem?_append_right (by omega), ← hrl] at hk
      have h0 : j - rs.length = 0 := by
        obtain ⟨h1, _⟩ := List.getElem?_eq_some_iff.1 hj
        simpa using h1
      rw [h0] at hj hk
      obtain rfl : r = r2 := by simpa using hj
      obtain rfl : t = k := by simpa using hk
      exact hmove _ _ hA
theorem EOwn.sees {w : World} {lo base : Nat} {v : Value} {f : List PointL} (h : EOwn w lo base v f) (hl : f.length ≤ 1000000) (hlo : lo ≤ w.heap.size) (hn : 0 < f.length) : ∃ b c, v = .slice (some ⟨b, 0, none⟩) f.length c ∧ base ≤ b ∧ b < w.heap.size ∧ Pts w w.heap.size (some ⟨b, 0, none⟩) f.length f := by
  obtain ⟨rs, h, hrl, hrd⟩ := h
  have hlt := h.lt
  rcases h.2 with ⟨h0, h1⟩ | ⟨g, cap, cur, rfl, hbase, hh, h1, h2, h3, h4⟩
  · omega
  · refine ⟨g, cap, rfl, hbase, (hlt g rfl).2, rfl, by omega, fun _ => ⟨g, 0, rfl, (hlt g rfl).2, fun j t hj => ?_⟩⟩
    have hj' : j < f.length := (List.getElem?_eq_some_iff.1 hj).1
    have hr := List.getElem?_eq_getElem (l := rs) (i := j) (by omega)
    obtain ⟨e1, e2, e3, e4⟩ := hrd j _ t hr hj
    have hcell : ∀ i, i < 3 → w.cell? ⟨g, 0 + (j * 3 + i), none⟩ = (encP8 (rs[j]'(by omega)))[i]? := fun i hi => by
      rw [cell_of_row w g _ cur 82 (0, 0) hh, Nat.zero_add, ← flatE_at rs j _ hr i hi]
      have : (cur.toList.take (f.length * 3))[j * 3 + i]? = (rs.flatMap encP8)[j * 3 + i]? := by rw [h4]
      rw [List.getElem?_take, if_pos (by omega)] at this
      rw [← Array.getElem?_toList, this]
    exact ⟨_, _, _, _, _, ⟨hcell 0 (by omega), hcell 1 (by omega), hcell 2 (by omega)⟩, e1.1, e2, e1.2, e3, e4.more hlo⟩
set_option maxHeartbeats 8000000 in
set_option maxRecDepth 20000 in
theorem points_any (B0 g : Nat) (k : VC) (la na : Option Addr) (ln lc nn nc mb : Nat) (ps : List PointL) (va : Option Addr) (vn vc : Nat) (near : List Nat) (w : World) (hV : VBox w g k la ln lc na nn nc mb) (hP : Pts w B0 k.a k.n ps) (hB : B0 ≤ w.heap.size) (hs : Nums w w.heap.size va vn (rowI near)) (hsn : ∀ x ∈ near, x < k.n) (hvn : vn ≤ 1000) :
    Calls Tryz.prog 85 #[.pointer (some ⟨g, 0, none⟩), .slice va vn vc] w fun e w' => (∃ v, e = .returned v ∧ EOwn w' B0 w.heap.size v (ptsOf ps near)) ∧ Below w.heap.size w w' := by
  have HVB := Lib.hid hV
  have HN := Lib.hid hP
  have HL := Lib.hid hs
  have HSN := Lib.hid hsn
  have HLN := Lib.hid (show near.length = vn by have := hs.1; rwa [rowI_len] at this)
  have hgl := hV.lt
  clear hV hP hs hsn
  go_enter Tryz.func85, Tryz.ntmps85
  go_wp2_with fail
  go_loopw [5, 10] (fun o i wr => ∃ (j : Nat) (v : Value), j ≤ vn ∧ i = .int .i64 j ∧ v = o ∧ Hid (EOwn wr B0 w.heap.size v (ptsOf ps (near.take j))) ∧ Hid (Below w.heap.size w wr)) (fun _ i _ => vn - (intOf i).toNat)
  case atStart => exact ⟨0, _, Nat.zero_le _, rfl, rfl, Lib.hid (EOwn.zero _ _ _), Lib.hid (Below.refl _ _)⟩
  case round =>
    obtain ⟨j, v, hj, rfl, hvo, HO, HBr⟩ := hrel
    subst hvo
    have hzr := HBr.out.size
    obtain ⟨_, _, pc2, _, _, _, _⟩ := (HVB.out.on HBr.out).cells
    by_cases hlt : j < vn
    · obtain ⟨b1, o1, y1, rfl, hb1, hy1, k0⟩ := (HL.out.below HBr.out).at_ hlt
      obtain ⟨p, hpe, hp⟩ := rowI_at hy1
      subst hpe
      have hpn := HSN.out p (List.mem_of_getElem? hp)
      obtain ⟨b, off, q, s, aa, an, ac, al, hka, hbb, hx, ⟨q0, q1, q2⟩, hq, hs, hal⟩ := HN.out.at_ hpn
      rw [hka] at pc2
      have r0 := (HBr.out.cell (p := ⟨b, off + p * 3, none⟩) (by show b < _; omega)).trans q0
      have r1 := (HBr.out.cell (p := ⟨b, off + p * 3 + 1, none⟩) (by show b < _; omega)).trans q1
      have r2 := (HBr.out.cell (p := ⟨b, off + p * 3 + 2, none⟩) (by show b < _; omega)).trans q2
      have hpo : pointOf ps p = ⟨q.toList, s.toList, al⟩ := by unfold pointOf; rw [hx]; rfl
      obtain ⟨f, hf⟩ : ∃ f, f = ptsOf ps (near.take j) := ⟨_, rfl⟩
      have HST := Lib.hid (show ptsOf ps (near.take (j + 1)) = f ++ [⟨q.toList, s.toList, al⟩] by unfold ptsOf at hf ⊢; rw [tuTake_at hp, List.map_append, ← hf]; simp [hpo])
      have HFL := Lib.hid (show f.length ≤ 1000 by rw [hf]; unfold ptsOf; rw [List.length_map, List.length_take]; omega)
      rw [← hf] at HO
      have HA := Lib.hid (show (q.toList = (⟨q.toList, s.toList, al⟩ : PointL).src ∧ q.size ≤ maxLen) ∧ s.toList = (⟨q.toList, s.toList, al⟩ : PointL).dst ∧ s.size ≤ maxLen ∧ Arms wr B0 aa an (⟨q.toList, s.toList, al⟩ : PointL).arms from ⟨⟨rfl, hq⟩, rfl, hs, hal.below (HBr.out.mono hB)⟩)
      have i1 : (j : Int) < (vn : Int) := by omega
      have i2 : (0 : Int) ≤ (j : Int) := by omega
      have i3 : (p : Int) < (k.n : Int) := by omega
      have i4 : (0 : Int) ≤ (p : Int) := by omega
      clear hp hy1 hx hq hs hal q0 q1 q2 hpo hf
      go_wp2_with (first
        | (at_builtin
           refine wpList_append_epoint rfl (.tmp 14) (.tmp 23) rfl B0 w.heap.size v f ⟨q, s, aa, an, ac⟩ ⟨q.toList, s.toList, al⟩ rfl rfl rfl rfl HO.out HA.out hB hzr (by have := HFL.out; omega) w HBr.out ?_
           intro v3 w3 ho3 hb3
           have HO3 := Lib.hid ho3
           have HB3 := Lib.hid hb3
           clear ho3 hb3)
        | fail)
      go_roundw
      case rel => exact ⟨j + 1, _, by omega, by go_num, rfl, Lib.hid (by rw [HST.out]; exact HO3.out), HB3⟩
      case measure => simp [intOf]; omega
    · have hall : near.take j = near := List.take_of_length_le (by have := HLN.out; omega)
      rw [hall] at HO
      have d1 : decide ((j : Int) < (vn : Int)) = false := decide_eq_false (by omega)
      clear hall
      go_wp2_with fail
      go_ret
      exact ⟨⟨_, rfl, HO.out⟩, HBr.out⟩
end Go.Proofs.YtiofpeckcfdilaaGreatDoor

/- Contract of the view's turn. -/
namespace Go.Proofs.YtiofpeckcfdilaaGreatDoor
open Go.RowKit

/-- The box of a turn. -/
def TB8 (W : World) (g : Nat) (k : Int) (s : ByteArray) (a : Option Addr) (n c : Nat) : Prop := W.heap[g]? = some (.cells #[.int .i64 k, .string s, .slice a n c] 51 (0, 0))
section
variable {W W' : World} {g : Nat} {k : Int} {s : ByteArray} {a : Option Addr} {n c : Nat}
theorem TB8.lt (h : TB8 W g k s a n c) : g < W.heap.size := (Array.getElem?_eq_some_iff.1 h).1
theorem TB8.on (h : TB8 W g k s a n c) (hb : Below W.heap.size W W') : TB8 W' g k s a n c := (hb.block g h.lt).trans h
theorem TB8.block (h : TB8 W g k s a n c) (hb : W'.heap[g]? = W.heap[g]?) : TB8 W' g k s a n c := hb.trans h
theorem TB8.cells (h : TB8 W g k s a n c) : W.cell? ⟨g, 0, none⟩ = some (.int .i64 k) ∧ W.cell? ⟨g, 1, none⟩ = some (.string s) ∧ W.cell? ⟨g, 2, none⟩ = some (.slice a n c) := by
  unfold TB8 at h
  refine ⟨?_, ?_, ?_⟩
  all_goals (rw [cell_of_row _ _ _ _ _ _ h]; rfl)
theorem TB8.thaw (h : TB8 W g k s a n c) (o : Nat) : W.frozen? ⟨g, o, none⟩ = false := by
  unfold TB8 at h
  unfold World.frozen?
  rw [h]
  simp
theorem TB8.set {a' : Option Addr} {n' c' : Nat} (h : TB8 W g k s a n c) : TB8 (W.setCell ⟨g, 2, none⟩ (.slice a' n' c')) g k s a' n' c' := by
  unfold TB8 at h ⊢
  obtain ⟨hlt, hk⟩ := Array.getElem?_eq_some_iff.1 h
  show (W.heap.modify g _)[g]? = _
  rw [Array.getElem?_eq_getElem (by rw [Array.size_modify]; exact hlt), Array.getElem_modify_self, hk]
  rfl
theorem TB8.fill {k' : Int} {s' : ByteArray} {a' : Option Addr} {n' c' : Nat} (h : TB8 W g k s a n c) : TB8 (((W.setCell ⟨g, 0, none⟩ (.int .i64 k')).setCell ⟨g, 1, none⟩ (.string s')).setCell ⟨g, 2, none⟩ (.slice a' n' c')) g k' s' a' n' c' := by
  have hset : ∀ (V : World) (cur : Array Value) (o : Nat) (u : Value), V.heap[g]? = some (.cells cur 51 (0, 0)) → (V.setCell ⟨g, o, none⟩ u).heap[g]? = some (.cells (cur.set! o u) 51 (0, 0)) := fun V cur o u hV => by
    obtain ⟨hlt, hk2⟩ := Array.getElem?_eq_some_iff.1 hV
    show (V.heap.modify g _)[g]? = _
    rw [Array.getElem?_eq_getElem (by rw [Array.size_modify]; exact hlt), Array.getElem_modify_self, hk2]
    rfl
  exact hset _ _ 2 _ (hset _ _ 1 _ (hset _ _ 0 _ h))
end
theorem AOwn.stay8 {w w' : World} {base : Nat} {v : Value} {l : List ArmL} (h : AOwn w base v l) (hb : ∀ b, v.ownBlock = some b → w'.heap[b]? = w.heap[b]?) : AOwn w' base v l := by
  obtain ⟨ts, h1, h2, h3⟩ := h
  exact ⟨ts, ownsRow_stay h1 hb, h2, h3⟩
theorem AOwn.lt8 {w : World} {base : Nat} {v : Value} {l : List ArmL} (h : AOwn w base v l) : ∀ b, v.ownBlock = some b → base ≤ b ∧ b < w.heap.size := by
  obtain ⟨ts, h1, _⟩ := h
  exact h1.lt
/-- An arm more. -/
theorem wpList_append_arm8 {ops : Array Oper} {rest : List Oper} {o : Oper} {a : Act} {Q : Exit → Act → World → Prop} {W : World} {cells : Array Value} (hgd : o.guard = none) (s x : Operand)
    (ho : o.op = .call { callee := .builtin .append, args := #[s, x], argTypes := #[49, 49] }) (base : Nat) (v : Value) (l : List ArmL) (t : AR) (hc : cells = (encAR t).toArray) (ht : okR t)
    (hs : a.eval s = v) {g : Nat} (hx : a.eval x = .slice (some ⟨g, 0, none⟩) 1 1) (hg : g = W.heap.size) (hB : AOwn W base v l) (hb : base ≤ W.heap.size) (hlen : l.length ≤ 1000)
    (h : ∀ v' w', AOwn w' base v' (l ++ [armR t]) → (W.alloc (.cells (encAR t).toArray 67)).grownBy w' v.ownBlock → (v'.ownBlock = v.ownBlock ∨ v'.ownBlock = some (W.heap.size + 1)) → wpList Tryz.prog ops Q rest (a.put o.dst v') w') : wpList Tryz.prog ops Q (o :: rest) a (W.alloc (.cells cells 67)) := by
  subst hc hg
  obtain ⟨i0, hi0, hzz⟩ := Option.map_eq_some_iff.1 info_arm
  simp only [Prod.mk.injEq] at hzz
  obtain ⟨hz, hs1, hb1⟩ := hzz
  obtain ⟨ts, hown, hl, hok⟩ := hB
  obtain ⟨v', w', hrun, hown', hgr, _, hat⟩ := run_append_own_at (P := Tryz.prog) (W.alloc (.cells (encAR t).toArray 67)) base 49 o.type 67 i0 _ 4 48 Tryz.underlying49 hi0 hz hs1 hb1 rfl (by omega) v l.length (ts.flatMap encAR) (World.ownsRow.alloc hown _)
    ⟨W.heap.size, 0, none⟩ 1 1 (encAR t) rfl
    (fun j u hu => by
      rw [Go.WideShapes.add_plain, cell_of_row _ _ _ _ _ _ (heap_alloc_new W _), Nat.zero_add, ← hu]
      rw [← Array.getElem?_toList])
    (fun u hu => encAR_cell (l := [t]) (by rw [List.flatMap_cons, List.flatMap_nil, List.append_nil]; exact hu)) (by unfold maxLen; omega) (by omega) (by simp; omega)
  refine wpList_append_lx hgd s x _ ho _ _ _ hs hx hrun (h v' w' ⟨ts ++ [t], ?_, by rw [List.map_append, hl]; rfl, fun y hy => ?_⟩ hgr (by simpa using hat))
  · rw [List.length_append, List.flatMap_append, List.flatMap_cons, List.flatMap_nil, List.append_nil]
    exact hown'
  · rcases List.mem_append.1 hy with h1 | h1
    · exact hok y h1
    · rw [List.mem_singleton.1 h1]; exact ht
/-- What turn answers. -/
def TurnRet (W : World) (B0 base g mb : Nat) (k : VC) (la : Option Addr) (lc : Nat) (v : Value) (rs : List Str) (ps : List PointL) (U : List Nat) (r : Except Int (TurnL × List (List Nat))) (e : Ending) (w' : World) : Prop :=
  match r with
  | .error er => (∃ (kd : Int) (s : ByteArray) (a : Option Addr) (n c : Nat), e = .returned (.tuple #[.agg #[.int .i64 kd, .string s, .slice a n c], .int .i64 er])) ∧ Below B0 W w'
  | .ok (t, ns') => ∃ (s : ByteArray) (a : Option Addr) (n c : Nat), (e = .returned (.tuple #[.agg #[.int .i64 t.kind, .string s, .slice a n c], .int .i64 0]) ∧ s.toList = t.peer ∧ s.size ≤ maxLen ∧ Arms w' w'.heap.size a n t.arms) ∧
    ∃ na' nn' nc' U', VIn w' B0 base g mb k la lc na' nn' nc' rs ps ns' U' ∧ Aside B0 g mb v (.slice na' nn' nc') W w' ∧ (∀ u ∈ U', u ∈ U ∨ W.heap.size ≤ u) ∧ ∀ u ∈ blk a, W.heap.size ≤ u ∧ u < w'.heap.size ∧ u ∉ U' ∧ (Value.slice na' nn' nc').ownBlock ≠ some u
/-- What stands between two labels. -/
structure TSt (w wr : World) (B0 base g mb : Nat) (k : VC) (la : Option Addr) (lc : Nat) (v0 : Value) (U0 : List Nat) (na : Option Addr) (nn nc : Nat) (rs : List Str) (ps : List PointL) (ns : List (List Nat)) (U : List Nat) (x7 : Nat) (kd : Int) (pr : ByteArray) (aa : Option Addr) (an ac b7 : Nat) (out : List ArmL) (b5 : Nat) (pv : Value) (f : List PointL) (b6 : Nat) (lv : Value) (ls : List Str) : Prop where
  view : VIn wr B0 base g mb k la lc na nn nc rs ps ns U
  first : base ≤ w.heap.size
  aside : Aside B0 g mb v0 (.slice na nn nc) w wr
  used : ∀ u ∈ U, u ∈ U0 ∨ w.heap.size ≤ u
  free : ∀ b, (b = w.heap.size ∨ b = x7 ∨ pv.ownBlock = some b ∨ lv.ownBlock = some b ∨ (Value.slice aa an ac).ownBlock = some b) → w.heap.size ≤ b ∧ b < wr.heap.size ∧ b ∉ U ∧ (Value.slice na nn nc).ownBlock ≠ some b
  box4 : TB8 wr w.heap.size 0 ⟨#[]⟩ none 0 0
  box7 : TB8 wr x7 kd pr aa an ac
  arms : AOwn wr b7 (.slice aa an ac) out
  pts : EOwn wr B0 b5 pv f
  labs : wr.ownsRow b6 9 1 lv ls.length (ls.map encStr)
  dist : w.heap.size < x7 ∧ x7 < b7 ∧ (∀ b, pv.ownBlock = some b → b < x7 ∧ b ≠ w.heap.size) ∧ (∀ b, lv.ownBlock = some b → x7 < b ∧ b < b7)
section
variable {w wr W : World} {B0 base g mb : Nat} {k : VC} {la : Option Addr} {lc : Nat} {v0 : Value} {U0 : List Nat} {na : Option Addr} {nn nc : Nat} {rs : List Str} {ps : List PointL} {ns : List (List Nat)} {U : List Nat} {x7 : Nat} {kd : Int} {pr : ByteArray} {aa : Option Addr} {an ac b7 : Nat} {out : List ArmL} {b5 : Nat} {pv : Value} {f : List PointL} {b6 : Nat} {lv : Value} {ls : List Str}
/-- Where all that is held stays. -/
theorem TSt.keep (h : TSt w wr B0 base g mb k la lc v0 U0 na nn nc rs ps ns U x7 kd pr aa an ac b7 out b5 pv f b6 lv ls) (hb : Below B0 wr W) (hk : ∀ b, b < wr.heap.size → W.heap[b]? = wr.heap[b]?) : TSt w W B0 base g mb k la lc v0 U0 na nn nc rs ps ns U x7 kd pr aa an ac b7 out b5 pv f b6 lv ls := by
  have hz := hb.size
  have hfr := h.free
  refine ⟨h.view.stayed hb (fun b h1 _ => hk b h1), h.first, h.aside.trans ⟨hb, fun b h1 _ _ _ => hk b h1, fun _ _ h => h⟩, h.used, fun b hb2 => ?_, h.box4.block (hk _ h.box4.lt), h.box7.block (hk _ h.box7.lt), h.arms.stay8 (fun b e => hk b (h.arms.lt8 b e).2), h.pts.stay (fun b e => hk b (h.pts.lt b e).2) hb, ownsRow_stay h.labs (fun b e => hk b (World.ownsRow.lt h.labs b e).2), h.dist⟩
  obtain ⟨h1, h2, h3, h4⟩ := hfr b hb2
  exact ⟨h1, by omega, h3, h4⟩
theorem TSt.on (h : TSt w wr B0 base g mb k la lc v0 U0 na nn nc rs ps ns U x7 kd pr aa an ac b7 out b5 pv f b6 lv ls) (hb : Below wr.heap.size wr W) : TSt w W B0 base g mb k la lc v0 U0 na nn nc rs ps ns U x7 kd pr aa an ac b7 out b5 pv f b6 lv ls :=
  h.keep (hb.mono (by have := h.view.low; omega)) (fun b h1 => hb.block b h1)
/-- Behind a look. -/
theorem TSt.look (h : TSt w wr B0 base g mb k la lc v0 U0 na nn nc rs ps ns U x7 kd pr aa an ac b7 out b5 pv f b6 lv ls) {na' : Option Addr} {nn' nc' : Nat} {ns' : List (List Nat)} {U' : List Nat} (hv : VIn W B0 base g mb k la lc na' nn' nc' rs ps ns' U') (ha : Aside B0 g mb (.slice na nn nc) (.slice na' nn' nc') wr W) (hu : ∀ u ∈ U', u ∈ U ∨ wr.heap.size ≤ u) :
    TSt w W B0 base g mb k la lc v0 U0 na' nn' nc' rs ps ns' U' x7 kd pr aa an ac b7 out b5 pv f b6 lv ls := by
  have hz := ha.bel.size
  have hl := h.view.low
  have hzw := h.aside.bel.size
  have hfst := h.first
  have hk : ∀ b, (b = w.heap.size ∨ b = x7 ∨ pv.ownBlock = some b ∨ lv.ownBlock = some b ∨ (Value.slice aa an ac).ownBlock = some b) → W.heap[b]? = wr.heap[b]? := fun b hb => by
    obtain ⟨h1, h2, h3, h4⟩ := h.free b hb
    exact ha.keep b h2 (by omega) (by omega) h4
  refine ⟨hv, h.first, h.aside.trans ha, fun u h1 => ?_, fun b hb => ?_, h.box4.block (hk _ (.inl rfl)), h.box7.block (hk _ (.inr (.inl rfl))), h.arms.stay8 (fun b e => hk b (.inr (.inr (.inr (.inr e))))), h.pts.stay (fun b e => hk b (.inr (.inr (.inl e)))) ha.bel, ownsRow_stay h.labs (fun b e => hk b (.inr (.inr (.inr (.inl e))))), h.dist⟩
  · rcases hu u h1 with h2 | h2
    · exact h.used u h2
    · exact .inr (by omega)
  · obtain ⟨h1, h2, h3, h4⟩ := h.free b hb
    refine ⟨h1, by omega, fun h5 => ?_, ha.own b h2 h4⟩
    rcases hu b h5 with h6 | h6
    · exact h3 h6
    · omega
end
end Go.Proofs.YtiofpeckcfdilaaGreatDoor
