/- Contract of the program's search: the places that are reached, in a slice, and each one's index, in a map. -/
import Derived.Test.YtiofpeckcfdilaaGreatDoorTuOwnS
import Derived.Test.YtiofpeckcfdilaaGreatDoorTuPeers
import Derived.Maps.OwnOps
import Derived.Maps.OwnSet
import Derived.Maps.Views
import Derived.Deep.RegionWith
namespace Go.Proofs.YtiofpeckcfdilaaGreatDoor
open Go.RowKit Go.Maps Go.WideMaps

def keyI (x : Nat) : Lit := .int .i64 (x : Int)
theorem keyI_wf {x : Nat} (h : x ≤ 1000000) : (Lit.int .i64 (x : Int)).wf = true := WalkArith.wf_i64 (by omega)
theorem keyedI : Keyed Tryz.prog 3 := int_keyed Tryz.underlying3
theorem keyI_ne {x y : Nat} (h : x ≠ y) : keyI x ≠ keyI y := by
  unfold keyI
  intro e
  injection e with _ e
  omega
/-- The block holds a map from each place of the row to its index there; all places are small. -/
def PMap (w : World) (b : Nat) (row : List Nat) : Prop :=
  ∃ (n : Nat) (D : DataW Unit), w.ownsMap Tryz.prog 3 (plainElem Tryz.prog 3) b n D ∧ n ≤ row.length ∧ row.length ≤ 1000 ∧
    ∀ x : Nat, x ≤ 1000000 → D.atKey (keyI x) (.lit (.int .i64 0)) = .lit (.int .i64 ((if x ∈ row then row.idxOf x else 0 : Nat) : Int)) ∧ Maps.has D (keyI x) = decide (x ∈ row)
theorem PMap.made (w : World) : PMap (w.alloc (.map #[] 0)) w.heap.size [] :=
  ⟨0, .map [], World.ownsMap_made _ _ _ _, Nat.le_refl _, by simp, fun x _ => ⟨rfl, rfl⟩⟩
theorem PMap.kept {w w' : World} {b : Nat} {row : List Nat} {r : Option Nat} (h : PMap w b row) (hg : w.grownBy w' r) (hne : some b ≠ r) : PMap w' b row := by
  obtain ⟨n, D, h1, h2⟩ := h
  exact ⟨n, D, h1.kept hg hne, h2⟩
theorem PMap.lt {w : World} {b : Nat} {row : List Nat} (h : PMap w b row) : b < w.heap.size := by
  obtain ⟨n, D, h1, _⟩ := h
  exact h1.lt
theorem PMap.block {w w' : World} {b : Nat} {row : List Nat} (h : PMap w b row) (hb : w'.heap[b]? = w.heap[b]?) : PMap w' b row := by
  obtain ⟨n, D, ⟨es, clock, h1, h2⟩, h3⟩ := h
  exact ⟨n, D, ⟨es, clock, hb.trans h1, h2⟩, h3⟩
theorem PMap.below {w w' : World} {b B : Nat} {row : List Nat} (h : PMap w b row) (hb : Below B w w') (hB : b < B) : PMap w' b row := h.block (hb.block b hB)
theorem PMap.on {w w' : World} {b : Nat} {row : List Nat} (h : PMap w b row) (hb : Below w.heap.size w w') : PMap w' b row := h.below hb h.lt
theorem zeroInt (w : World) : (zeroValue 3).run Tryz.prog w = .ok (.int .i64 0) w := by kernel_rfl
theorem PMap.look {w : World} {b : Nat} {row : List Nat} (h : PMap w b row) {x : Nat} (hx : x ≤ 1000000) (hm : x ∈ row) :
    (Instr.lookup 108 (.map (some b)) (.int .i64 (x : Int)) false).run Tryz.prog w = .ok (.int .i64 ((row.idxOf x : Nat) : Int)) w := by
  obtain ⟨n, D, h1, _, _, h4⟩ := h
  obtain ⟨c, hrun, hat, _⟩ := h1.lookup_int keyedI Tryz.underlying108 Tryz.underlying3 (zeroInt w) (keyOf_int_mk Tryz.underlying3 (keyI_wf hx))
  have h5 := (h4 x hx).1
  rw [if_pos hm] at h5
  have h6 := (Lit.int.inj (DataW.lit.inj (hat.symm.trans h5))).2
  subst h6
  exact hrun
theorem PMap.look_ok {w : World} {b : Nat} {row : List Nat} (h : PMap w b row) {x : Nat} (hx : x ≤ 1000000) :
    (Instr.lookup 108 (.map (some b)) (.int .i64 (x : Int)) true).run Tryz.prog w = .ok (.tuple #[.int .i64 ((if x ∈ row then row.idxOf x else 0 : Nat) : Int), .bool (decide (x ∈ row))]) w := by
  obtain ⟨n, D, h1, _, _, h4⟩ := h
  have hw0 : (Lit.int .i64 0).wf = true := by decide
  obtain ⟨v, ps, hrun, hv⟩ := h1.look_ok keyedI Tryz.underlying108 (zeroInt w) (plainElem_int Tryz.underlying3 hw0) (keyOf_int_mk Tryz.underlying3 (keyI_wf hx))
  obtain ⟨c, rfl, hc, _⟩ := plainElem_int_inv Tryz.underlying3 hv
  obtain ⟨h5, h6⟩ := h4 x hx
  have h7 := (Lit.int.inj (DataW.lit.inj ((congrArg Prod.fst hc).symm.trans h5))).2
  unfold keyI at h6
  rw [h6] at hrun
  subst h7
  exact hrun
theorem PMap.put {w : World} {b : Nat} {row : List Nat} (h : PMap w b row) {x : Nat} (hx : x ≤ 1000000) (hm : x ∉ row) (hl : row.length ≤ 900) :
    ∃ w', (Instr.mapUpdate 108 (.map (some b)) (.int .i64 (x : Int)) (.int .i64 ((row.length : Nat) : Int))).run Tryz.prog w = .ok () w' ∧ PMap w' b (row ++ [x]) ∧ w.grownBy w' (some b) := by
  obtain ⟨n, D, h1, h2, h3, h4⟩ := h
  obtain ⟨w', hrun, hown, hgr⟩ := h1.update keyedI Tryz.underlying108 (by unfold maxLen; omega) (keyOf_int_mk Tryz.underlying3 (keyI_wf hx)) (plainElem_int Tryz.underlying3 (keyI_wf (x := row.length) (by omega)))
  refine ⟨w', hrun, ⟨n + 1, _, hown, by simp; omega, by simp; omega, fun y hy => ?_⟩, hgr⟩
  by_cases e : y = x
  · subst e
    constructor
    · rw [show keyI y = Lit.int .i64 (y : Int) from rfl, atKey_put_same h1.isMap (show WideAt.IsKeyLit (Lit.int .i64 (y : Int)) from trivial)]
      rw [if_pos (by simp), List.idxOf_append, if_neg hm]
      simp
    · rw [show keyI y = Lit.int .i64 (y : Int) from rfl, has_put_same h1.isMap (show WideAt.IsKeyLit (Lit.int .i64 (y : Int)) from trivial)]
      simp
  · have hne := keyI_ne e
    obtain ⟨h5, h6⟩ := h4 y hy
    have hiff : y ∈ row ++ [x] ↔ y ∈ row := by simp [e]
    constructor
    · rw [show Lit.int .i64 (x : Int) = keyI x from rfl, atKey_put_other hne, h5]
      by_cases hr : y ∈ row
      · rw [if_pos hr, if_pos (hiff.2 hr), List.idxOf_append, if_pos hr]
      · rw [if_neg hr, if_neg (fun c => hr (hiff.1 c))]
    · rw [show Lit.int .i64 (x : Int) = keyI x from rfl, has_put_other hne, h6]
      rw [decide_eq_decide]
      exact hiff.symm
theorem wpList_mapUpdate_places {ops : Array Oper} {rest : List Oper} {o : Oper} {a : Act} {Q : Exit → Act → World → Prop} {W : World} (hg : o.guard = none) (m x v : Operand) (hop : o.op = Op.mapUpdate 108 m x v)
    (b : Nat) (row : List Nat) (hm : a.eval m = .map (some b)) (hown : PMap W b row) (y : Nat) (hy : y ≤ 1000000) (hnm : y ∉ row) (hl : row.length ≤ 900) (hx : a.eval x = .int .i64 (y : Int)) (hv : a.eval v = .int .i64 ((row.length : Nat) : Int))
    (hK : ∀ w', PMap w' b (row ++ [y]) → W.grownBy w' (some b) → wpList Tryz.prog ops Q rest (a.put o.dst undef) w') :
    wpList Tryz.prog ops Q (o :: rest) a W := by
  refine wpList_plain hg fun K' hK' => ?_
  obtain ⟨w', hrun, r1, r2⟩ := hown.put hy hnm hl
  unfold Oper.wp
  simp [execOp, hop, hm, hx, hv, hrun, Result.andThen]
  exact hK' _ _ (hK w' r1 r2)
/-- All blocks but two stay. -/
structure Two (g m : Nat) (w w' : World) : Prop where
  size : w.heap.size ≤ w'.heap.size
  block : ∀ k, k < w.heap.size → k ≠ g → k ≠ m → w'.heap[k]? = w.heap[k]?
theorem Two.refl (g m : Nat) (w : World) : Two g m w w := ⟨Nat.le_refl _, fun _ _ _ _ => rfl⟩
theorem Two.grown {g m : Nat} {w w' w2 : World} {r : Option Nat} (h : Two g m w w') (hg : w'.grownBy w2 r) (hr : ∀ k, r = some k → k = g ∨ k = m ∨ w.heap.size ≤ k) : Two g m w w2 :=
  ⟨Nat.le_trans h.size hg.size, fun k hk h1 h2 => (hg.block k (Nat.lt_of_lt_of_le hk h.size) (fun e => by
    rcases hr k e.symm with e | e | e
    · exact h1 e
    · exact h2 e
    · omega)).trans (h.block k hk h1 h2)⟩
theorem Two.alloc {g m : Nat} {w w' : World} (h : Two g m w w') (o : Obj) : Two g m w (w'.alloc o) :=
  h.grown (World.grownBy_alloc w' o none) (fun _ e => by cases e)
theorem Two.cell {g m : Nat} {w w' : World} (h : Two g m w w') {p : Addr} (hp : p.block < w.heap.size) (hg : p.block ≠ g) (hm : p.block ≠ m) : w'.cell? p = w.cell? p := World.cell?_of_block (h.block p.block hp hg hm)
/-- One number more to a slice of the call's own, and what has turned. -/
theorem IInts.add {w : World} {base : Nat} {v : Value} {l : List Int} (h : IInts w base v l) (hb : base ≤ w.heap.size) (n : Int) (hlen : l.length ≤ 1000000) (ty : Nat) :
    ∃ v' w', (Builtin.append_ #[25, 25] ty #[v, .slice (some ⟨w.heap.size, 0, none⟩) 1 1]).run Tryz.prog (w.alloc (.cells #[.int .i64 n] 3)) = .ok v' w' ∧ IInts w' base v' (l ++ [n]) ∧
      (w.alloc (.cells #[.int .i64 n] 3)).grownBy w' v.ownBlock ∧ (v'.ownBlock = v.ownBlock ∨ v'.ownBlock = some (w.heap.size + 1)) := by
  obtain ⟨i0, hi0, hzz⟩ := Option.map_eq_some_iff.1 info_int1
  simp only [Prod.mk.injEq] at hzz
  obtain ⟨hz, hs1, hb1⟩ := hzz
  obtain ⟨v', w', hrun, hown, hgr, _, hat⟩ := run_append_own_at (P := Tryz.prog) (w.alloc (.cells #[.int .i64 n] 3)) base 25 ty 3 i0 _ 1 8 Tryz.underlying25 hi0 hz hs1 hb1 rfl (by omega) v l.length (l.map encI64) (h.alloc _)
    ⟨w.heap.size, 0, none⟩ 1 1 [.int .i64 n] rfl
    (fun j u hu => by
      have hj : j = 0 := by
        rcases Nat.eq_zero_or_pos j with h | h
        · exact h
        · rw [List.getElem?_eq_none (by simp; omega)] at hu; cases hu
      subst hj
      obtain rfl : (Value.int .i64 n) = u := by simpa using hu
      rw [Go.WideShapes.add_plain, cell_of_row _ _ _ _ _ _ (heap_alloc_new w _)]
      rfl)
    (fun u hu => by rw [List.mem_singleton.1 hu]; rfl) (by unfold maxLen; omega) (by omega) (by simp; omega)
  refine ⟨v', w', hrun, ?_, hgr, ?_⟩
  · unfold IInts
    rw [List.length_append, List.map_append]
    exact hown
  · rw [World.size_alloc] at hat
    exact hat
theorem wpList_append_iints2 {ops : Array Oper} {rest : List Oper} {o : Oper} {a : Act} {Q : Exit → Act → World → Prop} {W : World} {cells : Array Value} (hgd : o.guard = none) (s x : Operand)
    (ho : o.op = .call { callee := .builtin .append, args := #[s, x], argTypes := #[25, 25] }) (base : Nat) (v : Value) (l : List Int) (n : Int) (hc : cells = #[.int .i64 n])
    (hs : a.eval s = v) {g : Nat} (hx : a.eval x = .slice (some ⟨g, 0, none⟩) 1 1) (hg : g = W.heap.size) (hB : IInts W base v l) (hb : base ≤ W.heap.size) (hlen : l.length ≤ 1000000)
    (h : ∀ v' w', IInts w' base v' (l ++ [n]) → (W.alloc (.cells #[.int .i64 n] 3)).grownBy w' v.ownBlock → (v'.ownBlock = v.ownBlock ∨ v'.ownBlock = some (W.heap.size + 1)) → wpList Tryz.prog ops Q rest (a.put o.dst v') w') : wpList Tryz.prog ops Q (o :: rest) a (W.alloc (.cells cells 3)) := by
  subst hc hg
  obtain ⟨v', w', hrun, hown, hgr, hat⟩ := hB.add hb n hlen o.type
  exact wpList_append_lx hgd s x _ ho _ _ _ hs hx hrun (h v' w' hown hgr hat)
end Go.Proofs.YtiofpeckcfdilaaGreatDoor

/- Contract of the program's search. -/
namespace Go.Proofs.YtiofpeckcfdilaaGreatDoor
open Go.RowKit

set_option maxHeartbeats 16000000 in
set_option maxRecDepth 20000 in
theorem ownSearch_any (nm : ByteArray) (a : Option Addr) (n c : Nat) (ts : List TurnL) (w : World) (bound : Nat) (hb : bound ≤ w.heap.size) (h : Turns w bound a n ts) (hv : locB ts = true) :
    Calls Tryz.prog 67 #[.agg #[.string nm, .slice a n c]] w fun e w' => (∃ v mb, e = .returned (.tuple #[v, .map (some mb)]) ∧ IInts w' w.heap.size v (rowI (reachT ts)) ∧ PMap w' mb (reachT ts)) ∧ Below w.heap.size w w' := by
  have hn1 : 1 ≤ n := by have := (locB_one hv).1; have := h.1; omega
  have hn40 : n ≤ 40 := by have := (locB_one hv).2.1; have := h.1; omega
  have HN := Lib.hid h
  have HLEN := Lib.hid h.1
  have HV := Lib.hid hv
  have HNX := Lib.hid (nexts_lt hv)
  have HAR := Lib.hid (arms_ok hv)
  have HB0 := Lib.hid (tu1 w (.cells #[.string nm, .slice a n c] 24))
  have HL0 := Lib.hid (LBox.new w nm a n c)
  obtain ⟨R, hR⟩ : ∃ R, reachT ts = R := ⟨_, rfl⟩
  rw [hR]
  have HR := Lib.hid (show bfs (nextsOf ts) n 0 [0] = R by rw [← HLEN.out]; exact hR)
  obtain ⟨wa, hwa⟩ : ∃ wa, wa = w.alloc (.cells #[.string nm, .slice a n c] 24) := ⟨_, rfl⟩
  obtain ⟨wb, hwb⟩ : ∃ wb, wb = wa.alloc (.cells #[.int .i64 0] 3) := ⟨_, rfl⟩
  have hsa : wa.heap.size = w.heap.size + 1 := by rw [hwa]; simp
  have hsb : wb.heap.size = w.heap.size + 2 := by rw [hwb]; simp [hsa]
  obtain ⟨wc, hins, hpm, hgr⟩ := (PMap.made wb).put (x := 0) (by omega) (by simp) (by simp)
  have hmm := @run_makeMap Tryz.prog
  have HI0 := Lib.hid (IInts.one (W := wa) (cs := #[.int .i64 0]) (base := w.heap.size + 1) (g := w.heap.size + 1) 0 hsa.symm rfl (by omega))
  rw [← hwb] at HI0
  have HIc := Lib.hid (show IInts wc (w.heap.size + 1) (.slice (some ⟨w.heap.size + 1, 0, none⟩) 1 1) (rowI [0]) from World.ownsRow.kept (World.ownsRow.alloc HI0.out _) hgr (.inr (by simp [Value.ownBlock]; omega)))
  have HBc := Lib.hid (show Below (w.heap.size + 1) wa wc from (((show Below (w.heap.size + 1) wa wb by rw [hwb, ← hsa]; exact tu1 wa _).alloc (by omega) (.map #[] 0)).grown hgr (by simp; omega) (fun j hj => by cases hj; omega)))
  have HPc := Lib.hid (show PMap wc (w.heap.size + 2) [0] by rw [← hsb]; exact hpm)
  have HLa := Lib.hid (show LBox wa w.heap.size nm a n c by rw [hwa]; exact HL0.out)
  have HBa := Lib.hid (show Below w.heap.size w wa by rw [hwa]; exact HB0.out)
  rw [hsb] at hins
  subst hwb hwa
  replace hins : (Instr.mapUpdate 108 (.map (some (w.heap.size + 2))) (.int .i64 0) (.int .i64 0)).run Tryz.prog (((w.alloc (.cells #[.string nm, .slice a n c] 24)).alloc (.cells #[.int .i64 0] 3)).alloc (.map #[] 0)) = .ok () wc := hins
  clear h hv hR hpm hgr HI0 HB0 HL0
  go_enter Tryz.func67, Tryz.ntmps67
  go_wp2
  clear hmm hins hsb
  have hsc := HBc.out.size
  rw [hsa] at hsc
  clear hsa
  go_loopw [4, 6] (fun s i wr => ∃ (j : Nat) (row : List Nat) (v : Value), i = .int .i64 j ∧ v = s ∧ j ≤ n ∧ Hid (row.Nodup ∧ (∀ x ∈ row, x < n) ∧ 1 ≤ row.length) ∧ Hid (bfs (nextsOf ts) (n - j) j row = R) ∧ Hid (IInts wr (w.heap.size + 1) v (rowI row)) ∧ Hid (PMap wr (w.heap.size + 2) row) ∧ Hid (v.ownBlock ≠ some (w.heap.size + 2)) ∧ Hid (Below (w.heap.size + 1) (w.alloc (.cells #[.string nm, .slice a n c] 24)) wr)) (fun _ i _ => n - (intOf i).toNat)
  case atStart => exact ⟨0, [0], _, rfl, rfl, Nat.zero_le _, Lib.hid ⟨by simp, by simp; omega, by simp⟩, Lib.hid HR.out, HIc, HPc, Lib.hid (by simp [Value.ownBlock]), HBc⟩
  case round =>
    obtain ⟨j, row, v, rfl, hvs, hjn, HRO, HF, HO, HP, HNE, HBr⟩ := hrel
    subst hvs
    obtain ⟨wo, hwo⟩ : ∃ wo : World, wo = wr := ⟨_, rfl⟩
    subst hwo
    have hzr := HBr.out.size
    rw [World.size_alloc] at hzr
    have hfew := nodup_few HRO.out.1 HRO.out.2.1
    have hrow1 := HRO.out.2.2
    have hpl := HP.out.lt
    have HBW := Lib.hid (HBa.out.trans (HBr.out.mono (by omega)))
    have HLr := Lib.hid (show LBox wo w.heap.size nm a n c from (HBr.out.block w.heap.size (by omega)).trans HLa.out)
    obtain ⟨lc0, lc1⟩ := HLr.out.cells
    obtain ⟨oa, oc, hva, _, _, hof, hon⟩ := HO.out.sees
    rw [rowI_len] at hva hof hon
    subst hva
    obtain ⟨ob, oo, rfl, hob1⟩ := hof (by omega)
    have HON := Lib.hid hon
    have hob2 : ob < wo.heap.size := (HO.out.lt ob rfl).2
    have hob3 : ob ≠ w.heap.size + 2 := fun e => HNE.out (by rw [e]; rfl)
    clear hon hof
    by_cases hlt : j < row.length
    · have hp := List.getElem?_eq_getElem hlt
      obtain ⟨p, hpe⟩ : ∃ p, row[j] = p := ⟨_, rfl⟩
      rw [hpe] at hp
      have hpn := HRO.out.2.1 p (List.mem_of_getElem? hp)
      obtain ⟨b1, o1, y1, e1, _, hy1, k0⟩ := HON.out.at_ hlt
      injection e1 with e1
      injection e1 with e2 e3 _
      subst e2 e3
      have hy2 : y1 = (p : Int) := by
        unfold rowI at hy1
        rw [List.getElem?_map, hp] at hy1
        exact (Option.some.inj hy1).symm
      subst hy2
      obtain ⟨b, off, kd, s0, aa, an, ac, l, rfl, hbb, ht, ⟨q0, q1, q2⟩, hs, hal⟩ := HN.out.at_ hpn
      have r2 := (HBW.out.cell (p := ⟨b, off + p * 3 + 2, none⟩) (by show b < _; omega)).trans q2
      have hao : armsOf ts p = l := by unfold armsOf; rw [ht]; rfl
      have hgd := HAR.out p
      rw [hao] at hgd
      have HAL := Lib.hid (hal.below (HBW.out.mono hb))
      have han : an ≤ 1000 := by
        have h1 := arms_few HV.out l (List.mem_map.2 ⟨_, List.mem_of_getElem? ht, rfl⟩)
        have := hal.1
        omega
      have hng : nextsOf ts p = (sortA l).map fun a => a.next.toNat := by unfold nextsOf; rw [hao]
      have hsl : (sortA l).length = an := by rw [sortA_len]; exact hal.1
      have hstep : bfs (nextsOf ts) (n - (j + 1)) (j + 1) (addN row (nextsOf ts p)) = R := by
        have h1 := HF.out
        rw [show n - j = (n - (j + 1)) + 1 by omega, bfs_some _ hp] at h1
        exact h1
      have hnd := addN_nodup (nextsOf ts p) row HRO.out.1
      have hlt2 : ∀ x ∈ addN row (nextsOf ts p), x < n := fun x hx => by
        rcases (addN_mem x _ _).1 hx with hx | hx
        · exact HRO.out.2.1 x hx
        · have := HNX.out p (by rw [HLEN.out]; exact hpn) x hx
          rw [HLEN.out] at this
          exact this
      have HNEW := Lib.hid (And.intro hnd (And.intro hlt2 hstep))
      have HNG := Lib.hid hng
      have HSL := Lib.hid hsl
      have HGD := Lib.hid hgd
      have hi1 : (j : Int) < (row.length : Int) := by omega
      have hi2 : (0 : Int) ≤ (j : Int) := by omega
      have hi3 : (p : Int) < (n : Int) := by omega
      have hi4 : (0 : Int) ≤ (p : Int) := by omega
      have CS := Lib.hid (ownSorted_any aa an ac l wo.drew bound (HAL.out.keep fun _ _ => rfl) han HGD.out.2)
      clear hp hpe hy1 q0 q1 q2 hal hng hstep hnd hlt2 hsl hao hgd ht
      go_wp2
      go_region_with (first
        | (go_at_call 68; (with_reducible refine CS.out.mono ?_)
           rintro e w3 ⟨⟨vl, he, hvl⟩, hb3⟩
           subst he
           have hb3 : Below wo.heap.size wo w3 := ⟨hb3.os, hb3.tape, hb3.output, hb3.size, hb3.block⟩
           have hfrom : ∀ bb oo nn cc, vl = .slice (some ⟨bb, oo, none⟩) nn cc → wo.heap.size ≤ bb := fun bb oo nn cc e => (hvl.from e).1
           obtain ⟨la, lc, hva, hla, _, _⟩ := hvl.sees (by rw [HSL.out]; omega)
           rw [HSL.out] at hva hla
           subst hva
           have HLA := Lib.hid hla
           have HFR := Lib.hid (fun (bb oo : Nat) (e : la = some ⟨bb, oo, none⟩) => hfrom bb oo an lc (by rw [e]))
           have HO3 := Lib.hid (HO.out.below hb3 (Nat.le_refl _))
           have HP3 := Lib.hid (HP.out.on hb3)
           have HB3 := Lib.hid (HBr.out.trans (hb3.mono (by omega)))
           have hz3 := hb3.size
           clear hvl hfrom hla hb3)
        | fail)
      all_goals
        go_wp2
        simp only [Act.put, List.getElem_toArray, List.getElem_cons_succ, List.getElem_cons_zero, List.setIfInBounds_toArray, List.set_cons_succ, List.set_cons_zero]
        go_loopw [4, 31] (fun s i wr => ∃ (k : Nat) (v2 : Value), k ≤ an ∧ i = .int .i64 k ∧ v2 = s ∧ Hid (IInts wr (w.heap.size + 1) v2 (rowI (addN row (((sortA l).take k).map fun a => a.next.toNat)))) ∧ Hid (PMap wr (w.heap.size + 2) (addN row (((sortA l).take k).map fun a => a.next.toNat))) ∧ Hid (Two ob (w.heap.size + 2) w3 wr) ∧ Hid (∀ g, v2.ownBlock = some g → g = ob ∨ w3.heap.size ≤ g) ∧ Hid (Below (w.heap.size + 1) (w.alloc (.cells #[.string nm, .slice (some ⟨b, off, none⟩) n c] 24)) wr)) (fun _ i _ => an - (intOf i).toNat)
        case atStart => exact ⟨0, _, Nat.zero_le _, rfl, rfl, Lib.hid (by rw [List.take_zero]; exact HO3.out), Lib.hid (by rw [List.take_zero]; exact HP3.out), Lib.hid (Two.refl _ _ _), Lib.hid (fun g hg => .inl (Option.some.inj hg).symm), HB3⟩
        case round =>
          obtain ⟨k, v2, hk, rfl, hv2, HI, HQ, HTw, HOW, HBt⟩ := hrel
          subst hv2
          have hzt := HBt.out.size
          rw [World.size_alloc] at hzt
          have hz4 := HTw.out.size
          by_cases hki : k < an
          · obtain ⟨lb, lo, s, u, ck, nx, hlae, hlb, hx, ⟨q0, q1, q2, q3⟩, _, _⟩ := HLA.out.at_ hki
            have hlbo : wo.heap.size ≤ lb := HFR.out lb lo hlae
            subst hlae
            have r0 := (HTw.out.cell (p := ⟨lb, lo + k * 4, none⟩) hlb (by show lb ≠ ob; omega) (by show lb ≠ _; omega)).trans q0
            have r1 := (HTw.out.cell (p := ⟨lb, lo + k * 4 + 1, none⟩) hlb (by show lb ≠ ob; omega) (by show lb ≠ _; omega)).trans q1
            have r2 := (HTw.out.cell (p := ⟨lb, lo + k * 4 + 2, none⟩) hlb (by show lb ≠ ob; omega) (by show lb ≠ _; omega)).trans q2
            have r3 := (HTw.out.cell (p := ⟨lb, lo + k * 4 + 3, none⟩) hlb (by show lb ≠ ob; omega) (by show lb ≠ _; omega)).trans q3
            have hgx := armB_all (HGD.out.1 _ (mem_sortA.1 (List.mem_of_getElem? hx)))
            have hnx0 : 0 ≤ nx ∧ nx < (ts.length : Int) := hgx.2.2
            obtain ⟨y, rfl⟩ : ∃ y : Nat, nx = (y : Int) := ⟨nx.toNat, by omega⟩
            have hyb : y ≤ 1000000 := by have := HLEN.out; omega
            have hst : addN row (((sortA l).take (k + 1)).map fun a => a.next.toNat) = if y ∈ addN row (((sortA l).take k).map fun a => a.next.toNat) then addN row (((sortA l).take k).map fun a => a.next.toNat) else addN row (((sortA l).take k).map fun a => a.next.toNat) ++ [y] := by
              rw [tuTake_at hx, List.map_append]
              show addN row (_ ++ [((y : Nat) : Int).toNat]) = _
              rw [Int.toNat_natCast, addN_snoc]
            have hm2s : (addN row (((sortA l).take k).map fun a => a.next.toNat)).length ≤ n := nodup_few (addN_nodup _ _ HRO.out.1) (fun z hz => by
                rcases (addN_mem z _ _).1 hz with hz | hz
                · exact HRO.out.2.1 z hz
                · have := HNX.out p (by rw [HLEN.out]; exact hpn) z (by
                    rw [HNG.out]
                    obtain ⟨q, hq, rfl⟩ := List.mem_map.1 hz
                    exact List.mem_map.2 ⟨q, List.mem_of_mem_take hq, rfl⟩)
                  rw [HLEN.out] at this
                  exact this)
            obtain ⟨rw2, hrw2⟩ : ∃ rw2, addN row (((sortA l).take k).map fun a => a.next.toNat) = rw2 := ⟨_, rfl⟩
            rw [hrw2] at hst HI HQ hm2s
            have hlk := PMap.look_ok (PMap.on HQ.out (tu1 wr (.cells #[.string s, .int .i64 ck, .string u, .int .i64 (y : Int)] 67))) hyb
            obtain ⟨oa2, oc2, hva2, _, _, _, _⟩ := HI.out.sees
            rw [rowI_len] at hva2
            obtain ⟨m2, hm2⟩ : ∃ m2, rw2.length = m2 := ⟨_, rfl⟩
            rw [hm2] at hva2 hm2s
            have hnm : v2.ownBlock ≠ some (w.heap.size + 2) := fun e => by
              rcases HOW.out _ e with e2 | e2
              · exact hob3 e2.symm
              · omega
            have HNM := Lib.hid hnm
            subst hva2
            have HM2 := Lib.hid hm2
            clear q0 q1 q2 q3 hx hgx hnx0 hrw2 hnm hm2
            by_cases hy : y ∈ rw2
            · rw [if_pos hy] at hst hlk
              rw [decide_eq_true hy] at hlk
              have HST := Lib.hid hst
              clear hst hy
              generalize ((rw2.idxOf y : Nat) : Int) = ix at hlk
              go_wp2_with fail
              go_roundw
              case rel => exact ⟨k + 1, _, by omega, by go_num, rfl, Lib.hid (by rw [HST.out]; exact HI.out.alloc _), Lib.hid (by rw [HST.out]; exact HQ.out.on (tu1 wr _)), Lib.hid (HTw.out.alloc _), HOW, Lib.hid (HBt.out.alloc (by omega) _)⟩
              case measure => simp [intOf]; omega
            · rw [if_neg hy] at hst hlk
              rw [decide_eq_false hy] at hlk
              have HST := Lib.hid hst
              have HY := Lib.hid hy
              clear hst hy
              go_wp2_with (first
                | (at_mapUpdate
                   refine wpList_mapUpdate_places rfl (.tmp 44) (.tmp 46) (.tmp 48) rfl (w.heap.size + 2) rw2 rfl (HQ.out.on (tu1 wr _)) y hyb HY.out (by rw [HM2.out]; omega) rfl (by rw [HM2.out]; rfl) ?_
                   intro w4 hp4 hg4
                   have HI4 := Lib.hid (show IInts w4 (w.heap.size + 1) (.slice oa2 m2 oc2) (rowI rw2) from World.ownsRow.kept (World.ownsRow.alloc HI.out _) hg4 (.inr HNM.out))
                   have HP4 := Lib.hid hp4
                   have HT4 := Lib.hid ((HTw.out.alloc _).grown hg4 (fun k e => .inr (.inl (Option.some.inj e).symm)))
                   have HB4 := Lib.hid ((HBt.out.alloc (by omega) _).grown hg4 (by simp; omega) (fun k e => by cases e; omega))
                   have hsz4 := hg4.size
                   rw [World.size_alloc] at hsz4
                   have t3 := (World.cell?_of_block (a := ⟨wr.heap.size, 3, none⟩) (hg4.block wr.heap.size (by simp) (fun e => by injection e with e; omega))).trans (show _ = some (.int .i64 (y : Int)) by simp)
                   clear hp4 hg4)
                | (at_builtin
                   refine wpList_append_iints2 rfl (.tmp 49) (.tmp 52) rfl (w.heap.size + 1) (.slice oa2 m2 oc2) (rowI rw2) (y : Int) rfl rfl rfl rfl HI4.out (by omega) (by rw [rowI_len, HM2.out]; omega) ?_
                   intro v5 w5 ho5 hg5 hat5
                   have HO5 := Lib.hid ho5
                   have HP5 := Lib.hid ((HP4.out.on (tu1 w4 _)).kept hg5 (fun e => HNM.out e.symm))
                   have HT5 := Lib.hid ((HT4.out.alloc _).grown hg5 (fun k e => by
                     rcases HOW.out k e with e | e
                     · exact .inl e
                     · exact .inr (.inr e)))
                   have HB5 := Lib.hid ((HB4.out.alloc (by omega) _).grown hg5 (by simp; omega) (fun k e => (HI4.out.lt k e).1))
                   have HOW5 := Lib.hid (show ∀ g, v5.ownBlock = some g → g = ob ∨ w3.heap.size ≤ g from fun g hg => by
                     rcases hat5 with e | e
                     · exact HOW.out g (e.symm.trans hg)
                     · rw [e] at hg
                       obtain rfl := Option.some.inj hg
                       right
                       omega)
                   clear ho5 hg5 hat5)
                | fail)
              go_roundw
              case rel => exact ⟨k + 1, v5, by omega, by go_num, rfl, Lib.hid (by rw [HST.out]; unfold rowI; rw [List.map_append]; exact HO5.out), Lib.hid (by rw [HST.out]; exact HP5.out), HT5, HOW5, HB5⟩
              case measure => simp [intOf]; omega
          · have HI2 := Lib.hid (show IInts wr (w.heap.size + 1) v2 (rowI (addN row (nextsOf ts p))) by
              have h1 := HI.out
              rw [List.take_of_length_le (by rw [HSL.out]; omega), ← HNG.out] at h1
              exact h1)
            have HQ2 := Lib.hid (show PMap wr (w.heap.size + 2) (addN row (nextsOf ts p)) by
              have h1 := HQ.out
              rw [List.take_of_length_le (by rw [HSL.out]; omega), ← HNG.out] at h1
              exact h1)
            have HNE2 := Lib.hid (show v2.ownBlock ≠ some (w.heap.size + 2) from fun e => by
              rcases HOW.out _ e with e2 | e2
              · exact hob3 e2.symm
              · omega)
            have hlen2 : 1 ≤ (addN row (nextsOf ts p)).length := Nat.le_trans hrow1 (addN_prefix _ _).length_le
            go_wp2
            go_roundw
            case rel => exact ⟨j + 1, addN row (nextsOf ts p), v2, by go_num, rfl, by omega, Lib.hid ⟨HNEW.out.1, HNEW.out.2.1, hlen2⟩, Lib.hid HNEW.out.2.2, HI2, HQ2, HNE2, HBt⟩
            case measure => simp [intOf]; omega
    · have HZ := Lib.hid (show row = R by have h1 := HF.out; rw [bfs_none _ (by omega)] at h1; exact h1)
      go_wp2
      go_ret2
      refine ⟨⟨_, _, rfl, ?_, ?_⟩, HBW.out⟩
      · rw [← HZ.out]; exact HO.out.low (by omega)
      · rw [← HZ.out]; exact HP.out
end Go.Proofs.YtiofpeckcfdilaaGreatDoor
