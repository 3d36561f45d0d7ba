/- Contracts of reparteemake's Protocol where the first number is known, and of the statements' protocol. -/
import Derived.Test.YtiofpeckcfdilaaGreatDoorGlMakes
import Derived.Test.YtiofpeckcfdilaaGreatDoorGlViss
import Derived.Test.YtiofpeckcfdilaaGreatDoorTuFirst
import Derived.Deep.CutRange
import Derived.Test.YtiofpeckcfdilaaGreatDoorTuRows
import Derived.BigQuiet
namespace Go.Proofs.YtiofpeckcfdilaaGreatDoor
open Go.RowKit

/-- Numbers of the call's own, and numbers that came in behind them. -/
theorem IInts.plus {w : World} (base : Nat) {bound : Nat} {a : Option Addr} {m : Nat} (c : Nat) {v : Value} {l0 l : List Int} (h : IInts w base v l0) (hr : Nums w bound a m l) (hlim : (l0.length + m) * 8 ≤ 140737488355328) (hbase : base ≤ w.heap.size) (ty : Nat) :
    ∃ v' w', (Builtin.append_ #[25, 25] ty #[v, .slice a m c]).run Tryz.prog w = .ok v' w' ∧ IInts w' base v' (l0 ++ l) ∧ w.grownBy w' v.ownBlock := by
  obtain ⟨i0, hi0, hzz⟩ := Option.map_eq_some_iff.1 info_int1
  simp only [Prod.mk.injEq] at hzz
  obtain ⟨hz, hs1, hb1⟩ := hzz
  rcases a with _ | ad
  · have hm : m = 0 := by
      rcases Nat.eq_zero_or_pos m with h0 | h0
      · exact h0
      · obtain ⟨b, off, h, _⟩ := hr.2.2 h0
        cases h
    subst hm
    have hts : l = [] := List.eq_nil_of_length_eq_zero hr.1
    subst hts
    exact ⟨_, w, run_append_none w base 25 ty 3 i0 Tryz.underlying25 hi0 _ _ _ h c, by rw [List.append_nil]; exact h, World.grownBy.refl w _⟩
  · have hcells : ∀ j u, (l.map encI64)[j]? = some u → w.cell? (ad.add j) = some u := by
      intro j u hu
      rw [List.getElem?_map] at hu
      obtain ⟨s, hs', rfl⟩ := Option.map_eq_some_iff.1 hu
      have hj : j < l.length := (List.getElem?_eq_some_iff.1 hs').1
      obtain ⟨b, off, h, _, hc⟩ := hr.2.2 (by have := hr.1; omega)
      obtain rfl := Option.some.inj h
      rw [Go.WideShapes.add_plain]
      exact hc j s hs'
    obtain ⟨v', w', hrun, h2, h3, _, _⟩ := run_append_own_at (P := Tryz.prog) w base 25 ty 3 i0 _ 1 8 Tryz.underlying25 hi0 hz hs1 hb1 rfl (by omega) v l0.length (l0.map encI64) h ad m c (l.map encI64) (by simp [hr.1]) hcells
      (fun u hu => by
        obtain ⟨s, _, rfl⟩ := List.mem_map.1 hu
        rfl) (by unfold maxLen; omega) (by omega) hbase
    refine ⟨v', w', hrun, ?_, h3⟩
    unfold IInts
    rw [List.length_append, List.map_append, hr.1]
    exact h2
theorem wpList_append_plus {ops : Array Oper} {rest : List Oper} {o : Oper} {a : Act} {Q : Exit → Act → World → Prop} {W : World} (hgd : o.guard = none) (s x : Operand)
    (ho : o.op = .call { callee := .builtin .append, args := #[s, x], argTypes := #[25, 25] }) (base : Nat) (bound : Nat) (v : Value) (ad : Option Addr) (m c : Nat) (l0 l : List Int)
    (hs : a.eval s = v) (hx : a.eval x = .slice ad m c) (h0 : IInts W base v l0) (hr : Nums W bound ad m l) (hlim : (l0.length + m) * 8 ≤ 140737488355328) (hb : base ≤ W.heap.size)
    (h : ∀ v' w', IInts w' base v' (l0 ++ l) → W.grownBy w' v.ownBlock → wpList Tryz.prog ops Q rest (a.put o.dst v') w') : wpList Tryz.prog ops Q (o :: rest) a W := by
  obtain ⟨v', w', hrun, hown, hgr⟩ := IInts.plus base c h0 hr hlim hb o.type
  exact wpList_append_lx hgd s x _ ho _ _ _ hs hx hrun (h v' w' hown hgr)
/-- Dice whose first number is known. -/
def DiceX (W : World) (g : Nat) (x : Int) : Prop := ∃ (la : Option Addr) (ln lc : Nat) (l : List Int), W.heap[g]? = some (.cells #[.slice la ln lc, .int .i64 0] 72 (0, 0)) ∧ Nums W g la ln (x :: l)
theorem DiceX.lt {W : World} {g : Nat} {x : Int} (h : DiceX W g x) : g < W.heap.size := by
  obtain ⟨la, ln, lc, l, h, _⟩ := h
  exact (Array.getElem?_eq_some_iff.1 h).1
theorem DiceX.on {W W' : World} {g : Nat} {x : Int} (h : DiceX W g x) (hb : Below W.heap.size W W') : DiceX W' g x := by
  have hlt := h.lt
  obtain ⟨la, ln, lc, l, h1, h2⟩ := h
  exact ⟨la, ln, lc, l, (hb.block g hlt).trans h1, h2.below (hb.mono (by omega))⟩
set_option maxHeartbeats 4000000 in
theorem newX_any (a : Option Addr) (n c : Nat) (x : Int) (l : List Int) (w : World) (bound : Nat) (h : Nums w bound a n (x :: l)) (hlim : n * 8 ≤ 140737488355328) :
    Calls Tryz.prog 10 #[.slice a n c] w fun e w' => ∃ g, e = .returned (.pointer (some ⟨g, 0, none⟩)) ∧ DiceX w' g x ∧ w.heap.size ≤ g ∧ Below w.heap.size w w' := by
  have HN := Lib.hid h
  have hsz := h.2.1
  clear h
  go_enter Tryz.func10, Tryz.ntmps10
  go_wp2_with (first
    | (at_builtin
       refine wpList_append_plus rfl (.const (.slice none 0 0)) (.tmp 3) rfl w.heap.size bound (.slice none 0 0) a n c [] (x :: l) rfl rfl (IInts.zero _ _) HN.out (by show (0 + n) * 8 ≤ _; omega) (Nat.le_refl _) ?_
       intro v1 w1 hown' hgr'
       have hown := (show IInts w1 w.heap.size v1 (x :: l) from hown')
       have hgr := (show w.grownBy w1 none from hgr')
       have HB := Lib.hid ((Below.refl w.heap.size w).grown hgr (Nat.le_refl _) (fun j e => by cases e))
       obtain ⟨la, lc, hv, _, _, _, hnu⟩ := hown.sees
       obtain ⟨ln, hln⟩ : ∃ ln, ln = (x :: l).length := ⟨_, rfl⟩
       rw [← hln] at hv hnu
       clear hln
       subst hv
       have HNU := Lib.hid hnu
       clear hown hgr hnu hown' hgr')
    | fail)
  go_ret
  refine ⟨w1.heap.size, rfl, ⟨la, ln, lc, l, heap_alloc_new w1 _, HNU.out.alloc (Nat.le_refl _) _⟩, HB.out.size, HB.out.alloc HB.out.size _⟩
theorem four_mod {x : Nat} (h : x < 4) : (IntKind.u64.wrap (x : Int)).tmod 4 = (x : Int) := by
  have : x = 0 ∨ x = 1 ∨ x = 2 ∨ x = 3 := by omega
  rcases this with rfl | rfl | rfl | rfl <;> decide
set_option maxHeartbeats 8000000 in
set_option maxRecDepth 20000 in
theorem pickX_any (g : Nat) (x : Nat) (hx : x < 4) (w : World) (hD : DiceX w g (x : Int)) :
    Calls Tryz.prog 28 #[.pointer (some ⟨g, 0, none⟩), .int .i64 4] w fun e w' => e = .returned (.int .i64 (x : Int)) ∧ Dice w' g ∧ Beside g w w' := by
  obtain ⟨la, ln, lc, l, hh, hnu⟩ := hD
  have hlt : g < w.heap.size := (Array.getElem?_eq_some_iff.1 hh).1
  have c0 : w.cell? ⟨g, 0, none⟩ = some (.slice la ln lc) := by rw [cell_of_row _ _ _ _ _ _ hh]; rfl
  have c1 : w.cell? ⟨g, 1, none⟩ = some (.int .i64 0) := by rw [cell_of_row _ _ _ _ _ _ hh]; rfl
  have f1 : w.frozen? ⟨g, 1, none⟩ = false := by unfold World.frozen?; rw [hh]; simp
  have hsz := hnu.2.1
  have hln : 1 ≤ ln := by have := hnu.1; rw [List.length_cons] at this; omega
  have HNU := Lib.hid hnu
  have HH := Lib.hid hh
  have d2 : decide ((ln : Int) ≤ 0) = false := decide_eq_false (by omega)
  obtain ⟨b, off, y, rfl, hb, hy, hc⟩ := hnu.at_ (k := 0) (by omega)
  obtain rfl : (x : Int) = y := Option.some.inj hy
  rw [Nat.add_zero] at hc
  have hmod := four_mod hx
  have i1 : (0 : Int) < (ln : Int) := by omega
  have hcb : b ≠ g := by omega
  have HOUT := Lib.hid (fun (W : World) (e1 : W.heap = (w.setCell ⟨g, 1, none⟩ (.int .i64 1)).heap) (e2 : W.os = w.os) (e3 : W.tape = w.tape) (e4 : W.output = w.output) => show Dice W g ∧ Beside g w W from by
    have hb0 : Beside g w (w.setCell ⟨g, 1, none⟩ (.int .i64 1)) := (Beside.refl g w).setCell 1 _
    have hbs : Beside g w W := ⟨e2, e3, e4, by rw [e1]; exact hb0.size, by rw [e1]; exact hb0.block⟩
    refine ⟨⟨some ⟨b, off, none⟩, ln, lc, (x : Int) :: l, 1, ?_, ?_, by omega⟩, hbs⟩
    · obtain ⟨hl, hk2⟩ := Array.getElem?_eq_some_iff.1 HH.out
      rw [e1]
      show (w.heap.modify g _)[g]? = _
      rw [Array.getElem?_eq_getElem (by rw [Array.size_modify]; exact hl), Array.getElem_modify_self, hk2]
      rfl
    · exact HNU.out.keep fun p hp => hbs.cell (by omega) (by omega))
  clear hy hh hnu
  go_enter Tryz.func28, Tryz.ntmps28
  go_wp2
  go_quiet (fail)
  go_wp2
  go_quiet (fail)
  go_wp2
  go_ret
  exact ⟨by show Ending.returned (.int .i64 ((x : Int) % 4)) = _; rw [Int.emod_eq_of_lt (by omega) (by omega)], HOUT.out _ rfl rfl rfl rfl⟩
set_option maxHeartbeats 8000000 in
set_option maxRecDepth 20000 in
theorem prot2_any (g : Nat) (nm : ByteArray) (w : World) (hD : DiceX w g 2) :
    Calls Tryz.prog 22 #[.pointer (some ⟨g, 0, none⟩), .string nm, .slice none 0 0] w fun e w' => ProtRet nm 3 w e w' ∧ Beside g w w' := by
  have hgl := hD.lt
  have HB0 := Lib.hid (tu1 w (.cells #[.string ⟨#[]⟩, .slice none 0 0, .slice none 0 0] 37))
  have HR0 := Lib.hid (PBox.new w ⟨#[]⟩ none 0 0 none 0 0)
  have CP := Lib.hid (show Calls Tryz.prog 28 #[.pointer (some ⟨g, 0, none⟩), .int .i64 4] (w.alloc (.cells #[.string ⟨#[]⟩, .slice none 0 0, .slice none 0 0] 37)) fun e w' => e = .returned (.int .i64 2) ∧ Dice w' g ∧ Beside g (w.alloc (.cells #[.string ⟨#[]⟩, .slice none 0 0, .slice none 0 0] 37)) w' from pickX_any g 2 (by omega) _ (hD.on HB0.out))
  have CA := Lib.hid (fun (W : World) (h : Dice W g) => show Calls Tryz.prog 56 #[.pointer (some ⟨g, 0, none⟩), .string nm, .int .i64 3, .slice none 0 0] W fun e w' => ProtRet nm 3 W e w' ∧ Beside g W w' from any_any g nm 3 (by omega) (by omega) W h)
  clear hD
  go_enter Tryz.func22, Tryz.ntmps22
  go_wp2_with (first
    | (go_at_call 28; (with_reducible refine CP.out.mono ?_)
       rintro e w1 ⟨rfl, hd1, hb1⟩
       have HD1 := Lib.hid hd1
       have HB1 := Lib.hid (hb1.cut HB0.out)
       have HR1 := Lib.hid (HR0.out.beside hb1 (by omega))
       clear hd1 hb1)
    | (go_at_call 56; (with_reducible refine (CA.out _ HD1.out).mono ?_)
       rintro e w2 ⟨⟨ra, rc, sa, sn, sc, ps, rfl, hm, hr, hl, hok, h2, h9⟩, hb2⟩
       have HM := Lib.hid hm
       have HRo := Lib.hid hr
       have HB2 := Lib.hid (HB1.out.trans hb2)
       have HR2 := Lib.hid (HR1.out.beside hb2 (by omega))
       have HE := Lib.hid (show ps.length = sn ∧ (∀ x ∈ ps, pointB (rolesL 3) ps.length x = true) ∧ 2 ≤ ps.length ∧ ps.length ≤ 9 from ⟨hl, hok, h2, h9⟩)
       obtain ⟨rc0, rc1, rc2⟩ := HR2.out.cells
       have zf0 := HR2.out.thaw 0
       have zf1 := HR2.out.thaw 1
       have zf2 := HR2.out.thaw 2
       clear hm hr hl hok h2 h9 hb2)
    | fail)
  refine bodyPost_ret (v := .agg #[.string nm, .slice ra 3 rc, .slice sa sn sc]) (by simp [results, go_sem, rc0, rc1, rc2]) rfl ?_
  have hz := HR1.out.lt
  have hbs := (((Beside.refl w.heap.size w2).setCell 0 (.string nm)).setCell 1 (.slice ra 3 rc)).setCell 2 (.slice sa sn sc)
  have hbl : Below w.heap.size w2 (((w2.setCell ⟨w.heap.size, 0, none⟩ (.string nm)).setCell ⟨w.heap.size, 1, none⟩ (.slice ra 3 rc)).setCell ⟨w.heap.size, 2, none⟩ (.slice sa sn sc)) := (((Below.refl w.heap.size w2).setCell (Nat.le_refl _) _).setCell (Nat.le_refl _) _).setCell (Nat.le_refl _) _
  refine ⟨⟨ra, rc, sa, sn, sc, ps, rfl, ?_, ?_, HE.out.1, HE.out.2.1, HE.out.2.2.1, HE.out.2.2.2⟩, bes_below HB2.out hbl (Nat.le_refl _)⟩
  · have hm := (HM.out.beside hbs (by omega)).top (Nat.le_refl _)
    exact hm.low (by omega)
  · exact (HRo.out.beside hbs (by omega)).low (by omega)
set_option maxHeartbeats 8000000 in
set_option maxRecDepth 20000 in
theorem prot0_any (g : Nat) (nm : ByteArray) (w : World) (hD : DiceX w g 0) :
    Calls Tryz.prog 22 #[.pointer (some ⟨g, 0, none⟩), .string nm, .slice none 0 0] w fun e w' => ProtRet nm 2 w e w' ∧ Beside g w w' := by
  have hgl := hD.lt
  have HB0 := Lib.hid (tu1 w (.cells #[.string ⟨#[]⟩, .slice none 0 0, .slice none 0 0] 37))
  have HR0 := Lib.hid (PBox.new w ⟨#[]⟩ none 0 0 none 0 0)
  have CP := Lib.hid (show Calls Tryz.prog 28 #[.pointer (some ⟨g, 0, none⟩), .int .i64 4] (w.alloc (.cells #[.string ⟨#[]⟩, .slice none 0 0, .slice none 0 0] 37)) fun e w' => e = .returned (.int .i64 0) ∧ Dice w' g ∧ Beside g (w.alloc (.cells #[.string ⟨#[]⟩, .slice none 0 0, .slice none 0 0] 37)) w' from pickX_any g 0 (by omega) _ (hD.on HB0.out))
  have CA := Lib.hid (fun (W : World) (h : Dice W g) => show Calls Tryz.prog 56 #[.pointer (some ⟨g, 0, none⟩), .string nm, .int .i64 2, .slice none 0 0] W fun e w' => ProtRet nm 2 W e w' ∧ Beside g W w' from any_any g nm 2 (by omega) (by omega) W h)
  clear hD
  go_enter Tryz.func22, Tryz.ntmps22
  go_wp2_with (first
    | (go_at_call 28; (with_reducible refine CP.out.mono ?_)
       rintro e w1 ⟨rfl, hd1, hb1⟩
       have HD1 := Lib.hid hd1
       have HB1 := Lib.hid (hb1.cut HB0.out)
       have HR1 := Lib.hid (HR0.out.beside hb1 (by omega))
       clear hd1 hb1)
    | (go_at_call 56; (with_reducible refine (CA.out _ HD1.out).mono ?_)
       rintro e w2 ⟨⟨ra, rc, sa, sn, sc, ps, rfl, hm, hr, hl, hok, h2, h9⟩, hb2⟩
       have HM := Lib.hid hm
       have HRo := Lib.hid hr
       have HB2 := Lib.hid (HB1.out.trans hb2)
       have HR2 := Lib.hid (HR1.out.beside hb2 (by omega))
       have HE := Lib.hid (show ps.length = sn ∧ (∀ x ∈ ps, pointB (rolesL 2) ps.length x = true) ∧ 2 ≤ ps.length ∧ ps.length ≤ 9 from ⟨hl, hok, h2, h9⟩)
       obtain ⟨rc0, rc1, rc2⟩ := HR2.out.cells
       have zf0 := HR2.out.thaw 0
       have zf1 := HR2.out.thaw 1
       have zf2 := HR2.out.thaw 2
       clear hm hr hl hok h2 h9 hb2)
    | fail)
  refine bodyPost_ret (v := .agg #[.string nm, .slice ra 2 rc, .slice sa sn sc]) (by simp [results, go_sem, rc0, rc1, rc2]) rfl ?_
  have hz := HR1.out.lt
  have hbs := (((Beside.refl w.heap.size w2).setCell 0 (.string nm)).setCell 1 (.slice ra 2 rc)).setCell 2 (.slice sa sn sc)
  have hbl : Below w.heap.size w2 (((w2.setCell ⟨w.heap.size, 0, none⟩ (.string nm)).setCell ⟨w.heap.size, 1, none⟩ (.slice ra 2 rc)).setCell ⟨w.heap.size, 2, none⟩ (.slice sa sn sc)) := (((Below.refl w.heap.size w2).setCell (Nat.le_refl _) _).setCell (Nat.le_refl _) _).setCell (Nat.le_refl _) _
  refine ⟨⟨ra, rc, sa, sn, sc, ps, rfl, ?_, ?_, HE.out.1, HE.out.2.1, HE.out.2.2.1, HE.out.2.2.2⟩, bes_below HB2.out hbl (Nat.le_refl _)⟩
  · have hm := (HM.out.beside hbs (by omega)).top (Nat.le_refl _)
    exact hm.low (by omega)
  · exact (HRo.out.beside hbs (by omega)).low (by omega)
/-- One of several numbers of roles. -/
def ProtIn (P : Nat → Prop) (nm : ByteArray) (w : World) (e : Ending) (w' : World) : Prop := ∃ many, P many ∧ ProtRet nm many w e w'
end Go.Proofs.YtiofpeckcfdilaaGreatDoor

/- Contracts of the statements' given and first: the chapter's example comes out as it says. -/
namespace Go.Proofs.YtiofpeckcfdilaaGreatDoor
open Go.RowKit

def exRoles : List Str := [[97], [98], [99]]
def exPts : List PointL := [⟨[97], [98], [⟨[120], 0, [], 1⟩]⟩, ⟨[98], [99], [⟨[121], 0, [], 0⟩]⟩]
theorem exP_ok : protB [112] exRoles exPts = true := by decide
theorem exP_near : nearQ [112] exRoles exPts [99] [0] = [1] := by decide
theorem exP_lost : lostQ [112] exRoles exPts [99] 0 = false := by decide
theorem exP_none : protB [] [] [] = false := by decide
def exG (W : World) (S : Nat) : Prop :=
  W.heap[S + 1]? = some (.cells #[.string ⟨#[97]⟩, .string ⟨#[98]⟩, .string ⟨#[99]⟩] 9 (0, 0)) ∧
  W.heap[S + 2]? = some (.cells #[.string ⟨#[120]⟩, .int .i64 0, .string ⟨#[]⟩, .int .i64 1] 67 (0, 0)) ∧
  W.heap[S + 3]? = some (.cells #[.string ⟨#[121]⟩, .int .i64 0, .string ⟨#[]⟩, .int .i64 0] 67 (0, 0)) ∧
  W.heap[S + 4]? = some (.cells #[.string ⟨#[97]⟩, .string ⟨#[98]⟩, .slice (some ⟨S + 2, 0, none⟩) 1 1, .string ⟨#[98]⟩, .string ⟨#[99]⟩, .slice (some ⟨S + 3, 0, none⟩) 1 1] 82 (0, 0))
theorem one_arm {W : World} {bound b : Nat} (hb : b < bound) (c : UInt8) (k n : Int) (h : W.heap[b]? = some (.cells #[.string ⟨#[c]⟩, .int .i64 k, .string ⟨#[]⟩, .int .i64 n] 67 (0, 0))) :
    Arms W bound (some ⟨b, 0, none⟩) 1 [⟨[c], k, [], n⟩] := by
  refine ⟨rfl, by omega, fun _ => ⟨b, 0, rfl, hb, fun j x hj => ?_⟩⟩
  have hj2 : j = 0 := by
    have := (List.getElem?_eq_some_iff.1 hj).1
    simp at this
    omega
  subst hj2
  obtain rfl := Option.some.inj hj
  exact ⟨⟨#[c]⟩, ⟨#[]⟩, ⟨by rw [cell_of_row _ _ _ _ _ _ h]; rfl, by rw [cell_of_row _ _ _ _ _ _ h]; rfl, by rw [cell_of_row _ _ _ _ _ _ h]; rfl, by rw [cell_of_row _ _ _ _ _ _ h]; rfl⟩, str1 c, str0, small1 c, small0⟩
theorem exG_in {W : World} {S : Nat} (h : exG W S) : PIn W ⟨#[112]⟩ (some ⟨S + 1, 0, none⟩) 3 exRoles (some ⟨S + 4, 0, none⟩) 2 exPts := by
  obtain ⟨h1, h2, h3, h4⟩ := h
  have l1 := (Array.getElem?_eq_some_iff.1 h1).1
  have l4 := (Array.getElem?_eq_some_iff.1 h4).1
  refine ⟨small1 112, ⟨rfl, by omega, by simp [exRoles, maxLen], fun _ => ⟨S + 1, 0, rfl, l1, fun j s hj => ?_⟩⟩, ⟨rfl, by omega, fun _ => ⟨S + 4, 0, rfl, l4, fun j x hj => ?_⟩⟩⟩
  · have hj2 : j = 0 ∨ j = 1 ∨ j = 2 := by
      have := (List.getElem?_eq_some_iff.1 hj).1
      simp [exRoles] at this
      omega
    rcases hj2 with rfl | rfl | rfl
    all_goals
      obtain rfl := Option.some.inj hj
      rw [cell_of_row _ _ _ _ _ _ h1]
      rfl
  · have hj2 : j = 0 ∨ j = 1 := by
      have := (List.getElem?_eq_some_iff.1 hj).1
      simp [exPts] at this
      omega
    rcases hj2 with rfl | rfl
    · obtain rfl := Option.some.inj hj
      exact ⟨⟨#[97]⟩, ⟨#[98]⟩, some ⟨S + 2, 0, none⟩, 1, 1, ⟨by rw [cell_of_row _ _ _ _ _ _ h4]; rfl, by rw [cell_of_row _ _ _ _ _ _ h4]; rfl, by rw [cell_of_row _ _ _ _ _ _ h4]; rfl⟩, str1 97, str1 98, small1 97, small1 98, one_arm (by omega) 120 0 1 h2⟩
    · obtain rfl := Option.some.inj hj
      exact ⟨⟨#[98]⟩, ⟨#[99]⟩, some ⟨S + 3, 0, none⟩, 1, 1, ⟨by rw [cell_of_row _ _ _ _ _ _ h4]; rfl, by rw [cell_of_row _ _ _ _ _ _ h4]; rfl, by rw [cell_of_row _ _ _ _ _ _ h4]; rfl⟩, str1 98, str1 99, small1 98, small1 99, one_arm (by omega) 121 0 0 h3⟩
/-- What given answers. -/
def GivenRet (w : World) (e : Ending) (w' : World) : Prop := ∃ xa xb, e = .returned (.agg #[.string ⟨#[112]⟩, .slice xa 3 3, .slice xb 2 2]) ∧ PIn w' ⟨#[112]⟩ xa 3 exRoles xb 2 exPts ∧ Below w.heap.size w w'
theorem heap_keep {W : World} {k : Nat} {x : Obj} (o : Obj) (h : W.heap[k]? = some x) : (W.alloc o).heap[k]? = some x := ((tu1 W o).block k (Array.getElem?_eq_some_iff.1 h).1).trans h
theorem heap_new_at {W : World} {k : Nat} {cs : Array Value} {t : TypeId} (hk : k = W.heap.size) : (W.alloc (.cells cs t)).heap[k]? = some (.cells cs t (0, 0)) := by rw [hk]; exact heap_alloc_new W _
end Go.Proofs.YtiofpeckcfdilaaGreatDoor

/- Contract of the statements' own sameInts. -/
namespace Go.Proofs.YtiofpeckcfdilaaGreatDoor
open Go.RowKit

end Go.Proofs.YtiofpeckcfdilaaGreatDoor

/- A protocol that was made, in memory and in a box. -/
namespace Go.Proofs.YtiofpeckcfdilaaGreatDoor
open Go.RowKit

structure GIn (w0 W : World) (g many : Nat) (ra : Option Addr) (rc : Nat) (sa : Option Addr) (sn sc : Nat) (ps : List PointL) : Prop where
  box : PBox W g ⟨#[112]⟩ ra many rc sa sn sc
  pin : PIn W ⟨#[112]⟩ ra many (rolesL many) sa sn ps
  bel : Below w0.heap.size w0 W
theorem GIn.on {w0 W W' : World} {g many : Nat} {ra : Option Addr} {rc : Nat} {sa : Option Addr} {sn sc : Nat} {ps : List PointL} (h : GIn w0 W g many ra rc sa sn sc ps) (hb : Below W.heap.size W W') : GIn w0 W' g many ra rc sa sn sc ps :=
  ⟨h.box.on hb, h.pin.on hb, below_on h.bel hb⟩
theorem GIn.drew {w0 W : World} {g many : Nat} {ra : Option Addr} {rc : Nat} {sa : Option Addr} {sn sc : Nat} {ps : List PointL} (h : GIn w0 W g many ra rc sa sn sc ps) : GIn w0 W.drew g many ra rc sa sn sc ps := h.on (bel_drewN (Below.refl _ _) 1)
/-- What is known of a protocol that was made. -/
structure GMade (many sn : Nat) (ps : List PointL) : Prop where
  two : 2 ≤ many
  four : many ≤ 4
  len : ps.length = sn
  low : 2 ≤ sn
  high : sn ≤ 9
  ok : protB [112] (rolesL many) ps = true
theorem made_in {many : Nat} {w W : World} {ra : Option Addr} {rc : Nat} {sa : Option Addr} {sn sc : Nat} {ps : List PointL} (h2 : 2 ≤ many) (h4 : many ≤ 4) (hm : PRow W w.heap.size W.heap.size (.slice sa sn sc) ps) (hr : RRow W w.heap.size ra many rc (rolesL many)) (hl : ps.length = sn) (hok : ∀ x ∈ ps, pointB (rolesL many) ps.length x = true) (hl2 : 2 ≤ ps.length) (hl9 : ps.length ≤ 9) :
    PIn W ⟨#[112]⟩ ra many (rolesL many) sa sn ps ∧ GMade many sn ps := by
  obtain ⟨a, c, hv, hp⟩ := hm.powns.sees (by omega)
  obtain ⟨e1, e2, e3⟩ := Value.slice.inj hv
  subst e1
  rw [hl] at hp
  refine ⟨⟨small1 112, hr.strs (by omega) (rolesL_max many), hp⟩, h2, h4, hl, by omega, by omega, ?_⟩
  unfold protB
  rw [rolesL_ok h2 h4, decide_eq_true (show 1 ≤ ps.length by omega), decide_eq_true (show ps.length ≤ 24 by omega), List.all_eq_true.2 hok]
  rfl
theorem GIn.begin {w w3 : World} {many : Nat} {ra : Option Addr} {rc : Nat} {sa : Option Addr} {sn sc : Nat} {ps : List PointL} (hb : Below w.heap.size w w3) (hp : PIn w3 ⟨#[112]⟩ ra many (rolesL many) sa sn ps) :
    GIn w (w3.alloc (.cells #[.string ⟨#[112]⟩, .slice ra many rc, .slice sa sn sc] 37)) w3.heap.size many ra rc sa sn sc ps :=
  ⟨PBox.new _ _ _ _ _ _ _ _, hp.on (tu1 _ _), below_on hb (tu1 _ _)⟩
theorem GIn.roles {w0 W : World} {g many : Nat} {ra : Option Addr} {rc : Nat} {sa : Option Addr} {sn sc : Nat} {ps : List PointL} (h : GIn w0 W g many ra rc sa sn sc ps) {i : Nat} (hi : i < many) : ∃ b off, ra = some ⟨b, off, none⟩ ∧ b < W.heap.size ∧ W.cell? ⟨b, off + i, none⟩ = some (.string (rolS i)) := by
  obtain ⟨b, off, t, ha, hb, ht, hc⟩ := h.pin.roles.part1 hi
  rw [rolesL_at hi] at ht
  obtain rfl := toList_inj (Option.some.inj ht)
  exact ⟨b, off, ha, hb, hc⟩
theorem prot_one : (⟨#[112]⟩ : ByteArray).toList = [112] := str1 112
/-- What Near says of a made protocol. -/
theorem near_made {many sn : Nat} {ps : List PointL} (hm : GMade many sn ps) {i : Nat} (hi : i < many) (l : List Int) : nearQ [112] (rolesL many) ps (rolS i).toList l = nearP ps (rolS i).toList (startP ps.length l) := by
  unfold nearQ
  rw [hm.ok, show hasS (rolesL many) (rolS i).toList = true from List.contains_iff_mem.2 (List.mem_of_getElem? (rolesL_at hi))]
  rfl
theorem lost_made {many sn : Nat} {ps : List PointL} (hm : GMade many sn ps) {i : Nat} (hi : i < many) {k : Int} (h0 : 0 ≤ k) (h1 : k < (ps.length : Int)) : lostQ [112] (rolesL many) ps (rolS i).toList k = (nearP ps (rolS i).toList [k.toNat]).isEmpty := by
  unfold lostQ
  rw [hm.ok, show hasS (rolesL many) (rolS i).toList = true from List.contains_iff_mem.2 (List.mem_of_getElem? (rolesL_at hi)), decide_eq_true h0, decide_eq_true h1]
  rfl
theorem GIn.near {w0 W : World} {g many : Nat} {ra : Option Addr} {rc : Nat} {sa : Option Addr} {sn sc : Nat} {ps : List PointL} (h : GIn w0 W g many ra rc sa sn sc ps) (hm : GMade many sn ps) {i : Nat} (hi : i < many) {va : Option Addr} {vn : Nat} (vc : Nat) {l : List Int} (hl : Nums W W.heap.size va vn l) :
    Calls Tryz.prog 83 #[.agg #[.string ⟨#[112]⟩, .slice ra many rc, .slice sa sn sc], .string (rolS i), .slice va vn vc] W fun e w' => (∃ v, e = .returned v ∧ IInts w' W.heap.size v (rowI (nearP ps (rolS i).toList (startP ps.length l)))) ∧ Below W.heap.size W w' := by
  have := PIn.near (rc := rc) (c := sc) h.pin (rolS i) vc hl
  rw [prot_one, near_made hm hi] at this
  exact this
theorem GIn.lost {w0 W : World} {g many : Nat} {ra : Option Addr} {rc : Nat} {sa : Option Addr} {sn sc : Nat} {ps : List PointL} (h : GIn w0 W g many ra rc sa sn sc ps) (hm : GMade many sn ps) {i : Nat} (hi : i < many) {k : Nat} (hk : k < sn) :
    Calls Tryz.prog 81 #[.agg #[.string ⟨#[112]⟩, .slice ra many rc, .slice sa sn sc], .string (rolS i), .int .i64 (k : Int)] W fun e w' => e = .returned (.bool (nearP ps (rolS i).toList [k]).isEmpty) ∧ Below W.heap.size W w' := by
  have := PIn.lost (rc := rc) (c := sc) h.pin (rolS i) (k : Int)
  rw [prot_one, lost_made hm hi (by omega) (by have := hm.len; omega), Int.toNat_natCast] at this
  exact this
theorem startP_all {n : Nat} {l : List Nat} (h : ∀ x ∈ l, x < n) : startP n (rowI l) = l := by
  unfold startP rowI
  rw [List.filter_eq_self.2 (fun x hx => by
    obtain ⟨y, hy, rfl⟩ := List.mem_map.1 hx
    have := h y hy
    simp
    omega), List.map_map]
  rw [show (Int.toNat ∘ fun n : Nat => (n : Int)) = id from funext fun x => Int.toNat_natCast x, List.map_id]
end Go.Proofs.YtiofpeckcfdilaaGreatDoor
