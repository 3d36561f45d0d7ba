/- Contracts of reparteemake: dice, Pick, labels, roles, Data, carries, New. -/
import Derived.Test.YtiofpeckcfdilaaGreatDoorTuPlains
import Derived.Test.YtiofpeckcfdilaaGreatDoorTuRows
import Derived.Test.YtiofpeckcfdilaaGreatDoorTuOwnV
import Derived.BigQuiet
import Derived.Test.YtiofpeckcfdilaaGreatDoorTuTrim
import Derived.Deep.RegionLaw
import Derived.Test.YtiofpeckcfdilaaGreatDoorTuTrimO
import Derived.Deep.Onto
namespace Go.Proofs.YtiofpeckcfdilaaGreatDoor
open Go.RowKit

/-- Dice in a block; their numbers lie below it. -/
def Dice (W : World) (g : Nat) : Prop := ∃ (la : Option Addr) (ln lc : Nat) (l : List Int) (at_ : Nat), W.heap[g]? = some (.cells #[.slice la ln lc, .int .i64 (at_ : Int)] 72 (0, 0)) ∧ Nums W g la ln l ∧ at_ ≤ ln
theorem Dice.lt {W : World} {g : Nat} (h : Dice W g) : g < W.heap.size := by
  obtain ⟨la, ln, lc, l, at_, h, _⟩ := h
  exact (Array.getElem?_eq_some_iff.1 h).1
theorem Dice.below {W W' : World} {g B : Nat} (h : Dice W g) (hb : Below B W W') (hB : g < B) : Dice W' g := by
  obtain ⟨la, ln, lc, l, at_, h1, h2, h3⟩ := h
  exact ⟨la, ln, lc, l, at_, (hb.block g hB).trans h1, h2.below (hb.mono (by omega)), h3⟩
theorem Dice.on {W W' : World} {g : Nat} (h : Dice W g) (hb : Below W.heap.size W W') : Dice W' g := h.below hb h.lt
theorem Dice.drew {W : World} {g : Nat} (h : Dice W g) : Dice W.drew g := by
  obtain ⟨la, ln, lc, l, at_, h1, h2, h3⟩ := h
  exact ⟨la, ln, lc, l, at_, h1, h2.keep fun _ _ => rfl, h3⟩
theorem mod_lt (k : Int) (n : Nat) (h1 : 1 ≤ n) (h2 : n ≤ 1000) : ∃ i : Nat, i < n ∧ (IntKind.u64.wrap k).tmod (n : Int) = (i : Int) := by
  have h0 : 0 ≤ IntKind.u64.wrap k := by rw [IntKind.wrap_u64]; omega
  have hm := Int.emod_nonneg (IntKind.u64.wrap k) (show (n : Int) ≠ 0 by omega)
  have hl := Int.emod_lt_of_pos (IntKind.u64.wrap k) (show (0 : Int) < n by omega)
  refine ⟨((IntKind.u64.wrap k).tmod (n : Int)).toNat, ?_, ?_⟩
  · rw [Int.tmod_eq_emod_of_nonneg h0]; omega
  · rw [Int.tmod_eq_emod_of_nonneg h0]; omega
set_option maxHeartbeats 8000000 in
set_option maxRecDepth 20000 in
theorem pick_any (g : Nat) (n : Nat) (w : World) (hD : Dice w g) (h1 : 1 ≤ n) (h2 : n ≤ 1000) :
    Calls Tryz.prog 28 #[.pointer (some ⟨g, 0, none⟩), .int .i64 (n : Int)] w fun e w' => (∃ k : Nat, k < n ∧ e = .returned (.int .i64 (k : Int))) ∧ Dice w' g ∧ Beside g w w' := by
  have HD := Lib.hid hD
  obtain ⟨la, ln, lc, l, at_, hh, hnu, hle⟩ := hD
  have hlt : g < w.heap.size := (Array.getElem?_eq_some_iff.1 hh).1
  have c0 : w.cell? ⟨g, 0, none⟩ = some (.slice la ln lc) := by rw [cell_of_row _ _ _ _ _ _ hh]; rfl
  have c1 : w.cell? ⟨g, 1, none⟩ = some (.int .i64 (at_ : Int)) := by rw [cell_of_row _ _ _ _ _ _ hh]; rfl
  have f1 : w.frozen? ⟨g, 1, none⟩ = false := by unfold World.frozen?; rw [hh]; simp
  have hsz := hnu.2.1
  have HNU := Lib.hid hnu
  have HH := Lib.hid hh
  have d1 : decide ((n : Int) < 1) = false := decide_eq_false (by omega)
  clear hh hnu
  by_cases ha : at_ < ln
  · have d2 : decide ((ln : Int) ≤ (at_ : Int)) = false := decide_eq_false (by omega)
    obtain ⟨b, off, x, rfl, hb, hx, hc⟩ := HNU.out.at_ ha
    obtain ⟨k, hk, hmod⟩ := mod_lt x n h1 h2
    have hwn : IntKind.u64.wrap (n : Int) = (n : Int) := IntWalk.u64_in _ (by omega)
    have hne : ((n : Int) == 0) = false := by rw [beq_eq_false_iff_ne]; omega
    have i1 : (at_ : Int) < (ln : Int) := by omega
    have i2 : (0 : Int) ≤ (at_ : Int) := by omega
    have hcb : b ≠ g := by omega
    have HOUT := Lib.hid (fun (W : World) (e1 : W.heap = (w.setCell ⟨g, 1, none⟩ (.int .i64 ((at_ : Int) + 1))).heap) (e2 : W.os = w.os) (e3 : W.tape = w.tape) (e4 : W.output = w.output) => show Dice W g ∧ Beside g w W from by
      have hb0 : Beside g w (w.setCell ⟨g, 1, none⟩ (.int .i64 ((at_ : Int) + 1))) := (Beside.refl g w).setCell 1 _
      have hbs : Beside g w W := ⟨e2, e3, e4, by rw [e1]; exact hb0.size, by rw [e1]; exact hb0.block⟩
      refine ⟨⟨some ⟨b, off, none⟩, ln, lc, l, at_ + 1, ?_, ?_, by omega⟩, hbs⟩
      · obtain ⟨hl, hk2⟩ := Array.getElem?_eq_some_iff.1 HH.out
        rw [e1]
        show (w.heap.modify g _)[g]? = _
        rw [Array.getElem?_eq_getElem (by rw [Array.size_modify]; exact hl), Array.getElem_modify_self, hk2]
        rfl
      · exact HNU.out.keep fun p hp => hbs.cell (by omega) (by omega))
    clear hx
    go_enter Tryz.func28, Tryz.ntmps28
    go_wp2
    go_quiet (fail)
    go_wp2
    go_quiet (fail)
    go_wp2
    go_ret
    exact ⟨⟨k, hk, rfl⟩, HOUT.out _ rfl rfl rfl rfl⟩
  · have d2 : decide ((ln : Int) ≤ (at_ : Int)) = true := decide_eq_true (by omega)
    go_enter Tryz.func28, Tryz.ntmps28
    go_wp2
    go_quiet (fail)
    go_wp2
    go_ret
    exact ⟨⟨0, by omega, rfl⟩, by
      obtain ⟨la, ln, lc, l, at_, h1, h2, h3⟩ := HD.out
      exact ⟨la, ln, lc, l, at_, h1, h2.keep fun _ _ => rfl, h3⟩, (Beside.refl g w).drewN nq⟩
theorem pick_at (g : Nat) (z : Int) (n : Nat) (w : World) (hz : z = (n : Int)) (hD : Dice w g) (h1 : 1 ≤ n) (h2 : n ≤ 1000) :
    Calls Tryz.prog 28 #[.pointer (some ⟨g, 0, none⟩), .int .i64 z] w fun e w' => (∃ k : Nat, k < n ∧ e = .returned (.int .i64 (k : Int))) ∧ Dice w' g ∧ Beside g w w' := by
  subst hz
  exact pick_any g n w hD h1 h2
def labObj : Obj := .cells #[.string ⟨#[119]⟩, .string ⟨#[120]⟩, .string ⟨#[121]⟩, .string ⟨#[122]⟩] 9
def rolObj : Obj := .cells #[.string ⟨#[97]⟩, .string ⟨#[98]⟩, .string ⟨#[99]⟩, .string ⟨#[100]⟩, .string ⟨#[101]⟩] 9
theorem labels_any (w : World) : Calls Tryz.prog 65 #[] w fun e w' => e = .returned (.slice (some ⟨w.heap.size, 0, none⟩) 4 4) ∧ w' = w.alloc labObj := by
  go_enter Tryz.func65, Tryz.ntmps65
  go_wp2
  go_ret
  exact ⟨rfl, rfl⟩
theorem roles_any (w : World) : Calls Tryz.prog 29 #[] w fun e w' => e = .returned (.slice (some ⟨w.heap.size, 0, none⟩) 5 5) ∧ w' = w.alloc rolObj := by
  go_enter Tryz.func29, Tryz.ntmps29
  go_wp2
  go_ret
  exact ⟨rfl, rfl⟩
theorem Beside.alloc {g : Nat} {w w' : World} (h : Beside g w w') (o : Obj) : Beside g w (w'.alloc o) := h.trans (Beside.of_below (tu1 w' o))
theorem Beside.cut {g : Nat} {w0 w w' : World} (h0 : Below w0.heap.size w0 w) (h : Beside g w w') : Beside g w0 w' := (Beside.of_below h0).trans h
set_option maxHeartbeats 4000000 in
theorem data_any (g : Nat) (w : World) (hD : Dice w g) :
    Calls Tryz.prog 90 #[.pointer (some ⟨g, 0, none⟩)] w fun e w' => (∃ k : Int, 0 ≤ k ∧ k < 5 ∧ e = .returned (.agg #[.int .i64 k, .string ⟨#[]⟩])) ∧ Dice w' g ∧ Beside g w w' := by
  have hlt := hD.lt
  obtain ⟨W1, hW1⟩ : ∃ W1, W1 = (w.alloc (.cells #[.int .i64 0, .string ⟨#[]⟩] 65)).alloc (.cells #[.int .i64 1, .int .i64 0, .int .i64 1, .int .i64 2, .int .i64 3, .int .i64 4] 3) := ⟨_, rfl⟩
  have hB1 : Below w.heap.size w W1 := by rw [hW1]; exact below_on (tu1 w _) (tu1 _ _)
  have CP := Lib.hid (pick_at g 6 6 W1 rfl (hD.on hB1) (by omega) (by omega))
  have HB1 := Lib.hid hB1
  have hs1 : W1.heap.size = w.heap.size + 2 := by rw [hW1]; simp
  have hbox : W1.heap[w.heap.size]? = some (.cells #[.int .i64 0, .string ⟨#[]⟩] 65 (0, 0)) := by
    rw [hW1]
    exact ((tu1 (w.alloc _) _).block w.heap.size (by simp)).trans (heap_alloc_new w _)
  have hrow : W1.heap[w.heap.size + 1]? = some (.cells #[.int .i64 1, .int .i64 0, .int .i64 1, .int .i64 2, .int .i64 3, .int .i64 4] 3 (0, 0)) := by
    rw [hW1]
    have := heap_alloc_new (w.alloc (.cells #[.int .i64 0, .string ⟨#[]⟩] 65)) (.cells #[.int .i64 1, .int .i64 0, .int .i64 1, .int .i64 2, .int .i64 3, .int .i64 4] 3)
    rw [World.size_alloc] at this
    exact this
  have HBOX := Lib.hid hbox
  have HROW := Lib.hid hrow
  subst hW1
  clear hD hB1 hbox hrow
  go_enter Tryz.func90, Tryz.ntmps90
  go_wp2_with (first
    | (go_at_call 28; (with_reducible refine CP.out.mono ?_)
       rintro e w2 ⟨⟨k, hk, rfl⟩, hd2, hb2⟩
       have HD2 := Lib.hid hd2
       have HBS := Lib.hid (hb2.cut HB1.out)
       have hbx := (hb2.block w.heap.size (by omega) (by omega)).trans HBOX.out
       have hrw := (hb2.block (w.heap.size + 1) (by omega) (by omega)).trans HROW.out
       have f0 : w2.frozen? ⟨w.heap.size, 0, none⟩ = false := by unfold World.frozen?; rw [hbx]; simp
       have f1 : w2.frozen? ⟨w.heap.size, 1, none⟩ = false := by unfold World.frozen?; rw [hbx]; simp
       have c0 : w2.cell? ⟨w.heap.size, 0, none⟩ = some (.int .i64 0) := by rw [cell_of_row _ _ _ _ _ _ hbx]; rfl
       have c1 : w2.cell? ⟨w.heap.size, 1, none⟩ = some (.string ⟨#[]⟩) := by rw [cell_of_row _ _ _ _ _ _ hbx]; rfl
       obtain ⟨x, hx0, hx5, hcx⟩ : ∃ x : Int, 0 ≤ x ∧ x < 5 ∧ w2.cell? ⟨w.heap.size + 1, k, none⟩ = some (.int .i64 x) := by
         rw [cell_of_row _ _ _ _ _ _ hrw]
         have : k = 0 ∨ k = 1 ∨ k = 2 ∨ k = 3 ∨ k = 4 ∨ k = 5 := by omega
         rcases this with rfl | rfl | rfl | rfl | rfl | rfl
         · exact ⟨1, by omega, by omega, rfl⟩
         · exact ⟨0, by omega, by omega, rfl⟩
         · exact ⟨1, by omega, by omega, rfl⟩
         · exact ⟨2, by omega, by omega, rfl⟩
         · exact ⟨3, by omega, by omega, rfl⟩
         · exact ⟨4, by omega, by omega, rfl⟩
       have i1 : (k : Int) < 6 := by omega
       have i2 : (0 : Int) ≤ (k : Int) := by omega
       have HGE := Lib.hid hlt
       have HBX := Lib.hid hbx
       clear hd2 hb2 hbx hrw)
    | fail)
  have hset : ∀ u v, Dice ((w2.setCell ⟨w.heap.size, 0, none⟩ u).setCell ⟨w.heap.size, 1, none⟩ v) g ∧ Beside g w ((w2.setCell ⟨w.heap.size, 0, none⟩ u).setCell ⟨w.heap.size, 1, none⟩ v) := fun u v => by
    have h1 : Below w.heap.size w2 ((w2.setCell ⟨w.heap.size, 0, none⟩ u).setCell ⟨w.heap.size, 1, none⟩ v) := ((Below.refl _ _).setCell (by simp) u).setCell (by simp) v
    have hb := HBS.out
    exact ⟨HD2.out.below h1 hlt, h1.os.trans hb.os, h1.tape.trans hb.tape, h1.output.trans hb.output, Nat.le_trans hb.size h1.size, fun k hk hne => (h1.block k hk).trans (hb.block k hk hne)⟩
  refine bodyPost_ret (v := .agg #[.int .i64 x, .string ⟨#[]⟩]) (by simp [results, go_sem, c0, c1]) rfl ?_
  exact ⟨⟨x, hx0, hx5, rfl⟩, (hset _ _).1, (hset _ _).2⟩
set_option maxHeartbeats 4000000 in
theorem carries_any (g : Nat) (w : World) (hD : Dice w g) :
    Calls Tryz.prog 66 #[.pointer (some ⟨g, 0, none⟩), .slice none 0 0] w fun e w' => (∃ k : Int, 0 ≤ k ∧ k < 5 ∧ e = .returned (.agg #[.int .i64 k, .string ⟨#[]⟩])) ∧ Dice w' g ∧ Beside g w w' := by
  have hlt := hD.lt
  have HB1 := Lib.hid (tu1 w (.cells #[.int .i64 0, .string ⟨#[]⟩] 65))
  have CD := Lib.hid (data_any g (w.alloc (.cells #[.int .i64 0, .string ⟨#[]⟩] 65)) (hD.on HB1.out))
  have HBOX := Lib.hid (heap_alloc_new w (.cells #[.int .i64 0, .string ⟨#[]⟩] 65))
  clear hD
  go_enter Tryz.func66, Tryz.ntmps66
  go_wp2_with (first
    | (go_at_call 90; (with_reducible refine CD.out.mono ?_)
       rintro e w2 ⟨⟨x, hx0, hx5, rfl⟩, hd2, hb2⟩
       have HD2 := Lib.hid hd2
       have HBS := Lib.hid (hb2.cut HB1.out)
       have hbx := (hb2.block w.heap.size (by simp) (by omega)).trans HBOX.out
       have f0 : w2.frozen? ⟨w.heap.size, 0, none⟩ = false := by unfold World.frozen?; rw [hbx]; simp
       have f1 : w2.frozen? ⟨w.heap.size, 1, none⟩ = false := by unfold World.frozen?; rw [hbx]; simp
       have c0 : w2.cell? ⟨w.heap.size, 0, none⟩ = some (.int .i64 0) := by rw [cell_of_row _ _ _ _ _ _ hbx]; rfl
       have c1 : w2.cell? ⟨w.heap.size, 1, none⟩ = some (.string ⟨#[]⟩) := by rw [cell_of_row _ _ _ _ _ _ hbx]; rfl
       clear hd2 hb2 hbx)
    | fail)
  have hset : ∀ u v, Dice ((w2.setCell ⟨w.heap.size, 0, none⟩ u).setCell ⟨w.heap.size, 1, none⟩ v) g ∧ Beside g w ((w2.setCell ⟨w.heap.size, 0, none⟩ u).setCell ⟨w.heap.size, 1, none⟩ v) := fun u v => by
    have h1 : Below w.heap.size w2 ((w2.setCell ⟨w.heap.size, 0, none⟩ u).setCell ⟨w.heap.size, 1, none⟩ v) := ((Below.refl _ _).setCell (by simp) u).setCell (by simp) v
    have hb := HBS.out
    exact ⟨HD2.out.below h1 hlt, h1.os.trans hb.os, h1.tape.trans hb.tape, h1.output.trans hb.output, Nat.le_trans hb.size h1.size, fun k hk hne => (h1.block k hk).trans (hb.block k hk hne)⟩
  refine bodyPost_ret (v := .agg #[.int .i64 x, .string ⟨#[]⟩]) (by simp [results, go_sem, c0, c1]) rfl ?_
  exact ⟨⟨x, hx0, hx5, rfl⟩, (hset _ _).1, (hset _ _).2⟩
/-- A copy of numbers that came in. -/
theorem IInts.copy {w : World} (base : Nat) {bound : Nat} {a : Option Addr} {m : Nat} (c : Nat) {l : List Int} (hr : Nums w bound a m l) (hlim : m * 8 ≤ 140737488351232) (hbase : base ≤ w.heap.size) (ty : Nat) :
    ∃ v' w', (Builtin.append_ #[25, 25] ty #[.slice none 0 0, .slice a m c]).run Tryz.prog w = .ok v' w' ∧ IInts w' base v' l ∧ w.grownBy w' none := by
  obtain ⟨i0, hi0, hzz⟩ := Option.map_eq_some_iff.1 info_int1
  simp only [Prod.mk.injEq] at hzz
  obtain ⟨hz, hs1, hb1⟩ := hzz
  rcases a with _ | ad
  · have hm : m = 0 := by
      rcases Nat.eq_zero_or_pos m with h0 | h0
      · exact h0
      · obtain ⟨b, off, h, _⟩ := hr.2.2 h0
        cases h
    subst hm
    have hts : l = [] := List.eq_nil_of_length_eq_zero hr.1
    subst hts
    exact ⟨_, w, run_append_none w base 25 ty 3 i0 Tryz.underlying25 hi0 _ 0 _ (World.ownsRow_nil w base 3 1) c, IInts.zero _ _, World.grownBy.refl w _⟩
  · have hcells : ∀ j u, (l.map encI64)[j]? = some u → w.cell? (ad.add j) = some u := by
      intro j u hu
      rw [List.getElem?_map] at hu
      obtain ⟨s, hs', rfl⟩ := Option.map_eq_some_iff.1 hu
      have hj : j < l.length := (List.getElem?_eq_some_iff.1 hs').1
      obtain ⟨b, off, h, _, hc⟩ := hr.2.2 (by have := hr.1; omega)
      obtain rfl := Option.some.inj h
      rw [Go.WideShapes.add_plain]
      exact hc j s hs'
    obtain ⟨v', w', hrun, h2, h3, _, _⟩ := run_append_own_at (P := Tryz.prog) w base 25 ty 3 i0 _ 1 8 Tryz.underlying25 hi0 hz hs1 hb1 rfl (by omega) (.slice none 0 0) 0 [] (World.ownsRow_nil w base 3 1) ad m c (l.map encI64) (by simp [hr.1]) hcells
      (fun u hu => by
        obtain ⟨s, _, rfl⟩ := List.mem_map.1 hu
        rfl) (by unfold maxLen; omega) (by omega) hbase
    refine ⟨v', w', hrun, ?_, h3⟩
    rw [Nat.zero_add, List.nil_append] at h2
    exact (show w'.ownsRow base 3 1 v' l.length (l.map encI64) from hr.1.symm ▸ h2)
theorem wpList_append_copy {ops : Array Oper} {rest : List Oper} {o : Oper} {a : Act} {Q : Exit → Act → World → Prop} {W : World} (hgd : o.guard = none) (s x : Operand)
    (ho : o.op = .call { callee := .builtin .append, args := #[s, x], argTypes := #[25, 25] }) (base : Nat) (bound : Nat) (ad : Option Addr) (m c : Nat) (l : List Int)
    (hs : a.eval s = .slice none 0 0) (hx : a.eval x = .slice ad m c) (hr : Nums W bound ad m l) (hlim : m * 8 ≤ 140737488351232) (hb : base ≤ W.heap.size)
    (h : ∀ v' w', IInts w' base v' l → W.grownBy w' none → wpList Tryz.prog ops Q rest (a.put o.dst v') w') : wpList Tryz.prog ops Q (o :: rest) a W := by
  obtain ⟨v', w', hrun, hown, hgr⟩ := IInts.copy base c hr hlim hb o.type
  exact wpList_append_lx hgd s x _ ho _ _ _ hs hx hrun (h v' w' hown hgr)
set_option maxHeartbeats 4000000 in
theorem new_any (a : Option Addr) (n c : Nat) (l : List Int) (w : World) (bound : Nat) (h : Nums w bound a n l) (hlim : n * 8 ≤ 140737488351232) :
    Calls Tryz.prog 10 #[.slice a n c] w fun e w' => ∃ g, e = .returned (.pointer (some ⟨g, 0, none⟩)) ∧ Dice w' g ∧ w.heap.size ≤ g ∧ Below w.heap.size w w' := by
  have HN := Lib.hid h
  have hsz := h.2.1
  clear h
  go_enter Tryz.func10, Tryz.ntmps10
  go_wp2_with (first
    | (at_builtin
       refine wpList_append_copy rfl (.const (.slice none 0 0)) (.tmp 3) rfl w.heap.size bound a n c l rfl rfl HN.out hlim (Nat.le_refl _) ?_
       intro v1 w1 hown hgr
       have HB := Lib.hid ((Below.refl w.heap.size w).grown hgr (Nat.le_refl _) (fun j e => by cases e))
       obtain ⟨la, lc, hv, _, _, _, hnu⟩ := hown.sees
       obtain ⟨ln, hln⟩ : ∃ ln, ln = l.length := ⟨_, rfl⟩
       rw [← hln] at hv hnu
       clear hln
       subst hv
       have HNU := Lib.hid hnu
       clear hown hgr hnu)
    | fail)
  go_ret
  refine ⟨w1.heap.size, rfl, ⟨la, ln, lc, l, 0, heap_alloc_new w1 _, HNU.out.alloc (Nat.le_refl _) _, Nat.zero_le _⟩, HB.out.size, HB.out.alloc HB.out.size _⟩
end Go.Proofs.YtiofpeckcfdilaaGreatDoor

/- Contract of reparteemake's arms. -/
namespace Go.Proofs.YtiofpeckcfdilaaGreatDoor
open Go.RowKit

theorem step_append_arm {ops : Array Oper} {o : Oper} {a : Act} {K : Act → World → Prop} {Q : Exit → Act → World → Prop} {E : Prop} {w1 : World} (W : World) (hgd : o.guard = none) (s x : Operand)
    (ho : o.op = .call { callee := .builtin .append, args := #[s, x], argTypes := #[49, 49] }) (base : Nat) (v : Value) (l : List ArmL) (t : AR)
    (hw1 : w1 = W.alloc (.cells #[.string t.s, .int .i64 t.k, .string t.u, .int .i64 t.x] 67)) (hs : a.eval s = v) (hx : a.eval x = .slice (some ⟨W.heap.size, 0, none⟩) 1 1)
    (hB : AOwn W base v l) (ht : okR t) (hb : base ≤ W.heap.size) (hlen : l.length + 1 ≤ 1000000) (w0 : World) (hw : Below base w0 W)
    (h : ∀ v' w', AOwn w' base v' (l ++ [armR t]) → Below base w0 w' → K (a.put o.dst v') w') : if Region.wanted o (yielded ops a.tmps) = true then Oper.wp Tryz.prog o a w1 K Q else E := by
  have hwant : Region.wanted o (yielded ops a.tmps) = true := by simp [Region.wanted, hgd]
  rw [if_pos hwant]
  subst hw1
  obtain ⟨v', w', hrun, hown, hbel⟩ := (hB.alloc (.cells #[.string t.s, .int .i64 t.k, .string t.u, .int .i64 t.x] 67)).add (by simp; omega) 1 (ARow.one (W := W) t rfl rfl ht) hlen o.type
  unfold Oper.wp execOp
  simp only [ho, resolve, invoke, builtin, Sem.run_bind, Sem.run_pure, Result.andThen_ok, List.map_toArray, List.map_cons, List.map_nil, hs, hx, hrun]
  exact h v' w' hown (hbel base (Nat.le_refl _) w0 (hw.alloc hb _))
theorem AOwn.beside {w w' : World} {base g : Nat} {v : Value} {l : List ArmL} (h : AOwn w base v l) (hb : Beside g w w') (hg : g < base) : AOwn w' base v l := by
  obtain ⟨ts, h, h2⟩ := h
  have hlt := h.lt
  refine ⟨ts, ⟨h.1, ?_⟩, h2⟩
  rcases h.2 with h0 | ⟨k, cap, cur, rfl, hbase, hh, h1, h2, h3, h4⟩
  · exact .inl h0
  · refine .inr ⟨k, cap, cur, rfl, hbase, ?_, h1, h2, h3, h4⟩
    rw [hb.block k (hlt k rfl).2 (by omega)]
    exact hh
/-- The label at a place of the four. -/
def labS (i : Nat) : Str := [UInt8.ofNat (119 + i % 4)]
theorem labS_may (i : Nat) : may (labS i) = true := by
  unfold labS
  have : i % 4 = 0 ∨ i % 4 = 1 ∨ i % 4 = 2 ∨ i % 4 = 3 := by omega
  rcases this with h | h | h | h <;> (rw [h]; decide)
theorem labS_nodup (f : Nat) (k : Nat) (hk : k ≤ 3) : ((List.range k).map fun i => labS (f + i)).Nodup := by
  unfold labS
  obtain ⟨r, hr, hlt⟩ : ∃ r, f % 4 = r ∧ r < 4 := ⟨f % 4, rfl, by omega⟩
  have e : ∀ i, (f + i) % 4 = (r + i) % 4 := fun i => by omega
  simp only [e]
  have hr4 : r = 0 ∨ r = 1 ∨ r = 2 ∨ r = 3 := by omega
  have hk4 : k = 0 ∨ k = 1 ∨ k = 2 ∨ k = 3 := by omega
  rcases hr4 with rfl | rfl | rfl | rfl <;> rcases hk4 with rfl | rfl | rfl | rfl <;> decide
def labB (i : Nat) : ByteArray := ⟨#[UInt8.ofNat (119 + i % 4)]⟩
theorem labB_list (i : Nat) : (labB i).toList = labS i := by rw [ByteArray.toList_eq]; rfl
theorem labObj_at (w : World) (i : Nat) : (w.alloc labObj).cell? ⟨w.heap.size, i % 4, none⟩ = some (.string (labB i)) := by
  have : i % 4 = 0 ∨ i % 4 = 1 ∨ i % 4 = 2 ∨ i % 4 = 3 := by omega
  unfold labObj
  rw [cell_of_row _ _ _ _ _ _ (heap_alloc_new w _)]
  unfold labB
  rcases this with h | h | h | h <;> (rw [h]; rfl)
set_option maxHeartbeats 16000000 in
set_option maxRecDepth 20000 in
theorem makeArms_any (g : Nat) (pl : Nat) (w : World) (hD : Dice w g) (hp1 : 1 ≤ pl) (hp2 : pl ≤ 1000) :
    Calls Tryz.prog 30 #[.pointer (some ⟨g, 0, none⟩), .slice none 0 0, .int .i64 (pl : Int)] w fun e w' => (∃ v l, e = .returned v ∧ AOwn w' w.heap.size v l ∧ armsB pl l = true) ∧ Dice w' g ∧ Beside g w w' := by
  have hgl := hD.lt
  have CP1 := Lib.hid (pick_at g 3 3 w rfl hD (by omega) (by omega))
  have CP2 := Lib.hid (fun (W : World) (h : Dice W g) => pick_at g 4 4 W rfl h (by omega) (by omega))
  have CP3 := Lib.hid (fun (W : World) (h : Dice W g) => pick_any g pl W h hp1 hp2)
  have CC := Lib.hid (fun (W : World) (h : Dice W g) => carries_any g W h)
  clear hD
  go_enter Tryz.func30, Tryz.ntmps30
  go_wp2_with (first
    | (go_at_call 28; (with_reducible refine CP1.out.mono ?_)
       rintro e w1 ⟨⟨m, hm, rfl⟩, hd1, hb1⟩
       have HD1 := Lib.hid hd1
       have HB1 := Lib.hid hb1
       clear hd1 hb1)
    | (go_at_call 28; (with_reducible refine (CP2.out _ HD1.out).mono ?_)
       rintro e w2 ⟨⟨f, hf, rfl⟩, hd2, hb2⟩
       have HD2 := Lib.hid hd2
       have HB2 := Lib.hid (HB1.out.trans hb2)
       clear hd2 hb2)
    | fail)
  go_loopw [7, 10] (fun o i wr => ∃ (k : Nat) (v : Value) (l : List ArmL), k ≤ m + 1 ∧ i = .int .i64 k ∧ v = o ∧ Hid (AOwn wr w.heap.size v l) ∧ Hid (l.map ArmL.label = (List.range k).map fun i => labS (f + i)) ∧ Hid (∀ a ∈ l, armB pl a = true) ∧ Hid (Dice wr g) ∧ Hid (Beside g w wr)) (fun _ i _ => m + 1 - (intOf i).toNat)
  case atStart => exact ⟨0, _, [], by omega, rfl, rfl, Lib.hid (AOwn.zero _ _), Lib.hid rfl, Lib.hid (by simp), HD2, HB2⟩
  case round =>
    obtain ⟨k, v, l, hk, rfl, hvo, HO, HLB, HG, HD, HBr⟩ := hrel
    subst hvo
    have hll : l.length = k := by have := congrArg List.length HLB.out; simpa using this
    have hzr := HBr.out.size
    by_cases hlt : k < m + 1
    · have d1 : decide ((k : Int) < 1 + (m : Int)) = true := decide_eq_true (by omega)
      obtain ⟨j, hj⟩ : ∃ j, j = (f + k) % 4 := ⟨_, rfl⟩
      have hmod : ((f : Int) + (k : Int)).tmod 4 = (j : Int) := by rw [Int.tmod_eq_emod_of_nonneg (by omega)]; omega
      have hj4 : j < 4 := by omega
      have i1 : (j : Int) < 4 := by omega
      have i2 : (0 : Int) ≤ (j : Int) := by omega
      have HA1 := Lib.hid (show (wr.drew.alloc labObj).cell? ⟨wr.heap.size, j, none⟩ = some (.string (labB (f + k))) by rw [hj]; exact labObj_at wr.drew (f + k))
      have CL := Lib.hid (labels_any wr.drew)
      have HDd := Lib.hid (HD.out.drew.on (tu1 wr.drew labObj))
      have HBd := Lib.hid (show Beside g w (wr.drew.alloc labObj) from (HBr.out.trans ⟨rfl, rfl, rfl, Nat.le_refl _, fun _ _ _ => rfl⟩ : Beside g w wr.drew).alloc labObj)
      have HOd := Lib.hid (show AOwn (wr.drew.alloc labObj) w.heap.size v l from AOwn.alloc (show AOwn wr.drew w.heap.size v l by obtain ⟨rs, h1, h2⟩ := HO.out; exact ⟨rs, h1.drew, h2⟩) _)
      have hsd : (wr.drew.alloc labObj).heap.size = wr.heap.size + 1 := by simp
      have hwr : IntKind.i64.wrap ((f : Int) + (k : Int)) = (f : Int) + (k : Int) := by simp [IntKind.wrap, IntKind.bits, IntKind.signed]; omega
      clear hj
      go_wp2
      go_region_law (first
        | (refine step_append_arm w4 (by rfl) (.tmp 21) (.tmp 36) (by rfl) w.heap.size v l ⟨labB (f + k), ck, ⟨#[]⟩, (nx : Int)⟩ (by rfl) (by rfl) (by rfl) HO4.out ⟨by simp [labB, maxLen, ByteArray.size], by simp [maxLen, ByteArray.size]⟩ (by have := HB4.out.size; omega) (by omega) w4 (Below.refl _ _) ?_
           intro v5 w5 hown hbel
           have HO5 := Lib.hid hown
           have HD5 := Lib.hid (HD4.out.below hbel hgl)
           have HB5 := Lib.hid (show Beside g w w5 from ⟨hbel.os.trans HB4.out.os, hbel.tape.trans HB4.out.tape, hbel.output.trans HB4.out.output, Nat.le_trans HB4.out.size hbel.size, fun k hk hne => (hbel.block k hk).trans (HB4.out.block k hk hne)⟩)
           clear hown hbel)
        | (go_simp; go_at_call 65; (with_reducible refine CL.out.mono ?_)
           rintro e wl ⟨rfl, hwl⟩
           have hcl : wl.cell? ⟨wr.heap.size, j, none⟩ = some (.string (labB (f + k))) := by rw [hwl]; exact HA1.out
           have HDl := Lib.hid (show Dice wl g by rw [hwl]; exact HDd.out)
           have HBl := Lib.hid (show Beside g w wl by rw [hwl]; exact HBd.out)
           have HOl := Lib.hid (show AOwn wl w.heap.size v l by rw [hwl]; exact HOd.out)
           have hsl : wl.heap.size = wr.heap.size + 1 := by rw [hwl]; exact hsd
           clear hwl)
        | (go_simp; go_at_call 66; (with_reducible refine (CC.out _ HDl.out).mono ?_)
           rintro e w3 ⟨⟨ck, hck0, hck5, rfl⟩, hd3, hb3⟩
           have hc3 := (hb3.cell (p := ⟨wr.heap.size, j, none⟩) (by show wr.heap.size < _; omega) (by show wr.heap.size ≠ g; omega)).trans hcl
           have HD3 := Lib.hid hd3
           have HB3 := Lib.hid (HBl.out.trans hb3)
           have HO3 := Lib.hid (HOl.out.beside hb3 hgl)
           have hs3 := hb3.size
           clear hd3 hb3)
        | (go_simp; go_at_call 28; (with_reducible refine (CP3.out _ HD3.out).mono ?_)
           rintro e w4 ⟨⟨nx, hnx, rfl⟩, hd4, hb4⟩
           have hc4 := (hb4.cell (p := ⟨wr.heap.size, j, none⟩) (by show wr.heap.size < _; omega) (by show wr.heap.size ≠ g; omega)).trans hc3
           have HD4 := Lib.hid hd4
           have HB4 := Lib.hid (HB3.out.trans hb4)
           have HO4 := Lib.hid (HO3.out.beside hb4 hgl)
           clear hd4 hb4)
        | fail)
      all_goals
        go_wp2
        have HL5 := Lib.hid (show (l ++ [armR ⟨labB (f + k), ck, ⟨#[]⟩, (nx : Int)⟩]).map ArmL.label = (List.range (k + 1)).map fun i => labS (f + i) by
          rw [List.map_append, HLB.out, List.range_succ, List.map_append]
          show _ ++ [(labB (f + k)).toList] = _
          rw [labB_list]
          rfl)
        have HG5 := Lib.hid (show ∀ a ∈ l ++ [armR ⟨labB (f + k), ck, ⟨#[]⟩, (nx : Int)⟩], armB pl a = true from fun a ha => by
          rcases List.mem_append.1 ha with ha | ha
          · exact HG.out a ha
          · rw [List.mem_singleton.1 ha]
            unfold armR
            rw [labB_list, armB_ways, labS_may, show carriesB ck (⟨#[]⟩ : ByteArray).toList = true by
              unfold carriesB
              rw [if_neg (by omega), decide_eq_true hck0, decide_eq_true hck5, ByteArray.toList_eq]
              rfl, decide_eq_true (show (0 : Int) ≤ (nx : Int) by omega), decide_eq_true (show (nx : Int) < (pl : Int) by omega)]
            rfl)
        go_roundw
        case rel => exact ⟨k + 1, v5, _, by omega, by go_num, rfl, HO5, HL5, HG5, HD5, HB5⟩
        case measure => simp [intOf]; omega
    · have d1 : decide ((k : Int) < 1 + (m : Int)) = false := decide_eq_false (by omega)
      have hok : armsB pl l = true := by
        unfold armsB
        rw [List.all_eq_true.2 HG.out, HLB.out, decide_eq_true (labS_nodup f k (by omega)), decide_eq_true (show 1 ≤ l.length by omega), decide_eq_true (show l.length ≤ 6 by omega)]
        rfl
      have HOK := Lib.hid hok
      clear hok
      go_wp2
      go_ret
      exact ⟨⟨v, l, rfl, HO.out, HOK.out⟩, HD.out, HBr.out⟩
end Go.Proofs.YtiofpeckcfdilaaGreatDoor

/- Turns that reparteemake makes: each one's arms in an array of their own. -/
namespace Go.Proofs.YtiofpeckcfdilaaGreatDoor
open Go.RowKit

theorem AOwn.grown {w w' : World} {base : Nat} {v : Value} {l : List ArmL} {row : Option Nat} (h : AOwn w base v l) (hg : w.grownBy w' row) (hne : v.ownBlock = none ∨ v.ownBlock ≠ row) : AOwn w' base v l := by
  obtain ⟨ts, h1, h2⟩ := h
  exact ⟨ts, h1.kept hg hne, h2⟩
theorem AOwn.spots {w : World} {base : Nat} {v : Value} {l : List ArmL} (h : AOwn w base v l) : ∀ b, v.ownBlock = some b → base ≤ b ∧ b < w.heap.size := by
  obtain ⟨ts, h1, _⟩ := h
  exact h1.lt
def TR.arms (r : TR) : Value := .slice r.a r.n r.c
/-- What is laid is this turn; its arms are the call's own. -/
def TurnIs (w : World) (base : Nat) (r : TR) (t : TurnL) : Prop := r.k = t.kind ∧ r.s.toList = t.peer ∧ r.s.size ≤ maxLen ∧ t.arms.length ≤ 1000 ∧ AOwn w base r.arms t.arms
/-- Turns of the call's own, below a top: no two lie in one array. -/
def MRow (w : World) (base S : Nat) (v : Value) (f : List TurnL) : Prop :=
  ∃ rs : List TR, w.ownsRow base 51 3 v f.length (rs.flatMap encTR) ∧ rs.length = f.length ∧ (∀ (j : Nat) (r : TR) (t : TurnL), rs[j]? = some r → f[j]? = some t → TurnIs w base r t) ∧
    (∀ (j : Nat) (r : TR) (b : Nat), rs[j]? = some r → r.arms.ownBlock = some b → v.ownBlock ≠ some b ∧ b < S) ∧
    (∀ (i j : Nat) (r r' : TR) (b : Nat), i < j → rs[i]? = some r → rs[j]? = some r' → r.arms.ownBlock = some b → r'.arms.ownBlock ≠ some b) ∧ (∀ b, v.ownBlock = some b → b < S)
theorem MRow.zero (w : World) (base S : Nat) : MRow w base S (.slice none 0 0) [] := ⟨[], World.ownsRow_nil w base 51 3, rfl, fun j r l h => by simp at h, fun j r b h => by simp at h, fun i j r r' b _ h => by simp at h, fun b h => by cases h⟩
theorem MRow.top {w : World} {base S S' : Nat} {v : Value} {f : List TurnL} (h : MRow w base S v f) (hS : w.heap.size ≤ S') : MRow w base S' v f := by
  obtain ⟨rs, h1, h2, h3, h4, h5, h6⟩ := h
  refine ⟨rs, h1, h2, h3, fun j r b hj hb => ⟨(h4 j r b hj hb).1, ?_⟩, h5, fun b hb => ?_⟩
  · have hjl := (List.getElem?_eq_some_iff.1 hj).1
    have := ((h3 j r _ hj (List.getElem?_eq_getElem (by omega))).2.2.2.2).spots b hb
    omega
  · have := h1.lt b hb
    omega
theorem MRow.beside {w w' : World} {base S g : Nat} {v : Value} {f : List TurnL} (h : MRow w base S v f) (hb : Beside g w w') (hg : g < base) : MRow w' base S v f := by
  obtain ⟨rs, h1, h2, h3, h4⟩ := h
  have hlt := h1.lt
  refine ⟨rs, ⟨h1.1, ?_⟩, h2, fun j r t hr ht => ?_, h4⟩
  · rcases h1.2 with h0 | ⟨k, cap, cur, rfl, hbase, hh, q1, q2, q3, q4⟩
    · exact .inl h0
    · refine .inr ⟨k, cap, cur, rfl, hbase, ?_, q1, q2, q3, q4⟩
      rw [hb.block k (hlt k rfl).2 (by omega)]
      exact hh
  · obtain ⟨e1, e2, e3, e4, e5⟩ := h3 j r t hr ht
    exact ⟨e1, e2, e3, e4, e5.beside hb hg⟩
theorem MRow.kept {w w' : World} {base S : Nat} {v : Value} {f : List TurnL} (h : MRow w base S v f) (hb : Below w.heap.size w w') (h0 : 0 < base) : MRow w' base S v f := h.beside (g := 0) (Beside.of_below hb) h0
theorem MRow.towns {w : World} {base S : Nat} {v : Value} {f : List TurnL} (h : MRow w base S v f) : TOwn w base v f := by
  obtain ⟨rs, h1, h2, h3, h4, _, _⟩ := h
  refine ⟨rs, h1, h2, fun j r t hr ht => ?_⟩
  obtain ⟨e1, e2, e3, e4, e5⟩ := h3 j r t hr ht
  obtain ⟨a, c, hv, har, _, _⟩ := e5.sees (by omega)
  unfold TR.arms at hv
  obtain ⟨ea, en, ec⟩ := Value.slice.inj hv
  refine ⟨e1, e2, e3, by rw [ea, en]; exact har, fun b off e => ?_⟩
  have hb : r.arms.ownBlock = some b := by unfold TR.arms; rw [e]; rfl
  exact ⟨(e5.spots b hb).1, (e5.spots b hb).2, (h4 j r b hr hb).1⟩
theorem MRow.add {W : World} {base S : Nat} {v : Value} {f : List TurnL} {r : TR} {t : TurnL} (h : MRow W base S v f) (hr : r.k = t.kind ∧ r.s.toList = t.peer ∧ r.s.size ≤ maxLen ∧ t.arms.length ≤ 1000) (hA : AOwn W S r.arms t.arms) (hbS : base ≤ S) (hS : S ≤ W.heap.size) (hlen : f.length ≤ 1000000) (ty : Nat) :
    ∃ v' w', (Builtin.append_ #[22, 22] ty #[v, .slice (some ⟨W.heap.size, 0, none⟩) 1 1]).run Tryz.prog (W.alloc (.cells #[.int .i64 r.k, .string r.s, .slice r.a r.n r.c] 51)) = .ok v' w' ∧ MRow w' base w'.heap.size v' (f ++ [t]) ∧ ∀ w0, Below base w0 W → Below base w0 w' := by
  obtain ⟨i0, hi0, hzz⟩ := Option.map_eq_some_iff.1 info_turn
  simp only [Prod.mk.injEq] at hzz
  obtain ⟨hz, hs1, hb1⟩ := hzz
  obtain ⟨rs, hown, hrl, hrd, hne, hpair, hvS⟩ := h
  have hown1 : (W.alloc (.cells #[.int .i64 r.k, .string r.s, .slice r.a r.n r.c] 51)).ownsRow base 51 3 v f.length (rs.flatMap encTR) := World.ownsRow.alloc hown _
  obtain ⟨v', w', hrun, hown', hgr, _, hat⟩ := run_append_own_at (P := Tryz.prog) (W.alloc (.cells #[.int .i64 r.k, .string r.s, .slice r.a r.n r.c] 51)) base 22 ty 51 i0 _ 3 48 Tryz.underlying22 hi0 hz hs1 hb1 rfl (by omega) v f.length (rs.flatMap encTR) hown1
    ⟨W.heap.size, 0, none⟩ 1 1 (encTR r) rfl
    (fun j u hu => by
      rw [Go.WideShapes.add_plain, cell_of_row _ _ _ _ _ _ (heap_alloc_new W _), Nat.zero_add, ← hu]
      rw [← Array.getElem?_toList]
      rfl)
    (fun u hu => by
      unfold encTR at hu
      simp only [List.mem_cons, List.not_mem_nil, or_false] at hu
      rcases hu with rfl | rfl | rfl <;> rfl) (by unfold maxLen; omega) (by omega) (by simp; omega)
  have hsz : W.heap.size + 1 ≤ w'.heap.size := by
    have := hgr.size
    simpa using this
  have hv' : ∀ b, b < W.heap.size → v.ownBlock ≠ some b → v'.ownBlock ≠ some b := fun b hbl hn => by
    rcases hat with e | e
    · rw [e]; exact hn
    · rw [e]
      intro e2
      have := Option.some.inj e2
      simp at this
      omega
  have hmove : ∀ (r : TR) (t : TurnL), TurnIs W base r t → (∀ b, r.arms.ownBlock = some b → v.ownBlock ≠ some b) → TurnIs w' base r t := fun r t ⟨e1, e2, e3, e4, e5⟩ hn =>
    ⟨e1, e2, e3, e4, (e5.alloc _).grown hgr (by
      rcases hb : r.arms.ownBlock with _ | b
      · exact .inl rfl
      · exact .inr (fun e => hn b hb e.symm))⟩
  have hnew : TurnIs W base r t := ⟨hr.1, hr.2.1, hr.2.2.1, hr.2.2.2, hA.low hbS⟩
  have hnewv : ∀ b, r.arms.ownBlock = some b → v.ownBlock ≠ some b := fun b hb e => by
    have h1 := hA.spots b hb
    have h2 := hvS b e
    omega
  refine ⟨v', w', hrun, ⟨rs ++ [r], ?_, by simp [hrl], fun j r2 k hj hk => ?_, fun j r2 b hj hb => ?_, fun i j r2 r3 b hij hi hj hb => ?_, fun b hb => (hown'.lt b hb).2⟩, fun w0 hw0 => (hw0.alloc (by omega) _).grown hgr (by simp; omega) (fun k hk => by
    have := hown1.lt k hk
    omega)⟩
  · rw [List.length_append, List.flatMap_append, List.flatMap_cons, List.flatMap_nil, List.append_nil]
    exact hown'
  · rcases Nat.lt_or_ge j rs.length with hlt | hge
    · rw [List.getElem?_append_left hlt] at hj
      rw [List.getElem?_append_left (by omega)] at hk
      exact hmove _ _ (hrd j r2 k hj hk) (fun b hb => (hne j r2 b hj hb).1)
    · rw [List.getElem?_append_right hge] at hj
      rw [List.getElem?_append_right (by omega), ← hrl] at hk
      have h0 : j - rs.length = 0 := by
        obtain ⟨h1, _⟩ := List.getElem?_eq_some_iff.1 hj
        simpa using h1
      rw [h0] at hj hk
      obtain rfl : r = r2 := by simpa using hj
      obtain rfl : t = k := by simpa using hk
      exact hmove _ _ hnew hnewv
  · rcases Nat.lt_or_ge j rs.length with hlt | hge
    · rw [List.getElem?_append_left hlt] at hj
      have hj2 := (List.getElem?_eq_some_iff.1 hj).1
      have h1 := ((hrd j r2 _ hj (List.getElem?_eq_getElem (by omega))).2.2.2.2).spots b hb
      exact ⟨hv' b h1.2 (hne j r2 b hj hb).1, by omega⟩
    · rw [List.getElem?_append_right hge] at hj
      have h0 : j - rs.length = 0 := by
        obtain ⟨h1, _⟩ := List.getElem?_eq_some_iff.1 hj
        simpa using h1
      rw [h0] at hj
      obtain rfl : r = r2 := by simpa using hj
      have h1 := hA.spots b hb
      exact ⟨hv' b h1.2 (hnewv b hb), by omega⟩
  · rcases Nat.lt_or_ge j rs.length with hlt | hge
    · rw [List.getElem?_append_left hlt] at hj
      rw [List.getElem?_append_left (by omega)] at hi
      exact hpair i j r2 r3 b hij hi hj hb
    · rw [List.getElem?_append_right hge] at hj
      have h0 : j - rs.length = 0 := by
        obtain ⟨h1, _⟩ := List.getElem?_eq_some_iff.1 hj
        simpa using h1
      rw [h0] at hj
      obtain rfl : r = r3 := by simpa using hj
      rw [List.getElem?_append_left (by omega)] at hi
      intro e
      have h1 := hA.spots b e
      have h2 := (hne i r2 b hi hb).2
      omega
theorem wpList_append_mturn {ops : Array Oper} {rest : List Oper} {o : Oper} {a : Act} {Q : Exit → Act → World → Prop} {W : World} {cells : Array Value} (hgd : o.guard = none) (s x : Operand)
    (ho : o.op = .call { callee := .builtin .append, args := #[s, x], argTypes := #[22, 22] }) (base S : Nat) (v : Value) (f : List TurnL) (r : TR) (t : TurnL) (hc : cells = #[.int .i64 r.k, .string r.s, .slice r.a r.n r.c])
    (hs : a.eval s = v) {g : Nat} (hx : a.eval x = .slice (some ⟨g, 0, none⟩) 1 1) (hg : g = W.heap.size) (h : MRow W base S v f) (hr : r.k = t.kind ∧ r.s.toList = t.peer ∧ r.s.size ≤ maxLen ∧ t.arms.length ≤ 1000) (hA : AOwn W S r.arms t.arms) (hbS : base ≤ S) (hS : S ≤ W.heap.size) (hlen : f.length ≤ 1000000)
    (w0 : World) (hw : Below base w0 W)
    (hk : ∀ v' w', MRow w' base w'.heap.size v' (f ++ [t]) → Below base w0 w' → wpList Tryz.prog ops Q rest (a.put o.dst v') w') : wpList Tryz.prog ops Q (o :: rest) a (W.alloc (.cells cells 51)) := by
  subst hc hg
  obtain ⟨v', w', hrun, hown, hbel⟩ := h.add hr hA hbS hS hlen o.type
  exact wpList_append_lx hgd s x _ ho _ _ _ hs hx hrun (hk v' w' hown (hbel w0 hw))
theorem step_append_mturn {ops : Array Oper} {o : Oper} {a : Act} {K : Act → World → Prop} {Q : Exit → Act → World → Prop} {E : Prop} {w1 : World} (W : World) (hgd : o.guard = none) (s x : Operand)
    (ho : o.op = .call { callee := .builtin .append, args := #[s, x], argTypes := #[22, 22] }) (base S : Nat) (v : Value) (f : List TurnL) (r : TR) (t : TurnL)
    (hw1 : w1 = W.alloc (.cells #[.int .i64 r.k, .string r.s, .slice r.a r.n r.c] 51))
    (hs : a.eval s = v) (hx : a.eval x = .slice (some ⟨W.heap.size, 0, none⟩) 1 1) (h : MRow W base S v f) (hr : r.k = t.kind ∧ r.s.toList = t.peer ∧ r.s.size ≤ maxLen ∧ t.arms.length ≤ 1000) (hA : AOwn W S r.arms t.arms) (hbS : base ≤ S) (hS : S ≤ W.heap.size) (hlen : f.length ≤ 1000000)
    (w0 : World) (hw : Below base w0 W)
    (hk : ∀ v' w', MRow w' base w'.heap.size v' (f ++ [t]) → Below base w0 w' → K (a.put o.dst v') w') : if Region.wanted o (yielded ops a.tmps) = true then Oper.wp Tryz.prog o a w1 K Q else E := by
  have hwant : Region.wanted o (yielded ops a.tmps) = true := by simp [Region.wanted, hgd]
  rw [if_pos hwant]
  subst hw1
  obtain ⟨v', w', hrun, hown, hbel⟩ := h.add hr hA hbS hS hlen o.type
  have hrun' : (Builtin.append_ #[22, 22] o.type #[v, .slice (some ⟨W.heap.size, 0, none⟩) 1 1]).run Tryz.prog (W.alloc (.cells #[.int .i64 r.k, .string r.s, .slice r.a r.n r.c] 51)) = .ok v' w' := hrun
  unfold Oper.wp execOp
  simp only [ho, resolve, invoke, builtin, Sem.run_bind, Sem.run_pure, Result.andThen_ok, List.map_toArray, List.map_cons, List.map_nil, hs, hx, hrun']
  exact hk v' w' hown (hbel w0 hw)
end Go.Proofs.YtiofpeckcfdilaaGreatDoor

/- Contract of reparteemake's Local, with no types: a valid local type of at most six turns. -/
namespace Go.Proofs.YtiofpeckcfdilaaGreatDoor
open Go.RowKit

def rolS (i : Nat) : ByteArray := ⟨#[UInt8.ofNat (97 + i % 5)]⟩
theorem rolS_may (i : Nat) : may (rolS i).toList = true := by
  unfold rolS
  rw [ByteArray.toList_eq]
  have : i % 5 = 0 ∨ i % 5 = 1 ∨ i % 5 = 2 ∨ i % 5 = 3 ∨ i % 5 = 4 := by omega
  rcases this with h | h | h | h | h <;> (rw [h]; decide)
theorem rolObj_at (w : World) (i : Nat) (hi : i < 5) : (w.alloc rolObj).cell? ⟨w.heap.size, i, none⟩ = some (.string (rolS i)) := by
  have : i = 0 ∨ i = 1 ∨ i = 2 ∨ i = 3 ∨ i = 4 := by omega
  unfold rolObj
  rw [cell_of_row _ _ _ _ _ _ (heap_alloc_new w _)]
  unfold rolS
  rcases this with rfl | rfl | rfl | rfl | rfl <;> rfl
theorem bes_drew {g : Nat} {w w' : World} (h : Beside g w w') : Beside g w w'.drew := ⟨h.os, h.tape, h.output, h.size, h.block⟩
theorem bes_below {g B : Nat} {w w1 w2 : World} (h : Beside g w w1) (hb : Below B w1 w2) (hB : w.heap.size ≤ B) : Beside g w w2 :=
  ⟨hb.os.trans h.os, hb.tape.trans h.tape, hb.output.trans h.output, Nat.le_trans h.size hb.size, fun k hk hne => (hb.block k (by omega)).trans (h.block k hk hne)⟩
theorem LBox.beside {W W' : World} {g d : Nat} {nm : ByteArray} {a : Option Addr} {n c : Nat} (h : LBox W g nm a n c) (hb : Beside d W W') (hne : g ≠ d) : LBox W' g nm a n c := (hb.block g h.lt hne).trans h
theorem MRow.drew {w : World} {base S : Nat} {v : Value} {f : List TurnL} (h : MRow w base S v f) : MRow w.drew base S v f := by
  obtain ⟨rs, h1, h2, h3, h4⟩ := h
  refine ⟨rs, h1.drew, h2, fun j r t hr ht => ?_, h4⟩
  obtain ⟨e1, e2, e3, e4, ts, e5, e6⟩ := h3 j r t hr ht
  exact ⟨e1, e2, e3, e4, ts, e5.drew, e6⟩
theorem MRow.low {w : World} {base base' S : Nat} {v : Value} {f : List TurnL} (h : MRow w base S v f) (hb : base' ≤ base) : MRow w base' S v f := by
  obtain ⟨rs, h1, h2, h3, h4⟩ := h
  refine ⟨rs, h1.mono hb, h2, fun j r t hr ht => ?_, h4⟩
  obtain ⟨e1, e2, e3, e4, e5⟩ := h3 j r t hr ht
  exact ⟨e1, e2, e3, e4, e5.low hb⟩
/-- What Local answers. -/
def LocalRet (nm : ByteArray) (w : World) (e : Ending) (w' : World) : Prop := ∃ sa sn sc ts, e = .returned (.agg #[.string nm, .slice sa sn sc]) ∧ MRow w' w.heap.size w'.heap.size (.slice sa sn sc) ts ∧ ts.length = sn ∧ locB ts = true ∧ ts.length ≤ 6
set_option maxHeartbeats 16000000 in
set_option maxRecDepth 20000 in
theorem local_any (g : Nat) (nm : ByteArray) (w : World) (hD : Dice w g) :
    Calls Tryz.prog 9 #[.pointer (some ⟨g, 0, none⟩), .string nm, .slice none 0 0] w fun e w' => LocalRet nm w e w' ∧ Beside g w w' := by
  have hgl := hD.lt
  have HB0 := Lib.hid (tu1 w (.cells #[.string ⟨#[]⟩, .slice none 0 0] 24))
  have HR0 := Lib.hid (LBox.new w ⟨#[]⟩ none 0 0)
  have CP1 := Lib.hid (pick_at g 6 6 (w.alloc (.cells #[.string ⟨#[]⟩, .slice none 0 0] 24)) rfl (hD.on HB0.out) (by omega) (by omega))
  have CP2 := Lib.hid (fun (W : World) (h : Dice W g) => pick_at g 2 2 W rfl h (by omega) (by omega))
  have CP5 := Lib.hid (fun (W : World) (h : Dice W g) => pick_at g 5 5 W rfl h (by omega) (by omega))
  clear hD
  go_enter Tryz.func9, Tryz.ntmps9
  go_wp2_with (first
    | (go_at_call 28; (with_reducible refine CP1.out.mono ?_)
       rintro e w1 ⟨⟨m, hm, rfl⟩, hd1, hb1⟩
       have HD1 := Lib.hid hd1
       have HB1 := Lib.hid (hb1.cut HB0.out)
       have HR1 := Lib.hid (HR0.out.beside hb1 (by omega))
       clear hd1 hb1)
    | (go_at_call 28; (with_reducible refine (CP2.out _ HD1.out).mono ?_)
       rintro e w2 ⟨⟨q, hq, rfl⟩, hd2, hb2⟩
       have HD2 := Lib.hid hd2
       have HB2 := Lib.hid (HB1.out.trans hb2)
       have HR2 := Lib.hid (HR1.out.beside hb2 (by omega))
       clear hd2 hb2)
    | fail)
  have HL2 := Lib.hid (LBox.new w2 nm none 0 0)
  have HD3 := Lib.hid (HD2.out.on (tu1 w2 (.cells #[.string nm, .slice none 0 0] 24)))
  have HB3 := Lib.hid (HB2.out.alloc (.cells #[.string nm, .slice none 0 0] 24))
  have HR3 := Lib.hid (HR2.out.on (tu1 w2 (.cells #[.string nm, .slice none 0 0] 24)))
  have hsz2 : w.heap.size + 1 ≤ w2.heap.size := HR2.out.lt
  have CA := Lib.hid (fun (W : World) (h : Dice W g) => makeArms_any g (m + 1) W h (by omega) (by omega))
  have CP3 := Lib.hid (fun (W : World) (h : Dice W g) => pick_at g (1 + (q : Int)) (q + 1) W (by omega) h (by omega) (by omega))
  rw [show (((m + 1 : Nat) : Int)) = 1 + (m : Int) by omega] at CA
  go_loopw [10] (fun i wr => ∃ (k : Nat) (sa : Option Addr) (sn sc : Nat) (f : List TurnL), k ≤ m + 1 ∧ i = .int .i64 k ∧ f.length = k ∧ sn = k ∧ Hid (MRow wr (w2.heap.size + 1) wr.heap.size (.slice sa sn sc) f) ∧ Hid (∀ t ∈ f, turnB (m + 1) t = true) ∧ Hid (LBox wr w2.heap.size nm sa sn sc) ∧ Hid (Dice wr g) ∧ Hid (Beside g w wr) ∧ Hid (LBox wr w.heap.size ⟨#[]⟩ none 0 0)) (fun i _ => m + 1 - (intOf i).toNat)
  case atStart => exact ⟨0, none, 0, 0, [], by omega, rfl, rfl, rfl, Lib.hid (MRow.zero _ _ _), Lib.hid (by simp), HL2, HD3, HB3, HR3⟩
  case round =>
    obtain ⟨k, sa, sn, sc, f, hk, rfl, hfl, hsn, HO, HG, HLB, HD, HBr, HR⟩ := hrel
    obtain rfl : k = sn := hsn.symm
    have HFL := Lib.hid hfl
    clear hfl
    have hzl := HLB.out.lt
    obtain ⟨oc0, oc1⟩ := HLB.out.cells
    have hsz := HBr.out.size
    by_cases hlt : k < m + 1
    · have d1 : decide ((k : Int) < 1 + (m : Int)) = true := decide_eq_true (by omega)
      go_upto_region 8 with (first
        | (go_at_call 28; (with_reducible refine (CP5.out _ HD.out).mono ?_)
           rintro e w4 ⟨⟨kk, hkk, rfl⟩, hd4, hb4⟩
           have HD4 := Lib.hid hd4
           have HB4 := Lib.hid (HBr.out.trans hb4)
           have HR4 := Lib.hid (HR.out.beside hb4 (by omega))
           have HL4 := Lib.hid (HLB.out.beside hb4 (by omega))
           have HO4 := Lib.hid ((HO.out.beside hb4 (by omega)).top (Nat.le_refl _))
           obtain ⟨vc0, vc1⟩ := HL4.out.cells
           have vf1 := HL4.out.thaw 1
           have hs4 := hb4.size
           clear hd4 hb4)
        | fail)
      by_cases hk0 : kk = 0
      · subst hk0
        go_wp2_with (first
          | (at_builtin
             refine wpList_append_mturn rfl (.tmp 30) (.tmp 32) rfl (w2.heap.size + 1) w4.heap.size (.slice sa k sc) f ⟨0, ⟨#[]⟩, none, 0, 0⟩ ⟨0, [], []⟩ rfl rfl rfl rfl HO4.out ⟨rfl, by rw [ByteArray.toList_eq], by simp [maxLen, ByteArray.size], by simp⟩ (AOwn.zero _ _) (by omega) (Nat.le_refl _) (by have := HFL.out; omega) w4 (Below.refl _ _) ?_
             intro v5 w5 hown hbel
             obtain ⟨sa5, sc5, hv5, _⟩ := hown.towns.sees (by rw [List.length_append, List.length_singleton, HFL.out]; omega)
             rw [List.length_append, List.length_singleton, HFL.out] at hv5
             subst hv5
             have HO5 := Lib.hid hown
             have HL5 := Lib.hid (show LBox w5 w2.heap.size nm sa k sc from (hbel.block w2.heap.size (by omega)).trans HL4.out)
             have HD5 := Lib.hid (HD4.out.below hbel (by omega))
             have HB5 := Lib.hid (bes_below HB4.out hbel (by omega))
             have HR5 := Lib.hid (show LBox w5 w.heap.size ⟨#[]⟩ none 0 0 from (hbel.block w.heap.size (by omega)).trans HR4.out)
             obtain ⟨uc0, uc1⟩ := HL5.out.cells
             have uf1 := HL5.out.thaw 1
             have hs5 := hbel.size
             clear hown hbel)
          | fail)
        have HBS := Lib.hid (fun (u : Value) => ((Beside.refl w2.heap.size w5).setCell 1 u))
        have HBL := Lib.hid (fun (u : Value) => ((Below.refl w2.heap.size w5).setCell (p := ⟨w2.heap.size, 1, none⟩) (Nat.le_refl _) u))
        have HG5 := Lib.hid (show ∀ t ∈ f ++ [(⟨0, [], []⟩ : TurnL)], turnB (m + 1) t = true from fun t ht => by
          rcases List.mem_append.1 ht with ht | ht
          · exact HG.out t ht
          · rw [List.mem_singleton.1 ht]; rfl)
        go_roundw
        case rel => exact ⟨k + 1, sa5, k + 1, sc5, f ++ [⟨0, [], []⟩], by omega, by go_num, by rw [List.length_append, HFL.out]; rfl, rfl, Lib.hid ((HO5.out.beside (HBS.out _) (by omega)).top (Nat.le_refl _)), HG5, Lib.hid (LBox.set HL5.out), Lib.hid (HD5.out.below (HBL.out _) (by omega)), Lib.hid (bes_below HB5.out (HBL.out _) (by omega)), Lib.hid ((heap_setCell_ne (by omega)).trans HR5.out)⟩
        case measure => simp [intOf]; omega
      · have e0 : ((kk : Int) == 0) = false := by rw [beq_eq_false_iff_ne]; omega
        obtain ⟨r, hr⟩ : ∃ r, r = kk % 2 := ⟨_, rfl⟩
        have hmod : (kk : Int).tmod 2 = (r : Int) := by rw [Int.tmod_eq_emod_of_nonneg (by omega)]; omega
        have hr2 : r < 2 := by omega
        have hwr : IntKind.i64.wrap (1 + (r : Int)) = 1 + (r : Int) := by simp [IntKind.wrap, IntKind.bits, IntKind.signed]; omega
        have CR := Lib.hid (roles_any w4.drew)
        have HRO := Lib.hid (fun (i : Nat) (hi : i < 5) => rolObj_at w4.drew i hi)
        have HDd := Lib.hid (HD4.out.drew.on (tu1 w4.drew rolObj))
        have HBd := Lib.hid ((bes_drew HB4.out).alloc rolObj)
        have HOd := Lib.hid (HO4.out.drew.kept (tu1 w4.drew rolObj) (by omega))
        have HLd := Lib.hid (show LBox (w4.drew.alloc rolObj) w2.heap.size nm sa k sc from ((tu1 w4.drew rolObj).block w2.heap.size (by show w2.heap.size < w4.heap.size; omega)).trans HL4.out)
        have HRd := Lib.hid (show LBox (w4.drew.alloc rolObj) w.heap.size ⟨#[]⟩ none 0 0 from ((tu1 w4.drew rolObj).block w.heap.size (by show w.heap.size < w4.heap.size; omega)).trans HR4.out)
        have hsd : (w4.drew.alloc rolObj).heap.size = w4.heap.size + 1 := by simp
        clear hr
        go_wp2
        go_region_law (first
          | (refine step_append_mturn w7 (by rfl) (.tmp 36) (.tmp 51) (by rfl) (w2.heap.size + 1) w6.heap.size (.slice sa k sc) f ⟨1 + (r : Int), rolS pi, aa, an, ac⟩ ⟨1 + (r : Int), (rolS pi).toList, l⟩ (by rfl) (by rfl) (by rfl) HO7.out ⟨rfl, rfl, by simp [rolS, maxLen, ByteArray.size], HAL.out⟩ HA7.out (by omega) (by omega) (by have := HFL.out; omega) w7 (Below.refl _ _) ?_
             intro v5 w5 hown hbel
             obtain ⟨sa5, sc5, hv5, _⟩ := hown.towns.sees (by rw [List.length_append, List.length_singleton, HFL.out]; omega)
             rw [List.length_append, List.length_singleton, HFL.out] at hv5
             subst hv5
             have HO5 := Lib.hid hown
             have HL5 := Lib.hid (show LBox w5 w2.heap.size nm sa k sc from (hbel.block w2.heap.size (by omega)).trans HL7.out)
             have HD5 := Lib.hid (HD7.out.below hbel (by omega))
             have HB5 := Lib.hid (bes_below HB7.out hbel (by omega))
             have HR5 := Lib.hid (show LBox w5 w.heap.size ⟨#[]⟩ none 0 0 from (hbel.block w.heap.size (by omega)).trans HR7.out)
             obtain ⟨_, _⟩ := HL5.out.cells
             have uf1 := HL5.out.thaw 1
             have hs5 := hbel.size
             clear hown hbel)
          | (go_simp; go_at_call 29; (with_reducible refine CR.out.mono ?_)
             rintro e wl ⟨rfl, hwl⟩
             have hcl : ∀ i, i < 5 → wl.cell? ⟨w4.heap.size, i, none⟩ = some (.string (rolS i)) := by rw [hwl]; exact HRO.out
             have HDl := Lib.hid (show Dice wl g by rw [hwl]; exact HDd.out)
             have HBl := Lib.hid (show Beside g w wl by rw [hwl]; exact HBd.out)
             have HOl := Lib.hid (show MRow wl (w2.heap.size + 1) w4.heap.size (.slice sa k sc) f by rw [hwl]; exact HOd.out)
             have HLl := Lib.hid (show LBox wl w2.heap.size nm sa k sc by rw [hwl]; exact HLd.out)
             have HRl := Lib.hid (show LBox wl w.heap.size ⟨#[]⟩ none 0 0 by rw [hwl]; exact HRd.out)
             have hsl : wl.heap.size = w4.heap.size + 1 := by rw [hwl]; exact hsd
             obtain ⟨_, _⟩ := HLl.out.cells
             have HCL := Lib.hid hcl
             clear hwl hcl)
          | (go_simp; go_at_call 28; (with_reducible refine (CP3.out _ HDl.out).mono ?_)
             rintro e w6 ⟨⟨pi, hpi, rfl⟩, hd6, hb6⟩
             have hc6 := (hb6.cell (p := ⟨w4.heap.size, pi, none⟩) (by show w4.heap.size < _; omega) (by show w4.heap.size ≠ g; omega)).trans (HCL.out pi (by omega))
             have j1 : (pi : Int) < 5 := by omega
             have j2 : (0 : Int) ≤ (pi : Int) := by omega
             have HD6 := Lib.hid hd6
             have HB6 := Lib.hid (HBl.out.trans hb6)
             have HO6 := Lib.hid (HOl.out.beside hb6 (by omega))
             have HL6 := Lib.hid (HLl.out.beside hb6 (by omega))
             have HR6 := Lib.hid (HRl.out.beside hb6 (by omega))
             obtain ⟨_, _⟩ := HL6.out.cells
             have hs6 := hb6.size
             clear hd6 hb6)
          | (go_simp; go_at_call 30; (with_reducible refine (CA.out _ HD6.out).mono ?_)
             rintro e w7 ⟨⟨va, l, rfl, hal, hok⟩, hd7, hb7⟩
             have hl6 := (armsB_all hok).2.2.2
             obtain ⟨aa, ac, hva, _, _, _⟩ := hal.sees (by omega)
             obtain ⟨an, han⟩ : ∃ an, an = l.length := ⟨_, rfl⟩
             rw [← han] at hva
             clear han
             subst hva
             have hc7 := (hb7.cell (p := ⟨w4.heap.size, pi, none⟩) (by show w4.heap.size < _; omega) (by show w4.heap.size ≠ g; omega)).trans hc6
             have HA7 := Lib.hid (show AOwn w7 w6.heap.size (TR.arms ⟨1 + (r : Int), rolS pi, aa, an, ac⟩) l from hal)
             have HOK := Lib.hid hok
             have HAL := Lib.hid (show l.length ≤ 1000 by omega)
             have HD7 := Lib.hid hd7
             have HB7 := Lib.hid (HB6.out.trans hb7)
             have HO7 := Lib.hid (show MRow w7 (w2.heap.size + 1) w6.heap.size (.slice sa k sc) f from ((HO6.out.top (Nat.le_refl _)).beside hb7 (by omega)))
             have HL7 := Lib.hid (HL6.out.beside hb7 (by omega))
             have HR7 := Lib.hid (HR6.out.beside hb7 (by omega))
             obtain ⟨_, _⟩ := HL7.out.cells
             have hs7 := hb7.size
             have hq7 : w2.heap.size < w7.heap.size := HL7.out.lt
             clear hal hok hd7 hb7 hl6)
          | fail)
        all_goals
          go_wp2
          have HBS := Lib.hid (fun (u : Value) => ((Beside.refl w2.heap.size w5).setCell 1 u))
          have HBL := Lib.hid (fun (u : Value) => ((Below.refl w2.heap.size w5).setCell (p := ⟨w2.heap.size, 1, none⟩) (Nat.le_refl _) u))
          have HG5 := Lib.hid (show ∀ t ∈ f ++ [(⟨1 + (r : Int), (rolS pi).toList, l⟩ : TurnL)], turnB (m + 1) t = true from fun t ht => by
            rcases List.mem_append.1 ht with ht | ht
            · exact HG.out t ht
            · rw [List.mem_singleton.1 ht]
              unfold turnB
              rw [if_neg (by show ¬ (1 + (r : Int)) = 0; omega), if_pos (by show (1 + (r : Int)) = 1 ∨ (1 + (r : Int)) = 2; omega)]
              rw [show may (rolS pi).toList = true from rolS_may pi, HOK.out]
              rfl)
          go_roundw
          case rel => exact ⟨k + 1, sa5, k + 1, sc5, f ++ [⟨1 + (r : Int), (rolS pi).toList, l⟩], by omega, by go_num, by rw [List.length_append, HFL.out]; rfl, rfl, Lib.hid ((HO5.out.beside (HBS.out _) (by omega)).top (Nat.le_refl _)), HG5, Lib.hid (LBox.set HL5.out), Lib.hid (HD5.out.below (HBL.out _) (by omega)), Lib.hid (bes_below HB5.out (HBL.out _) (by omega)), Lib.hid ((heap_setCell_ne (by omega)).trans HR5.out)⟩
          case measure => simp [intOf]; omega
    · have d1 : decide ((k : Int) < 1 + (m : Int)) = false := decide_eq_false (by omega)
      obtain ⟨rc0, rc1⟩ := HR.out.cells
      have rf0 := HR.out.thaw 0
      have rf1 := HR.out.thaw 1
      have hloc : locB f = true := locB_end (by have := HFL.out; omega) (by have := HFL.out; omega) (by rw [HFL.out, show k = m + 1 by omega]; exact HG.out)
      have HLOC := Lib.hid hloc
      clear hloc
      go_wp2
      refine bodyPost_ret (v := .agg #[.string nm, .slice sa k sc]) (by simp [results, go_sem, rc0, rc1]) rfl ?_
      have hbs := ((Beside.refl w.heap.size wr).setCell 0 (.string nm)).setCell 1 (.slice sa k sc)
      have hbl : Below w.heap.size wr ((wr.setCell ⟨w.heap.size, 0, none⟩ (.string nm)).setCell ⟨w.heap.size, 1, none⟩ (.slice sa k sc)) := ((Below.refl w.heap.size wr).setCell (Nat.le_refl _) _).setCell (Nat.le_refl _) _
      refine ⟨⟨sa, k, sc, f, rfl, ?_, HFL.out, HLOC.out, by have := HFL.out; omega⟩, bes_below HBr.out hbl (Nat.le_refl _)⟩
      have hm := (HO.out.beside hbs (by omega)).top (Nat.le_refl _)
      exact hm.low (by omega)
end Go.Proofs.YtiofpeckcfdilaaGreatDoor
