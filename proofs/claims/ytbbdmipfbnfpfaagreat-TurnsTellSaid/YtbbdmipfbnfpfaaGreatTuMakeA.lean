/- Contracts of reparteemake: dice, Pick, labels, roles, Data, carries, New. -/
import Derived.Test.YtbbdmipfbnfpfaaGreatTuMem
import Derived.Test.YtbbdmipfbnfpfaaGreatTuInts
import Derived.Test.YtbbdmipfbnfpfaaGreatTuOwnV
import Derived.BigQuiet
namespace Go.Proofs.YtbbdmipfbnfpfaaGreat
open Go.RowKit

/-- Dice in a block; their numbers lie below it. -/
def Dice (W : World) (g : Nat) : Prop := ∃ (la : Option Addr) (ln lc : Nat) (l : List Int) (at_ : Nat), W.heap[g]? = some (.cells #[.slice la ln lc, .int .i64 (at_ : Int)] 71 (0, 0)) ∧ Nums W g la ln l ∧ at_ ≤ ln
theorem Dice.lt {W : World} {g : Nat} (h : Dice W g) : g < W.heap.size := by
  obtain ⟨la, ln, lc, l, at_, h, _⟩ := h
  exact (Array.getElem?_eq_some_iff.1 h).1
theorem Dice.below {W W' : World} {g B : Nat} (h : Dice W g) (hb : Below B W W') (hB : g < B) : Dice W' g := by
  obtain ⟨la, ln, lc, l, at_, h1, h2, h3⟩ := h
  exact ⟨la, ln, lc, l, at_, (hb.block g hB).trans h1, h2.below (hb.mono (by omega)), h3⟩
theorem Dice.on {W W' : World} {g : Nat} (h : Dice W g) (hb : Below W.heap.size W W') : Dice W' g := h.below hb h.lt
theorem Dice.drew {W : World} {g : Nat} (h : Dice W g) : Dice W.drew g := by
  obtain ⟨la, ln, lc, l, at_, h1, h2, h3⟩ := h
  exact ⟨la, ln, lc, l, at_, h1, h2.keep fun _ _ => rfl, h3⟩
theorem mod_lt (k : Int) (n : Nat) (h1 : 1 ≤ n) (h2 : n ≤ 1000) : ∃ i : Nat, i < n ∧ (IntKind.u64.wrap k).tmod (n : Int) = (i : Int) := by
  have h0 : 0 ≤ IntKind.u64.wrap k := by rw [IntKind.wrap_u64]; omega
  have hm := Int.emod_nonneg (IntKind.u64.wrap k) (show (n : Int) ≠ 0 by omega)
  have hl := Int.emod_lt_of_pos (IntKind.u64.wrap k) (show (0 : Int) < n by omega)
  refine ⟨((IntKind.u64.wrap k).tmod (n : Int)).toNat, ?_, ?_⟩
  · rw [Int.tmod_eq_emod_of_nonneg h0]; omega
  · rw [Int.tmod_eq_emod_of_nonneg h0]; omega
set_option maxHeartbeats 8000000 in
set_option maxRecDepth 20000 in
theorem pick_any (g : Nat) (n : Nat) (w : World) (hD : Dice w g) (h1 : 1 ≤ n) (h2 : n ≤ 1000) :
    Calls Tryz.prog 40 #[.pointer (some ⟨g, 0, none⟩), .int .i64 (n : Int)] w fun e w' => (∃ k : Nat, k < n ∧ e = .returned (.int .i64 (k : Int))) ∧ Dice w' g ∧ Beside g w w' := by
  have HD := Lib.hid hD
  obtain ⟨la, ln, lc, l, at_, hh, hnu, hle⟩ := hD
  have hlt : g < w.heap.size := (Array.getElem?_eq_some_iff.1 hh).1
  have c0 : w.cell? ⟨g, 0, none⟩ = some (.slice la ln lc) := by rw [cell_of_row _ _ _ _ _ _ hh]; rfl
  have c1 : w.cell? ⟨g, 1, none⟩ = some (.int .i64 (at_ : Int)) := by rw [cell_of_row _ _ _ _ _ _ hh]; rfl
  have f1 : w.frozen? ⟨g, 1, none⟩ = false := by unfold World.frozen?; rw [hh]; simp
  have hsz := hnu.2.1
  have HNU := Lib.hid hnu
  have HH := Lib.hid hh
  have d1 : decide ((n : Int) < 1) = false := decide_eq_false (by omega)
  clear hh hnu
  by_cases ha : at_ < ln
  · have d2 : decide ((ln : Int) ≤ (at_ : Int)) = false := decide_eq_false (by omega)
    obtain ⟨b, off, x, rfl, hb, hx, hc⟩ := HNU.out.at_ ha
    obtain ⟨k, hk, hmod⟩ := mod_lt x n h1 h2
    have hwn : IntKind.u64.wrap (n : Int) = (n : Int) := IntWalk.u64_in _ (by omega)
    have hne : ((n : Int) == 0) = false := by rw [beq_eq_false_iff_ne]; omega
    have i1 : (at_ : Int) < (ln : Int) := by omega
    have i2 : (0 : Int) ≤ (at_ : Int) := by omega
    have hcb : b ≠ g := by omega
    have HOUT := Lib.hid (fun (W : World) (e1 : W.heap = (w.setCell ⟨g, 1, none⟩ (.int .i64 ((at_ : Int) + 1))).heap) (e2 : W.os = w.os) (e3 : W.tape = w.tape) (e4 : W.output = w.output) => show Dice W g ∧ Beside g w W from by
      have hb0 : Beside g w (w.setCell ⟨g, 1, none⟩ (.int .i64 ((at_ : Int) + 1))) := (Beside.refl g w).setCell 1 _
      have hbs : Beside g w W := ⟨e2, e3, e4, by rw [e1]; exact hb0.size, by rw [e1]; exact hb0.block⟩
      refine ⟨⟨some ⟨b, off, none⟩, ln, lc, l, at_ + 1, ?_, ?_, by omega⟩, hbs⟩
      · obtain ⟨hl, hk2⟩ := Array.getElem?_eq_some_iff.1 HH.out
        rw [e1]
        show (w.heap.modify g _)[g]? = _
        rw [Array.getElem?_eq_getElem (by rw [Array.size_modify]; exact hl), Array.getElem_modify_self, hk2]
        rfl
      · exact HNU.out.keep fun p hp => hbs.cell (by omega) (by omega))
    clear hx
    go_enter Tryz.func40, Tryz.ntmps40
    go_wp2
    go_quiet (fail)
    go_wp2
    go_quiet (fail)
    go_wp2
    go_ret
    exact ⟨⟨k, hk, rfl⟩, HOUT.out _ rfl rfl rfl rfl⟩
  · have d2 : decide ((ln : Int) ≤ (at_ : Int)) = true := decide_eq_true (by omega)
    go_enter Tryz.func40, Tryz.ntmps40
    go_wp2
    go_quiet (fail)
    go_wp2
    go_ret
    exact ⟨⟨0, by omega, rfl⟩, by
      obtain ⟨la, ln, lc, l, at_, h1, h2, h3⟩ := HD.out
      exact ⟨la, ln, lc, l, at_, h1, h2.keep fun _ _ => rfl, h3⟩, (Beside.refl g w).drewN nq⟩
theorem pick_at (g : Nat) (z : Int) (n : Nat) (w : World) (hz : z = (n : Int)) (hD : Dice w g) (h1 : 1 ≤ n) (h2 : n ≤ 1000) :
    Calls Tryz.prog 40 #[.pointer (some ⟨g, 0, none⟩), .int .i64 z] w fun e w' => (∃ k : Nat, k < n ∧ e = .returned (.int .i64 (k : Int))) ∧ Dice w' g ∧ Beside g w w' := by
  subst hz
  exact pick_any g n w hD h1 h2
def labObj : Obj := .cells #[.string ⟨#[119]⟩, .string ⟨#[120]⟩, .string ⟨#[121]⟩, .string ⟨#[122]⟩] 9
def rolObj : Obj := .cells #[.string ⟨#[97]⟩, .string ⟨#[98]⟩, .string ⟨#[99]⟩, .string ⟨#[100]⟩, .string ⟨#[101]⟩] 9
theorem labels_any (w : World) : Calls Tryz.prog 59 #[] w fun e w' => e = .returned (.slice (some ⟨w.heap.size, 0, none⟩) 4 4) ∧ w' = w.alloc labObj := by
  go_enter Tryz.func59, Tryz.ntmps59
  go_wp2
  go_ret
  exact ⟨rfl, rfl⟩
theorem roles_any (w : World) : Calls Tryz.prog 41 #[] w fun e w' => e = .returned (.slice (some ⟨w.heap.size, 0, none⟩) 5 5) ∧ w' = w.alloc rolObj := by
  go_enter Tryz.func41, Tryz.ntmps41
  go_wp2
  go_ret
  exact ⟨rfl, rfl⟩
theorem Beside.alloc {g : Nat} {w w' : World} (h : Beside g w w') (o : Obj) : Beside g w (w'.alloc o) := h.trans (Beside.of_below (tu1 w' o))
theorem Beside.cut {g : Nat} {w0 w w' : World} (h0 : Below w0.heap.size w0 w) (h : Beside g w w') : Beside g w0 w' := (Beside.of_below h0).trans h
set_option maxHeartbeats 4000000 in
theorem data_any (g : Nat) (w : World) (hD : Dice w g) :
    Calls Tryz.prog 71 #[.pointer (some ⟨g, 0, none⟩)] w fun e w' => (∃ k : Int, 0 ≤ k ∧ k < 5 ∧ e = .returned (.agg #[.int .i64 k, .string ⟨#[]⟩])) ∧ Dice w' g ∧ Beside g w w' := by
  have hlt := hD.lt
  obtain ⟨W1, hW1⟩ : ∃ W1, W1 = (w.alloc (.cells #[.int .i64 0, .string ⟨#[]⟩] 39)).alloc (.cells #[.int .i64 1, .int .i64 0, .int .i64 1, .int .i64 2, .int .i64 3, .int .i64 4] 3) := ⟨_, rfl⟩
  have hB1 : Below w.heap.size w W1 := by rw [hW1]; exact below_on (tu1 w _) (tu1 _ _)
  have CP := Lib.hid (pick_at g 6 6 W1 rfl (hD.on hB1) (by omega) (by omega))
  have HB1 := Lib.hid hB1
  have hs1 : W1.heap.size = w.heap.size + 2 := by rw [hW1]; simp
  have hbox : W1.heap[w.heap.size]? = some (.cells #[.int .i64 0, .string ⟨#[]⟩] 39 (0, 0)) := by
    rw [hW1]
    exact ((tu1 (w.alloc _) _).block w.heap.size (by simp)).trans (heap_alloc_new w _)
  have hrow : W1.heap[w.heap.size + 1]? = some (.cells #[.int .i64 1, .int .i64 0, .int .i64 1, .int .i64 2, .int .i64 3, .int .i64 4] 3 (0, 0)) := by
    rw [hW1]
    have := heap_alloc_new (w.alloc (.cells #[.int .i64 0, .string ⟨#[]⟩] 39)) (.cells #[.int .i64 1, .int .i64 0, .int .i64 1, .int .i64 2, .int .i64 3, .int .i64 4] 3)
    rw [World.size_alloc] at this
    exact this
  have HBOX := Lib.hid hbox
  have HROW := Lib.hid hrow
  subst hW1
  clear hD hB1 hbox hrow
  go_enter Tryz.func71, Tryz.ntmps71
  go_wp2_with (first
    | (go_at_call 40; (with_reducible refine CP.out.mono ?_)
       rintro e w2 ⟨⟨k, hk, rfl⟩, hd2, hb2⟩
       have HD2 := Lib.hid hd2
       have HBS := Lib.hid (hb2.cut HB1.out)
       have hbx := (hb2.block w.heap.size (by omega) (by omega)).trans HBOX.out
       have hrw := (hb2.block (w.heap.size + 1) (by omega) (by omega)).trans HROW.out
       have f0 : w2.frozen? ⟨w.heap.size, 0, none⟩ = false := by unfold World.frozen?; rw [hbx]; simp
       have f1 : w2.frozen? ⟨w.heap.size, 1, none⟩ = false := by unfold World.frozen?; rw [hbx]; simp
       have c0 : w2.cell? ⟨w.heap.size, 0, none⟩ = some (.int .i64 0) := by rw [cell_of_row _ _ _ _ _ _ hbx]; rfl
       have c1 : w2.cell? ⟨w.heap.size, 1, none⟩ = some (.string ⟨#[]⟩) := by rw [cell_of_row _ _ _ _ _ _ hbx]; rfl
       obtain ⟨x, hx0, hx5, hcx⟩ : ∃ x : Int, 0 ≤ x ∧ x < 5 ∧ w2.cell? ⟨w.heap.size + 1, k, none⟩ = some (.int .i64 x) := by
         rw [cell_of_row _ _ _ _ _ _ hrw]
         have : k = 0 ∨ k = 1 ∨ k = 2 ∨ k = 3 ∨ k = 4 ∨ k = 5 := by omega
         rcases this with rfl | rfl | rfl | rfl | rfl | rfl
         · exact ⟨1, by omega, by omega, rfl⟩
         · exact ⟨0, by omega, by omega, rfl⟩
         · exact ⟨1, by omega, by omega, rfl⟩
         · exact ⟨2, by omega, by omega, rfl⟩
         · exact ⟨3, by omega, by omega, rfl⟩
         · exact ⟨4, by omega, by omega, rfl⟩
       have i1 : (k : Int) < 6 := by omega
       have i2 : (0 : Int) ≤ (k : Int) := by omega
       have HGE := Lib.hid hlt
       have HBX := Lib.hid hbx
       clear hd2 hb2 hbx hrw)
    | fail)
  have hset : ∀ u v, Dice ((w2.setCell ⟨w.heap.size, 0, none⟩ u).setCell ⟨w.heap.size, 1, none⟩ v) g ∧ Beside g w ((w2.setCell ⟨w.heap.size, 0, none⟩ u).setCell ⟨w.heap.size, 1, none⟩ v) := fun u v => by
    have h1 : Below w.heap.size w2 ((w2.setCell ⟨w.heap.size, 0, none⟩ u).setCell ⟨w.heap.size, 1, none⟩ v) := ((Below.refl _ _).setCell (by simp) u).setCell (by simp) v
    have hb := HBS.out
    exact ⟨HD2.out.below h1 hlt, h1.os.trans hb.os, h1.tape.trans hb.tape, h1.output.trans hb.output, Nat.le_trans hb.size h1.size, fun k hk hne => (h1.block k hk).trans (hb.block k hk hne)⟩
  refine bodyPost_ret (v := .agg #[.int .i64 x, .string ⟨#[]⟩]) (by simp [results, go_sem, c0, c1]) rfl ?_
  exact ⟨⟨x, hx0, hx5, rfl⟩, (hset _ _).1, (hset _ _).2⟩
set_option maxHeartbeats 4000000 in
theorem carries_any (g : Nat) (w : World) (hD : Dice w g) :
    Calls Tryz.prog 60 #[.pointer (some ⟨g, 0, none⟩), .slice none 0 0] w fun e w' => (∃ k : Int, 0 ≤ k ∧ k < 5 ∧ e = .returned (.agg #[.int .i64 k, .string ⟨#[]⟩])) ∧ Dice w' g ∧ Beside g w w' := by
  have hlt := hD.lt
  have HB1 := Lib.hid (tu1 w (.cells #[.int .i64 0, .string ⟨#[]⟩] 39))
  have CD := Lib.hid (data_any g (w.alloc (.cells #[.int .i64 0, .string ⟨#[]⟩] 39)) (hD.on HB1.out))
  have HBOX := Lib.hid (heap_alloc_new w (.cells #[.int .i64 0, .string ⟨#[]⟩] 39))
  clear hD
  go_enter Tryz.func60, Tryz.ntmps60
  go_wp2_with (first
    | (go_at_call 71; (with_reducible refine CD.out.mono ?_)
       rintro e w2 ⟨⟨x, hx0, hx5, rfl⟩, hd2, hb2⟩
       have HD2 := Lib.hid hd2
       have HBS := Lib.hid (hb2.cut HB1.out)
       have hbx := (hb2.block w.heap.size (by simp) (by omega)).trans HBOX.out
       have f0 : w2.frozen? ⟨w.heap.size, 0, none⟩ = false := by unfold World.frozen?; rw [hbx]; simp
       have f1 : w2.frozen? ⟨w.heap.size, 1, none⟩ = false := by unfold World.frozen?; rw [hbx]; simp
       have c0 : w2.cell? ⟨w.heap.size, 0, none⟩ = some (.int .i64 0) := by rw [cell_of_row _ _ _ _ _ _ hbx]; rfl
       have c1 : w2.cell? ⟨w.heap.size, 1, none⟩ = some (.string ⟨#[]⟩) := by rw [cell_of_row _ _ _ _ _ _ hbx]; rfl
       clear hd2 hb2 hbx)
    | fail)
  have hset : ∀ u v, Dice ((w2.setCell ⟨w.heap.size, 0, none⟩ u).setCell ⟨w.heap.size, 1, none⟩ v) g ∧ Beside g w ((w2.setCell ⟨w.heap.size, 0, none⟩ u).setCell ⟨w.heap.size, 1, none⟩ v) := fun u v => by
    have h1 : Below w.heap.size w2 ((w2.setCell ⟨w.heap.size, 0, none⟩ u).setCell ⟨w.heap.size, 1, none⟩ v) := ((Below.refl _ _).setCell (by simp) u).setCell (by simp) v
    have hb := HBS.out
    exact ⟨HD2.out.below h1 hlt, h1.os.trans hb.os, h1.tape.trans hb.tape, h1.output.trans hb.output, Nat.le_trans hb.size h1.size, fun k hk hne => (h1.block k hk).trans (hb.block k hk hne)⟩
  refine bodyPost_ret (v := .agg #[.int .i64 x, .string ⟨#[]⟩]) (by simp [results, go_sem, c0, c1]) rfl ?_
  exact ⟨⟨x, hx0, hx5, rfl⟩, (hset _ _).1, (hset _ _).2⟩
/-- A copy of numbers that came in. -/
theorem IInts.copy {w : World} (base : Nat) {bound : Nat} {a : Option Addr} {m : Nat} (c : Nat) {l : List Int} (hr : Nums w bound a m l) (hlim : m * 8 ≤ 140737488351232) (hbase : base ≤ w.heap.size) (ty : Nat) :
    ∃ v' w', (Builtin.append_ #[25, 25] ty #[.slice none 0 0, .slice a m c]).run Tryz.prog w = .ok v' w' ∧ IInts w' base v' l ∧ w.grownBy w' none := by
  obtain ⟨i0, hi0, hzz⟩ := Option.map_eq_some_iff.1 info_int1
  simp only [Prod.mk.injEq] at hzz
  obtain ⟨hz, hs1, hb1⟩ := hzz
  rcases a with _ | ad
  · have hm : m = 0 := by
      rcases Nat.eq_zero_or_pos m with h0 | h0
      · exact h0
      · obtain ⟨b, off, h, _⟩ := hr.2.2 h0
        cases h
    subst hm
    have hts : l = [] := List.eq_nil_of_length_eq_zero hr.1
    subst hts
    exact ⟨_, w, run_append_none w base 25 ty 3 i0 Tryz.underlying25 hi0 _ 0 _ (World.ownsRow_nil w base 3 1) c, IInts.zero _ _, World.grownBy.refl w _⟩
  · have hcells : ∀ j u, (l.map encI64)[j]? = some u → w.cell? (ad.add j) = some u := by
      intro j u hu
      rw [List.getElem?_map] at hu
      obtain ⟨s, hs', rfl⟩ := Option.map_eq_some_iff.1 hu
      have hj : j < l.length := (List.getElem?_eq_some_iff.1 hs').1
      obtain ⟨b, off, h, _, hc⟩ := hr.2.2 (by have := hr.1; omega)
      obtain rfl := Option.some.inj h
      rw [Go.WideShapes.add_plain]
      exact hc j s hs'
    obtain ⟨v', w', hrun, h2, h3, _, _⟩ := run_append_own_at (P := Tryz.prog) w base 25 ty 3 i0 _ 1 8 Tryz.underlying25 hi0 hz hs1 hb1 rfl (by omega) (.slice none 0 0) 0 [] (World.ownsRow_nil w base 3 1) ad m c (l.map encI64) (by simp [hr.1]) hcells
      (fun u hu => by
        obtain ⟨s, _, rfl⟩ := List.mem_map.1 hu
        rfl) (by unfold maxLen; omega) (by omega) hbase
    refine ⟨v', w', hrun, ?_, h3⟩
    rw [Nat.zero_add, List.nil_append] at h2
    exact (show w'.ownsRow base 3 1 v' l.length (l.map encI64) from hr.1.symm ▸ h2)
theorem wpList_append_copy {ops : Array Oper} {rest : List Oper} {o : Oper} {a : Act} {Q : Exit → Act → World → Prop} {W : World} (hgd : o.guard = none) (s x : Operand)
    (ho : o.op = .call { callee := .builtin .append, args := #[s, x], argTypes := #[25, 25] }) (base : Nat) (bound : Nat) (ad : Option Addr) (m c : Nat) (l : List Int)
    (hs : a.eval s = .slice none 0 0) (hx : a.eval x = .slice ad m c) (hr : Nums W bound ad m l) (hlim : m * 8 ≤ 140737488351232) (hb : base ≤ W.heap.size)
    (h : ∀ v' w', IInts w' base v' l → W.grownBy w' none → wpList Tryz.prog ops Q rest (a.put o.dst v') w') : wpList Tryz.prog ops Q (o :: rest) a W := by
  obtain ⟨v', w', hrun, hown, hgr⟩ := IInts.copy base c hr hlim hb o.type
  exact wpList_append_lx hgd s x _ ho _ _ _ hs hx hrun (h v' w' hown hgr)
set_option maxHeartbeats 4000000 in
theorem new_any (a : Option Addr) (n c : Nat) (l : List Int) (w : World) (bound : Nat) (h : Nums w bound a n l) (hlim : n * 8 ≤ 140737488351232) :
    Calls Tryz.prog 23 #[.slice a n c] w fun e w' => ∃ g, e = .returned (.pointer (some ⟨g, 0, none⟩)) ∧ Dice w' g ∧ w.heap.size ≤ g ∧ Below w.heap.size w w' := by
  have HN := Lib.hid h
  have hsz := h.2.1
  clear h
  go_enter Tryz.func23, Tryz.ntmps23
  go_wp2_with (first
    | (at_builtin
       refine wpList_append_copy rfl (.const (.slice none 0 0)) (.tmp 3) rfl w.heap.size bound a n c l rfl rfl HN.out hlim (Nat.le_refl _) ?_
       intro v1 w1 hown hgr
       have HB := Lib.hid ((Below.refl w.heap.size w).grown hgr (Nat.le_refl _) (fun j e => by cases e))
       obtain ⟨la, lc, hv, _, _, _, hnu⟩ := hown.sees
       obtain ⟨ln, hln⟩ : ∃ ln, ln = l.length := ⟨_, rfl⟩
       rw [← hln] at hv hnu
       clear hln
       subst hv
       have HNU := Lib.hid hnu
       clear hown hgr hnu)
    | fail)
  go_ret
  refine ⟨w1.heap.size, rfl, ⟨la, ln, lc, l, 0, heap_alloc_new w1 _, HNU.out.alloc (Nat.le_refl _) _, Nat.zero_le _⟩, HB.out.size, HB.out.alloc HB.out.size _⟩
end Go.Proofs.YtbbdmipfbnfpfaaGreat
