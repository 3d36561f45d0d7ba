/- Contracts of reparteemake: dice, Pick, labels, roles, Data, carries, New. -/
import Derived.Test.YtgefhgcpnfbigaaTuPlains
import Derived.Test.YtgefhgcpnfbigaaTuRows
import Derived.Test.YtgefhgcpnfbigaaTuOwnV
import Derived.BigQuiet
import Derived.Test.YtgefhgcpnfbigaaTuTrim
import Derived.Deep.RegionLaw
import Derived.Test.YtgefhgcpnfbigaaTuTrimO
import Derived.Deep.Onto
namespace Go.Proofs.Ytgefhgcpnfbigaa
open Go.RowKit

/-- Dice in a block; their numbers lie below it. -/
def Dice (W : World) (g : Nat) : Prop := ∃ (la : Option Addr) (ln lc : Nat) (l : List Int) (at_ : Nat), W.heap[g]? = some (.cells #[.slice la ln lc, .int .i64 (at_ : Int)] 87 (0, 0)) ∧ Nums W g la ln l ∧ at_ ≤ ln
theorem Dice.lt {W : World} {g : Nat} (h : Dice W g) : g < W.heap.size := by
  obtain ⟨la, ln, lc, l, at_, h, _⟩ := h
  exact (Array.getElem?_eq_some_iff.1 h).1
theorem Dice.below {W W' : World} {g B : Nat} (h : Dice W g) (hb : Below B W W') (hB : g < B) : Dice W' g := by
  obtain ⟨la, ln, lc, l, at_, h1, h2, h3⟩ := h
  exact ⟨la, ln, lc, l, at_, (hb.block g hB).trans h1, h2.below (hb.mono (by omega)), h3⟩
theorem Dice.on {W W' : World} {g : Nat} (h : Dice W g) (hb : Below W.heap.size W W') : Dice W' g := h.below hb h.lt
theorem Dice.drew {W : World} {g : Nat} (h : Dice W g) : Dice W.drew g := by
  obtain ⟨la, ln, lc, l, at_, h1, h2, h3⟩ := h
  exact ⟨la, ln, lc, l, at_, h1, h2.keep fun _ _ => rfl, h3⟩
theorem mod_lt (k : Int) (n : Nat) (h1 : 1 ≤ n) (h2 : n ≤ 1000) : ∃ i : Nat, i < n ∧ (IntKind.u64.wrap k).tmod (n : Int) = (i : Int) := by
  have h0 : 0 ≤ IntKind.u64.wrap k := by rw [IntKind.wrap_u64]; omega
  have hm := Int.emod_nonneg (IntKind.u64.wrap k) (show (n : Int) ≠ 0 by omega)
  have hl := Int.emod_lt_of_pos (IntKind.u64.wrap k) (show (0 : Int) < n by omega)
  refine ⟨((IntKind.u64.wrap k).tmod (n : Int)).toNat, ?_, ?_⟩
  · rw [Int.tmod_eq_emod_of_nonneg h0]; omega
  · rw [Int.tmod_eq_emod_of_nonneg h0]; omega
set_option maxHeartbeats 8000000 in
set_option maxRecDepth 20000 in
theorem pick_any (g : Nat) (n : Nat) (w : World) (hD : Dice w g) (h1 : 1 ≤ n) (h2 : n ≤ 1000) :
    Calls Try.prog 59 #[.pointer (some ⟨g, 0, none⟩), .int .i64 (n : Int)] w fun e w' => (∃ k : Nat, k < n ∧ e = .returned (.int .i64 (k : Int))) ∧ Dice w' g ∧ Beside g w w' := by
  have HD := Lib.hid hD
  obtain ⟨la, ln, lc, l, at_, hh, hnu, hle⟩ := hD
  have hlt : g < w.heap.size := (Array.getElem?_eq_some_iff.1 hh).1
  have c0 : w.cell? ⟨g, 0, none⟩ = some (.slice la ln lc) := by rw [cell_of_row _ _ _ _ _ _ hh]; rfl
  have c1 : w.cell? ⟨g, 1, none⟩ = some (.int .i64 (at_ : Int)) := by rw [cell_of_row _ _ _ _ _ _ hh]; rfl
  have f1 : w.frozen? ⟨g, 1, none⟩ = false := by unfold World.frozen?; rw [hh]; simp
  have hsz := hnu.2.1
  have HNU := Lib.hid hnu
  have HH := Lib.hid hh
  have d1 : decide ((n : Int) < 1) = false := decide_eq_false (by omega)
  clear hh hnu
  by_cases ha : at_ < ln
  · have d2 : decide ((ln : Int) ≤ (at_ : Int)) = false := decide_eq_false (by omega)
    obtain ⟨b, off, x, rfl, hb, hx, hc⟩ := HNU.out.at_ ha
    obtain ⟨k, hk, hmod⟩ := mod_lt x n h1 h2
    have hwn : IntKind.u64.wrap (n : Int) = (n : Int) := IntWalk.u64_in _ (by omega)
    have hne : ((n : Int) == 0) = false := by rw [beq_eq_false_iff_ne]; omega
    have i1 : (at_ : Int) < (ln : Int) := by omega
    have i2 : (0 : Int) ≤ (at_ : Int) := by omega
    have hcb : b ≠ g := by omega
    have HOUT := Lib.hid (fun (W : World) (e1 : W.heap = (w.setCell ⟨g, 1, none⟩ (.int .i64 ((at_ : Int) + 1))).heap) (e2 : W.os = w.os) (e3 : W.tape = w.tape) (e4 : W.output = w.output) => show Dice W g ∧ Beside g w W from by
      have hb0 : Beside g w (w.setCell ⟨g, 1, none⟩ (.int .i64 ((at_ : Int) + 1))) := (Beside.refl g w).setCell 1 _
      have hbs : Beside g w W := ⟨e2, e3, e4, by rw [e1]; exact hb0.size, by rw [e1]; exact hb0.block⟩
      refine ⟨⟨some ⟨b, off, none⟩, ln, lc, l, at_ + 1, ?_, ?_, by omega⟩, hbs⟩
      · obtain ⟨hl, hk2⟩ := Array.getElem?_eq_some_iff.1 HH.out
        rw [e1]
        show (w.heap.modify g _)[g]? = _
        rw [Array.getElem?_eq_getElem (by rw [Array.size_modify]; exact hl), Array.getElem_modify_self, hk2]
        rfl
      · exact HNU.out.keep fun p hp => hbs.cell (by omega) (by omega))
    clear hx
    go_enter Try.func59, Try.ntmps59
    go_wp2
    go_quiet (fail)
    go_wp2
    go_quiet (fail)
    go_wp2
    go_ret
    exact ⟨⟨k, hk, rfl⟩, HOUT.out _ rfl rfl rfl rfl⟩
  · have d2 : decide ((ln : Int) ≤ (at_ : Int)) = true := decide_eq_true (by omega)
    go_enter Try.func59, Try.ntmps59
    go_wp2
    go_quiet (fail)
    go_wp2
    go_ret
    exact ⟨⟨0, by omega, rfl⟩, by
      obtain ⟨la, ln, lc, l, at_, h1, h2, h3⟩ := HD.out
      exact ⟨la, ln, lc, l, at_, h1, h2.keep fun _ _ => rfl, h3⟩, (Beside.refl g w).drewN nq⟩
theorem pick_at (g : Nat) (z : Int) (n : Nat) (w : World) (hz : z = (n : Int)) (hD : Dice w g) (h1 : 1 ≤ n) (h2 : n ≤ 1000) :
    Calls Try.prog 59 #[.pointer (some ⟨g, 0, none⟩), .int .i64 z] w fun e w' => (∃ k : Nat, k < n ∧ e = .returned (.int .i64 (k : Int))) ∧ Dice w' g ∧ Beside g w w' := by
  subst hz
  exact pick_any g n w hD h1 h2
def labObj : Obj := .cells #[.string ⟨#[119]⟩, .string ⟨#[120]⟩, .string ⟨#[121]⟩, .string ⟨#[122]⟩] 9
def rolObj : Obj := .cells #[.string ⟨#[97]⟩, .string ⟨#[98]⟩, .string ⟨#[99]⟩, .string ⟨#[100]⟩, .string ⟨#[101]⟩] 9
theorem labels_any (w : World) : Calls Try.prog 61 #[] w fun e w' => e = .returned (.slice (some ⟨w.heap.size, 0, none⟩) 4 4) ∧ w' = w.alloc labObj := by
  go_enter Try.func61, Try.ntmps61
  go_wp2
  go_ret
  exact ⟨rfl, rfl⟩
theorem roles_any (w : World) : Calls Try.prog 60 #[] w fun e w' => e = .returned (.slice (some ⟨w.heap.size, 0, none⟩) 5 5) ∧ w' = w.alloc rolObj := by
  go_enter Try.func60, Try.ntmps60
  go_wp2
  go_ret
  exact ⟨rfl, rfl⟩
theorem Beside.alloc {g : Nat} {w w' : World} (h : Beside g w w') (o : Obj) : Beside g w (w'.alloc o) := h.trans (Beside.of_below (tu1 w' o))
theorem Beside.cut {g : Nat} {w0 w w' : World} (h0 : Below w0.heap.size w0 w) (h : Beside g w w') : Beside g w0 w' := (Beside.of_below h0).trans h
/-- A copy of numbers that came in. -/
theorem IInts.copy {w : World} (base : Nat) {bound : Nat} {a : Option Addr} {m : Nat} (c : Nat) {l : List Int} (hr : Nums w bound a m l) (hlim : m * 8 ≤ 140737488351232) (hbase : base ≤ w.heap.size) (ty : Nat) :
    ∃ v' w', (Builtin.append_ #[24, 24] ty #[.slice none 0 0, .slice a m c]).run Try.prog w = .ok v' w' ∧ IInts w' base v' l ∧ w.grownBy w' none := by
  obtain ⟨i0, hi0, hzz⟩ := Option.map_eq_some_iff.1 info_int1
  simp only [Prod.mk.injEq] at hzz
  obtain ⟨hz, hs1, hb1⟩ := hzz
  rcases a with _ | ad
  · have hm : m = 0 := by
      rcases Nat.eq_zero_or_pos m with h0 | h0
      · exact h0
      · obtain ⟨b, off, h, _⟩ := hr.2.2 h0
        cases h
    subst hm
    have hts : l = [] := List.eq_nil_of_length_eq_zero hr.1
    subst hts
    exact ⟨_, w, run_append_none w base 24 ty 3 i0 Try.underlying24 hi0 _ 0 _ (World.ownsRow_nil w base 3 1) c, IInts.zero _ _, World.grownBy.refl w _⟩
  · have hcells : ∀ j u, (l.map encI64)[j]? = some u → w.cell? (ad.add j) = some u := by
      intro j u hu
      rw [List.getElem?_map] at hu
      obtain ⟨s, hs', rfl⟩ := Option.map_eq_some_iff.1 hu
      have hj : j < l.length := (List.getElem?_eq_some_iff.1 hs').1
      obtain ⟨b, off, h, _, hc⟩ := hr.2.2 (by have := hr.1; omega)
      obtain rfl := Option.some.inj h
      rw [Go.WideShapes.add_plain]
      exact hc j s hs'
    obtain ⟨v', w', hrun, h2, h3, _, _⟩ := run_append_own_at (P := Try.prog) w base 24 ty 3 i0 _ 1 8 Try.underlying24 hi0 hz hs1 hb1 rfl (by omega) (.slice none 0 0) 0 [] (World.ownsRow_nil w base 3 1) ad m c (l.map encI64) (by simp [hr.1]) hcells
      (fun u hu => by
        obtain ⟨s, _, rfl⟩ := List.mem_map.1 hu
        rfl) (by unfold maxLen; omega) (by omega) hbase
    refine ⟨v', w', hrun, ?_, h3⟩
    rw [Nat.zero_add, List.nil_append] at h2
    exact (show w'.ownsRow base 3 1 v' l.length (l.map encI64) from hr.1.symm ▸ h2)
theorem wpList_append_copy {ops : Array Oper} {rest : List Oper} {o : Oper} {a : Act} {Q : Exit → Act → World → Prop} {W : World} (hgd : o.guard = none) (s x : Operand)
    (ho : o.op = .call { callee := .builtin .append, args := #[s, x], argTypes := #[24, 24] }) (base : Nat) (bound : Nat) (ad : Option Addr) (m c : Nat) (l : List Int)
    (hs : a.eval s = .slice none 0 0) (hx : a.eval x = .slice ad m c) (hr : Nums W bound ad m l) (hlim : m * 8 ≤ 140737488351232) (hb : base ≤ W.heap.size)
    (h : ∀ v' w', IInts w' base v' l → W.grownBy w' none → wpList Try.prog ops Q rest (a.put o.dst v') w') : wpList Try.prog ops Q (o :: rest) a W := by
  obtain ⟨v', w', hrun, hown, hgr⟩ := IInts.copy base c hr hlim hb o.type
  exact wpList_append_lx hgd s x _ ho _ _ _ hs hx hrun (h v' w' hown hgr)
set_option maxHeartbeats 4000000 in
theorem new_any (a : Option Addr) (n c : Nat) (l : List Int) (w : World) (bound : Nat) (h : Nums w bound a n l) (hlim : n * 8 ≤ 140737488351232) :
    Calls Try.prog 23 #[.slice a n c] w fun e w' => ∃ g, e = .returned (.pointer (some ⟨g, 0, none⟩)) ∧ Dice w' g ∧ w.heap.size ≤ g ∧ Below w.heap.size w w' := by
  have HN := Lib.hid h
  have hsz := h.2.1
  clear h
  go_enter Try.func23, Try.ntmps23
  go_wp2_with (first
    | (at_builtin
       refine wpList_append_copy rfl (.const (.slice none 0 0)) (.tmp 3) rfl w.heap.size bound a n c l rfl rfl HN.out hlim (Nat.le_refl _) ?_
       intro v1 w1 hown hgr
       have HB := Lib.hid ((Below.refl w.heap.size w).grown hgr (Nat.le_refl _) (fun j e => by cases e))
       obtain ⟨la, lc, hv, _, _, _, hnu⟩ := hown.sees
       obtain ⟨ln, hln⟩ : ∃ ln, ln = l.length := ⟨_, rfl⟩
       rw [← hln] at hv hnu
       clear hln
       subst hv
       have HNU := Lib.hid hnu
       clear hown hgr hnu)
    | fail)
  go_ret
  refine ⟨w1.heap.size, rfl, ⟨la, ln, lc, l, 0, heap_alloc_new w1 _, HNU.out.alloc (Nat.le_refl _) _, Nat.zero_le _⟩, HB.out.size, HB.out.alloc HB.out.size _⟩
end Go.Proofs.Ytgefhgcpnfbigaa

/- Contract of reparteemake's arms. -/
namespace Go.Proofs.Ytgefhgcpnfbigaa
open Go.RowKit

/-- The label at a place of the four. -/
def labS (i : Nat) : Str := [UInt8.ofNat (119 + i % 4)]
theorem labS_may (i : Nat) : may (labS i) = true := by
  unfold labS
  have : i % 4 = 0 ∨ i % 4 = 1 ∨ i % 4 = 2 ∨ i % 4 = 3 := by omega
  rcases this with h | h | h | h <;> (rw [h]; decide)
theorem labS_nodup (f : Nat) (k : Nat) (hk : k ≤ 3) : ((List.range k).map fun i => labS (f + i)).Nodup := by
  unfold labS
  obtain ⟨r, hr, hlt⟩ : ∃ r, f % 4 = r ∧ r < 4 := ⟨f % 4, rfl, by omega⟩
  have e : ∀ i, (f + i) % 4 = (r + i) % 4 := fun i => by omega
  simp only [e]
  have hr4 : r = 0 ∨ r = 1 ∨ r = 2 ∨ r = 3 := by omega
  have hk4 : k = 0 ∨ k = 1 ∨ k = 2 ∨ k = 3 := by omega
  rcases hr4 with rfl | rfl | rfl | rfl <;> rcases hk4 with rfl | rfl | rfl | rfl <;> decide
def labB (i : Nat) : ByteArray := ⟨#[UInt8.ofNat (119 + i % 4)]⟩
theorem labB_list (i : Nat) : (labB i).toList = labS i := by rw [ByteArray.toList_eq]; rfl
theorem labObj_at (w : World) (i : Nat) : (w.alloc labObj).cell? ⟨w.heap.size, i % 4, none⟩ = some (.string (labB i)) := by
  have : i % 4 = 0 ∨ i % 4 = 1 ∨ i % 4 = 2 ∨ i % 4 = 3 := by omega
  unfold labObj
  rw [cell_of_row _ _ _ _ _ _ (heap_alloc_new w _)]
  unfold labB
  rcases this with h | h | h | h <;> (rw [h]; rfl)
end Go.Proofs.Ytgefhgcpnfbigaa

/- Turns that reparteemake makes: each one's arms in an array of their own. -/
namespace Go.Proofs.Ytgefhgcpnfbigaa
open Go.RowKit

def TR.arms (r : TR) : Value := .slice r.a r.n r.c
end Go.Proofs.Ytgefhgcpnfbigaa

/- Contract of reparteemake's Local, with no types: a valid local type of at most six turns. -/
namespace Go.Proofs.Ytgefhgcpnfbigaa
open Go.RowKit

def rolS (i : Nat) : ByteArray := ⟨#[UInt8.ofNat (97 + i % 5)]⟩
theorem rolS_may (i : Nat) : may (rolS i).toList = true := by
  unfold rolS
  rw [ByteArray.toList_eq]
  have : i % 5 = 0 ∨ i % 5 = 1 ∨ i % 5 = 2 ∨ i % 5 = 3 ∨ i % 5 = 4 := by omega
  rcases this with h | h | h | h | h <;> (rw [h]; decide)
theorem rolObj_at (w : World) (i : Nat) (hi : i < 5) : (w.alloc rolObj).cell? ⟨w.heap.size, i, none⟩ = some (.string (rolS i)) := by
  have : i = 0 ∨ i = 1 ∨ i = 2 ∨ i = 3 ∨ i = 4 := by omega
  unfold rolObj
  rw [cell_of_row _ _ _ _ _ _ (heap_alloc_new w _)]
  unfold rolS
  rcases this with rfl | rfl | rfl | rfl | rfl <;> rfl
theorem bes_drew {g : Nat} {w w' : World} (h : Beside g w w') : Beside g w w'.drew := ⟨h.os, h.tape, h.output, h.size, h.block⟩
theorem bes_below {g B : Nat} {w w1 w2 : World} (h : Beside g w w1) (hb : Below B w1 w2) (hB : w.heap.size ≤ B) : Beside g w w2 :=
  ⟨hb.os.trans h.os, hb.tape.trans h.tape, hb.output.trans h.output, Nat.le_trans h.size hb.size, fun k hk hne => (hb.block k (by omega)).trans (h.block k hk hne)⟩
end Go.Proofs.Ytgefhgcpnfbigaa
