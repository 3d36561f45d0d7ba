/- Contracts of the statements' made (layer 10), for numbers that are there; a made book in a box. -/
import Derived.Test.YtgefhgcpnfbigaaBkBook
import Derived.Test.YtgefhgcpnfbigaaBkFirst
namespace Go.Proofs.Ytgefhgcpnfbigaa
open Go.RowKit Go.Sort

theorem IInts.plus10 {w : World} (base : Nat) {bound : Nat} {a : Option Addr} {m : Nat} (c : Nat) {v : Value} {l0 l : List Int} (h : IInts w base v l0) (hr : Nums w bound a m l) (hlim : (l0.length + m) * 8 ≤ 140737488355328) (hbase : base ≤ w.heap.size) (ty : Nat) :
    ∃ v' w', (Builtin.append_ #[24, 24] ty #[v, .slice a m c]).run Try.prog w = .ok v' w' ∧ IInts w' base v' (l0 ++ l) ∧ w.grownBy w' v.ownBlock := by
  obtain ⟨i0, hi0, hzz⟩ := Option.map_eq_some_iff.1 info_int1
  simp only [Prod.mk.injEq] at hzz
  obtain ⟨hz, hs1, hb1⟩ := hzz
  rcases a with _ | ad
  · have hm : m = 0 := by
      rcases Nat.eq_zero_or_pos m with h0 | h0
      · exact h0
      · obtain ⟨b, off, h, _⟩ := hr.2.2 h0
        cases h
    subst hm
    have hts : l = [] := List.eq_nil_of_length_eq_zero hr.1
    subst hts
    exact ⟨_, w, run_append_none w base 24 ty 3 i0 Try.underlying24 hi0 _ _ _ h c, by rw [List.append_nil]; exact h, World.grownBy.refl w _⟩
  · have hcells : ∀ j u, (l.map encI64)[j]? = some u → w.cell? (ad.add j) = some u := by
      intro j u hu
      rw [List.getElem?_map] at hu
      obtain ⟨s, hs', rfl⟩ := Option.map_eq_some_iff.1 hu
      have hj : j < l.length := (List.getElem?_eq_some_iff.1 hs').1
      obtain ⟨b, off, h, _, hc⟩ := hr.2.2 (by have := hr.1; omega)
      obtain rfl := Option.some.inj h
      rw [Go.WideShapes.add_plain]
      exact hc j s hs'
    obtain ⟨v', w', hrun, h2, h3, _, _⟩ := run_append_own_at (P := Try.prog) w base 24 ty 3 i0 _ 1 8 Try.underlying24 hi0 hz hs1 hb1 rfl (by omega) v l0.length (l0.map encI64) h ad m c (l.map encI64) (by simp [hr.1]) hcells
      (fun u hu => by
        obtain ⟨s, _, rfl⟩ := List.mem_map.1 hu
        rfl) (by unfold maxLen; omega) (by omega) hbase
    refine ⟨v', w', hrun, ?_, h3⟩
    unfold IInts
    rw [List.length_append, List.map_append, hr.1]
    exact h2
theorem wpList_append_plus10 {ops : Array Oper} {rest : List Oper} {o : Oper} {a : Act} {Q : Exit → Act → World → Prop} {W : World} (hgd : o.guard = none) (s x : Operand)
    (ho : o.op = .call { callee := .builtin .append, args := #[s, x], argTypes := #[24, 24] }) (base : Nat) (bound : Nat) (v : Value) (ad : Option Addr) (m c : Nat) (l0 l : List Int)
    (hs : a.eval s = v) (hx : a.eval x = .slice ad m c) (h0 : IInts W base v l0) (hr : Nums W bound ad m l) (hlim : (l0.length + m) * 8 ≤ 140737488355328) (hb : base ≤ W.heap.size)
    (h : ∀ v' w', IInts w' base v' (l0 ++ l) → W.grownBy w' v.ownBlock → wpList Try.prog ops Q rest (a.put o.dst v') w') : wpList Try.prog ops Q (o :: rest) a W := by
  obtain ⟨v', w', hrun, hown, hgr⟩ := IInts.plus10 base c h0 hr hlim hb o.type
  exact wpList_append_lx hgd s x _ ho _ _ _ hs hx hrun (h v' w' hown hgr)
set_option maxHeartbeats 4000000 in
/-- New, of a slice that may be one longer than what came in. -/
theorem new10_any (a : Option Addr) (n c : Nat) (l : List Int) (w : World) (bound : Nat) (h : Nums w bound a n l) (hlim : n * 8 ≤ 140737488355328) :
    Calls Try.prog 23 #[.slice a n c] w fun e w' => ∃ g, e = .returned (.pointer (some ⟨g, 0, none⟩)) ∧ Dice w' g ∧ w.heap.size ≤ g ∧ Below w.heap.size w w' := by
  have HN := Lib.hid h
  have hsz := h.2.1
  clear h
  go_enter Try.func23, Try.ntmps23
  go_wp2_with (first
    | (at_builtin
       refine wpList_append_plus10 rfl (.const (.slice none 0 0)) (.tmp 3) rfl w.heap.size bound (.slice none 0 0) a n c [] l rfl rfl (IInts.zero _ _) HN.out (by rw [List.length_nil, Nat.zero_add]; exact hlim) (Nat.le_refl _) ?_
       intro v1 w1 hown hgr
       have HB := Lib.hid ((Below.refl w.heap.size w).grown hgr (Nat.le_refl _) (fun j e => by cases e))
       rw [List.nil_append] at hown
       obtain ⟨la, lc, hv, _, _, _, hnu⟩ := hown.sees
       obtain ⟨ln, hln⟩ : ∃ ln, ln = l.length := ⟨_, rfl⟩
       rw [← hln] at hv hnu
       clear hln
       subst hv
       have HNU := Lib.hid hnu
       clear hown hgr hnu)
    | fail)
  go_ret
  refine ⟨w1.heap.size, rfl, ⟨la, ln, lc, l, 0, heap_alloc_new w1 _, HNU.out.alloc (Nat.le_refl _) _, Nat.zero_le _⟩, HB.out.size, HB.out.alloc HB.out.size _⟩
set_option maxHeartbeats 8000000 in
theorem made10_pos (na : Option Addr) (nn nc : Nat) (sa : Option Addr) (sn sc : Nat) (ra : Option Addr) (rn rc : Nat) (a : Option Addr) (n c : Nat) (l : List Int) (w : World) (bound : Nat) (hb : bound ≤ w.heap.size) (h : Nums w bound a n l) (h0 : 0 < n) (hlim : n * 8 ≤ 140737488355328) :
    Calls Try.prog 11 #[bkV na nn nc sa sn sc ra rn rc, .slice a n c] w fun e w' => BkMade e w' ∧ Below w.heap.size w w' := by
  obtain ⟨W1, hW1⟩ : ∃ W1, W1 = (w.alloc (.cells #[.slice na nn nc, .slice sa sn sc, .slice ra rn rc] 26)).alloc (.cells #[.slice none 0 0, .slice none 0 0, .slice none 0 0] 26) := ⟨_, rfl⟩
  have HB1 := Lib.hid (show Below w.heap.size w W1 by rw [hW1]; exact below_on (tu1 w _) (tu1 _ _))
  have HZ1 := Lib.hid (show W1.heap.size = w.heap.size + 1 + 1 by rw [hW1]; simp)
  have HY1 := Lib.hid (show BBox W1 (w.heap.size + 1) none 0 0 none 0 0 none 0 0 by
    have := heap_alloc_new (w.alloc (.cells #[.slice na nn nc, .slice sa sn sc, .slice ra rn rc] 26)) (.cells #[.slice none 0 0, .slice none 0 0, .slice none 0 0] 26)
    rw [World.size_alloc] at this
    rw [hW1]
    exact this)
  have CN := Lib.hid (new10_any a n c l W1 bound (h.below (HB1.out.mono hb)) hlim)
  have CB := Lib.hid book10_any
  have hn1 := h.2.1
  have d1 : decide (0 < (n : Int)) = true := decide_eq_true (by omega)
  have d2 : decide (0 < n) = true := decide_eq_true h0
  clear h
  subst hW1
  go_enter Try.func11, Try.ntmps11
  go_wp2_with (first
    | (go_at_call 23; (with_reducible refine CN.out.mono ?_)
       rintro e w2 ⟨g, rfl, hd2, hg2, hb2⟩
       have HD2 := Lib.hid hd2
       have HB2 := Lib.hid (HB1.out.trans (hb2.mono (by have := HZ1.out; omega)))
       have HY2 := Lib.hid (HY1.out.stay (hb2.block _ (by have := HZ1.out; omega)))
       have hgz : w.heap.size + 1 < g := by have := HZ1.out; omega
       clear hd2 hg2 hb2)
    | (go_at_call 22; (with_reducible refine (CB.out _ _ HD2.out).mono ?_)
       rintro e w3 ⟨⟨ma, mn, mc, ta, tc, ua, uc, b, rfl, hin, hok, h1, h8⟩, hb3⟩
       have HIN := Lib.hid hin
       have HOK := Lib.hid hok
       have HM := Lib.hid (And.intro h1 h8)
       have HY3 := Lib.hid (HY2.out.stay (hb3.block _ HY2.out.lt (by omega)))
       have HB3 := Lib.hid (HB2.out.trans (hb3.below (B := w.heap.size) (by omega) HB2.out.size))
       obtain ⟨y0, y1, y2⟩ := HY3.out.cells
       have f0 := HY3.out.thaw 0
       have f1 := HY3.out.thaw 1
       have f2 := HY3.out.thaw 2
       clear hin hok hb3 h1 h8)
    | fail)
  refine bodyPost_ret (v := bkV ma mn mc ta 2 tc ua 2 uc) (by simp [results, go_sem, y0, y1, y2]) rfl ?_
  have hset : ∀ (x y z : Value), Beside (w.heap.size + 1) w3 (((w3.setCell ⟨w.heap.size + 1, 0, none⟩ x).setCell ⟨w.heap.size + 1, 1, none⟩ y).setCell ⟨w.heap.size + 1, 2, none⟩ z) := fun x y z => (((Beside.refl _ w3).setCell 0 x).setCell 1 y).setCell 2 z
  exact ⟨⟨ma, mn, mc, ta, tc, ua, uc, b, rfl, HIN.out.aside (hset _ _ _) (Nat.le_refl _) HY3.out.slices, HOK.out, HM.out.1, HM.out.2⟩, HB3.out.trans ((hset _ _ _).below (by omega) (by have := HB3.out.size; omega))⟩
/-- A made book that a box holds. -/
structure LB10 (w W : World) (g : Nat) (na : Option Addr) (nn nc : Nat) (sa : Option Addr) (sc : Nat) (ra : Option Addr) (rc : Nat) (b : BookL) : Prop where
  box : BBox W g na nn nc sa 2 sc ra 2 rc
  bk : BkIn W W.heap.size na nn sa 2 ra 2 b
  ok : bookB b = true
  one : 1 ≤ nn
  few : nn ≤ 8
  bel : Below w.heap.size w W
section
variable {w W W' : World} {g : Nat} {na sa ra : Option Addr} {nn nc sc rc : Nat} {b : BookL}
theorem LB10.on (h : LB10 w W g na nn nc sa sc ra rc b) (hb : Below W.heap.size W W') : LB10 w W' g na nn nc sa sc ra rc b :=
  ⟨h.box.on hb h.box.lt, h.bk.on hb, h.ok, h.one, h.few, below_on h.bel hb⟩
theorem LB10.len (h : LB10 w W g na nn nc sa sc ra rc b) : b.nodes.length = nn := h.bk.nodes.1
theorem LB10.cells (h : LB10 w W g na nn nc sa sc ra rc b) : W.cell? ⟨g, 0, none⟩ = some (.slice na nn nc) ∧ W.cell? ⟨g, 1, none⟩ = some (.slice sa 2 sc) ∧ W.cell? ⟨g, 2, none⟩ = some (.slice ra 2 rc) := h.box.cells
theorem LB10.same (h : LB10 w W g na nn nc sa sc ra rc b) {cl : List Nat} (hc : IsCl b.nodes cl) (x y : Int) :
    Calls Try.prog 12 #[bkV na nn nc sa 2 sc ra 2 rc, .int .i64 x, .int .i64 y] W fun e w' => e = .returned (.bool (sameC cl x y)) ∧ Below W.heap.size W w' :=
  same10_any na nn nc sa 2 sc ra 2 rc b cl x y W W.heap.size (Nat.le_refl _) h.bk ⟨fun _ => hc, fun e => by rw [h.ok] at e; cases e⟩
theorem LB10.classes (h : LB10 w W g na nn nc sa sc ra rc b) :
    Calls Try.prog 15 #[bkV na nn nc sa 2 sc ra 2 rc] W fun e w' => (∃ a n c cl, e = .returned (.slice a n c) ∧ Nums w' w'.heap.size a n (rowI cl) ∧ ClsP b cl) ∧ Below W.heap.size W w' :=
  classes_any na nn nc sa 2 sc ra 2 rc b W W.heap.size (Nat.le_refl _) h.bk
end
theorem sameC_at {cl : List Nat} {n p q : Nat} (hl : cl.length = n) (hp : p < n) (hq : q < n) : sameC cl (p : Int) (q : Int) = decide (cl.getD p 0 = cl.getD q 0) := by
  unfold sameC
  rw [hl, inBk_nat hp, inBk_nat hq]
  show (((cl.getD p 0 : Nat) : Int) == ((cl.getD q 0 : Nat) : Int)) = _
  rw [Bool.eq_iff_iff, beq_iff_eq, decide_eq_true_eq]
  omega
end Go.Proofs.Ytgefhgcpnfbigaa
