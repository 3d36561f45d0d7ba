/- ProjectRefuses: the law. -/
import Derived.Test.YtokgpdceckaddaaDoorPjRefP
import Derived.Test.YtokgpdceckaddaaDoorPjFirsts
import Derived.Test.YtokgpdceckaddaaDoorNmMay
import Derived.Deep.DeepCutAuto
import Derived.Deep.CutBlock
namespace Go.Proofs.YtokgpdceckaddaaDoor
open Go.RowKit

/-- The box of a point. -/
def PtB (W : World) (g : Nat) (q s : ByteArray) (a : Option Addr) (n c : Nat) : Prop := W.heap[g]? = some (.cells #[.string q, .string s, .slice a n c] 30 (0, 0))
/-- What it says is this point. -/
def PtIs (W : World) (g : Nat) (x : PointL) : Prop := ∃ (q s : ByteArray) (a : Option Addr) (n c : Nat), PtB W g q s a n c ∧ (q.toList = x.src ∧ s.toList = x.dst ∧ q.size ≤ maxLen ∧ s.size ≤ maxLen) ∧ Arms W W.heap.size a n x.arms
section
variable {W W' : World} {g : Nat} {q s : ByteArray} {a : Option Addr} {n c : Nat}
theorem PtB.cells (h : PtB W g q s a n c) : W.cell? ⟨g, 0, none⟩ = some (.string q) ∧ W.cell? ⟨g, 1, none⟩ = some (.string s) ∧ W.cell? ⟨g, 2, none⟩ = some (.slice a n c) := by
  unfold PtB at h
  refine ⟨?_, ?_, ?_⟩
  all_goals (rw [cell_of_row _ _ _ _ _ _ h]; rfl)
theorem PtB.thaw (h : PtB W g q s a n c) (o : Nat) : W.frozen? ⟨g, o, none⟩ = false := by
  unfold PtB at h
  unfold World.frozen?
  rw [h]
  simp
theorem PtB.set (h : PtB W g q s a n c) {o : Nat} {u : Value} {cs : Array Value} (hc : (#[.string q, .string s, .slice a n c] : Array Value).set! o u = cs) : (W.setCell ⟨g, o, none⟩ u).heap[g]? = some (.cells cs 30 (0, 0)) := by
  unfold PtB at h
  obtain ⟨hlt, hk⟩ := Array.getElem?_eq_some_iff.1 h
  show (W.heap.modify g _)[g]? = _
  rw [Array.getElem?_eq_getElem (by rw [Array.size_modify]; exact hlt), Array.getElem_modify_self, hk, ← hc]
  rfl
theorem PtB.turn (h : PtB W g q s a n c) (q' s' : ByteArray) : PtB ((W.setCell ⟨g, 0, none⟩ (.string q')).setCell ⟨g, 1, none⟩ (.string s')) g q' s' a n c := by
  have hset : ∀ (V : World) (cur : Array Value) (o : Nat) (u : Value), V.heap[g]? = some (.cells cur 30 (0, 0)) → (V.setCell ⟨g, o, none⟩ u).heap[g]? = some (.cells (cur.set! o u) 30 (0, 0)) := fun V cur o u hV => by
    obtain ⟨hlt, hk2⟩ := Array.getElem?_eq_some_iff.1 hV
    show (V.heap.modify g _)[g]? = _
    rw [Array.getElem?_eq_getElem (by rw [Array.size_modify]; exact hlt), Array.getElem_modify_self, hk2]
    rfl
  exact hset _ _ 1 _ (hset _ _ 0 _ h)
theorem PtB.arms (h : PtB W g q s a n c) (a' : Option Addr) (n' c' : Nat) : PtB (W.setCell ⟨g, 2, none⟩ (.slice a' n' c')) g q s a' n' c' := by
  unfold PtB at h ⊢
  obtain ⟨hlt, hk2⟩ := Array.getElem?_eq_some_iff.1 h
  show (W.heap.modify g _)[g]? = _
  rw [Array.getElem?_eq_getElem (by rw [Array.size_modify]; exact hlt), Array.getElem_modify_self, hk2]
  rfl
theorem PtB.fill {q' s' : ByteArray} {a' : Option Addr} {n' c' : Nat} (h : PtB W g q s a n c) : PtB (((W.setCell ⟨g, 0, none⟩ (.string q')).setCell ⟨g, 1, none⟩ (.string s')).setCell ⟨g, 2, none⟩ (.slice a' n' c')) g q' s' a' n' c' := by
  have hset : ∀ (V : World) (cur : Array Value) (o : Nat) (u : Value), V.heap[g]? = some (.cells cur 30 (0, 0)) → (V.setCell ⟨g, o, none⟩ u).heap[g]? = some (.cells (cur.set! o u) 30 (0, 0)) := fun V cur o u hV => by
    obtain ⟨hlt, hk2⟩ := Array.getElem?_eq_some_iff.1 hV
    show (V.heap.modify g _)[g]? = _
    rw [Array.getElem?_eq_getElem (by rw [Array.size_modify]; exact hlt), Array.getElem_modify_self, hk2]
    rfl
  exact hset _ _ 2 _ (hset _ _ 1 _ (hset _ _ 0 _ h))
theorem PtIs.mk8 {x : PointL} (h : PtB W g q s a n c) (h1 : q.toList = x.src) (h2 : s.toList = x.dst) (h3 : q.size ≤ maxLen) (h4 : s.size ≤ maxLen) (h5 : Arms W W.heap.size a n x.arms) : PtIs W g x := ⟨q, s, a, n, c, h, ⟨h1, h2, h3, h4⟩, h5⟩
theorem arm_one8 {b : Nat} {x : ByteArray} {ck : Int} (hx : x.size ≤ maxLen) (h : W.heap[b]? = some (.cells #[.string x, .int .i64 ck, .string ⟨#[]⟩, .int .i64 3] 27 (0, 0))) : Arms W W.heap.size (some ⟨b, 0, none⟩) 1 [⟨x.toList, ck, [], 3⟩] := by
  have h1 := arms_row8 (bound := W.heap.size) (Array.getElem?_eq_some_iff.1 h).1 [⟨x, ck, ⟨#[]⟩, 3⟩] (by simp) (fun t ht => by
    rw [List.mem_singleton.1 ht]
    exact ⟨hx, small08⟩) h
  simpa [armR, str08] using h1
theorem arm_y8 {b : Nat} (h : W.heap[b]? = some (.cells #[.string ⟨#[121]⟩, .int .i64 0, .string ⟨#[]⟩, .int .i64 3] 27 (0, 0))) : Arms W W.heap.size (some ⟨b, 0, none⟩) 1 [⟨[121], 0, [], 3⟩] := by
  have := arm_one8 (small18 121) h
  rw [str18 121] at this
  exact this
end
def CallR (w : World) (er : Int) (k : Nat) (e : Ending) (w' : World) : Prop := ∃ (s : ByteArray) (a : Option Addr) (n c : Nat), e = .returned (.tuple #[.agg #[.string s, .slice a n c], .int .i64 er]) ∧ n = k ∧ Below w.heap.size w w'
theorem nobody_any {W : World} {ra : Option Addr} {rc : Nat} {a : Option Addr} {n c : Nat} {ps : List PointL} (h : PIn W ⟨#[112]⟩ ra 3 exRoles8 a n ps) :
    Calls Tryd.prog 6 #[.agg #[.string ⟨#[112]⟩, .slice ra 3 rc, .slice a n c], .string ⟨#[110, 111, 98, 111, 100, 121]⟩] W fun e w' => e = .returned (.tuple #[.agg #[.string ⟨#[]⟩, .slice none 0 0], .int .i64 800]) ∧ Below W.heap.size W w' :=
  (role_any ⟨#[112]⟩ ra 3 rc exRoles8 a n c ps ⟨#[110, 111, 98, 111, 100, 121]⟩ W h).mono fun e w' k => by
    unfold RoleRet at k
    have : roleQ (⟨#[112]⟩ : ByteArray).toList exRoles8 ps (⟨#[110, 111, 98, 111, 100, 121]⟩ : ByteArray).toList = .error 800 := by
      unfold roleQ
      rw [show (⟨#[110, 111, 98, 111, 100, 121]⟩ : ByteArray).toList = [110, 111, 98, 111, 100, 121] by rw [ByteArray.toList_eq], no_one, Bool.and_false]
      rfl
    rw [this] at k
    exact k
theorem exR_in {W : World} {g : Nat} {q1 s1 q2 s2 : ByteArray} {a1 a2 : Option Addr} {n1 c1 n2 c2 : Nat} {X Y : PointL}
    (h1 : W.heap[g]? = some (.cells #[.string ⟨#[97]⟩, .string ⟨#[98]⟩, .string ⟨#[99]⟩] 9 (0, 0)))
    (h2 : W.heap[g + 1]? = some (.cells #[.string ⟨#[120]⟩, .int .i64 0, .string ⟨#[]⟩, .int .i64 1, .string ⟨#[121]⟩, .int .i64 0, .string ⟨#[]⟩, .int .i64 2] 27 (0, 0)))
    (h4 : W.heap[g + 1 + 1]? = some (.cells #[.string ⟨#[97]⟩, .string ⟨#[98]⟩, .slice (some ⟨g + 1, 0, none⟩) 2 2, .string q1, .string s1, .slice a1 n1 c1, .string q2, .string s2, .slice a2 n2 c2, .string ⟨#[]⟩, .string ⟨#[]⟩, .slice none 0 0] 30 (0, 0)))
    (e1 : (q1.toList = X.src ∧ s1.toList = X.dst) ∧ q1.size ≤ maxLen ∧ s1.size ≤ maxLen) (e2 : (q2.toList = Y.src ∧ s2.toList = Y.dst) ∧ q2.size ≤ maxLen ∧ s2.size ≤ maxLen)
    (k1 : Arms W W.heap.size a1 n1 X.arms) (k2 : Arms W W.heap.size a2 n2 Y.arms) : PIn W ⟨#[112]⟩ (some ⟨g, 0, none⟩) 3 exRoles8 (some ⟨g + 1 + 1, 0, none⟩) 4 (ptsR X Y) := by
  have l1 := (Array.getElem?_eq_some_iff.1 h1).1
  have l2 := (Array.getElem?_eq_some_iff.1 h2).1
  have l4 := (Array.getElem?_eq_some_iff.1 h4).1
  have hA2 := arms_row8 (bound := W.heap.size) l2 [⟨⟨#[120]⟩, 0, ⟨#[]⟩, 1⟩, ⟨⟨#[121]⟩, 0, ⟨#[]⟩, 2⟩] (by simp) (fun t ht => by
    simp only [List.mem_cons, List.not_mem_nil, or_false] at ht
    rcases ht with rfl | rfl
    · exact ⟨small18 120, small08⟩
    · exact ⟨small18 121, small08⟩) h2
  simp only [List.map_cons, List.map_nil, armR, str18, str08, List.length_cons, List.length_nil, Nat.zero_add, Nat.reduceAdd] at hA2
  refine ⟨small18 112, ⟨rfl, by omega, by simp [exRoles8, maxLen], fun _ => ⟨g, 0, rfl, l1, fun j s hj => ?_⟩⟩, ⟨rfl, by omega, fun _ => ⟨g + 1 + 1, 0, rfl, l4, fun j x hj => ?_⟩⟩⟩
  · have hj2 : j = 0 ∨ j = 1 ∨ j = 2 := by
      have := (List.getElem?_eq_some_iff.1 hj).1
      simp [exRoles8] at this
      omega
    rcases hj2 with rfl | rfl | rfl
    all_goals
      obtain rfl := Option.some.inj hj
      rw [cell_of_row _ _ _ _ _ _ h1]
      rfl
  · have hj2 : j = 0 ∨ j = 1 ∨ j = 2 ∨ j = 3 := by
      have := (List.getElem?_eq_some_iff.1 hj).1
      simp [ptsR] at this
      omega
    rcases hj2 with rfl | rfl | rfl | rfl
    · obtain rfl := Option.some.inj hj
      exact ⟨⟨#[97]⟩, ⟨#[98]⟩, some ⟨g + 1, 0, none⟩, 2, 2, ⟨by rw [cell_of_row _ _ _ _ _ _ h4]; rfl, by rw [cell_of_row _ _ _ _ _ _ h4]; rfl, by rw [cell_of_row _ _ _ _ _ _ h4]; rfl⟩, str18 97, str18 98, small18 97, small18 98, hA2⟩
    · obtain rfl := Option.some.inj hj
      exact ⟨q1, s1, a1, n1, c1, ⟨by rw [cell_of_row _ _ _ _ _ _ h4]; rfl, by rw [cell_of_row _ _ _ _ _ _ h4]; rfl, by rw [cell_of_row _ _ _ _ _ _ h4]; rfl⟩, e1.1.1, e1.1.2, e1.2.1, e1.2.2, k1⟩
    · obtain rfl := Option.some.inj hj
      exact ⟨q2, s2, a2, n2, c2, ⟨by rw [cell_of_row _ _ _ _ _ _ h4]; rfl, by rw [cell_of_row _ _ _ _ _ _ h4]; rfl, by rw [cell_of_row _ _ _ _ _ _ h4]; rfl⟩, e2.1.1, e2.1.2, e2.2.1, e2.2.2, k2⟩
    · obtain rfl := Option.some.inj hj
      exact ⟨⟨#[]⟩, ⟨#[]⟩, none, 0, 0, ⟨by rw [cell_of_row _ _ _ _ _ _ h4]; rfl, by rw [cell_of_row _ _ _ _ _ _ h4]; rfl, by rw [cell_of_row _ _ _ _ _ _ h4]; rfl⟩, str08, str08, small08, small08, ⟨rfl, by omega, fun h => absurd h (Nat.lt_irrefl 0)⟩⟩
set_option maxHeartbeats 16000000 in
set_option maxRecDepth 20000 in
theorem refuses_any (y : Int) (x : ByteArray) (w : World) (hx : x.size ≤ maxLen) :
    Calls Tryd.prog 3 #[.int .i64 y, .string x] w fun e w' => e = .returned (.bool true) ∧ Below w.heap.size w w' := by
  have CF := Lib.hid (first8_any w)
  have CM := Lib.hid (fun (W : World) => may_any x W hx)
  have hmz0 : ∃ m : Nat, m < 6 ∧ (IntKind.u64.wrap y).tmod 6 = (m : Int) := by
    have h1 : 0 ≤ IntKind.u64.wrap y := by unfold IntKind.wrap; simp [IntKind.signed]; omega
    refine ⟨((IntKind.u64.wrap y).tmod 6).toNat, ?_, ?_⟩
    · have := Int.tmod_lt_of_pos (IntKind.u64.wrap y) (by decide : (0 : Int) < 6); omega
    · have := Int.tmod_nonneg 6 h1; omega
  obtain ⟨m, hm6, hmz⟩ := hmz0
  cases hv : may x.toList
  · rw [hv] at CM
    clear hv
    go_enter Tryd.func3, Tryd.ntmps3
    go_wp2_with (first
      | (go_at_call 4; (with_reducible refine CF.out.mono ?_)
         rintro e w1 ⟨rfl, hb1⟩
         have HB1 := Lib.hid hb1
         clear hb1)
      | (go_at_call 5; (with_reducible refine (CM.out _).mono ?_)
         rintro e w2 ⟨rfl, rfl⟩)
      | fail)
    go_ret
    exact ⟨rfl, HB1.out⟩
  rw [hv] at CM
  have HMV := Lib.hid hv
  clear hv
  by_cases hxx : x.toList = [120]
  · clear HMV
    go_enter Tryd.func3, Tryd.ntmps3
    go_wp2_with (first
      | (go_at_call 4; (with_reducible refine CF.out.mono ?_)
         rintro e w1 ⟨rfl, hb1⟩
         have HB1 := Lib.hid hb1
         clear hb1)
      | (go_at_call 5; (with_reducible refine (CM.out _).mono ?_)
         rintro e w2 ⟨rfl, rfl⟩)
      | fail)
    go_ret
    exact ⟨rfl, HB1.out⟩
  by_cases hxy : x.toList = [121]
  · clear HMV
    go_enter Tryd.func3, Tryd.ntmps3
    go_wp2_with (first
      | (go_at_call 4; (with_reducible refine CF.out.mono ?_)
         rintro e w1 ⟨rfl, hb1⟩
         have HB1 := Lib.hid hb1
         clear hb1)
      | (go_at_call 5; (with_reducible refine (CM.out _).mono ?_)
         rintro e w2 ⟨rfl, rfl⟩)
      | fail)
    go_ret
    exact ⟨rfl, HB1.out⟩
  have hb0 : (x.toList == [120]) = false := beq_eq_false_iff_ne.2 hxx
  have hb1 : (x.toList == [121]) = false := beq_eq_false_iff_ne.2 hxy
  have HNY := Lib.hid (show x.toList ≠ [121] from hxy)
  clear hxx hxy
  go_enter Tryd.func3, Tryd.ntmps3
  go_upto_region 7 with (first
    | (go_at_call 4; (with_reducible refine CF.out.mono ?_)
       rintro e w1 ⟨rfl, hb1⟩
       have HB1 := Lib.hid hb1
       clear hb1)
    | (go_at_call 5; (with_reducible refine (CM.out _).mono ?_)
       rintro e w2 ⟨rfl, rfl⟩)
    | fail)
  have hmod : (IntKind.u64.wrap y).tmod 6 = (m : Int) := hmz
  go_upto_block 0 with fail
  obtain ⟨w2, hw2⟩ : ∃ w2, w2 = (((w1.alloc (.cells #[.string x, .int .i64 0, .string ⟨#[]⟩, .int .i64 3] 27)).alloc (.cells #[.string x, .int .i64 0, .string ⟨#[]⟩, .int .i64 3] 27)).alloc (.cells #[.string ⟨#[98]⟩, .string ⟨#[99]⟩, .slice (some ⟨w1.heap.size, 0, none⟩) 1 1] 30)).alloc (.cells #[.string ⟨#[98]⟩, .string ⟨#[99]⟩, .slice (some ⟨w1.heap.size + 1, 0, none⟩) 1 1] 30) := ⟨_, rfl⟩
  have HA5 := Lib.hid (show w2.heap[w1.heap.size]? = some (.cells #[.string x, .int .i64 0, .string ⟨#[]⟩, .int .i64 3] 27 (0, 0)) by rw [hw2]; exact heap_keep8 _ (heap_keep8 _ (heap_keep8 _ (heap_new_at8 (by simp)))))
  have HA6 := Lib.hid (show w2.heap[w1.heap.size + 1]? = some (.cells #[.string x, .int .i64 0, .string ⟨#[]⟩, .int .i64 3] 27 (0, 0)) by rw [hw2]; exact heap_keep8 _ (heap_keep8 _ (heap_new_at8 (by simp))))
  have HP5 := Lib.hid (show PtB w2 (w1.heap.size + 1 + 1) ⟨#[98]⟩ ⟨#[99]⟩ (some ⟨w1.heap.size, 0, none⟩) 1 1 by rw [hw2]; exact heap_keep8 _ (heap_new_at8 (by simp)))
  have HP6 := Lib.hid (show PtB w2 (w1.heap.size + 1 + 1 + 1) ⟨#[98]⟩ ⟨#[99]⟩ (some ⟨w1.heap.size + 1, 0, none⟩) 1 1 by rw [hw2]; exact heap_new_at8 (by simp))
  have HB2 := Lib.hid (show Below w1.heap.size w1 w2 by rw [hw2]; exact below_on (below_on (below_on (tu1 w1 _) (tu1 _ _)) (tu1 _ _)) (tu1 _ _))
  have hz2 : w1.heap.size + 4 ≤ w2.heap.size := by rw [hw2]; simp
  rw [← hw2]
  obtain ⟨p0, p1, p2⟩ := HP5.out.cells
  obtain ⟨r0, r1, r2⟩ := HP6.out.cells
  have f0 := HP5.out.thaw 0
  have f1 := HP5.out.thaw 1
  have f2 := HP5.out.thaw 2
  have g0 := HP6.out.thaw 0
  have g1 := HP6.out.thaw 1
  have g2 := HP6.out.thaw 2
  have HX := Lib.hid hx
  clear hw2 hx hmz hmod
  go_cut [8] (fun s wx => s = .int .i64 (wantR m) ∧ Hid (PtIs wx (w1.heap.size + 1 + 1) (oneR x.toList m)) ∧ Hid (PtIs wx (w1.heap.size + 1 + 1 + 1) (twoR x.toList m)) ∧ Hid (Below w1.heap.size w1 wx))
  case first =>
    have hm : m = 0 ∨ m = 1 ∨ m = 2 ∨ m = 3 ∨ m = 4 ∨ m = 5 := by omega
    clear hm6
    rcases hm with rfl | rfl | rfl | rfl | rfl | rfl
    · go_wp2_with fail
      go_meet
      case rel =>
        have hbs := (((Beside.refl (w1.heap.size + 1 + 1 + 1) w2).setCell 0 (.string ⟨#[]⟩)).setCell 1 (.string ⟨#[]⟩)).setCell 2 (.slice none 0 0)
        refine ⟨rfl, Lib.hid ?_, Lib.hid ?_, Lib.hid (HB2.out.trans (hbs.below (by omega) (by omega)))⟩
        · exact PtIs.mk8 (x := ⟨[98], [99], [⟨x.toList, 0, [], 3⟩]⟩) ((hbs.block _ (by omega) (by omega)).trans HP5.out) (str18 98) (str18 99) (small18 98) (small18 99) (arm_one8 HX.out ((hbs.block _ (by omega) (by omega)).trans HA5.out))
        · exact PtIs.mk8 (x := ⟨[], [], []⟩) HP6.out.fill (str08) (str08) (small08) (small08) (⟨rfl, by omega, fun h => absurd h (Nat.lt_irrefl 0)⟩)
    · go_wp2_with fail
      go_meet
      case rel =>
        have hbs := (((Beside.refl (w1.heap.size + 1 + 1 + 1) w2).setCell 0 (.string ⟨#[99]⟩)).setCell 1 (.string ⟨#[98]⟩)).setCell 2 (.slice (some ⟨w1.heap.size, 0, none⟩) 1 1)
        refine ⟨rfl, Lib.hid ?_, Lib.hid ?_, Lib.hid (HB2.out.trans (hbs.below (by omega) (by omega)))⟩
        · exact PtIs.mk8 (x := ⟨[98], [99], [⟨x.toList, 0, [], 3⟩]⟩) ((hbs.block _ (by omega) (by omega)).trans HP5.out) (str18 98) (str18 99) (small18 98) (small18 99) (arm_one8 HX.out ((hbs.block _ (by omega) (by omega)).trans HA5.out))
        · exact PtIs.mk8 (x := ⟨[99], [98], [⟨x.toList, 0, [], 3⟩]⟩) HP6.out.fill (str18 99) (str18 98) (small18 99) (small18 98) (arm_one8 HX.out ((hbs.block _ (by omega) (by omega)).trans HA5.out))
    · go_wp2_with fail
      go_meet
      case rel =>
        have hbs := (((Beside.refl (w1.heap.size + 1 + 1 + 1) w2).setCell 0 (.string ⟨#[97]⟩)).setCell 1 (.string ⟨#[99]⟩)).setCell 2 (.slice (some ⟨w1.heap.size, 0, none⟩) 1 1)
        refine ⟨rfl, Lib.hid ?_, Lib.hid ?_, Lib.hid (HB2.out.trans (hbs.below (by omega) (by omega)))⟩
        · exact PtIs.mk8 (x := ⟨[98], [99], [⟨x.toList, 0, [], 3⟩]⟩) ((hbs.block _ (by omega) (by omega)).trans HP5.out) (str18 98) (str18 99) (small18 98) (small18 99) (arm_one8 HX.out ((hbs.block _ (by omega) (by omega)).trans HA5.out))
        · exact PtIs.mk8 (x := ⟨[97], [99], [⟨x.toList, 0, [], 3⟩]⟩) HP6.out.fill (str18 97) (str18 99) (small18 97) (small18 99) (arm_one8 HX.out ((hbs.block _ (by omega) (by omega)).trans HA5.out))
    · go_upto_region 20 with fail
      have hA1 := (((Beside.refl (w1.heap.size + 1 + 1) w2).setCell 0 (.string ⟨#[99]⟩)).setCell 1 (.string ⟨#[98]⟩))
      have hA2 := (((Beside.refl (w1.heap.size + 1 + 1 + 1) ((w2.setCell ⟨w1.heap.size + 1 + 1, 0, none⟩ (.string ⟨#[99]⟩)).setCell ⟨w1.heap.size + 1 + 1, 1, none⟩ (.string ⟨#[98]⟩))).setCell 0 (.string ⟨#[99]⟩)).setCell 1 (.string ⟨#[98]⟩))
      have hza := hA1.size
      have HQ5 := Lib.hid ((hA2.block _ (by omega) (by omega)).trans (HP5.out.turn ⟨#[99]⟩ ⟨#[98]⟩))
      have HQ6 := Lib.hid (PtB.turn (show PtB ((w2.setCell ⟨w1.heap.size + 1 + 1, 0, none⟩ (.string ⟨#[99]⟩)).setCell ⟨w1.heap.size + 1 + 1, 1, none⟩ (.string ⟨#[98]⟩)) (w1.heap.size + 1 + 1 + 1) _ _ _ _ _ from (hA1.block _ (by omega) (by omega)).trans HP6.out) ⟨#[99]⟩ ⟨#[98]⟩)
      have HC5 := Lib.hid ((hA2.block w1.heap.size (by omega) (by omega)).trans ((hA1.block w1.heap.size (by omega) (by omega)).trans HA5.out))
      have HB3 := Lib.hid ((HB2.out.trans (hA1.below (B := w1.heap.size) (by omega) (by omega))).trans (hA2.below (B := w1.heap.size) (by omega) (by omega)))
      generalize hw3 : (((w2.setCell ⟨w1.heap.size + 1 + 1, 0, none⟩ (.string ⟨#[99]⟩)).setCell ⟨w1.heap.size + 1 + 1, 1, none⟩ (.string ⟨#[98]⟩)).setCell ⟨w1.heap.size + 1 + 1 + 1, 0, none⟩ (.string ⟨#[99]⟩)).setCell ⟨w1.heap.size + 1 + 1 + 1, 1, none⟩ (.string ⟨#[98]⟩) = w3 at HQ5 HQ6 HC5 HB3 ⊢
      clear hw3 p0 p1 p2 r0 r1 r2 f0 f1 f2 g0 g1 g2 hA1 hA2 hza
      obtain ⟨p0, p1, p2⟩ := HQ6.out.cells
      have f2 := HQ6.out.thaw 2
      have hl6 : w1.heap.size + 1 + 1 + 1 < w3.heap.size := (Array.getElem?_eq_some_iff.1 HQ6.out).1
      go_wp2_with fail
      go_meet
      case rel =>
        have hbs := (Beside.refl (w1.heap.size + 1 + 1 + 1) w3).setCell 2 (.slice (some ⟨w3.heap.size, 0, none⟩) 1 1)
        have hal := tu1 (w3.setCell ⟨w1.heap.size + 1 + 1 + 1, 2, none⟩ (.slice (some ⟨w3.heap.size, 0, none⟩) 1 1)) (.cells #[.string ⟨#[121]⟩, .int .i64 0, .string ⟨#[]⟩, .int .i64 3] 27)
        have hzs := hbs.size
        refine ⟨rfl, Lib.hid ?_, Lib.hid ?_, Lib.hid (HB3.out.trans ((hbs.below (B := w1.heap.size) (by omega) (by omega)).trans (hal.mono (by omega))))⟩
        · exact PtIs.mk8 (x := ⟨[99], [98], [⟨x.toList, 0, [], 3⟩]⟩) ((hal.block _ (by omega)).trans ((hbs.block _ (by omega) (by omega)).trans HQ5.out)) (str18 99) (str18 98) (small18 99) (small18 98) (arm_one8 HX.out ((hal.block _ (by omega)).trans ((hbs.block w1.heap.size (by omega) (by omega)).trans HC5.out)))
        · exact PtIs.mk8 (x := ⟨[99], [98], [⟨[121], 0, [], 3⟩]⟩) ((hal.block _ (by omega)).trans (HQ6.out.arms _ _ _)) (str18 99) (str18 98) (small18 99) (small18 98) (arm_y8 (heap_new_at8 (by simp)))
    · have hl6 : w1.heap.size + 1 + 1 + 1 < w2.heap.size := by omega
      go_wp2_with fail
      go_meet
      case rel =>
        have hbs := (Beside.refl (w1.heap.size + 1 + 1 + 1) w2).setCell 2 (.slice (some ⟨w2.heap.size, 0, none⟩) 1 1)
        have hal := tu1 (w2.setCell ⟨w1.heap.size + 1 + 1 + 1, 2, none⟩ (.slice (some ⟨w2.heap.size, 0, none⟩) 1 1)) (.cells #[.string x, .int .i64 2, .string ⟨#[]⟩, .int .i64 3] 27)
        have hzs := hbs.size
        refine ⟨rfl, Lib.hid ?_, Lib.hid ?_, Lib.hid (HB2.out.trans ((hbs.below (B := w1.heap.size) (by omega) (by omega)).trans (hal.mono (by omega))))⟩
        · exact PtIs.mk8 (x := ⟨[98], [99], [⟨x.toList, 0, [], 3⟩]⟩) ((hal.block _ (by omega)).trans ((hbs.block _ (by omega) (by omega)).trans HP5.out)) (str18 98) (str18 99) (small18 98) (small18 99) (arm_one8 HX.out ((hal.block _ (by omega)).trans ((hbs.block w1.heap.size (by omega) (by omega)).trans HA5.out)))
        · exact PtIs.mk8 (x := ⟨[98], [99], [⟨x.toList, 2, [], 3⟩]⟩) ((hal.block _ (by omega)).trans (HP6.out.arms _ _ _)) (str18 98) (str18 99) (small18 98) (small18 99) (arm_one8 HX.out (heap_new_at8 (by simp)))
    · have hl6 : w1.heap.size + 1 + 1 + 1 < w2.heap.size := by omega
      go_wp2_with fail
      go_meet
      case rel =>
        have hbs := (Beside.refl (w1.heap.size + 1 + 1 + 1) w2).setCell 2 (.slice (some ⟨w2.heap.size, 0, none⟩) 1 1)
        have hal := tu1 (w2.setCell ⟨w1.heap.size + 1 + 1 + 1, 2, none⟩ (.slice (some ⟨w2.heap.size, 0, none⟩) 1 1)) (.cells #[.string ⟨#[121]⟩, .int .i64 0, .string ⟨#[]⟩, .int .i64 3] 27)
        have hzs := hbs.size
        refine ⟨rfl, Lib.hid ?_, Lib.hid ?_, Lib.hid (HB2.out.trans ((hbs.below (B := w1.heap.size) (by omega) (by omega)).trans (hal.mono (by omega))))⟩
        · exact PtIs.mk8 (x := ⟨[98], [99], [⟨x.toList, 0, [], 3⟩]⟩) ((hal.block _ (by omega)).trans ((hbs.block _ (by omega) (by omega)).trans HP5.out)) (str18 98) (str18 99) (small18 98) (small18 99) (arm_one8 HX.out ((hal.block _ (by omega)).trans ((hbs.block w1.heap.size (by omega) (by omega)).trans HA5.out)))
        · exact PtIs.mk8 (x := ⟨[98], [99], [⟨[121], 0, [], 3⟩]⟩) ((hal.block _ (by omega)).trans (HP6.out.arms _ _ _)) (str18 98) (str18 99) (small18 98) (small18 99) (arm_y8 (heap_new_at8 (by simp)))
  case rest =>
    obtain ⟨hk8, HI5, HI6, HB8⟩ := hcut
    subst hk8
    obtain ⟨q1, s1, a1, n1, c1, hb1, ⟨e1, e2, e3, e4⟩, hA1⟩ := HI5.out
    obtain ⟨q2, s2, a2, n2, c2, hb2, ⟨e5, e6, e7, e8⟩, hA2⟩ := HI6.out
    have HE1 := Lib.hid (And.intro (And.intro e1 e2) (And.intro e3 e4))
    have HE2 := Lib.hid (And.intro (And.intro e5 e6) (And.intro e7 e8))
    have HV1 := Lib.hid hA1
    have HV2 := Lib.hid hA2
    obtain ⟨p0, p1, p2⟩ := hb1.cells
    obtain ⟨r0, r1, r2⟩ := hb2.cells
    have hl5 : w1.heap.size + 1 + 1 < wc.heap.size := (Array.getElem?_eq_some_iff.1 hb1).1
    have hl6 : w1.heap.size + 1 + 1 + 1 < wc.heap.size := (Array.getElem?_eq_some_iff.1 hb2).1
    have hl7 : w1.heap.size + 1 < wc.heap.size := by omega
    clear e1 e2 e3 e4 e5 e6 e7 e8 hA1 hA2 hb1 hb2 f0 f1 f2 g0 g1 g2
    go_upto_region 26 with fail
    obtain ⟨wz, hwz⟩ : ∃ wz, wz = (((wc.alloc (.cells #[.string ⟨#[97]⟩, .string ⟨#[98]⟩, .string ⟨#[99]⟩] 9)).alloc (.cells #[.string ⟨#[120]⟩, .int .i64 0, .string ⟨#[]⟩, .int .i64 1, .string ⟨#[121]⟩, .int .i64 0, .string ⟨#[]⟩, .int .i64 2] 27)).alloc (.cells #[.string ⟨#[97]⟩, .string ⟨#[98]⟩, .slice (some ⟨wc.heap.size + 1, 0, none⟩) 2 2, .string q1, .string s1, .slice a1 n1 c1, .string q2, .string s2, .slice a2 n2 c2, .string ⟨#[]⟩, .string ⟨#[]⟩, .slice none 0 0] 30)).alloc (.cells #[.string ⟨#[112]⟩, .slice (some ⟨wc.heap.size, 0, none⟩) 3 3, .slice (some ⟨wc.heap.size + 1 + 1, 0, none⟩) 4 4] 36) := ⟨_, rfl⟩
    have hbz : Below wc.heap.size wc wz := by rw [hwz]; exact below_on (below_on (below_on (tu1 wc _) (tu1 _ _)) (tu1 _ _)) (tu1 _ _)
    have HPI := Lib.hid (exR_in (W := wz) (g := wc.heap.size) (by rw [hwz]; exact heap_keep8 _ (heap_keep8 _ (heap_keep8 _ (heap_new_at8 (by simp))))) (by rw [hwz]; exact heap_keep8 _ (heap_keep8 _ (heap_new_at8 (by simp)))) (by rw [hwz]; exact heap_keep8 _ (heap_new_at8 (by simp))) HE1.out HE2.out (HV1.out.on hbz) (HV2.out.on hbz))
    have HPX := Lib.hid (show PBox wz (wc.heap.size + 1 + 1 + 1) ⟨#[112]⟩ (some ⟨wc.heap.size, 0, none⟩) 3 3 (some ⟨wc.heap.size + 1 + 1, 0, none⟩) 4 4 by rw [hwz]; exact heap_new_at8 (by simp))
    have HBZ := Lib.hid (HB1.out.trans ((HB8.out.trans (hbz.mono HB8.out.size)).mono HB1.out.size))
    rw [← hwz]
    clear hwz hbz p0 p1 p2 r0 r1 r2
    obtain ⟨p0, p1, p2⟩ := HPX.out.cells
    have hrq : ∀ r, hasS exRoles8 r = true → roleQ (⟨#[112]⟩ : ByteArray).toList exRoles8 (ptsR (oneR x.toList m) (twoR x.toList m)) r = roleP (ptsR (oneR x.toList m) (twoR x.toList m)) r := fun r hr => by
      unfold roleQ
      rw [str18 112, okR_all x.toList HMV.out m hm6, hr]
      rfl
    have hcr := role_any ⟨#[112]⟩ (some ⟨wc.heap.size, 0, none⟩) 3 3 exRoles8 (some ⟨wc.heap.size + 1 + 1, 0, none⟩) 4 4 _ ⟨#[99]⟩ wz HPI.out
    rw [str18 99, hrq [99] (by decide)] at hcr
    clear hrq
    rcases role_way x.toList HNY.out m hm6 with ⟨_, hw0, hrole⟩ | ⟨_, hw0, ts, hrole, hlen⟩
    · have C1 := Lib.hid (show Calls Tryd.prog 6 #[.agg #[.string ⟨#[112]⟩, .slice (some ⟨wc.heap.size, 0, none⟩) 3 3, .slice (some ⟨wc.heap.size + 1 + 1, 0, none⟩) 4 4], .string ⟨#[99]⟩] wz fun e w' => CallR wz (wantR m) 0 e w' from hcr.mono fun e w' k => by
        unfold RoleRet at k
        rw [hrole] at k
        exact ⟨_, _, _, _, k.1, rfl, k.2⟩)
      have d1 : (wantR m == 0) = false := by rw [beq_eq_false_iff_ne]; exact hw0
      clear hcr hrole hw0
      go_upto_region 27 with (first
        | (go_at_call 6; (with_reducible refine C1.out.mono ?_)
           rintro e v1 ⟨ss, sa, sn, sc, rfl, hsn, hb1⟩
           subst hsn
           have HBV := Lib.hid hb1
           clear hb1)
        | fail)
      have HB2V := Lib.hid (below_on HBV.out (tu1 v1 (.cells #[.string ss, .slice sa 0 sc] 39)))
      have HX2 := Lib.hid (HPX.out.on HB2V.out)
      have HL2 := Lib.hid (LBox.new v1 ss sa 0 sc)
      have HP2 := Lib.hid (HPI.out.on HB2V.out)
      generalize hv1 : v1.heap.size = gl at HL2 ⊢
      generalize hv2 : v1.alloc (.cells #[.string ss, .slice sa 0 sc] 39) = v2 at HB2V HX2 HL2 HP2 ⊢
      clear hv1 hv2 p0 p1 p2
      obtain ⟨p0, p1, p2⟩ := HX2.out.cells
      have C2 := Lib.hid (nobody_any (rc := 3) (c := 4) HP2.out)
      go_wp2_with (first
        | (go_at_call 6; (with_reducible refine C2.out.mono ?_)
           rintro e v3 ⟨rfl, hb3⟩
           have HB3V := Lib.hid (below_on HB2V.out hb3)
           obtain ⟨l0, l1⟩ := (HL2.out.on hb3).cells
           have hgl9 : gl < v3.heap.size := (HL2.out.on hb3).lt
           clear hb3)
        | fail)
      go_ret
      exact ⟨rfl, HBZ.out.trans ((HB3V.out.alloc HB3V.out.size _).mono HBZ.out.size)⟩
    · have C1 := Lib.hid (show Calls Tryd.prog 6 #[.agg #[.string ⟨#[112]⟩, .slice (some ⟨wc.heap.size, 0, none⟩) 3 3, .slice (some ⟨wc.heap.size + 1 + 1, 0, none⟩) 4 4], .string ⟨#[99]⟩] wz fun e w' => CallR wz 0 2 e w' from hcr.mono fun e w' k => by
        unfold RoleRet at k
        rw [hrole] at k
        obtain ⟨⟨s, a, n, c, h1, _, _, base, _, h5⟩, h6⟩ := k
        obtain ⟨a2, c2, h7, _⟩ := h5.sees (by omega)
        obtain ⟨_, h8, _⟩ := Value.slice.inj h7
        exact ⟨s, a, n, c, h1, by omega, h6⟩)
      rw [hw0]
      clear hcr hrole hw0 hlen
      go_upto_region 27 with (first
        | (go_at_call 6; (with_reducible refine C1.out.mono ?_)
           rintro e v1 ⟨ss, sa, sn, sc, rfl, hsn, hb1⟩
           subst hsn
           have HBV := Lib.hid hb1
           clear hb1)
        | fail)
      have HB2V := Lib.hid (below_on HBV.out (tu1 v1 (.cells #[.string ss, .slice sa 2 sc] 39)))
      have HX2 := Lib.hid (HPX.out.on HB2V.out)
      have HL2 := Lib.hid (LBox.new v1 ss sa 2 sc)
      have HP2 := Lib.hid (HPI.out.on HB2V.out)
      generalize hv1 : v1.heap.size = gl at HL2 ⊢
      generalize hv2 : v1.alloc (.cells #[.string ss, .slice sa 2 sc] 39) = v2 at HB2V HX2 HL2 HP2 ⊢
      clear hv1 hv2 p0 p1 p2
      obtain ⟨p0, p1, p2⟩ := HX2.out.cells
      have C2 := Lib.hid (nobody_any (rc := 3) (c := 4) HP2.out)
      go_wp2_with (first
        | (go_at_call 6; (with_reducible refine C2.out.mono ?_)
           rintro e v3 ⟨rfl, hb3⟩
           have HB3V := Lib.hid (below_on HB2V.out hb3)
           obtain ⟨l0, l1⟩ := (HL2.out.on hb3).cells
           have hgl9 : gl < v3.heap.size := (HL2.out.on hb3).lt
           clear hb3)
        | fail)
      go_ret
      exact ⟨rfl, HBZ.out.trans ((HB3V.out.alloc HB3V.out.size _).mono HBZ.out.size)⟩
end Go.Proofs.YtokgpdceckaddaaDoor
