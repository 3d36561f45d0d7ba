/- Contract of the reference's mixed. -/
import Derived.Test.YthbakfceaaaamaaKdKinds
import Derived.Test.YthbakfceaaaamaaKdOfs
import Derived.Test.YthbakfceaaaamaaRef2
namespace Go.Proofs.Ythbakfceaaaamaa
open Go.RowKit

theorem mixed_num_y (k a b : Int) (w : World) (d10 : decide (k ≤ 10) = true) (h0 : (a == 1) = true) (h1 : (b == 1) = true) : Calls Try.prog 35 #[.int .i64 k, .int .i64 a, .int .i64 b] w (KdRet w (1, 0)) := by
  go_enter Try.func35, Try.ntmps35
  go_wp2
  go_ret2
  exact ⟨rfl, Below.refl _ _⟩

theorem mixed_num_n (k a b : Int) (w : World) (d10 : decide (k ≤ 10) = true) (n11 : (k == 11) = false) (n12 : (k == 12) = false) (n13 : (k == 13) = false) (n14 : (k == 14) = false) (n15 : (k == 15) = false) (n16 : (k == 16) = false) (n17 : (k == 17) = false) (n18 : (k == 18) = false) (n19 : (k == 19) = false) (h0 : (a == 1) = true) (h1 : (b == 1) = false) : Calls Try.prog 35 #[.int .i64 k, .int .i64 a, .int .i64 b] w (KdRet w (0, 502)) := by
  go_enter Try.func35, Try.ntmps35
  go_wp2
  go_ret2
  exact ⟨rfl, Below.refl _ _⟩

theorem mixed_num_x (k a b : Int) (w : World) (d10 : decide (k ≤ 10) = true) (n11 : (k == 11) = false) (n12 : (k == 12) = false) (n13 : (k == 13) = false) (n14 : (k == 14) = false) (n15 : (k == 15) = false) (n16 : (k == 16) = false) (n17 : (k == 17) = false) (n18 : (k == 18) = false) (n19 : (k == 19) = false) (h0 : (a == 1) = false) : Calls Try.prog 35 #[.int .i64 k, .int .i64 a, .int .i64 b] w (KdRet w (0, 502)) := by
  go_enter Try.func35, Try.ntmps35
  go_wp2
  go_ret2
  exact ⟨rfl, Below.refl _ _⟩

theorem mixed_11_y (a b : Int) (w : World) (h0 : (a == b) = true) (h1 : (a != 5) = true) : Calls Try.prog 35 #[.int .i64 11, .int .i64 a, .int .i64 b] w (KdRet w (2, 0)) := by
  go_enter Try.func35, Try.ntmps35
  go_wp2
  go_ret2
  exact ⟨rfl, Below.refl _ _⟩

theorem mixed_11_n (a b : Int) (w : World) (h0 : (a == b) = true) (h1 : (a != 5) = false) : Calls Try.prog 35 #[.int .i64 11, .int .i64 a, .int .i64 b] w (KdRet w (0, 502)) := by
  go_enter Try.func35, Try.ntmps35
  go_wp2
  go_ret2
  exact ⟨rfl, Below.refl _ _⟩

theorem mixed_11_x (a b : Int) (w : World) (h0 : (a == b) = false) : Calls Try.prog 35 #[.int .i64 11, .int .i64 a, .int .i64 b] w (KdRet w (0, 502)) := by
  go_enter Try.func35, Try.ntmps35
  go_wp2
  go_ret2
  exact ⟨rfl, Below.refl _ _⟩

theorem mixed_12_y (a b : Int) (w : World) (h0 : (a == 1) = true) (h1 : (b == 1) = true) : Calls Try.prog 35 #[.int .i64 12, .int .i64 a, .int .i64 b] w (KdRet w (2, 0)) := by
  go_enter Try.func35, Try.ntmps35
  go_wp2
  go_ret2
  exact ⟨rfl, Below.refl _ _⟩

theorem mixed_12_n (a b : Int) (w : World) (h0 : (a == 1) = true) (h1 : (b == 1) = false) : Calls Try.prog 35 #[.int .i64 12, .int .i64 a, .int .i64 b] w (KdRet w (0, 502)) := by
  go_enter Try.func35, Try.ntmps35
  go_wp2
  go_ret2
  exact ⟨rfl, Below.refl _ _⟩

theorem mixed_12_x (a b : Int) (w : World) (h0 : (a == 1) = false) : Calls Try.prog 35 #[.int .i64 12, .int .i64 a, .int .i64 b] w (KdRet w (0, 502)) := by
  go_enter Try.func35, Try.ntmps35
  go_wp2
  go_ret2
  exact ⟨rfl, Below.refl _ _⟩

theorem mixed_13_y (a b : Int) (w : World) (h0 : (a == 2) = true) (h1 : (b == 2) = true) : Calls Try.prog 35 #[.int .i64 13, .int .i64 a, .int .i64 b] w (KdRet w (2, 0)) := by
  go_enter Try.func35, Try.ntmps35
  go_wp2
  go_ret2
  exact ⟨rfl, Below.refl _ _⟩

theorem mixed_13_n (a b : Int) (w : World) (h0 : (a == 2) = true) (h1 : (b == 2) = false) : Calls Try.prog 35 #[.int .i64 13, .int .i64 a, .int .i64 b] w (KdRet w (0, 502)) := by
  go_enter Try.func35, Try.ntmps35
  go_wp2
  go_ret2
  exact ⟨rfl, Below.refl _ _⟩

theorem mixed_13_x (a b : Int) (w : World) (h0 : (a == 2) = false) : Calls Try.prog 35 #[.int .i64 13, .int .i64 a, .int .i64 b] w (KdRet w (0, 502)) := by
  go_enter Try.func35, Try.ntmps35
  go_wp2
  go_ret2
  exact ⟨rfl, Below.refl _ _⟩

theorem mixed_14_y (a b : Int) (w : World) (h0 : (a == 2) = true) (h1 : (b == 2) = true) : Calls Try.prog 35 #[.int .i64 14, .int .i64 a, .int .i64 b] w (KdRet w (2, 0)) := by
  go_enter Try.func35, Try.ntmps35
  go_wp2
  go_ret2
  exact ⟨rfl, Below.refl _ _⟩

theorem mixed_14_n (a b : Int) (w : World) (h0 : (a == 2) = true) (h1 : (b == 2) = false) : Calls Try.prog 35 #[.int .i64 14, .int .i64 a, .int .i64 b] w (KdRet w (0, 502)) := by
  go_enter Try.func35, Try.ntmps35
  go_wp2
  go_ret2
  exact ⟨rfl, Below.refl _ _⟩

theorem mixed_14_x (a b : Int) (w : World) (h0 : (a == 2) = false) : Calls Try.prog 35 #[.int .i64 14, .int .i64 a, .int .i64 b] w (KdRet w (0, 502)) := by
  go_enter Try.func35, Try.ntmps35
  go_wp2
  go_ret2
  exact ⟨rfl, Below.refl _ _⟩

theorem mixed_17_y (a b : Int) (w : World) (h0 : (a == 4) = true) (h1 : (b == 1) = true) : Calls Try.prog 35 #[.int .i64 17, .int .i64 a, .int .i64 b] w (KdRet w (1, 0)) := by
  go_enter Try.func35, Try.ntmps35
  go_wp2
  go_ret2
  exact ⟨rfl, Below.refl _ _⟩

theorem mixed_17_n (a b : Int) (w : World) (h0 : (a == 4) = true) (h1 : (b == 1) = false) : Calls Try.prog 35 #[.int .i64 17, .int .i64 a, .int .i64 b] w (KdRet w (0, 502)) := by
  go_enter Try.func35, Try.ntmps35
  go_wp2
  go_ret2
  exact ⟨rfl, Below.refl _ _⟩

theorem mixed_17_x (a b : Int) (w : World) (h0 : (a == 4) = false) : Calls Try.prog 35 #[.int .i64 17, .int .i64 a, .int .i64 b] w (KdRet w (0, 502)) := by
  go_enter Try.func35, Try.ntmps35
  go_wp2
  go_ret2
  exact ⟨rfl, Below.refl _ _⟩

theorem mixed_18_y (a b : Int) (w : World) (h0 : (a == 4) = true) (h1 : (b == 1) = true) : Calls Try.prog 35 #[.int .i64 18, .int .i64 a, .int .i64 b] w (KdRet w (4, 0)) := by
  go_enter Try.func35, Try.ntmps35
  go_wp2
  go_ret2
  exact ⟨rfl, Below.refl _ _⟩

theorem mixed_18_n (a b : Int) (w : World) (h0 : (a == 4) = true) (h1 : (b == 1) = false) : Calls Try.prog 35 #[.int .i64 18, .int .i64 a, .int .i64 b] w (KdRet w (0, 502)) := by
  go_enter Try.func35, Try.ntmps35
  go_wp2
  go_ret2
  exact ⟨rfl, Below.refl _ _⟩

theorem mixed_18_x (a b : Int) (w : World) (h0 : (a == 4) = false) : Calls Try.prog 35 #[.int .i64 18, .int .i64 a, .int .i64 b] w (KdRet w (0, 502)) := by
  go_enter Try.func35, Try.ntmps35
  go_wp2
  go_ret2
  exact ⟨rfl, Below.refl _ _⟩

theorem mixed_19_y (a b : Int) (w : World) (h0 : (a == 3) = true) (h1 : (b == 3) = true) : Calls Try.prog 35 #[.int .i64 19, .int .i64 a, .int .i64 b] w (KdRet w (3, 0)) := by
  go_enter Try.func35, Try.ntmps35
  go_wp2
  go_ret2
  exact ⟨rfl, Below.refl _ _⟩

theorem mixed_19_n (a b : Int) (w : World) (h0 : (a == 3) = true) (h1 : (b == 3) = false) : Calls Try.prog 35 #[.int .i64 19, .int .i64 a, .int .i64 b] w (KdRet w (0, 502)) := by
  go_enter Try.func35, Try.ntmps35
  go_wp2
  go_ret2
  exact ⟨rfl, Below.refl _ _⟩

theorem mixed_19_x (a b : Int) (w : World) (h0 : (a == 3) = false) : Calls Try.prog 35 #[.int .i64 19, .int .i64 a, .int .i64 b] w (KdRet w (0, 502)) := by
  go_enter Try.func35, Try.ntmps35
  go_wp2
  go_ret2
  exact ⟨rfl, Below.refl _ _⟩

theorem mixed_15_y (a b : Int) (w : World) (h0 : (a == 2) = true) : Calls Try.prog 35 #[.int .i64 15, .int .i64 a, .int .i64 b] w (KdRet w (2, 0)) := by
  go_enter Try.func35, Try.ntmps35
  go_wp2
  go_ret2
  exact ⟨rfl, Below.refl _ _⟩

theorem mixed_15_x (a b : Int) (w : World) (h0 : (a == 2) = false) : Calls Try.prog 35 #[.int .i64 15, .int .i64 a, .int .i64 b] w (KdRet w (0, 502)) := by
  go_enter Try.func35, Try.ntmps35
  go_wp2
  go_ret2
  exact ⟨rfl, Below.refl _ _⟩

theorem mixed_16_y (a b : Int) (w : World) (h0 : (a == 3) = true) : Calls Try.prog 35 #[.int .i64 16, .int .i64 a, .int .i64 b] w (KdRet w (1, 0)) := by
  go_enter Try.func35, Try.ntmps35
  go_wp2
  go_ret2
  exact ⟨rfl, Below.refl _ _⟩

theorem mixed_16_n (a b : Int) (w : World) (h0 : (a == 3) = false) (h1 : (a == 4) = true) : Calls Try.prog 35 #[.int .i64 16, .int .i64 a, .int .i64 b] w (KdRet w (1, 0)) := by
  go_enter Try.func35, Try.ntmps35
  go_wp2
  go_ret2
  exact ⟨rfl, Below.refl _ _⟩

theorem mixed_16_x (a b : Int) (w : World) (h0 : (a == 3) = false) (h1 : (a == 4) = false) : Calls Try.prog 35 #[.int .i64 16, .int .i64 a, .int .i64 b] w (KdRet w (0, 502)) := by
  go_enter Try.func35, Try.ntmps35
  go_wp2
  go_ret2
  exact ⟨rfl, Below.refl _ _⟩

theorem beq_no {a c : Int} (h : a ≠ c) : (a == c) = false := by rw [beq_eq_false_iff_ne]; exact h
theorem mixedOne_any {k : Int} (hk : k = 15 ∨ k = 16) (a b : Int) (w : World) : Calls Try.prog 35 #[.int .i64 k, .int .i64 a, .int .i64 b] w (KdRet w (oneK k a)) := by
  rcases hk with rfl | rfl
  · have e : oneK 15 a = if a = 2 then (2, 0) else (0, 502) := rfl
    by_cases h : a = 2
    · exact (mixed_15_y a b w (beq_iff_eq.2 h)).mono fun _ _ q => q.is (by rw [e, if_pos h])
    · exact (mixed_15_x a b w (beq_no h)).mono fun _ _ q => q.is (by rw [e, if_neg h])
  · have e : oneK 16 a = if a = 3 ∨ a = 4 then (1, 0) else (0, 502) := rfl
    by_cases h : a = 3
    · exact (mixed_16_y a b w (beq_iff_eq.2 h)).mono fun _ _ q => q.is (by rw [e, if_pos (.inl h)])
    by_cases h4 : a = 4
    · exact (mixed_16_n a b w (beq_no h) (beq_iff_eq.2 h4)).mono fun _ _ q => q.is (by rw [e, if_pos (.inr h4)])
    · exact (mixed_16_x a b w (beq_no h) (beq_no h4)).mono fun _ _ q => q.is (by rw [e, if_neg (by omega)])
theorem mixedTwo_any {k : Int} (h0 : 0 ≤ k) (h19 : k ≤ 19) (hk : arT k = 2) (a b : Int) (w : World) : Calls Try.prog 35 #[.int .i64 k, .int .i64 a, .int .i64 b] w (KdRet w (twoK k a b)) := by
  by_cases h10 : k ≤ 10
  · have e : twoK k a b = if (a == 1 && b == 1) = true then (1, 0) else (0, 502) := by
      have h5 := kd_two h0 h19 hk
      have : k = 6 ∨ k = 7 ∨ k = 8 ∨ k = 9 ∨ k = 10 := by omega
      rcases this with rfl | rfl | rfl | rfl | rfl <;> rfl
    have d : decide (k ≤ 10) = true := decide_eq_true h10
    have n := fun (c : Int) (h : 10 < c) => beq_no (a := k) (c := c) (by omega)
    cases x : (a == 1)
    · exact (mixed_num_x k a b w d (n 11 (by decide)) (n 12 (by decide)) (n 13 (by decide)) (n 14 (by decide)) (n 15 (by decide)) (n 16 (by decide)) (n 17 (by decide)) (n 18 (by decide)) (n 19 (by decide)) x).mono fun _ _ q => q.is (by rw [e, x]; rfl)
    cases y : (b == 1)
    · exact (mixed_num_n k a b w d (n 11 (by decide)) (n 12 (by decide)) (n 13 (by decide)) (n 14 (by decide)) (n 15 (by decide)) (n 16 (by decide)) (n 17 (by decide)) (n 18 (by decide)) (n 19 (by decide)) x y).mono fun _ _ q => q.is (by rw [e, x, y]; rfl)
    · exact (mixed_num_y k a b w d x y).mono fun _ _ q => q.is (by rw [e, x, y]; rfl)
  have h : k = 11 ∨ k = 12 ∨ k = 13 ∨ k = 14 ∨ k = 17 ∨ k = 18 ∨ k = 19 := by have := kd_two h0 h19 hk; omega
  rcases h with rfl | rfl | rfl | rfl | rfl | rfl | rfl
  · have e : twoK 11 a b = if (a == b && a != 5) = true then (2, 0) else (0, 502) := rfl
    cases x : (a == b)
    · exact (mixed_11_x a b w x).mono fun _ _ q => q.is (by rw [e, x]; rfl)
    cases y : (a != 5)
    · exact (mixed_11_n a b w x y).mono fun _ _ q => q.is (by rw [e, x, y]; rfl)
    · exact (mixed_11_y a b w x y).mono fun _ _ q => q.is (by rw [e, x, y]; rfl)

  · have e : twoK 12 a b = if (a == 1 && b == 1) = true then (2, 0) else (0, 502) := rfl
    cases x : (a == 1)
    · exact (mixed_12_x a b w x).mono fun _ _ q => q.is (by rw [e, x]; rfl)
    cases y : (b == 1)
    · exact (mixed_12_n a b w x y).mono fun _ _ q => q.is (by rw [e, x, y]; rfl)
    · exact (mixed_12_y a b w x y).mono fun _ _ q => q.is (by rw [e, x, y]; rfl)
  · have e : twoK 13 a b = if (a == 2 && b == 2) = true then (2, 0) else (0, 502) := rfl
    cases x : (a == 2)
    · exact (mixed_13_x a b w x).mono fun _ _ q => q.is (by rw [e, x]; rfl)
    cases y : (b == 2)
    · exact (mixed_13_n a b w x y).mono fun _ _ q => q.is (by rw [e, x, y]; rfl)
    · exact (mixed_13_y a b w x y).mono fun _ _ q => q.is (by rw [e, x, y]; rfl)
  · have e : twoK 14 a b = if (a == 2 && b == 2) = true then (2, 0) else (0, 502) := rfl
    cases x : (a == 2)
    · exact (mixed_14_x a b w x).mono fun _ _ q => q.is (by rw [e, x]; rfl)
    cases y : (b == 2)
    · exact (mixed_14_n a b w x y).mono fun _ _ q => q.is (by rw [e, x, y]; rfl)
    · exact (mixed_14_y a b w x y).mono fun _ _ q => q.is (by rw [e, x, y]; rfl)
  · have e : twoK 17 a b = if (a == 4 && b == 1) = true then (1, 0) else (0, 502) := rfl
    cases x : (a == 4)
    · exact (mixed_17_x a b w x).mono fun _ _ q => q.is (by rw [e, x]; rfl)
    cases y : (b == 1)
    · exact (mixed_17_n a b w x y).mono fun _ _ q => q.is (by rw [e, x, y]; rfl)
    · exact (mixed_17_y a b w x y).mono fun _ _ q => q.is (by rw [e, x, y]; rfl)
  · have e : twoK 18 a b = if (a == 4 && b == 1) = true then (4, 0) else (0, 502) := rfl
    cases x : (a == 4)
    · exact (mixed_18_x a b w x).mono fun _ _ q => q.is (by rw [e, x]; rfl)
    cases y : (b == 1)
    · exact (mixed_18_n a b w x y).mono fun _ _ q => q.is (by rw [e, x, y]; rfl)
    · exact (mixed_18_y a b w x y).mono fun _ _ q => q.is (by rw [e, x, y]; rfl)
  · have e : twoK 19 a b = if (a == 3 && b == 3) = true then (3, 0) else (0, 502) := rfl
    cases x : (a == 3)
    · exact (mixed_19_x a b w x).mono fun _ _ q => q.is (by rw [e, x]; rfl)
    cases y : (b == 3)
    · exact (mixed_19_n a b w x y).mono fun _ _ q => q.is (by rw [e, x, y]; rfl)
    · exact (mixed_19_y a b w x y).mono fun _ _ q => q.is (by rw [e, x, y]; rfl)
end Go.Proofs.Ythbakfceaaaamaa

/- Contracts of the reference's leafKind, kindOf and Kind. -/
namespace Go.Proofs.Ythbakfceaaaamaa
open Go.RowKit

set_option maxHeartbeats 4000000 in
theorem refLeafK_any (k : Int) (nm : ByteArray) (x : Int) (tx : ByteArray) (l r : Int) (a : Option Addr) (n c : Nat) (env : List (Str × Int)) (w : World) (h : Typs w w.heap.size a n env) (hk : k = 0 ∨ k = 1 ∨ k = 2 ∨ k = 3 ∨ k = 4 ∨ k = 5) :
    Calls Try.prog 34 #[.agg #[.int .i64 k, .string nm, .int .i64 x, .string tx, .int .i64 l, .int .i64 r], .slice a n c] w (KdRet w (leafK env ⟨k, nm.toList, x, tx.toList, l, r⟩)) := by
  have HB := Lib.hid (up1 w (.cells #[.int .i64 k, .string nm, .int .i64 x, .string tx, .int .i64 l, .int .i64 r] 49))
  rcases hk with rfl | rfl | rfl | rfl | rfl | rfl
  · have CT := Lib.hid (fun (W : World) (h : Typs W W.heap.size a n env) => refTyped_any a n c env nm W _ h)
    have HE := Lib.hid (h.on HB.out)
    have HG := Lib.hid (show leafK env ⟨0, nm.toList, x, tx.toList, l, r⟩ = typedK env nm.toList from rfl)
    generalize leafK env ⟨0, nm.toList, x, tx.toList, l, r⟩ = R at HG ⊢
    generalize typedK env nm.toList = Q at HG CT
    clear h
    go_enter Try.func34, Try.ntmps34
    go_wp2_with (first
      | (go_at_call 53; (with_reducible refine (CT.out _ HE.out).mono ?_)
         rintro e w1 ⟨rfl, hb1⟩
         have HB1 := Lib.hid (below_on HB.out hb1)
         clear hb1)
      | fail)
    go_ret2
    exact KdRet.is ⟨rfl, HB1.out⟩ HG.out
  all_goals
    clear h
    go_enter Try.func34, Try.ntmps34
    go_wp2
    go_ret2
    exact ⟨rfl, HB.out⟩

set_option maxHeartbeats 8000000 in
set_option maxRecDepth 20000 in
theorem refKindT_any (L : List Trm) (env : List (Str × Int)) (la : Option Addr) (ln lc : Nat) (ea : Option Addr) (en ec : Nat) : ∀ e : Exp, Fits L e → ∀ w : World, Trms w w.heap.size la ln L → Typs w w.heap.size ea en env →
    Calls Try.prog 19 #[.slice la ln lc, .int .i64 e.at_, .slice ea en ec] w (KdRet w (kindE env e)) := by
  refine Exp.byKids ?_
  intro e ih hfit w hT hE
  have hin : e.at_ < ln := by have := hfit.lt; have := hT.1; omega
  obtain ⟨b, off, k, nm, x, tx, l, r, ha, hbb, hget, hns, hxs, p0, p1, p2, p3, p4, p5⟩ := hT.part hin
  have hterm : e.term = ⟨k, nm.toList, x, tx.toList, l, r⟩ := by
    have := hfit.here.1
    rw [hget] at this
    exact (Option.some.inj this).symm
  have hsd := hfit.here.2
  have hks := kd_bounds hsd
  have har := sound_arI hsd
  rw [hterm] at hks har
  dsimp only at hks har
  have cr := fun W => arity_any k W
  rw [har] at cr
  have HB := Lib.hid (up1 w (.cells #[.int .i64 k, .string nm, .int .i64 x, .string tx, .int .i64 l, .int .i64 r] 49))
  have HX := Lib.hid (BoxU.new w (.int .i64 k) (.string nm) (.int .i64 x) (.string tx) (.int .i64 l) (.int .i64 r))
  obtain ⟨⟨x0, x1, x2, x3, x4, x5⟩, _⟩ := HX.out.cells
  have HT := Lib.hid hT
  have HE := Lib.hid hE
  have CR := Lib.hid cr
  subst ha
  obtain ⟨pl, hpl⟩ : ∃ pl, pl = e.at_ := ⟨_, rfl⟩
  rw [← hpl] at p0 p1 p2 p3 p4 p5 hin ⊢
  clear hpl hget hns hxs cr har hT hE hbb
  cases e with
  | leaf i t =>
    simp only [Exp.term] at hterm
    subst hterm
    have ha0 := hfit.2.2
    dsimp only at ha0
    have hk6 := kd_leaf ha0
    rw [ha0] at CR
    have CL := Lib.hid (fun (W : World) (h : Typs W W.heap.size ea en env) => refLeafK_any k nm x tx l r ea en ec env W h hk6)
    simp only [kindE]
    generalize leafK env ⟨k, nm.toList, x, tx.toList, l, r⟩ = R at CL ⊢
    clear ih hfit hsd hks ha0 hk6
    go_enter Try.func19, Try.ntmps19
    go_wp2_with (first
      | (go_at_call 33; (with_reducible refine (CR.out _).mono ?_); rintro e w2 ⟨rfl, rfl⟩)
      | (go_at_call 34; (with_reducible refine (CL.out _ (HE.out.on HB.out)).mono ?_)
         rintro e w3 ⟨rfl, hb3⟩
         have HB3 := Lib.hid (below_on HB.out hb3)
         clear hb3)
      | fail)
    go_ret2
    exact ⟨rfl, HB3.out⟩
  | one i t e1 =>
    simp only [Exp.term] at hterm
    subst hterm
    have ha1 := hfit.2.2.1
    dsimp only at ha1
    rw [ha1] at CR
    obtain ⟨p, hp⟩ : ∃ p, p = e1.at_ := ⟨_, rfl⟩
    have hl := hfit.2.2.2.1
    dsimp only at hl
    rw [← hp] at hl
    subst hl
    have cc1 := fun (W : World) (h1 : Trms W W.heap.size (some ⟨b, off, none⟩) ln L) (h2 : Typs W W.heap.size ea en env) => ih e1 (by simp [Exp.kids]) hfit.2.2.2.2.2 W h1 h2
    rw [← hp] at cc1
    have hk2 := kd_one ha1
    simp only [kindE]
    clear ih hfit hsd hks ha1 hp
    obtain ⟨V, hV⟩ : ∃ V, V = kindE env e1 := ⟨_, rfl⟩
    rw [← hV] at cc1
    rw [← hV]
    clear hV
    obtain ⟨vk, er⟩ := V
    have C1 := Lib.hid cc1
    clear cc1
    dsimp only
    have CM := Lib.hid (fun W => mixedOne_any hk2 vk 0 W)
    clear hk2
    cases he0 : (er == 0)
    · have e1' : (er != 0) = true := by unfold bne; rw [he0]; rfl
      have HZ := Lib.hid (show (if er = 0 then oneK k vk else (0, er)) = (0, er) from if_neg (by rw [beq_eq_false_iff_ne] at he0; exact he0))
      generalize (if er = 0 then oneK k vk else (0, er)) = R at HZ ⊢
      clear he0
      go_enter Try.func19, Try.ntmps19
      go_wp2_with (first
        | (go_at_call 33; (with_reducible refine (CR.out _).mono ?_); rintro e w2 ⟨rfl, rfl⟩)
        | (go_at_call 19; (with_reducible refine (C1.out _ (HT.out.at0 HB.out) (HE.out.on HB.out)).mono ?_)
           rintro e w3 ⟨rfl, hb3⟩
           have HB3 := Lib.hid (below_on HB.out hb3)
           clear hb3)
        | fail)
      go_ret2
      exact KdRet.is ⟨rfl, HB3.out⟩ HZ.out
    · obtain rfl := eq_of_beq he0
      have HZ := Lib.hid (show (if (0 : Int) = 0 then oneK k vk else (0, 0)) = oneK k vk from if_pos rfl)
      generalize (if (0 : Int) = 0 then oneK k vk else (0, 0)) = R at HZ ⊢
      generalize oneK k vk = Q at HZ CM
      obtain ⟨qk, qe⟩ := Q
      clear he0
      go_enter Try.func19, Try.ntmps19
      go_wp2_with (first
        | (go_at_call 33; (with_reducible refine (CR.out _).mono ?_); rintro e w2 ⟨rfl, rfl⟩)
        | (go_at_call 19; (with_reducible refine (C1.out _ (HT.out.at0 HB.out) (HE.out.on HB.out)).mono ?_)
           rintro e w3 ⟨rfl, hb3⟩
           have HB3 := Lib.hid (below_on HB.out hb3)
           obtain ⟨⟨y0, y1, y2, y3, y4, y5⟩, _⟩ := (HX.out.on hb3).cells
           clear hb3)
        | (go_at_call 35; (with_reducible refine (CM.out _).mono ?_)
           rintro e w4 ⟨rfl, hb4⟩
           have HB4 := Lib.hid (below_on HB3.out hb4)
           clear hb4)
        | fail)
      go_ret2
      exact KdRet.is ⟨rfl, HB4.out⟩ HZ.out
  | two i t e1 e2 =>
    simp only [Exp.term] at hterm
    subst hterm
    have ha2 := hfit.2.2.1
    dsimp only at ha2
    rw [ha2] at CR
    obtain ⟨p, hp⟩ : ∃ p, p = e1.at_ := ⟨_, rfl⟩
    obtain ⟨q, hq⟩ : ∃ q, q = e2.at_ := ⟨_, rfl⟩
    have hl := hfit.2.2.2.1
    have hr := hfit.2.2.2.2.1
    dsimp only at hl hr
    rw [← hp] at hl
    rw [← hq] at hr
    subst hl hr
    have cc1 := fun (W : World) (h1 : Trms W W.heap.size (some ⟨b, off, none⟩) ln L) (h2 : Typs W W.heap.size ea en env) => ih e1 (by simp [Exp.kids]) hfit.2.2.2.2.2.2.2.1 W h1 h2
    have cc2 := fun (W : World) (h1 : Trms W W.heap.size (some ⟨b, off, none⟩) ln L) (h2 : Typs W W.heap.size ea en env) => ih e2 (by simp [Exp.kids]) hfit.2.2.2.2.2.2.2.2 W h1 h2
    rw [← hp] at cc1
    rw [← hq] at cc2
    simp only [kindE]
    obtain ⟨V, hV⟩ : ∃ V, V = kindE env e1 := ⟨_, rfl⟩
    obtain ⟨U, hU⟩ : ∃ U, U = kindE env e2 := ⟨_, rfl⟩
    rw [← hV] at cc1
    rw [← hU] at cc2
    rw [← hV, ← hU]
    have CM := Lib.hid (fun (a b : Int) W => mixedTwo_any hks.1 hks.2 ha2 a b W)
    clear ih hfit hsd hks ha2 hp hq hV hU
    obtain ⟨vk, er⟩ := V
    obtain ⟨uk, fr⟩ := U
    have C1 := Lib.hid cc1
    have C2 := Lib.hid cc2
    clear cc1 cc2
    dsimp only
    cases he0 : (er == 0)
    · have e1' : (er != 0) = true := by unfold bne; rw [he0]; rfl
      have HZ := Lib.hid (show (if er = 0 then (if fr = 0 then twoK k vk uk else (0, fr)) else (0, er)) = (0, er) from if_neg (by rw [beq_eq_false_iff_ne] at he0; exact he0))
      generalize (if er = 0 then (if fr = 0 then twoK k vk uk else (0, fr)) else (0, er)) = R at HZ ⊢
      clear he0
      go_enter Try.func19, Try.ntmps19
      go_wp2_with (first
        | (go_at_call 33; (with_reducible refine (CR.out _).mono ?_); rintro e w2 ⟨rfl, rfl⟩)
        | (go_at_call 19; (with_reducible refine (C1.out _ (HT.out.at0 HB.out) (HE.out.on HB.out)).mono ?_)
           rintro e w3 ⟨rfl, hb3⟩
           have HB3 := Lib.hid (below_on HB.out hb3)
           clear hb3)
        | fail)
      go_ret2
      exact KdRet.is ⟨rfl, HB3.out⟩ HZ.out
    obtain rfl := eq_of_beq he0
    clear he0
    cases hf0 : (fr == 0)
    · have e1' : (fr != 0) = true := by unfold bne; rw [hf0]; rfl
      have HZ := Lib.hid (show (if (0 : Int) = 0 then (if fr = 0 then twoK k vk uk else (0, fr)) else (0, 0)) = (0, fr) by rw [if_pos rfl, if_neg (by rw [beq_eq_false_iff_ne] at hf0; exact hf0)])
      generalize (if (0 : Int) = 0 then (if fr = 0 then twoK k vk uk else (0, fr)) else (0, 0)) = R at HZ ⊢
      clear hf0
      go_enter Try.func19, Try.ntmps19
      go_wp2_with (first
        | (go_at_call 33; (with_reducible refine (CR.out _).mono ?_); rintro e w2 ⟨rfl, rfl⟩)
        | (go_at_call 19; (with_reducible refine (C1.out _ (HT.out.at0 HB.out) (HE.out.on HB.out)).mono ?_)
           rintro e w3 ⟨rfl, hb3⟩
           have HB3 := Lib.hid (below_on HB.out hb3)
           obtain ⟨⟨y0, y1, y2, y3, y4, y5⟩, _⟩ := (HX.out.on hb3).cells
           clear hb3)
        | (go_at_call 19; (with_reducible refine (C2.out _ (HT.out.at0 HB3.out) (HE.out.on HB3.out)).mono ?_)
           rintro e w4 ⟨rfl, hb4⟩
           have HB4 := Lib.hid (below_on HB3.out hb4)
           clear hb4)
        | fail)
      go_ret2
      exact KdRet.is ⟨rfl, HB4.out⟩ HZ.out
    · obtain rfl := eq_of_beq hf0
      have HZ := Lib.hid (show (if (0 : Int) = 0 then (if (0 : Int) = 0 then twoK k vk uk else (0, 0)) else (0, 0)) = twoK k vk uk by rw [if_pos rfl, if_pos rfl])
      generalize (if (0 : Int) = 0 then (if (0 : Int) = 0 then twoK k vk uk else (0, 0)) else (0, 0)) = R at HZ ⊢
      have cm := CM.out vk uk
      generalize twoK k vk uk = Q at HZ cm
      obtain ⟨qk, qe⟩ := Q
      have CM := Lib.hid cm
      clear hf0 cm
      go_enter Try.func19, Try.ntmps19
      go_wp2_with (first
        | (go_at_call 33; (with_reducible refine (CR.out _).mono ?_); rintro e w2 ⟨rfl, rfl⟩)
        | (go_at_call 19; (with_reducible refine (C1.out _ (HT.out.at0 HB.out) (HE.out.on HB.out)).mono ?_)
           rintro e w3 ⟨rfl, hb3⟩
           have HB3 := Lib.hid (below_on HB.out hb3)
           have HX3 := Lib.hid (HX.out.on hb3)
           obtain ⟨⟨y0, y1, y2, y3, y4, y5⟩, _⟩ := HX3.out.cells
           clear hb3)
        | (go_at_call 19; (with_reducible refine (C2.out _ (HT.out.at0 HB3.out) (HE.out.on HB3.out)).mono ?_)
           rintro e w4 ⟨rfl, hb4⟩
           have HB4 := Lib.hid (below_on HB3.out hb4)
           obtain ⟨⟨z0, z1, z2, z3, z4, z5⟩, _⟩ := (HX3.out.on hb4).cells
           clear hb4)
        | (go_at_call 35; (with_reducible refine (CM.out _).mono ?_)
           rintro e w5 ⟨rfl, hb5⟩
           have HB5 := Lib.hid (below_on HB4.out hb5)
           clear hb5)
        | fail)
      go_ret2
      exact KdRet.is ⟨rfl, HB5.out⟩ HZ.out

set_option maxHeartbeats 4000000 in
theorem refKind_any (la : Option Addr) (ln lc : Nat) (L : List Trm) (root : Int) (ea : Option Addr) (en ec : Nat) (env : List (Str × Int)) (w : World) (hT : Trms w w.heap.size la ln L) (hE : Typs w w.heap.size ea en env) (hn : ln ≤ 1000) :
    Calls Try.prog 10 #[.slice la ln lc, .int .i64 root, .slice ea en ec] w (KdRet w (kindF L root env)) := by
  have HT := Lib.hid hT
  have HE := Lib.hid hE
  have CM := Lib.hid (fun W (h : Trms W W.heap.size la ln L) => refTermMay_any la ln lc L root W h hn)
  clear hT hE
  cases hm : mayF L root
  · have HZ := Lib.hid (kindF_none (env := env) hm)
    rw [hm] at CM
    generalize kindF L root env = R at HZ ⊢
    clear hm
    go_enter Try.func10, Try.ntmps10
    go_wp2_with (first
      | (go_at_call 18; (with_reducible refine (CM.out _ HT.out).mono ?_)
         rintro e w1 ⟨rfl, hb⟩
         have HB1 := Lib.hid hb
         clear hb)
      | fail)
    go_ret2
    exact KdRet.is ⟨rfl, HB1.out⟩ HZ.out
  · obtain ⟨e0, hg⟩ := (mayF_iff L root).1 hm
    obtain ⟨r, hr⟩ : ∃ r : Nat, root = (r : Int) := ⟨e0.at_, hg.2.1.symm⟩
    subst hr
    have her : e0.at_ = r := by have := hg.2.1; omega
    have HZ := Lib.hid (kindF_good (env := env) hg)
    have ce := fun (W : World) (h1 : Trms W W.heap.size la ln L) (h2 : Typs W W.heap.size ea en env) => refKindT_any L env la ln lc ea en ec e0 hg.2.2.1 W h1 h2
    rw [her] at ce
    rw [hm] at CM
    generalize kindF L (r : Int) env = R at HZ ⊢
    generalize kindE env e0 = q at HZ ce
    have CE := Lib.hid ce
    clear hm hg her ce
    go_enter Try.func10, Try.ntmps10
    go_wp2_with (first
      | (go_at_call 18; (with_reducible refine (CM.out _ HT.out).mono ?_)
         rintro e w1 ⟨rfl, hb⟩
         have HB1 := Lib.hid hb
         clear hb)
      | (go_at_call 19; (with_reducible refine (CE.out _ (HT.out.at0 HB1.out) (HE.out.on HB1.out)).mono ?_)
         rintro e w3 ⟨rfl, hb3⟩
         have HB3 := Lib.hid (below_on HB1.out hb3)
         clear hb3)
      | fail)
    go_ret2
    exact KdRet.is ⟨rfl, HB3.out⟩ HZ.out
end Go.Proofs.Ythbakfceaaaamaa
