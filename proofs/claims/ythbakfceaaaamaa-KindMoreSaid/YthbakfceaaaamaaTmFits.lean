/- Contract of the program's fit. -/
import Derived.Test.YthbakfceaaaamaaTmFit
import Derived.Test.YthbakfceaaaamaaTmOps
namespace Go.Proofs.Ythbakfceaaaamaa
open Go.RowKit

theorem are_two (A B : Val) (x y : Int) : areV [A, B] [x, y] = (A.kind == x && B.kind == y) := by simp [areV]
theorem are_one (A : Val) (x : Int) : areV [A] [x] = (A.kind == x) := by simp [areV]
theorem are_made (a : Option Addr) (n c : Nat) (vs : List Val) (ks : List Int) (cs : Array Value) (W : World) (bound g : Nat) (hg : g = W.heap.size) (hb : bound ≤ W.heap.size) (h : Vals W bound a n vs) (hc : cs = (ks.map encI64).toArray) (hk : ks.length = n) :
    Calls Try.prog 60 #[.slice a n c, .slice (some ⟨g, 0, none⟩) n n] (W.alloc (.cells cs 3)) fun e w' => e = .returned (.bool (areV vs ks)) ∧ Below W.heap.size W w' := by
  subst hg
  have hn := h.2.1
  refine (are_any a (some ⟨W.heap.size, 0, none⟩) n n c n vs ks (W.alloc (.cells cs 3)) (W.alloc (.cells cs 3)).heap.size (Nat.le_refl _) ?_ (Nums.made_int W cs ks n _ rfl hc hk (by omega)) rfl).mono fun e w' h => ⟨h.1, below_on ((Below.refl _ W).alloc (Nat.le_refl _) _) h.2⟩
  have h2 := h.below (((Below.refl W.heap.size W).alloc (Nat.le_refl _) (.cells cs 3)).mono hb)
  refine ⟨h2.1, h2.2.1, fun h0 => ?_⟩
  obtain ⟨b, off, e, hbb, hc⟩ := h2.2.2 h0
  refine ⟨b, off, e, by simp; omega, fun j v hj => ?_⟩
  obtain ⟨s, la, ln, lc, c1, c2, c3⟩ := hc j v hj
  exact ⟨s, la, ln, lc, c1, c2, c3.more (by simp; omega)⟩

set_option maxHeartbeats 4000000 in
theorem fit2_any (k : Int) (a : Option Addr) (c : Nat) (A B : Val) (w : World) (bound : Nat) (hb : bound ≤ w.heap.size) (h : Vals w bound a 2 [A, B])
    (hk : k = 11 ∨ (k = 13 ∨ k = 14) ∨ (k = 17 ∨ k = 18) ∨ k = 19 ∨ (k = 6 ∨ k = 7 ∨ k = 8 ∨ k = 9 ∨ k = 10 ∨ k = 12)) :
    Calls Try.prog 42 #[.int .i64 k, .slice a 2 c] w fun e w' => e = .returned (.bool (fitsV k A B)) ∧ Below w.heap.size w w' := by
  rcases hk with rfl | hk | hk | rfl | hk
  · obtain ⟨b, off, v0, s0, la0, ln0, lc0, rfl, hbb, hv0, ⟨q0, _, _, _⟩, _, _⟩ := h.at_ (k := 0) (by omega)
    obtain ⟨b', off', v1, s1, la1, ln1, lc1, he, _, hv1, ⟨r0, _, _, _⟩, _, _⟩ := h.at_ (k := 1) (by omega)
    obtain ⟨rfl, rfl⟩ : b = b' ∧ off = off' := by injection he with he; injection he with h1 h2 _; exact ⟨h1, h2⟩
    obtain rfl : A = v0 := by simpa using hv0
    obtain rfl : B = v1 := by simpa using hv1
    rw [Nat.zero_mul, Nat.add_zero] at q0
    rw [Nat.one_mul] at r0
    have HG := Lib.hid (show fitsV 11 A B = (A.kind == B.kind && A.kind != 5) from rfl)
    generalize fitsV 11 A B = r at HG ⊢
    obtain ⟨x, hx⟩ : ∃ x, x = A.kind := ⟨_, rfl⟩
    obtain ⟨y, hy⟩ : ∃ y, y = B.kind := ⟨_, rfl⟩
    rw [← hx] at q0 HG
    rw [← hy] at r0 HG
    clear h hv0 hv1 he hx hy
    cases e1 : x == y
    · have HG := Lib.hid (show r = false by rw [HG.out, e1]; rfl)
      go_enter Try.func42, Try.ntmps42
      go_wp2
      go_quiet (fail)
      go_wp2
      go_ret
      exact ⟨ret_bool HG.out.symm, below_drewN (Below.refl _ _) _⟩
    · have HG := Lib.hid (show r = (x != 5) by rw [HG.out, e1]; rfl)
      go_enter Try.func42, Try.ntmps42
      go_wp2
      go_quiet (fail)
      go_wp2
      go_ret
      exact ⟨ret_bool HG.out.symm, below_drewN (Below.refl _ _) _⟩
  · have HG := Lib.hid (show fitsV k A B = areV [A, B] [2, 2] by rw [are_two]; rcases hk with rfl | rfl <;> rfl)
    generalize fitsV k A B = r at HG ⊢
    have ca := are_made a 2 c [A, B] [2, 2] #[.int .i64 2, .int .i64 2] w bound w.heap.size rfl hb h rfl rfl
    rw [← HG.out] at ca
    have CA := Lib.hid ca
    clear ca h
    rcases hk with rfl | rfl
    all_goals
      go_enter Try.func42, Try.ntmps42
      go_wp2_with (first
        | (go_at_call 60; (with_reducible refine CA.out.mono ?_)
           rintro e w1 ⟨rfl, hb1⟩
           have HB1 := Lib.hid hb1
           clear hb1)
        | fail)
      go_ret
      exact ⟨rfl, HB1.out⟩
  · have HG := Lib.hid (show fitsV k A B = areV [A, B] [4, 1] by rw [are_two]; rcases hk with rfl | rfl <;> rfl)
    generalize fitsV k A B = r at HG ⊢
    have ca := are_made a 2 c [A, B] [4, 1] #[.int .i64 4, .int .i64 1] w bound w.heap.size rfl hb h rfl rfl
    rw [← HG.out] at ca
    have CA := Lib.hid ca
    clear ca h
    rcases hk with rfl | rfl
    all_goals
      go_enter Try.func42, Try.ntmps42
      go_wp2_with (first
        | (go_at_call 60; (with_reducible refine CA.out.mono ?_)
           rintro e w1 ⟨rfl, hb1⟩
           have HB1 := Lib.hid hb1
           clear hb1)
        | fail)
      go_ret
      exact ⟨rfl, HB1.out⟩
  · have HG := Lib.hid (show fitsV 19 A B = areV [A, B] [3, 3] by rw [are_two]; rfl)
    generalize fitsV 19 A B = r at HG ⊢
    have ca := are_made a 2 c [A, B] [3, 3] #[.int .i64 3, .int .i64 3] w bound w.heap.size rfl hb h rfl rfl
    rw [← HG.out] at ca
    have CA := Lib.hid ca
    clear ca h
    skip
    all_goals
      go_enter Try.func42, Try.ntmps42
      go_wp2_with (first
        | (go_at_call 60; (with_reducible refine CA.out.mono ?_)
           rintro e w1 ⟨rfl, hb1⟩
           have HB1 := Lib.hid hb1
           clear hb1)
        | fail)
      go_ret
      exact ⟨rfl, HB1.out⟩
  · have HG := Lib.hid (show fitsV k A B = areV [A, B] [1, 1] by rw [are_two]; rcases hk with rfl | rfl | rfl | rfl | rfl | rfl <;> rfl)
    generalize fitsV k A B = r at HG ⊢
    have ca := are_made a 2 c [A, B] [1, 1] #[.int .i64 1, .int .i64 1] w bound w.heap.size rfl hb h rfl rfl
    rw [← HG.out] at ca
    have CA := Lib.hid ca
    clear ca h
    rcases hk with rfl | rfl | rfl | rfl | rfl | rfl
    all_goals
      go_enter Try.func42, Try.ntmps42
      go_wp2_with (first
        | (go_at_call 60; (with_reducible refine CA.out.mono ?_)
           rintro e w1 ⟨rfl, hb1⟩
           have HB1 := Lib.hid hb1
           clear hb1)
        | fail)
      go_ret
      exact ⟨rfl, HB1.out⟩

theorem Vals.alloc {W : World} {bound : Nat} {a : Option Addr} {n : Nat} {vs : List Val} (h : Vals W bound a n vs) (hb : bound ≤ W.heap.size) {W' : World} (hW : Below W.heap.size W W') : Vals W' bound a n vs := h.below (hW.mono hb)
def fit1V (k : Int) (A : Val) : Bool := if k = 15 then A.kind == 2 else A.kind == 3 || A.kind == 4
set_option maxHeartbeats 4000000 in
theorem fit1_any (k : Int) (a : Option Addr) (c : Nat) (A : Val) (w : World) (bound : Nat) (hb : bound ≤ w.heap.size) (h : Vals w bound a 1 [A]) (hk : k = 15 ∨ k = 16) :
    Calls Try.prog 42 #[.int .i64 k, .slice a 1 c] w fun e w' => e = .returned (.bool (fit1V k A)) ∧ Below w.heap.size w w' := by
  rcases hk with rfl | rfl
  · have HG := Lib.hid (show fit1V 15 A = areV [A] [2] by rw [are_one]; rfl)
    generalize fit1V 15 A = r at HG ⊢
    have ca := are_made a 1 c [A] [2] #[.int .i64 2] w bound w.heap.size rfl hb h rfl rfl
    rw [← HG.out] at ca
    have CA := Lib.hid ca
    clear ca h
    go_enter Try.func42, Try.ntmps42
    go_wp2_with (first
      | (go_at_call 60; (with_reducible refine CA.out.mono ?_)
         rintro e w1 ⟨rfl, hb1⟩
         have HB1 := Lib.hid hb1
         clear hb1)
      | fail)
    go_ret
    exact ⟨rfl, HB1.out⟩
  · have HG := Lib.hid (show fit1V 16 A = (areV [A] [3] || areV [A] [4]) by rw [are_one, are_one]; rfl)
    generalize fit1V 16 A = r at HG ⊢
    have ca := are_made a 1 c [A] [3] #[.int .i64 3] w bound w.heap.size rfl hb h rfl rfl
    have CB := Lib.hid (fun W (hW : Below w.heap.size w W) => are_made a 1 c [A] [4] #[.int .i64 4] W bound W.heap.size rfl (by have := hW.size; omega) (h.alloc hb hW) rfl rfl)
    generalize areV [A] [3] = r1 at HG ca
    generalize areV [A] [4] = r2 at HG CB
    have CA := Lib.hid ca
    clear ca h
    cases r1
    · have HG := Lib.hid (show r = r2 by rw [HG.out]; rfl)
      go_enter Try.func42, Try.ntmps42
      go_wp2_with (first
        | (go_at_call 60; (with_reducible refine CA.out.mono ?_)
           rintro e w1 ⟨rfl, hb1⟩
           have HB1 := Lib.hid hb1
           clear hb1)
        | (go_at_call 60; (with_reducible refine (CB.out _ HB1.out).mono ?_)
           rintro e w2 ⟨rfl, hb2⟩
           have HB2 := Lib.hid (below_on HB1.out hb2)
           clear hb2)
        | fail)
      go_ret
      exact ⟨ret_bool HG.out.symm, HB2.out⟩
    · have HG := Lib.hid (show r = true by rw [HG.out]; rfl)
      go_enter Try.func42, Try.ntmps42
      go_wp2_with (first
        | (go_at_call 60; (with_reducible refine CA.out.mono ?_)
           rintro e w1 ⟨rfl, hb1⟩
           have HB1 := Lib.hid hb1
           clear hb1)
        | fail)
      go_ret
      exact ⟨ret_bool HG.out.symm, HB1.out⟩
end Go.Proofs.Ythbakfceaaaamaa
