/- A value that lies in memory, and what a call may read of it. -/
import Derived.Test.YthchilnibblbgaaDtInts
import Derived.Test.YthchilnibblbgaaDtMay
import Derived.Test.YthchilnibblbgaaTmVar
import Derived.Test.YthchilnibblbgaaTmLeafs
import Derived.Test.YthchilnibblbgaaTmOne
import Derived.Laws.Bits64
namespace Go.Proofs.Ythchilnibblbgaa
open Go.RowKit

/-- Block A holds this value. -/
def Box (W : World) (A : Nat) (k x : Int) (s : ByteArray) (a : Option Addr) (n c : Nat) : Prop :=
  A < W.heap.size ∧ W.cell? ⟨A, 0, none⟩ = some (.int .i64 k) ∧ W.cell? ⟨A, 1, none⟩ = some (.int .i64 x) ∧ W.cell? ⟨A, 2, none⟩ = some (.string s) ∧ W.cell? ⟨A, 3, none⟩ = some (.slice a n c)
theorem Box.below {W W' : World} {A : Nat} {k x : Int} {s : ByteArray} {a : Option Addr} {n c B : Nat} (h : Box W A k x s a n c) (hb : Below B W W') (hB : A < B) : Box W' A k x s a n c := by
  obtain ⟨h1, h2, h3, h4, h5⟩ := h
  exact ⟨Nat.lt_of_lt_of_le h1 hb.size, (hb.cell (p := ⟨A, 0, none⟩) hB).trans h2, (hb.cell (p := ⟨A, 1, none⟩) hB).trans h3, (hb.cell (p := ⟨A, 2, none⟩) hB).trans h4, (hb.cell (p := ⟨A, 3, none⟩) hB).trans h5⟩
theorem Box.next {W W' : World} {A : Nat} {k x : Int} {s : ByteArray} {a : Option Addr} {n c : Nat} (h : Box W A k x s a n c) (hb : Below W.heap.size W W') : Box W' A k x s a n c := h.below hb h.1
theorem Box.alloc {W : World} {A : Nat} {k x : Int} {s : ByteArray} {a : Option Addr} {n c : Nat} (h : Box W A k x s a n c) (o : Obj) : Box (W.alloc o) A k x s a n c := h.next ((Below.refl _ W).alloc (Nat.le_refl _) o)
theorem Box.drew {W : World} {A : Nat} {k x : Int} {s : ByteArray} {a : Option Addr} {n c : Nat} (h : Box W A k x s a n c) : Box W.drew A k x s a n c := h
theorem Box.new (W : World) (A : Nat) (hA : W.heap.size = A) (k x : Int) (s : ByteArray) (a : Option Addr) (n c : Nat) : Box (W.alloc (.cells #[.int .i64 k, .int .i64 x, .string s, .slice a n c] 33)) A k x s a n c := by
  subst hA
  exact ⟨by simp, by simp, by simp, by simp, by simp⟩
theorem below_next {w W wn : World} (h : Below w.heap.size w W) (hb : Below W.heap.size W wn) : Below w.heap.size w wn := h.trans (hb.mono h.size)
end Go.Proofs.Ythchilnibblbgaa

/- Contracts of the reference's rules for values: which are valid, which are the same, which comes before which. -/
namespace Go.Proofs.Ythchilnibblbgaa
open Go.RowKit

set_option maxHeartbeats 4000000 in
set_option maxRecDepth 20000 in
theorem refDataMay_any (k x : Int) (s : ByteArray) (a : Option Addr) (n c : Nat) (l : List Int) (w : World) (bound : Nat) (h : Nums w bound a n l) :
    Calls Try.prog 91 #[.agg #[.int .i64 k, .int .i64 x, .string s, .slice a n c]] w fun e w' => e = .returned (.bool (mayV ⟨k, x, s.toList, l⟩)) ∧ Below w.heap.size w w' := by
  have HB := Lib.hid ((Below.refl w.heap.size w).alloc (Nat.le_refl _) (.cells #[.int .i64 k, .int .i64 x, .string s, .slice a n c] 33))
  have hn := h.1
  have en : ((n : Int) == 0) = l.isEmpty := by
    cases l with
    | nil => simp at hn; subst hn; rfl
    | cons y l => simp at hn; rw [beq_eq_false_iff_ne.2 (by omega)]; rfl
  clear h
  cases z0 : (k == 0)
  · skip
    cases z1 : (k == 1)
    · skip
      cases z2 : (k == 2)
      · skip
        cases z3 : (k == 3)
        · skip
          cases z4 : (k == 4)
          · skip
            cases z5 : (k == 5)
            · skip
              have HF := Lib.hid (dmay6 x s.toList l z0 z1 z2 z3 z4 z5)
              clear en hn
              go_enter Try.func91, Try.ntmps91
              go_wp2
              go_ret
              exact ⟨ret_bool HF.out.symm, HB.out⟩
            · skip
              obtain rfl := eq_of_beq z5
              clear z0 z1 z2 z3 z4 z5
              have hmv : mayV ⟨5, x, s.toList, l⟩ = (!s.toList.isEmpty && decide (0 ≤ x) && decide (x < 5) && l.isEmpty) := rfl
              clear hn
              cases f1 : s.toList.isEmpty
              · skip
                cases f2 : decide (0 ≤ x)
                · skip
                  have HF := Lib.hid (show mayV ⟨5, x, s.toList, l⟩ = false by rw [hmv, f1, f2]; rfl)
                  clear hmv
                  go_enter Try.func91, Try.ntmps91
                  go_wp2
                  go_ret
                  exact ⟨ret_bool HF.out.symm, HB.out⟩
                · skip
                  cases f3 : decide (x < 5)
                  · skip
                    have HF := Lib.hid (show mayV ⟨5, x, s.toList, l⟩ = false by rw [hmv, f1, f2, f3]; rfl)
                    clear hmv
                    go_enter Try.func91, Try.ntmps91
                    go_wp2
                    go_ret
                    exact ⟨ret_bool HF.out.symm, HB.out⟩
                  · skip
                    cases f4 : l.isEmpty
                    · skip
                      rw [f4] at en
                      have HF := Lib.hid (show mayV ⟨5, x, s.toList, l⟩ = false by rw [hmv, f1, f2, f3, f4]; rfl)
                      clear hmv
                      go_enter Try.func91, Try.ntmps91
                      go_wp2
                      go_ret
                      exact ⟨ret_bool HF.out.symm, HB.out⟩
                    · skip
                      rw [f4] at en
                      have HF := Lib.hid (show mayV ⟨5, x, s.toList, l⟩ = true by rw [hmv, f1, f2, f3, f4]; rfl)
                      clear hmv
                      go_enter Try.func91, Try.ntmps91
                      go_wp2
                      go_ret
                      exact ⟨ret_bool HF.out.symm, HB.out⟩
              · skip
                have HF := Lib.hid (show mayV ⟨5, x, s.toList, l⟩ = false by rw [hmv, f1]; rfl)
                clear hmv
                go_enter Try.func91, Try.ntmps91
                go_wp2
                go_ret
                exact ⟨ret_bool HF.out.symm, HB.out⟩
          · skip
            obtain rfl := eq_of_beq z4
            clear z0 z1 z2 z3 z4
            have hmv : mayV ⟨4, x, s.toList, l⟩ = ((x == 0) && s.toList.isEmpty && decide (l.length ≤ 16)) := rfl
            have hd : decide (l.length ≤ 16) = decide ((n : Int) ≤ 16) := by rw [hn, decide_eq_decide]; omega
            rw [hd] at hmv
            clear hd
            clear hn en
            cases f1 : (x == 0)
            · skip
              have HF := Lib.hid (show mayV ⟨4, x, s.toList, l⟩ = false by rw [hmv, f1]; rfl)
              clear hmv
              go_enter Try.func91, Try.ntmps91
              go_wp2
              go_ret
              exact ⟨ret_bool HF.out.symm, HB.out⟩
            · skip
              cases f2 : s.toList.isEmpty
              · skip
                have HF := Lib.hid (show mayV ⟨4, x, s.toList, l⟩ = false by rw [hmv, f1, f2]; rfl)
                clear hmv
                go_enter Try.func91, Try.ntmps91
                go_wp2
                go_ret
                exact ⟨ret_bool HF.out.symm, HB.out⟩
              · skip
                cases f3 : decide ((n : Int) ≤ 16)
                · skip
                  have HF := Lib.hid (show mayV ⟨4, x, s.toList, l⟩ = false by rw [hmv, f1, f2, f3]; rfl)
                  clear hmv
                  go_enter Try.func91, Try.ntmps91
                  go_wp2
                  go_ret
                  exact ⟨ret_bool HF.out.symm, HB.out⟩
                · skip
                  have HF := Lib.hid (show mayV ⟨4, x, s.toList, l⟩ = true by rw [hmv, f1, f2, f3]; rfl)
                  clear hmv
                  go_enter Try.func91, Try.ntmps91
                  go_wp2
                  go_ret
                  exact ⟨ret_bool HF.out.symm, HB.out⟩
        · skip
          obtain rfl := eq_of_beq z3
          clear z0 z1 z2 z3
          have hmv : mayV ⟨3, x, s.toList, l⟩ = ((x == 0) && decide (s.toList.length ≤ 24) && l.isEmpty) := rfl
          have hd : decide (s.toList.length ≤ 24) = decide ((s.size : Int) ≤ 24) := by rw [lxLen, decide_eq_decide]; omega
          rw [hd] at hmv
          clear hd
          clear hn
          cases f1 : (x == 0)
          · skip
            have HF := Lib.hid (show mayV ⟨3, x, s.toList, l⟩ = false by rw [hmv, f1]; rfl)
            clear hmv
            go_enter Try.func91, Try.ntmps91
            go_wp2
            go_ret
            exact ⟨ret_bool HF.out.symm, HB.out⟩
          · skip
            cases f2 : decide ((s.size : Int) ≤ 24)
            · skip
              have HF := Lib.hid (show mayV ⟨3, x, s.toList, l⟩ = false by rw [hmv, f1, f2]; rfl)
              clear hmv
              go_enter Try.func91, Try.ntmps91
              go_wp2
              go_ret
              exact ⟨ret_bool HF.out.symm, HB.out⟩
            · skip
              cases f3 : l.isEmpty
              · skip
                rw [f3] at en
                have HF := Lib.hid (show mayV ⟨3, x, s.toList, l⟩ = false by rw [hmv, f1, f2, f3]; rfl)
                clear hmv
                go_enter Try.func91, Try.ntmps91
                go_wp2
                go_ret
                exact ⟨ret_bool HF.out.symm, HB.out⟩
              · skip
                rw [f3] at en
                have HF := Lib.hid (show mayV ⟨3, x, s.toList, l⟩ = true by rw [hmv, f1, f2, f3]; rfl)
                clear hmv
                go_enter Try.func91, Try.ntmps91
                go_wp2
                go_ret
                exact ⟨ret_bool HF.out.symm, HB.out⟩
      · skip
        obtain rfl := eq_of_beq z2
        clear z0 z1 z2
        have hmv : mayV ⟨2, x, s.toList, l⟩ = ((x == 0 || x == 1) && s.toList.isEmpty && l.isEmpty) := rfl
        clear hn
        cases f0 : (x == 0)
        · skip
          cases f1 : (x == 1)
          · skip
            have HF := Lib.hid (show mayV ⟨2, x, s.toList, l⟩ = false by rw [hmv, f0, f1]; rfl)
            clear hmv
            go_enter Try.func91, Try.ntmps91
            go_wp2
            go_ret
            exact ⟨ret_bool HF.out.symm, HB.out⟩
          · skip
            cases f2 : s.toList.isEmpty
            · skip
              have HF := Lib.hid (show mayV ⟨2, x, s.toList, l⟩ = false by rw [hmv, f0, f1, f2]; rfl)
              clear hmv
              go_enter Try.func91, Try.ntmps91
              go_wp2
              go_ret
              exact ⟨ret_bool HF.out.symm, HB.out⟩
            · skip
              cases f3 : l.isEmpty
              · skip
                rw [f3] at en
                have HF := Lib.hid (show mayV ⟨2, x, s.toList, l⟩ = false by rw [hmv, f0, f1, f2, f3]; rfl)
                clear hmv
                go_enter Try.func91, Try.ntmps91
                go_wp2
                go_ret
                exact ⟨ret_bool HF.out.symm, HB.out⟩
              · skip
                rw [f3] at en
                have HF := Lib.hid (show mayV ⟨2, x, s.toList, l⟩ = true by rw [hmv, f0, f1, f2, f3]; rfl)
                clear hmv
                go_enter Try.func91, Try.ntmps91
                go_wp2
                go_ret
                exact ⟨ret_bool HF.out.symm, HB.out⟩
        · skip
          cases f2 : s.toList.isEmpty
          · skip
            have HF := Lib.hid (show mayV ⟨2, x, s.toList, l⟩ = false by rw [hmv, f0, f2]; rfl)
            clear hmv
            go_enter Try.func91, Try.ntmps91
            go_wp2
            go_ret
            exact ⟨ret_bool HF.out.symm, HB.out⟩
          · skip
            cases f3 : l.isEmpty
            · skip
              rw [f3] at en
              have HF := Lib.hid (show mayV ⟨2, x, s.toList, l⟩ = false by rw [hmv, f0, f2, f3]; rfl)
              clear hmv
              go_enter Try.func91, Try.ntmps91
              go_wp2
              go_ret
              exact ⟨ret_bool HF.out.symm, HB.out⟩
            · skip
              rw [f3] at en
              have HF := Lib.hid (show mayV ⟨2, x, s.toList, l⟩ = true by rw [hmv, f0, f2, f3]; rfl)
              clear hmv
              go_enter Try.func91, Try.ntmps91
              go_wp2
              go_ret
              exact ⟨ret_bool HF.out.symm, HB.out⟩
    · skip
      obtain rfl := eq_of_beq z1
      clear z0 z1
      have hmv : mayV ⟨1, x, s.toList, l⟩ = (s.toList.isEmpty && l.isEmpty) := rfl
      clear hn
      cases f2 : s.toList.isEmpty
      · skip
        have HF := Lib.hid (show mayV ⟨1, x, s.toList, l⟩ = false by rw [hmv, f2]; rfl)
        clear hmv
        go_enter Try.func91, Try.ntmps91
        go_wp2
        go_ret
        exact ⟨ret_bool HF.out.symm, HB.out⟩
      · skip
        cases f3 : l.isEmpty
        · skip
          rw [f3] at en
          have HF := Lib.hid (show mayV ⟨1, x, s.toList, l⟩ = false by rw [hmv, f2, f3]; rfl)
          clear hmv
          go_enter Try.func91, Try.ntmps91
          go_wp2
          go_ret
          exact ⟨ret_bool HF.out.symm, HB.out⟩
        · skip
          rw [f3] at en
          have HF := Lib.hid (show mayV ⟨1, x, s.toList, l⟩ = true by rw [hmv, f2, f3]; rfl)
          clear hmv
          go_enter Try.func91, Try.ntmps91
          go_wp2
          go_ret
          exact ⟨ret_bool HF.out.symm, HB.out⟩
  · skip
    obtain rfl := eq_of_beq z0
    clear z0
    have hmv : mayV ⟨0, x, s.toList, l⟩ = ((x == 0) && s.toList.isEmpty && l.isEmpty) := rfl
    clear hn
    cases f1 : (x == 0)
    · skip
      have HF := Lib.hid (show mayV ⟨0, x, s.toList, l⟩ = false by rw [hmv, f1]; rfl)
      clear hmv
      go_enter Try.func91, Try.ntmps91
      go_wp2
      go_ret
      exact ⟨ret_bool HF.out.symm, HB.out⟩
    · skip
      cases f2 : s.toList.isEmpty
      · skip
        have HF := Lib.hid (show mayV ⟨0, x, s.toList, l⟩ = false by rw [hmv, f1, f2]; rfl)
        clear hmv
        go_enter Try.func91, Try.ntmps91
        go_wp2
        go_ret
        exact ⟨ret_bool HF.out.symm, HB.out⟩
      · skip
        cases f3 : l.isEmpty
        · skip
          rw [f3] at en
          have HF := Lib.hid (show mayV ⟨0, x, s.toList, l⟩ = false by rw [hmv, f1, f2, f3]; rfl)
          clear hmv
          go_enter Try.func91, Try.ntmps91
          go_wp2
          go_ret
          exact ⟨ret_bool HF.out.symm, HB.out⟩
        · skip
          rw [f3] at en
          have HF := Lib.hid (show mayV ⟨0, x, s.toList, l⟩ = true by rw [hmv, f1, f2, f3]; rfl)
          clear hmv
          go_enter Try.func91, Try.ntmps91
          go_wp2
          go_ret
          exact ⟨ret_bool HF.out.symm, HB.out⟩

theorem drew3 (w : World) (a b c : Nat) : ((w.drewN a).drewN b).drewN c = w.drewN (a + b + c) := by rw [World.drewN_drewN, World.drewN_drewN, Nat.add_assoc]
theorem sameN_len : ∀ {l m : List Int}, l.length ≠ m.length → sameN l m = false
  | [], [], h => absurd rfl h
  | [], _ :: _, _ => rfl
  | _ :: _, [], _ => rfl
  | x :: xs, y :: ys, h => by
    rw [sameN, sameN_len (l := xs) (m := ys) (by simpa using h), Bool.and_false]
theorem sameN_at {l1 l2 : List Int} {k : Nat} {x y : Int} (hx : l1[k]? = some x) (hy : l2[k]? = some y) : sameN (l1.drop k) (l2.drop k) = (x == y && sameN (l1.drop (k + 1)) (l2.drop (k + 1))) := by
  rw [drop_at hx, drop_at hy, sameN]
theorem lessN_at {l1 l2 : List Int} {k : Nat} {x y : Int} (hx : l1[k]? = some x) (hy : l2[k]? = some y) : lessN (l1.drop k) (l2.drop k) = if x = y then lessN (l1.drop (k + 1)) (l2.drop (k + 1)) else decide (x < y) := by
  rw [drop_at hx, drop_at hy, lessN]
theorem lessN_end {l1 l2 : List Int} {k : Nat} (h : (l1.length = k ∧ k ≤ l2.length) ∨ (l2.length = k ∧ k ≤ l1.length)) : lessN (l1.drop k) (l2.drop k) = decide (l1.length < l2.length) := by
  rcases h with ⟨h1, h2⟩ | ⟨h1, h2⟩
  · rw [List.drop_of_length_le (l := l1) (by omega)]
    rcases Nat.eq_or_lt_of_le h2 with h | h
    · rw [List.drop_of_length_le (by omega), decide_eq_false (by omega), lessN]
    · rw [List.drop_eq_getElem_cons h, decide_eq_true (by omega), lessN]
  · rw [List.drop_of_length_le (l := l2) (by omega), decide_eq_false (by omega)]
    cases l1.drop k <;> rfl

set_option maxHeartbeats 2000000 in
theorem refSameNums_any (a b : Option Addr) (n m ca cb : Nat) (l1 l2 : List Int) (w : World) (bound : Nat) (ha : Nums w bound a n l1) (hb : Nums w bound b m l2) :
    Calls Try.prog 42 #[.slice a n ca, .slice b m cb] w fun e w' => e = .returned (.bool (sameN l1 l2)) ∧ ∃ q, w' = w.drewN q := by
  have hn := ha.1
  have hm := hb.1
  have hsn := ha.2.1
  have hsm := hb.2.1
  have HA := Lib.hid ha
  have HB := Lib.hid hb
  clear ha hb
  by_cases hnm : n = m
  · subst hnm
    have HN := Lib.hid hn
    have HM := Lib.hid hm
    clear hn hm
    go_enter Try.func42, Try.ntmps42
    go_wp2
    go_loopw [5] (fun i wr => ∃ k : Nat, k ≤ n ∧ i = .int .i64 k ∧ Hid (sameN l1 l2 = sameN (l1.drop k) (l2.drop k)) ∧ ∃ q, wr = w.drewN q) (fun i _ => n - (intOf i).toNat)
    case atStart => exact ⟨0, Nat.zero_le _, rfl, Lib.hid rfl, 0, rfl⟩
    case round =>
      obtain ⟨k, hk, rfl, hrel', q, rfl⟩ := hrel
      by_cases hlt : k < n
      · obtain ⟨b1, o1, x, rfl, _, hx, x0⟩ := HA.out.at_ hlt
        obtain ⟨b2, o2, y, rfl, _, hy, y0⟩ := HB.out.at_ hlt
        have HS := Lib.hid (sameN_at hx hy)
        clear hx hy
        cases c1 : (x == y)
        · have n1 : (x != y) = true := by unfold bne; rw [c1]; rfl
          have HF := Lib.hid (show sameN l1 l2 = false by rw [hrel'.out, HS.out, c1]; rfl)
          go_wp2
          go_quiet (fail)
          go_wp2
          go_ret
          exact ⟨ret_bool (by rw [HF.out]), q + nq, World.drewN_drewN _ _ _⟩
        · have n1 : (x != y) = false := by unfold bne; rw [c1]; rfl
          have HF := Lib.hid (show sameN l1 l2 = sameN (l1.drop (k + 1)) (l2.drop (k + 1)) by rw [hrel'.out, HS.out, c1]; rfl)
          go_wp2
          go_quiet (fail)
          go_wp2
          go_roundw
          case rel => exact ⟨k + 1, by omega, by go_num, HF, q + nq, rfl⟩
          case measure => simp [intOf]; omega
      · have HF := Lib.hid (show sameN l1 l2 = true by
          rw [hrel'.out, List.drop_of_length_le (by rw [HN.out]; omega), List.drop_of_length_le (by rw [HM.out]; omega)]; rfl)
        go_wp2
        go_ret
        exact ⟨ret_bool (by rw [HF.out]), q, rfl⟩
  · have hne : ((n : Int) != (m : Int)) = true := by rw [bne_iff_ne]; omega
    have HF := Lib.hid (show sameN l1 l2 = false from sameN_len (by rw [hn, hm]; exact hnm))
    clear hn hm
    go_enter Try.func42, Try.ntmps42
    go_wp2
    go_ret
    exact ⟨ret_bool (by rw [HF.out]), 0, rfl⟩

set_option maxHeartbeats 2000000 in
theorem refSame_any (k x : Int) (s : ByteArray) (a : Option Addr) (n c : Nat) (l : List Int) (k' x' : Int) (s' : ByteArray) (a' : Option Addr) (n' c' : Nat) (l' : List Int) (w : World) (bound : Nat)
    (hb : bound ≤ w.heap.size) (h : Nums w bound a n l) (h' : Nums w bound a' n' l') :
    Calls Try.prog 27 #[.agg #[.int .i64 k, .int .i64 x, .string s, .slice a n c], .agg #[.int .i64 k', .int .i64 x', .string s', .slice a' n' c']] w fun e w' => e = .returned (.bool (sameV ⟨k, x, s.toList, l⟩ ⟨k', x', s'.toList, l'⟩)) ∧ Below w.heap.size w w' := by
  have HB := Lib.hid (((Below.refl w.heap.size w).alloc (Nat.le_refl _) (.cells #[.int .i64 k, .int .i64 x, .string s, .slice a n c] 33)).alloc (by simp) (.cells #[.int .i64 k', .int .i64 x', .string s', .slice a' n' c'] 33))
  have cl : ∀ W, Below w.heap.size w W → Calls Try.prog 42 #[.slice a n c, .slice a' n' c'] W fun e w' => e = .returned (.bool (sameN l l')) ∧ Below W.heap.size W w' := fun W hW =>
    (refSameNums_any a a' n n' c c' l l' W bound (h.below (hW.mono hb)) (h'.below (hW.mono hb))).mono fun e w' ⟨h1, q, h2⟩ => ⟨h1, by rw [h2]; exact below_drewN (Below.refl _ _) q⟩
  have CL := Lib.hid cl
  clear cl h h'
  cases e1 : (k == k')
  · have n0 : (k != k') = true := by unfold bne; rw [e1]; rfl
    have HF := Lib.hid (show sameV ⟨k, x, s.toList, l⟩ ⟨k', x', s'.toList, l'⟩ = false by unfold sameV; dsimp only; rw [e1]; rfl)
    go_enter Try.func27, Try.ntmps27
    go_wp2
    go_ret
    exact ⟨ret_bool HF.out.symm, HB.out⟩
  · have n0 : (k != k') = false := by unfold bne; rw [e1]; rfl
    cases e2 : (x == x')
    · have n1 : (x != x') = true := by unfold bne; rw [e2]; rfl
      have HF := Lib.hid (show sameV ⟨k, x, s.toList, l⟩ ⟨k', x', s'.toList, l'⟩ = false by unfold sameV; dsimp only; rw [e1, e2]; rfl)
      go_enter Try.func27, Try.ntmps27
      go_wp2
      go_ret
      exact ⟨ret_bool HF.out.symm, HB.out⟩
    · have n1 : (x != x') = false := by unfold bne; rw [e2]; rfl
      cases e3 : (s.toList == s'.toList)
      · have n2 : (s.toList != s'.toList) = true := by unfold bne; rw [e3]; rfl
        have HF := Lib.hid (show sameV ⟨k, x, s.toList, l⟩ ⟨k', x', s'.toList, l'⟩ = false by unfold sameV; dsimp only; rw [e1, e2, e3]; rfl)
        go_enter Try.func27, Try.ntmps27
        go_wp2
        go_ret
        exact ⟨ret_bool HF.out.symm, HB.out⟩
      · have n2 : (s.toList != s'.toList) = false := by unfold bne; rw [e3]; rfl
        have HF := Lib.hid (show sameV ⟨k, x, s.toList, l⟩ ⟨k', x', s'.toList, l'⟩ = sameN l l' by unfold sameV; dsimp only; rw [e1, e2, e3]; rfl)
        go_enter Try.func27, Try.ntmps27
        go_wp2_with (first | (go_at_call 42; (with_reducible refine (CL.out _ HB.out).mono ?_); rintro e w1 ⟨rfl, hb1⟩) | fail)
        go_ret
        exact ⟨ret_bool HF.out.symm, HB.out.trans (hb1.mono HB.out.size)⟩
end Go.Proofs.Ythchilnibblbgaa

/- Contracts of the reference's CopyValue, hold, leaf and one. -/
namespace Go.Proofs.Ythchilnibblbgaa
open Go.RowKit

set_option maxHeartbeats 4000000 in
theorem refCopy_any (k x : Int) (s : ByteArray) (a : Option Addr) (n c : Nat) (l : List Int) (w : World) (bound : Nat) (hb : bound ≤ w.heap.size) (h : Nums w bound a n l) (hn : n ≤ 16) :
    Calls Try.prog 92 #[.agg #[.int .i64 k, .int .i64 x, .string s, .slice a n c]] w (ValRet w ⟨k, x, s.toList, l⟩) := by
  have HB := Lib.hid (((Below.refl w.heap.size w).alloc (Nat.le_refl _) (.cells #[.int .i64 k, .int .i64 x, .string s, .slice a n c] 33)).alloc (by simp) (.cells #[.int .i64 0, .int .i64 0, .string ⟨#[]⟩, .slice none 0 0] 33))
  have hs0 := Slot.new (w.alloc (.cells #[.int .i64 k, .int .i64 x, .string s, .slice a n c] 33))
  rw [World.size_alloc] at hs0
  have HS := Lib.hid hs0
  have HX := Lib.hid ((BoxV.new w (.int .i64 k) (.int .i64 x) (.string s) (.slice a n c)).on ((Below.refl _ (w.alloc (.cells #[.int .i64 k, .int .i64 x, .string s, .slice a n c] 33))).alloc (Nat.le_refl _) (.cells #[.int .i64 0, .int .i64 0, .string ⟨#[]⟩, .slice none 0 0] 33)))
  have HN := Lib.hid h
  have hl := h.1
  have HLEN := Lib.hid (show ([] : List Int).length + n ≤ 7000000000000 by simp only [List.length_nil]; omega)
  have HL := Lib.hid hl
  clear hs0 h hl
  go_enter Try.func92, Try.ntmps92
  go_wp2_with (first
    | (at_builtin
       refine wpList_append_nums rfl (.const (.slice none 0 0)) (.tmp 4) rfl (w.heap.size + 1 + 1) _ [] a n c l bound rfl rfl (Ints.zero _ _) (HN.out.below (HB.out.mono hb)) (by simp) HLEN.out ((w.alloc (.cells #[.int .i64 k, .int .i64 x, .string s, .slice a n c] 33)).alloc (.cells #[.int .i64 0, .int .i64 0, .string ⟨#[]⟩, .slice none 0 0] 33)) (Below.refl _ _) ?_
       intro v' w3 hi hb3
       rw [List.nil_append] at hi
       obtain ⟨a', c', rfl, _, _, hf, hnn⟩ := hi.sees
       obtain ⟨nl, hnl⟩ : ∃ nl, nl = l.length := ⟨_, rfl⟩
       rw [← hnl] at hf hnn ⊢
       have hb3' : Below ((w.alloc (.cells #[.int .i64 k, .int .i64 x, .string s, .slice a n c] 33)).alloc (.cells #[.int .i64 0, .int .i64 0, .string ⟨#[]⟩, .slice none 0 0] 33)).heap.size ((w.alloc (.cells #[.int .i64 k, .int .i64 x, .string s, .slice a n c] 33)).alloc (.cells #[.int .i64 0, .int .i64 0, .string ⟨#[]⟩, .slice none 0 0] 33)) w3 := by rw [World.size_alloc, World.size_alloc]; exact hb3
       have hbx := HX.out.on hb3'
       obtain ⟨⟨x0, x1, x2, x3⟩, g0, g1, g2, g3⟩ := hbx.cells
       obtain ⟨y0, y1, y2, y3⟩ := hbx.set3 (.slice a' nl c')
       have hs3 : Slot w3 (w.heap.size + 1) := HS.out.on hb3'
       have HS4 := Lib.hid (hs3.setOther (p := ⟨w.heap.size, 3, none⟩) (by show w.heap.size + 1 ≠ w.heap.size; omega) (.slice a' nl c'))
       obtain ⟨⟨c0, c1, c2, c3⟩, f0, f1, f2, f3⟩ := HS4.out.cells
       have HB4 := Lib.hid ((HB.out.trans (hb3'.mono (by simp; omega))).setCell (p := ⟨w.heap.size, 3, none⟩) (Nat.le_refl _) (.slice a' nl c'))
       have HN4 := Lib.hid (hnn.setOther hf ⟨w.heap.size, 3, none⟩ (.slice a' nl c') (by show w.heap.size < w.heap.size + 1 + 1; omega))
       have HF4 := Lib.hid hf
       clear hi hb3 hb3' hf hnn hs3 hbx hnl)
    | fail)
  (try simp only [Exit.inBlock, Exit.then])
  refine end_val rfl rfl rfl HS4.out ?_
  exact ⟨⟨s, a', nl, c', rfl, ⟨rfl, (HN4.out.set HF4.out (by omega) _ _ _ _).more (by simp)⟩, HF4.out.low (by omega)⟩, below_set HB4.out (by omega) _ _ _ _⟩

set_option maxHeartbeats 4000000 in
theorem refHold_any (a : Option Addr) (n c : Nat) (env : List (Str × Val)) (nm : ByteArray) (w : World) (bound : Nat) (hb : bound ≤ w.heap.size) (h : Binds w bound a n env) :
    Calls Try.prog 80 #[.slice a n c, .string nm] w (PairRet w (holdV env nm.toList)) := by
  have hb0 := (Below.refl w.heap.size w).alloc (Nat.le_refl _) (.cells #[.int .i64 0, .int .i64 0, .string ⟨#[]⟩, .slice none 0 0] 33)
  have HB := Lib.hid hb0
  have HS := Lib.hid (Slot.new w)
  have hsz := h.2.1
  have HL := Lib.hid h.1
  have HN := Lib.hid (h.below (hb0.mono hb))
  have HG := Lib.hid (show holdV env nm.toList = holdV (env.drop 0) nm.toList by rw [List.drop_zero])
  generalize holdV env nm.toList = R at HG ⊢
  clear h hb0
  go_enter Try.func80, Try.ntmps80
  go_wp2
  go_loop [6] (fun i => ∃ k : Nat, k ≤ n ∧ i = .int .i64 k ∧ Hid (R = holdV (env.drop k) nm.toList)) (fun i => n - (intOf i).toNat)
  case atStart => exact ⟨0, Nat.zero_le _, rfl, HG⟩
  case round =>
    obtain ⟨k, hk, rfl, HR⟩ := hrel
    by_cases hlt : k < n
    · obtain ⟨b, off, x, s, t, la, ln, lc, rfl, hbb, hx, ⟨q0, q1, q2, q3, q4⟩, hs, ht, hnums⟩ := HN.out.at_ hlt
      have hstep : holdV (env.drop k) nm.toList = if x.1 = nm.toList then (if mayV x.2 then (x.2, 0) else (zeroV, 402)) else holdV (env.drop (k + 1)) nm.toList := by
        obtain ⟨h1, e⟩ := List.getElem?_eq_some_iff.1 hx
        rw [List.drop_eq_getElem_cons h1, e]
        rfl
      rw [← hs] at hstep
      have q2' : (w.alloc (.cells #[.int .i64 0, .int .i64 0, .string ⟨#[]⟩, .slice none 0 0] 33)).cell? ⟨b, off + k * 5 + 1 + 1, none⟩ = some (.int .i64 x.2.num) := q2
      have q3' : (w.alloc (.cells #[.int .i64 0, .int .i64 0, .string ⟨#[]⟩, .slice none 0 0] 33)).cell? ⟨b, off + k * 5 + 1 + 2, none⟩ = some (.string t) := q3
      have q4' : (w.alloc (.cells #[.int .i64 0, .int .i64 0, .string ⟨#[]⟩, .slice none 0 0] 33)).cell? ⟨b, off + k * 5 + 1 + 3, none⟩ = some (.slice la ln lc) := q4
      cases hu : (s.toList == nm.toList)
      · have HZ := Lib.hid (HR.out.trans (hstep.trans (if_neg (fun e => by rw [beq_eq_false_iff_ne] at hu; exact hu e))))
        clear hstep hx hs ht hnums
        go_wp2_with fail
        go_round
        case rel => exact ⟨k + 1, by omega, by go_num, HZ⟩
        case measure => simp [intOf] <;> omega
      · have HZ := Lib.hid (HR.out.trans (hstep.trans (if_pos (eq_of_beq hu))))
        have cm := fun W (hW : Below (w.alloc (.cells #[.int .i64 0, .int .i64 0, .string ⟨#[]⟩, .slice none 0 0] 33)).heap.size (w.alloc (.cells #[.int .i64 0, .int .i64 0, .string ⟨#[]⟩, .slice none 0 0] 33)) W) => refDataMay_any x.2.kind x.2.num t la ln lc x.2.list W bound (hnums.below (hW.mono (by simp; omega)))
        rw [ht] at cm
        have HNU := Lib.hid hnums
        have HT := Lib.hid ht
        cases hm : mayV x.2
        · rw [hm] at HZ
          have hm' : mayV ⟨x.2.kind, x.2.num, x.2.text, x.2.list⟩ = false := hm
          rw [hm'] at cm
          have CM := Lib.hid cm
          have HZ2 := Lib.hid (show R = (zeroV, 402) by rw [HZ.out]; rfl)
          clear hstep hx hs ht hnums cm hm hm'
          go_wp2_with (first
            | (go_at_call 91; (with_reducible refine (CM.out _ (Below.refl _ _)).mono ?_)
               rintro e w2 ⟨rfl, hb2⟩
               have HS2 := Lib.hid (HS.out.on hb2)
               have HB2 := Lib.hid (below_on HB.out hb2)
               obtain ⟨⟨c0, c1, c2, c3⟩, f0, f1, f2, f3⟩ := HS2.out.cells
               clear hb2)
            | fail)
          (try simp only [Exit.inBlock, Exit.then])
          refine end_pair rfl rfl rfl HS2.out ?_
          exact PairRet.is (PairRet.flat0 (below_set HB2.out (Nat.le_refl _) _ _ _ _)) HZ2.out
        · rw [hm] at HZ
          have hm' : mayV ⟨x.2.kind, x.2.num, x.2.text, x.2.list⟩ = true := hm
          rw [hm'] at cm
          have CM := Lib.hid cm
          have HZ2 := Lib.hid (show R = (x.2, 0) by rw [HZ.out]; rfl)
          have hln : ln ≤ 16 := by have h1 := mayV_len hm; have := hnums.1; omega
          have CC := Lib.hid (fun W (hW : Below (w.alloc (.cells #[.int .i64 0, .int .i64 0, .string ⟨#[]⟩, .slice none 0 0] 33)).heap.size (w.alloc (.cells #[.int .i64 0, .int .i64 0, .string ⟨#[]⟩, .slice none 0 0] 33)) W) => refCopy_any x.2.kind x.2.num t la ln lc x.2.list W bound (by have := hW.size; simp at this; omega) (hnums.below (hW.mono (by simp; omega))) hln)
          have HQ := Lib.hid (And.intro q1 (And.intro q2 (And.intro q3 q4)))
          have HBB := Lib.hid (show b < (w.alloc (.cells #[.int .i64 0, .int .i64 0, .string ⟨#[]⟩, .slice none 0 0] 33)).heap.size by simp; omega)
          obtain ⟨xk, hxk⟩ : ∃ xk, xk = x.2.kind := ⟨_, rfl⟩
          obtain ⟨xn, hxn⟩ : ∃ xn, xn = x.2.num := ⟨_, rfl⟩
          rw [← hxk, ← hxn] at CM HQ CC
          rw [← hxk] at q1
          rw [← hxn] at q2 q2'
          have HX := Lib.hid (And.intro hxk hxn)
          clear hstep hx hs ht hnums cm hm hm' hxk hxn
          go_wp2_with (first
            | (go_at_call 91; (with_reducible refine (CM.out _ (Below.refl _ _)).mono ?_)
               rintro e w2 ⟨rfl, hb2⟩
               have HS2 := Lib.hid (HS.out.on hb2)
               have HB2 := Lib.hid hb2
               have r1 := (hb2.cell (p := ⟨b, off + k * 5 + 1, none⟩) HBB.out).trans HQ.out.1
               have r2 := (hb2.cell (p := ⟨b, off + k * 5 + 2, none⟩) HBB.out).trans HQ.out.2.1
               have r3 := (hb2.cell (p := ⟨b, off + k * 5 + 3, none⟩) HBB.out).trans HQ.out.2.2.1
               have r4 := (hb2.cell (p := ⟨b, off + k * 5 + 4, none⟩) HBB.out).trans HQ.out.2.2.2
               have r2' : w2.cell? ⟨b, off + k * 5 + 1 + 1, none⟩ = some (.int .i64 xn) := r2
               have r3' : w2.cell? ⟨b, off + k * 5 + 1 + 2, none⟩ = some (.string t) := r3
               have r4' : w2.cell? ⟨b, off + k * 5 + 1 + 3, none⟩ = some (.slice la ln lc) := r4
               clear hb2)
            | (go_at_call 92; (with_reducible refine (CC.out _ HB2.out).mono ?_)
               rintro e w3 ⟨⟨s', a', n', c', rfl, hv, hf⟩, hb3⟩
               have HS3 := Lib.hid (HS2.out.on hb3)
               have HB3 := Lib.hid (below_on (below_on HB.out HB2.out) hb3)
               have HV3 := Lib.hid hv
               have HF3 := Lib.hid hf
               have HSL := Lib.hid HS2.out.lt
               obtain ⟨⟨c0, c1, c2, c3⟩, f0, f1, f2, f3⟩ := HS3.out.cells
               clear hb3 hv hf)
            | fail)
          (try simp only [Exit.inBlock, Exit.then])
          refine end_pair rfl rfl rfl HS3.out ?_
          have hv := HV3.out
          rw [HT.out] at hv
          refine PairRet.is (r := (⟨xk, xn, x.2.text, x.2.list⟩, 0)) (PairRet.of_set HB3.out (Nat.le_refl _) HSL.out hv HF3.out) ?_
          rw [HZ2.out, HX.out.1, HX.out.2]
    · have HZ := Lib.hid (show R = (zeroV, 401) by
        rw [HR.out, List.drop_of_length_le (by have := HL.out; omega), holdV])
      go_wp2_with fail
      (try simp only [Exit.inBlock, Exit.then])
      refine bodyPost_ret (v := .tuple #[.agg #[.int .i64 0, .int .i64 0, .string ⟨#[]⟩, .slice none 0 0], .int .i64 401]) (by simp [results, go_sem]) rfl ?_
      exact PairRet.is (PairRet.flat0 HB.out) HZ.out
end Go.Proofs.Ythchilnibblbgaa

/- Contracts of the reference's leaf, one, divided, numbers and listed. -/
namespace Go.Proofs.Ythchilnibblbgaa
open Go.RowKit

/-- What is stored last is what a callee handed back, an error of one's own beside it. -/
theorem ValRet.pair {w w1 w2 : World} {R : Nat} {v : Val} {ev : Int} {s : ByteArray} {a : Option Addr} {n c : Nat} (hb : Below w.heap.size w w2) (hR : w.heap.size ≤ R) (hR1 : R < w1.heap.size) (hv : HasV w2 w2.heap.size v s a n) (hf : From w1.heap.size a n) :
    PairRet w (v, ev) (.returned (.tuple #[.agg #[.int .i64 v.kind, .int .i64 v.num, .string s, .slice a n c], .int .i64 ev])) ((((w2.setCell ⟨R, 0, none⟩ (.int .i64 v.kind)).setCell ⟨R, 1, none⟩ (.int .i64 v.num)).setCell ⟨R, 2, none⟩ (.string s)).setCell ⟨R, 3, none⟩ (.slice a n c)) :=
  PairRet.of_set (r := (v, ev)) hb hR hR1 hv hf
set_option maxHeartbeats 8000000 in
set_option maxRecDepth 20000 in
theorem refLeaf_any (k : Int) (nm : ByteArray) (x : Int) (tx : ByteArray) (l r : Int) (ea : Option Addr) (en ec : Nat) (env : List (Str × Val)) (w : World) (bound : Nat) (hb : bound ≤ w.heap.size) (h : Binds w bound ea en env) (hk : k = 0 ∨ k = 1 ∨ k = 2 ∨ k = 3 ∨ k = 4 ∨ k = 5) :
    Calls Try.prog 62 #[.agg #[.int .i64 k, .string nm, .int .i64 x, .string tx, .int .i64 l, .int .i64 r], .slice ea en ec] w (PairRet w (leafV env ⟨k, nm.toList, x, tx.toList, l, r⟩)) := by
  have hb0 := ((Below.refl w.heap.size w).alloc (Nat.le_refl _) (.cells #[.int .i64 k, .string nm, .int .i64 x, .string tx, .int .i64 l, .int .i64 r] 38)).alloc (by simp) (.cells #[.int .i64 0, .int .i64 0, .string ⟨#[]⟩, .slice none 0 0] 33)
  have HB := Lib.hid hb0
  have hs0 := Slot.new (w.alloc (.cells #[.int .i64 k, .string nm, .int .i64 x, .string tx, .int .i64 l, .int .i64 r] 38))
  rw [World.size_alloc] at hs0
  have HS := Lib.hid hs0
  have CH := Lib.hid (fun W (hW : Below w.heap.size w W) => refHold_any ea en ec env nm W bound (by have := hW.size; omega) (h.below (hW.mono hb)))
  obtain ⟨⟨c0, c1, c2, c3⟩, f0, f1, f2, f3⟩ := hs0.cells
  clear hs0 hb0 h
  rcases hk with rfl | rfl | rfl | rfl | rfl | rfl
  · have HG := Lib.hid (show leafV env ⟨0, nm.toList, x, tx.toList, l, r⟩ = holdV env nm.toList from rfl)
    generalize leafV env ⟨0, nm.toList, x, tx.toList, l, r⟩ = R at HG ⊢
    generalize holdV env nm.toList = q at HG CH
    go_enter Try.func62, Try.ntmps62
    go_wp2_with (first
      | (go_at_call 80; (with_reducible refine (CH.out _ HB.out).mono ?_)
         rintro e w3 ⟨⟨s', a', n', c', rfl, hv, hf⟩, hb3⟩
         have HS3 := Lib.hid (HS.out.on hb3)
         have HB3 := Lib.hid (below_on HB.out hb3)
         have HV3 := Lib.hid hv
         have HF3 := Lib.hid hf
         obtain ⟨⟨c0, c1, c2, c3⟩, f0, f1, f2, f3⟩ := HS3.out.cells
         clear hb3 hv hf)
      | fail)
    (try simp only [Exit.inBlock, Exit.then])
    refine end_pair rfl rfl rfl HS3.out ?_
    exact PairRet.is (PairRet.of_set HB3.out (by omega) HS.out.lt HV3.out HF3.out) HG.out
  · go_enter Try.func62, Try.ntmps62
    go_wp2_with (first
      | (go_at_call 81; (with_reducible refine (refNum_any _ _).mono ?_)
         rintro e w3 ⟨rfl, hb3⟩
         have HS3 := Lib.hid (HS.out.on hb3)
         have HB3 := Lib.hid (below_on HB.out hb3)
         obtain ⟨⟨c0, c1, c2, c3⟩, f0, f1, f2, f3⟩ := HS3.out.cells
         clear hb3)
      | fail)
    (try simp only [Exit.inBlock, Exit.then])
    refine end_pair rfl rfl rfl HS3.out ?_
    exact PairRet.is (PairRet.flat0 (below_set HB3.out (by omega) _ _ _ _)) rfl
  · have HG := Lib.hid (show leafV env ⟨2, nm.toList, x, tx.toList, l, r⟩ = (boolV (x == 1), 0) from rfl)
    generalize leafV env ⟨2, nm.toList, x, tx.toList, l, r⟩ = R at HG ⊢
    cases hx : (x == 1)
    all_goals
      rw [hx] at HG
      go_enter Try.func62, Try.ntmps62
      go_wp2_with (first
        | (go_at_call 82; (with_reducible refine (refTruth_any _ _).mono ?_)
           rintro e w3 ⟨rfl, hb3⟩
           have HS3 := Lib.hid (HS.out.on hb3)
           have HB3 := Lib.hid (below_on HB.out hb3)
           obtain ⟨⟨c0, c1, c2, c3⟩, f0, f1, f2, f3⟩ := HS3.out.cells
           clear hb3)
        | fail)
      (try simp only [Exit.inBlock, Exit.then])
      refine end_pair rfl rfl rfl HS3.out ?_
      exact PairRet.is (PairRet.flat0 (below_set HB3.out (by omega) _ _ _ _)) HG.out
  · have HG := Lib.hid (show leafV env ⟨3, nm.toList, x, tx.toList, l, r⟩ = (textV tx.toList, 0) from rfl)
    go_enter Try.func62, Try.ntmps62
    go_wp2_with fail
    (try simp only [Exit.inBlock, Exit.then])
    refine bodyPost_ret (v := .tuple #[.agg #[.int .i64 3, .int .i64 0, .string tx, .slice none 0 0], .int .i64 0]) (by simp [results, go_sem]) rfl ?_
    exact PairRet.is (PairRet.flat (((Below.refl w.heap.size w).alloc (Nat.le_refl _) _).alloc (by simp) _)) HG.out
  · go_enter Try.func62, Try.ntmps62
    go_wp2_with fail
    (try simp only [Exit.inBlock, Exit.then])
    refine bodyPost_ret (v := .tuple #[.agg #[.int .i64 4, .int .i64 0, .string ⟨#[]⟩, .slice none 0 0], .int .i64 0]) (by simp [results, go_sem]) rfl ?_
    exact PairRet.is (PairRet.flat0 (((Below.refl w.heap.size w).alloc (Nat.le_refl _) _).alloc (by simp) _)) rfl
  · go_enter Try.func62, Try.ntmps62
    go_wp2_with fail
    (try simp only [Exit.inBlock, Exit.then])
    refine bodyPost_ret (v := .tuple #[.agg #[.int .i64 0, .int .i64 0, .string ⟨#[]⟩, .slice none 0 0], .int .i64 0]) (by simp [results, go_sem]) rfl ?_
    exact PairRet.is (PairRet.flat0 (((Below.refl w.heap.size w).alloc (Nat.le_refl _) _).alloc (by simp) _)) rfl

set_option maxHeartbeats 8000000 in
set_option maxRecDepth 20000 in
theorem refOne_any (k : Int) (nm : ByteArray) (x : Int) (tx : ByteArray) (l r : Int) (vk vn : Int) (s : ByteArray) (a : Option Addr) (n c : Nat) (vl : List Int) (w : World) (bound : Nat) (h : Nums w bound a n vl) (hk : k = 15 ∨ k = 16) :
    Calls Try.prog 63 #[.agg #[.int .i64 k, .string nm, .int .i64 x, .string tx, .int .i64 l, .int .i64 r], .agg #[.int .i64 vk, .int .i64 vn, .string s, .slice a n c]] w (PairRet w (oneV k ⟨vk, vn, s.toList, vl⟩)) := by
  have HB := Lib.hid ((((Below.refl w.heap.size w).alloc (Nat.le_refl _) (.cells #[.int .i64 k, .string nm, .int .i64 x, .string tx, .int .i64 l, .int .i64 r] 38)).alloc (by simp) (.cells #[.int .i64 vk, .int .i64 vn, .string s, .slice a n c] 33)).alloc (by simp; omega) (.cells #[.int .i64 0, .int .i64 0, .string ⟨#[]⟩, .slice none 0 0] 33))
  have hs0 := Slot.new ((w.alloc (.cells #[.int .i64 k, .string nm, .int .i64 x, .string tx, .int .i64 l, .int .i64 r] 38)).alloc (.cells #[.int .i64 vk, .int .i64 vn, .string s, .slice a n c] 33))
  rw [World.size_alloc, World.size_alloc] at hs0
  have HS := Lib.hid hs0
  obtain ⟨⟨c0, c1, c2, c3⟩, f0, f1, f2, f3⟩ := hs0.cells
  have HLN := Lib.hid (lxLen s)
  have HVN := Lib.hid h.1
  have hnn := h.2.1
  clear hs0 h
  rcases hk with rfl | rfl
  · have HG := Lib.hid (show oneV 15 ⟨vk, vn, s.toList, vl⟩ = if vk = 2 then (boolV (vn == 0), 0) else (zeroV, 402) from rfl)
    generalize oneV 15 ⟨vk, vn, s.toList, vl⟩ = R at HG ⊢
    cases h2 : (vk == 2)
    · have HZ := Lib.hid (show R = (zeroV, 402) by rw [HG.out, if_neg (by rw [beq_eq_false_iff_ne] at h2; exact h2)])
      go_enter Try.func63, Try.ntmps63
      go_wp2_with fail
      (try simp only [Exit.inBlock, Exit.then])
      refine bodyPost_ret (v := .tuple #[.agg #[.int .i64 0, .int .i64 0, .string ⟨#[]⟩, .slice none 0 0], .int .i64 402]) (by simp [results, go_sem]) rfl ?_
      exact PairRet.is (PairRet.flat0 ((((Below.refl w.heap.size w).alloc (Nat.le_refl _) _).alloc (by simp) _).alloc (by simp; omega) _)) HZ.out
    · have HZ := Lib.hid (show R = (boolV (vn == 0), 0) by rw [HG.out, if_pos (eq_of_beq h2)])
      cases h0 : (vn == 0)
      all_goals
        rw [h0] at HZ
        go_enter Try.func63, Try.ntmps63
        go_wp2_with (first
          | (go_at_call 82; (with_reducible refine (refTruth_any _ _).mono ?_)
             rintro e w3 ⟨rfl, hb3⟩
             have HS3 := Lib.hid (HS.out.on hb3)
             have HB3 := Lib.hid (below_on HB.out hb3)
             obtain ⟨⟨c0, c1, c2, c3⟩, f0, f1, f2, f3⟩ := HS3.out.cells
             clear hb3)
          | fail)
        (try simp only [Exit.inBlock, Exit.then])
        refine end_pair rfl rfl rfl HS3.out ?_
        exact PairRet.is (PairRet.flat0 (below_set HB3.out (by omega) _ _ _ _)) HZ.out
  · have HG := Lib.hid (show oneV 16 ⟨vk, vn, s.toList, vl⟩ = if vk = 3 then (intV (s.toList.length : Int), 0) else if vk = 4 then (intV (vl.length : Int), 0) else (zeroV, 402) from rfl)
    generalize oneV 16 ⟨vk, vn, s.toList, vl⟩ = R at HG ⊢
    cases h3 : (vk == 3)
    · cases h4 : (vk == 4)
      · have HZ := Lib.hid (show R = (zeroV, 402) by rw [HG.out, if_neg (by rw [beq_eq_false_iff_ne] at h3; exact h3), if_neg (by rw [beq_eq_false_iff_ne] at h4; exact h4)])
        go_enter Try.func63, Try.ntmps63
        go_wp2_with fail
        (try simp only [Exit.inBlock, Exit.then])
        refine bodyPost_ret (v := .tuple #[.agg #[.int .i64 0, .int .i64 0, .string ⟨#[]⟩, .slice none 0 0], .int .i64 402]) (by simp [results, go_sem]) rfl ?_
        exact PairRet.is (PairRet.flat0 ((((Below.refl w.heap.size w).alloc (Nat.le_refl _) _).alloc (by simp) _).alloc (by simp; omega) _)) HZ.out
      · have HZ := Lib.hid (show R = (intV (n : Int), 0) by rw [HG.out, if_neg (by rw [beq_eq_false_iff_ne] at h3; exact h3), if_pos (eq_of_beq h4), HVN.out])
        go_enter Try.func63, Try.ntmps63
        go_wp2_with (first
          | (go_at_call 81; (with_reducible refine (refNum_any _ _).mono ?_)
             rintro e w3 ⟨rfl, hb3⟩
             have HS3 := Lib.hid (HS.out.on hb3)
             have HB3 := Lib.hid (below_on HB.out hb3)
             obtain ⟨⟨c0, c1, c2, c3⟩, f0, f1, f2, f3⟩ := HS3.out.cells
             clear hb3)
          | fail)
        (try simp only [Exit.inBlock, Exit.then])
        refine end_pair rfl rfl rfl HS3.out ?_
        exact PairRet.is (PairRet.flat0 (below_set HB3.out (by omega) _ _ _ _)) HZ.out
    · have HZ := Lib.hid (show R = (intV (s.size : Int), 0) by rw [HG.out, if_pos (eq_of_beq h3), HLN.out])
      go_enter Try.func63, Try.ntmps63
      go_wp2_with (first
        | (go_at_call 81; (with_reducible refine (refNum_any _ _).mono ?_)
           rintro e w3 ⟨rfl, hb3⟩
           have HS3 := Lib.hid (HS.out.on hb3)
           have HB3 := Lib.hid (below_on HB.out hb3)
           obtain ⟨⟨c0, c1, c2, c3⟩, f0, f1, f2, f3⟩ := HS3.out.cells
           clear hb3)
        | fail)
      (try simp only [Exit.inBlock, Exit.then])
      refine end_pair rfl rfl rfl HS3.out ?_
      exact PairRet.is (PairRet.flat0 (below_set HB3.out (by omega) _ _ _ _)) HZ.out
end Go.Proofs.Ythchilnibblbgaa

/- Contracts of the reference's divided, numbers and listed. -/
namespace Go.Proofs.Ythchilnibblbgaa
open Go.RowKit

theorem u_add (x y : Int) : wrap64 (IntKind.u64.wrap (IntKind.u64.wrap x + IntKind.u64.wrap y)) = wrap64 (x + y) := by simp only [IntKind.wrap_u64]; unfold wrap64; omega
theorem u_sub (x y : Int) : wrap64 (IntKind.u64.wrap (IntKind.u64.wrap x - IntKind.u64.wrap y)) = wrap64 (x - y) := by simp only [IntKind.wrap_u64]; unfold wrap64; omega
theorem u_neg (x : Int) : wrap64 (IntKind.u64.wrap (-IntKind.u64.wrap x)) = wrap64 (-x) := by simp only [IntKind.wrap_u64]; unfold wrap64; omega
theorem u_mul (x y : Int) : wrap64 (IntKind.u64.wrap (IntKind.u64.wrap x * IntKind.u64.wrap y)) = wrap64 (x * y) := by
  simp only [IntKind.wrap_u64]
  rw [← Int.mul_emod]
  generalize x * y = z
  unfold wrap64
  omega
theorem tdiv_m1 (x : Int) : x.tdiv (-1) = -x := by rw [Int.tdiv_neg, Int.tdiv_one]
theorem tmod_m1 (x : Int) : x.tmod (-1) = 0 := by rw [Int.tmod_neg, Int.tmod_one]

theorem next_alloc0 (W : World) (o : Obj) : Below W.heap.size W (W.alloc o) := (Below.refl _ W).alloc (Nat.le_refl _) o
set_option maxHeartbeats 4000000 in
theorem refDivided_any (k x y : Int) (w : World) (hk : k = 9 ∨ k = 10) : Calls Try.prog 93 #[.int .i64 k, .int .i64 x, .int .i64 y] w (PairRet w (calcV k x y)) := by
  have HB := Lib.hid ((Below.refl w.heap.size w).alloc (Nat.le_refl _) (.cells #[.int .i64 0, .int .i64 0, .string ⟨#[]⟩, .slice none 0 0] 33))
  have HS := Lib.hid (Slot.new w)
  obtain ⟨R, hR⟩ : ∃ R, calcV k x y = R := ⟨_, rfl⟩
  have HG := Lib.hid hR
  rw [hR]
  clear hR
  cases h0 : (y == 0)
  case true =>
    have HZ := Lib.hid (show R = (zeroV, 403) by
      rw [← HG.out]; unfold calcV
      rw [if_neg (by omega), if_neg (by omega), if_neg (by omega), if_neg (by omega), if_pos (eq_of_beq h0)])
    go_enter Try.func93, Try.ntmps93
    go_wp2_with fail
    (try simp only [Exit.inBlock, Exit.then])
    refine bodyPost_ret (v := .tuple #[.agg #[.int .i64 0, .int .i64 0, .string ⟨#[]⟩, .slice none 0 0], .int .i64 403]) (by simp [results, go_sem]) rfl ?_
    exact PairRet.is (PairRet.flat0 HB.out) HZ.out
  have hy0 : ¬ y = 0 := by rw [beq_eq_false_iff_ne] at h0; exact h0
  rcases hk with rfl | rfl
  · have HZ := Lib.hid (show R = (intV (wrap64 (x.tdiv y)), 0) by
      rw [← HG.out]; unfold calcV
      rw [if_neg (by omega), if_neg (by omega), if_neg (by omega), if_neg (by omega), if_neg hy0, if_pos rfl])
    cases h1 : (y == -1)
    · have hy1 : y ≠ 0 := hy0
      go_enter Try.func93, Try.ntmps93
      go_wp2_with (first
        | (go_at_call 81; (with_reducible refine (refNum_any _ _).mono ?_)
           rintro e w3 ⟨rfl, hb3⟩
           have HS3 := Lib.hid (HS.out.on hb3)
           have HB3 := Lib.hid (below_on HB.out hb3)
           obtain ⟨⟨c0, c1, c2, c3⟩, f0, f1, f2, f3⟩ := HS3.out.cells
           clear hb3)
        | fail)
      (try simp only [Exit.inBlock, Exit.then])
      refine end_pair rfl rfl rfl HS3.out ?_
      refine PairRet.is (PairRet.flat0 (below_set HB3.out (Nat.le_refl _) _ _ _ _)) (HZ.out.trans ?_)
      first
        | rfl
        | (unfold intV; fail)
    · obtain rfl := eq_of_beq h1
      rw [tdiv_m1] at HZ
      clear hy0 h0 h1
      go_enter Try.func93, Try.ntmps93
      go_wp2_with (first
        | (go_at_call 81; (with_reducible refine (refNum_any _ _).mono ?_)
           rintro e w3 ⟨rfl, hb3⟩
           have HS3 := Lib.hid (HS.out.on hb3)
           have HB3 := Lib.hid (below_on HB.out hb3)
           obtain ⟨⟨c0, c1, c2, c3⟩, f0, f1, f2, f3⟩ := HS3.out.cells
           clear hb3)
        | fail)
      (try simp only [Exit.inBlock, Exit.then])
      refine end_pair rfl rfl rfl HS3.out ?_
      refine PairRet.is (PairRet.flat0 (below_set HB3.out (Nat.le_refl _) _ _ _ _)) (HZ.out.trans ?_)
      first
        | rfl
        | (unfold intV; rw [u_neg])
  · have HZ := Lib.hid (show R = (intV (x.tmod y), 0) by
      rw [← HG.out]; unfold calcV
      rw [if_neg (by omega), if_neg (by omega), if_neg (by omega), if_neg (by omega), if_neg hy0, if_neg (by omega)])
    cases h1 : (y == -1)
    · have hy1 : y ≠ 0 := hy0
      go_enter Try.func93, Try.ntmps93
      go_wp2_with (first
        | (go_at_call 81; (with_reducible refine (refNum_any _ _).mono ?_)
           rintro e w3 ⟨rfl, hb3⟩
           have HS3 := Lib.hid (HS.out.on hb3)
           have HB3 := Lib.hid (below_on HB.out hb3)
           obtain ⟨⟨c0, c1, c2, c3⟩, f0, f1, f2, f3⟩ := HS3.out.cells
           clear hb3)
        | fail)
      (try simp only [Exit.inBlock, Exit.then])
      refine end_pair rfl rfl rfl HS3.out ?_
      refine PairRet.is (PairRet.flat0 (below_set HB3.out (Nat.le_refl _) _ _ _ _)) (HZ.out.trans ?_)
      first
        | rfl
        | (unfold intV; fail)
    · obtain rfl := eq_of_beq h1
      rw [tmod_m1] at HZ
      clear hy0 h0 h1
      go_enter Try.func93, Try.ntmps93
      go_wp2_with (first
        | (go_at_call 81; (with_reducible refine (refNum_any _ _).mono ?_)
           rintro e w3 ⟨rfl, hb3⟩
           have HS3 := Lib.hid (HS.out.on hb3)
           have HB3 := Lib.hid (below_on HB.out hb3)
           obtain ⟨⟨c0, c1, c2, c3⟩, f0, f1, f2, f3⟩ := HS3.out.cells
           clear hb3)
        | fail)
      (try simp only [Exit.inBlock, Exit.then])
      refine end_pair rfl rfl rfl HS3.out ?_
      refine PairRet.is (PairRet.flat0 (below_set HB3.out (Nat.le_refl _) _ _ _ _)) (HZ.out.trans ?_)
      first
        | rfl
        | (unfold intV; fail)
set_option maxHeartbeats 4000000 in
theorem refNumbers_any (k x y : Int) (w : World) (hk : k = 6 ∨ k = 7 ∨ k = 8 ∨ k = 12 ∨ k = 9 ∨ k = 10) : Calls Try.prog 84 #[.int .i64 k, .int .i64 x, .int .i64 y] w (PairRet w (calcV k x y)) := by
  have HB := Lib.hid ((Below.refl w.heap.size w).alloc (Nat.le_refl _) (.cells #[.int .i64 0, .int .i64 0, .string ⟨#[]⟩, .slice none 0 0] 33))
  have HS := Lib.hid (Slot.new w)
  rcases hk with rfl | rfl | rfl | rfl | hk
  · have HZ := Lib.hid (show calcV 6 x y = (intV (wrap64 (x + y)), 0) from rfl)
    go_enter Try.func84, Try.ntmps84
    go_wp2_with (first
      | (go_at_call 81; (with_reducible refine (refNum_any _ _).mono ?_)
         rintro e w3 ⟨rfl, hb3⟩
         have HS3 := Lib.hid (HS.out.on hb3)
         have HB3 := Lib.hid (below_on HB.out hb3)
         obtain ⟨⟨c0, c1, c2, c3⟩, f0, f1, f2, f3⟩ := HS3.out.cells
         clear hb3)
      | fail)
    (try simp only [Exit.inBlock, Exit.then])
    refine end_pair rfl rfl rfl HS3.out ?_
    refine PairRet.is (PairRet.flat0 (below_set HB3.out (Nat.le_refl _) _ _ _ _)) (HZ.out.trans ?_)
    first
      | rfl
      | (unfold intV; rw [u_add])
  · have HZ := Lib.hid (show calcV 7 x y = (intV (wrap64 (x - y)), 0) from rfl)
    go_enter Try.func84, Try.ntmps84
    go_wp2_with (first
      | (go_at_call 81; (with_reducible refine (refNum_any _ _).mono ?_)
         rintro e w3 ⟨rfl, hb3⟩
         have HS3 := Lib.hid (HS.out.on hb3)
         have HB3 := Lib.hid (below_on HB.out hb3)
         obtain ⟨⟨c0, c1, c2, c3⟩, f0, f1, f2, f3⟩ := HS3.out.cells
         clear hb3)
      | fail)
    (try simp only [Exit.inBlock, Exit.then])
    refine end_pair rfl rfl rfl HS3.out ?_
    refine PairRet.is (PairRet.flat0 (below_set HB3.out (Nat.le_refl _) _ _ _ _)) (HZ.out.trans ?_)
    first
      | rfl
      | (unfold intV; rw [u_sub])
  · have HZ := Lib.hid (show calcV 8 x y = (intV (wrap64 (x * y)), 0) from rfl)
    go_enter Try.func84, Try.ntmps84
    go_wp2_with (first
      | (go_at_call 81; (with_reducible refine (refNum_any _ _).mono ?_)
         rintro e w3 ⟨rfl, hb3⟩
         have HS3 := Lib.hid (HS.out.on hb3)
         have HB3 := Lib.hid (below_on HB.out hb3)
         obtain ⟨⟨c0, c1, c2, c3⟩, f0, f1, f2, f3⟩ := HS3.out.cells
         clear hb3)
      | fail)
    (try simp only [Exit.inBlock, Exit.then])
    refine end_pair rfl rfl rfl HS3.out ?_
    refine PairRet.is (PairRet.flat0 (below_set HB3.out (Nat.le_refl _) _ _ _ _)) (HZ.out.trans ?_)
    first
      | rfl
      | (unfold intV; rw [u_mul])
  · have HZ := Lib.hid (show calcV 12 x y = (boolV (decide (x < y)), 0) from rfl)
    generalize calcV 12 x y = R at HZ ⊢
    cases hlt : decide (x < y)
    all_goals
      rw [hlt] at HZ
      go_enter Try.func84, Try.ntmps84
      go_wp2_with (first
        | (go_at_call 82; (with_reducible refine (refTruth_any _ _).mono ?_)
           rintro e w3 ⟨rfl, hb3⟩
           have HS3 := Lib.hid (HS.out.on hb3)
           have HB3 := Lib.hid (below_on HB.out hb3)
           obtain ⟨⟨c0, c1, c2, c3⟩, f0, f1, f2, f3⟩ := HS3.out.cells
           clear hb3)
        | fail)
      (try simp only [Exit.inBlock, Exit.then])
      refine end_pair rfl rfl rfl HS3.out ?_
      exact PairRet.is (PairRet.flat0 (below_set HB3.out (Nat.le_refl _) _ _ _ _)) HZ.out
  · have CD := Lib.hid (fun W => refDivided_any k x y W hk)
    generalize calcV k x y = R at CD ⊢
    have k6 : (k == 6) = false := by rw [beq_eq_false_iff_ne]; omega
    have k7 : (k == 7) = false := by rw [beq_eq_false_iff_ne]; omega
    have k8 : (k == 8) = false := by rw [beq_eq_false_iff_ne]; omega
    have k12 : (k == 12) = false := by rw [beq_eq_false_iff_ne]; omega
    clear hk
    go_enter Try.func84, Try.ntmps84
    go_wp2_with (first
      | (go_at_call 93; (with_reducible refine (CD.out _).mono ?_)
         rintro e w3 ⟨⟨s', a', n', c', rfl, hv, hf⟩, hb3⟩
         have HS3 := Lib.hid (HS.out.on hb3)
         have HB3 := Lib.hid (below_on HB.out hb3)
         have HV3 := Lib.hid hv
         have HF3 := Lib.hid hf
         obtain ⟨⟨c0, c1, c2, c3⟩, f0, f1, f2, f3⟩ := HS3.out.cells
         clear hb3 hv hf)
      | fail)
    (try simp only [Exit.inBlock, Exit.then])
    refine end_pair rfl rfl rfl HS3.out ?_
    exact PairRet.of_set HB3.out (Nat.le_refl _) HS.out.lt HV3.out HF3.out
set_option maxHeartbeats 4000000 in
theorem refListed_any (k x : Int) (a : Option Addr) (n c : Nat) (l : List Int) (w : World) (bound : Nat) (hb : bound ≤ w.heap.size) (h : Nums w bound a n l) (hn : n ≤ 16) (hk : k = 17 ∨ k = 18) :
    Calls Try.prog 83 #[.int .i64 k, .slice a n c, .int .i64 x] w (PairRet w (if k = 17 then elemV l x else pushV l x)) := by
  have HB := Lib.hid ((Below.refl w.heap.size w).alloc (Nat.le_refl _) (.cells #[.int .i64 0, .int .i64 0, .string ⟨#[]⟩, .slice none 0 0] 33))
  have HS := Lib.hid (Slot.new w)
  have HN := Lib.hid (h.below (((next_alloc0 w (.cells #[.int .i64 0, .int .i64 0, .string ⟨#[]⟩, .slice none 0 0] 33))).mono hb))
  have hl := h.1
  have HL := Lib.hid hl
  rcases hk with rfl | rfl
  · have HG := Lib.hid (show (if (17 : Int) = 17 then elemV l x else pushV l x) = (if 0 ≤ x ∧ x < l.length then (intV (l.getD x.toNat 0), 0) else (zeroV, 404)) by rw [if_pos rfl]; rfl)
    generalize (if (17 : Int) = 17 then elemV l x else pushV l x) = R at HG ⊢
    by_cases hx0 : x < 0
    · have HZ := Lib.hid (show R = (zeroV, 404) by rw [HG.out, if_neg (by omega)])
      clear h hl
      go_enter Try.func83, Try.ntmps83
      go_wp2_with fail
      (try simp only [Exit.inBlock, Exit.then])
      refine bodyPost_ret (v := .tuple #[.agg #[.int .i64 0, .int .i64 0, .string ⟨#[]⟩, .slice none 0 0], .int .i64 404]) (by simp [results, go_sem]) rfl ?_
      exact PairRet.is (PairRet.flat0 HB.out) HZ.out
    by_cases hxn : (n : Int) ≤ x
    · have HZ := Lib.hid (show R = (zeroV, 404) by rw [HG.out, if_neg (by omega)])
      clear h hl
      go_enter Try.func83, Try.ntmps83
      go_wp2_with fail
      (try simp only [Exit.inBlock, Exit.then])
      refine bodyPost_ret (v := .tuple #[.agg #[.int .i64 0, .int .i64 0, .string ⟨#[]⟩, .slice none 0 0], .int .i64 404]) (by simp [results, go_sem]) rfl ?_
      exact PairRet.is (PairRet.flat0 HB.out) HZ.out
    obtain ⟨j, rfl⟩ : ∃ j : Nat, x = (j : Int) := ⟨x.toNat, by omega⟩
    have hjn : j < n := by omega
    obtain ⟨b, off, y, rfl, hbb, hy, q0⟩ := HN.out.at_ hjn
    have HZ := Lib.hid (show R = (intV y, 0) by
      rw [HG.out, if_pos ⟨by omega, by omega⟩, Int.toNat_natCast, List.getD_eq_getElem?_getD, hy]; rfl)
    clear h hl hy
    go_enter Try.func83, Try.ntmps83
    go_wp2_with (first
      | (go_at_call 81; (with_reducible refine (refNum_any _ _).mono ?_)
         rintro e w3 ⟨rfl, hb3⟩
         have HS3 := Lib.hid (HS.out.on hb3)
         have HB3 := Lib.hid (below_on HB.out hb3)
         obtain ⟨⟨c0, c1, c2, c3⟩, f0, f1, f2, f3⟩ := HS3.out.cells
         clear hb3)
      | fail)
    (try simp only [Exit.inBlock, Exit.then])
    refine end_pair rfl rfl rfl HS3.out ?_
    exact PairRet.is (PairRet.flat0 (below_set HB3.out (Nat.le_refl _) _ _ _ _)) HZ.out
  · have HG := Lib.hid (show (if (18 : Int) = 17 then elemV l x else pushV l x) = (if 16 ≤ l.length then (zeroV, 405) else (listV (l ++ [x]), 0)) by rw [if_neg (by decide)]; rfl)
    generalize (if (18 : Int) = 17 then elemV l x else pushV l x) = R at HG ⊢
    by_cases h16 : 16 ≤ n
    · have HZ := Lib.hid (show R = (zeroV, 405) by rw [HG.out, if_pos (by omega)])
      clear h hl
      go_enter Try.func83, Try.ntmps83
      go_wp2_with fail
      (try simp only [Exit.inBlock, Exit.then])
      refine bodyPost_ret (v := .tuple #[.agg #[.int .i64 0, .int .i64 0, .string ⟨#[]⟩, .slice none 0 0], .int .i64 405]) (by simp [results, go_sem]) rfl ?_
      exact PairRet.is (PairRet.flat0 HB.out) HZ.out
    have HZ := Lib.hid (show R = (listV (l ++ [x]), 0) by rw [HG.out, if_neg (by omega)])
    have HLEN := Lib.hid (show ([] : List Int).length + n ≤ 7000000000000 by simp only [List.length_nil]; omega)
    have HLE := Lib.hid (show ([] ++ l : List Int).length ≤ 1000000000000 by rw [List.nil_append]; omega)
    clear h hl
    go_enter Try.func83, Try.ntmps83
    go_wp2_with (first
      | (at_builtin
         refine wpList_append_nums rfl (.const (.slice none 0 0)) (.tmp 28) rfl (w.heap.size + 1) _ [] a n c l bound rfl rfl (Ints.zero _ _) HN.out (by simp) HLEN.out (w.alloc (.cells #[.int .i64 0, .int .i64 0, .string ⟨#[]⟩, .slice none 0 0] 33)) (Below.refl _ _) ?_
         intro v' w3 hi hb3
         have HI := Lib.hid hi
         have HB3 := Lib.hid hb3
         clear hi hb3)
      | (at_builtin
         refine wpList_append_ints rfl (.tmp 29) (.tmp 31) rfl (w.heap.size + 1) v' ([] ++ l) x rfl rfl rfl rfl HI.out (by have := HB3.out.size; simp at this; omega) HLE.out (w.alloc (.cells #[.int .i64 0, .int .i64 0, .string ⟨#[]⟩, .slice none 0 0] 33)) HB3.out ?_
         intro v4 w4 hi hb4
         rw [List.nil_append] at hi
         obtain ⟨a', c', rfl, _, _, hf, hnn⟩ := hi.sees
         obtain ⟨nl, hnl⟩ : ∃ nl, nl = (l ++ [x]).length := ⟨_, rfl⟩
         rw [← hnl] at hf hnn ⊢
         have hb4' : Below (w.alloc (.cells #[.int .i64 0, .int .i64 0, .string ⟨#[]⟩, .slice none 0 0] 33)).heap.size (w.alloc (.cells #[.int .i64 0, .int .i64 0, .string ⟨#[]⟩, .slice none 0 0] 33)) w4 := by rw [World.size_alloc]; exact hb4
         have HS4 := Lib.hid (HS.out.on hb4')
         obtain ⟨⟨c0, c1, c2, c3⟩, f0, f1, f2, f3⟩ := HS4.out.cells
         have HB4 := Lib.hid (below_on HB.out hb4')
         have HN4 := Lib.hid hnn
         have HF4 := Lib.hid hf
         clear hi hb4 hb4' hf hnn hnl)
      | fail)
    (try simp only [Exit.inBlock, Exit.then])
    refine end_pair rfl rfl rfl HS4.out ?_
    rw [HZ.out]
    exact ⟨⟨_, a', nl, c', rfl, ⟨empty_toList, (HN4.out.set HF4.out (by omega) _ _ _ _).more (by simp)⟩, HF4.out.low (by omega)⟩, below_set HB4.out (Nat.le_refl _) _ _ _ _⟩
end Go.Proofs.Ythchilnibblbgaa
