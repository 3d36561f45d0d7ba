/- Contracts of the reference's rules for values: which are valid, which are the same, which comes before which. -/
import Derived.Test.YtnanfmmafmcchaaGreatDoorDtMay
import Derived.Test.YtnanfmmafmcchaaGreatDoorDtBox
namespace Go.Proofs.YtnanfmmafmcchaaGreatDoor
open Go.RowKit

set_option maxHeartbeats 4000000 in
set_option maxRecDepth 20000 in
theorem refMay_any (k x : Int) (s : ByteArray) (a : Option Addr) (n c : Nat) (l : List Int) (w : World) (bound : Nat) (h : Nums w bound a n l) :
    Calls Tryz.prog 12 #[.agg #[.int .i64 k, .int .i64 x, .string s, .slice a n c]] w fun e w' => e = .returned (.bool (mayV ⟨k, x, s.toList, l⟩)) ∧ Below w.heap.size w w' := by
  have HB := Lib.hid ((Below.refl w.heap.size w).alloc (Nat.le_refl _) (.cells #[.int .i64 k, .int .i64 x, .string s, .slice a n c] 24))
  have hn := h.1
  have en : ((n : Int) == 0) = l.isEmpty := by
    cases l with
    | nil => simp at hn; subst hn; rfl
    | cons y l => simp at hn; rw [beq_eq_false_iff_ne.2 (by omega)]; rfl
  clear h
  cases z0 : (k == 0)
  · skip
    cases z1 : (k == 1)
    · skip
      cases z2 : (k == 2)
      · skip
        cases z3 : (k == 3)
        · skip
          cases z4 : (k == 4)
          · skip
            cases z5 : (k == 5)
            · skip
              have HF := Lib.hid (may6 x s.toList l z0 z1 z2 z3 z4 z5)
              clear en hn
              go_enter Tryz.func12, Tryz.ntmps12
              go_wp2
              go_ret
              exact ⟨ret_bool HF.out.symm, HB.out⟩
            · skip
              obtain rfl := eq_of_beq z5
              clear z0 z1 z2 z3 z4 z5
              have hmv : mayV ⟨5, x, s.toList, l⟩ = (!s.toList.isEmpty && decide (0 ≤ x) && decide (x < 5) && l.isEmpty) := rfl
              clear hn
              cases f1 : s.toList.isEmpty
              · skip
                cases f2 : decide (0 ≤ x)
                · skip
                  have HF := Lib.hid (show mayV ⟨5, x, s.toList, l⟩ = false by rw [hmv, f1, f2]; rfl)
                  clear hmv
                  go_enter Tryz.func12, Tryz.ntmps12
                  go_wp2
                  go_ret
                  exact ⟨ret_bool HF.out.symm, HB.out⟩
                · skip
                  cases f3 : decide (x < 5)
                  · skip
                    have HF := Lib.hid (show mayV ⟨5, x, s.toList, l⟩ = false by rw [hmv, f1, f2, f3]; rfl)
                    clear hmv
                    go_enter Tryz.func12, Tryz.ntmps12
                    go_wp2
                    go_ret
                    exact ⟨ret_bool HF.out.symm, HB.out⟩
                  · skip
                    cases f4 : l.isEmpty
                    · skip
                      rw [f4] at en
                      have HF := Lib.hid (show mayV ⟨5, x, s.toList, l⟩ = false by rw [hmv, f1, f2, f3, f4]; rfl)
                      clear hmv
                      go_enter Tryz.func12, Tryz.ntmps12
                      go_wp2
                      go_ret
                      exact ⟨ret_bool HF.out.symm, HB.out⟩
                    · skip
                      rw [f4] at en
                      have HF := Lib.hid (show mayV ⟨5, x, s.toList, l⟩ = true by rw [hmv, f1, f2, f3, f4]; rfl)
                      clear hmv
                      go_enter Tryz.func12, Tryz.ntmps12
                      go_wp2
                      go_ret
                      exact ⟨ret_bool HF.out.symm, HB.out⟩
              · skip
                have HF := Lib.hid (show mayV ⟨5, x, s.toList, l⟩ = false by rw [hmv, f1]; rfl)
                clear hmv
                go_enter Tryz.func12, Tryz.ntmps12
                go_wp2
                go_ret
                exact ⟨ret_bool HF.out.symm, HB.out⟩
          · skip
            obtain rfl := eq_of_beq z4
            clear z0 z1 z2 z3 z4
            have hmv : mayV ⟨4, x, s.toList, l⟩ = ((x == 0) && s.toList.isEmpty && decide (l.length ≤ 16)) := rfl
            have hd : decide (l.length ≤ 16) = decide ((n : Int) ≤ 16) := by rw [hn, decide_eq_decide]; omega
            rw [hd] at hmv
            clear hd
            clear hn en
            cases f1 : (x == 0)
            · skip
              have HF := Lib.hid (show mayV ⟨4, x, s.toList, l⟩ = false by rw [hmv, f1]; rfl)
              clear hmv
              go_enter Tryz.func12, Tryz.ntmps12
              go_wp2
              go_ret
              exact ⟨ret_bool HF.out.symm, HB.out⟩
            · skip
              cases f2 : s.toList.isEmpty
              · skip
                have HF := Lib.hid (show mayV ⟨4, x, s.toList, l⟩ = false by rw [hmv, f1, f2]; rfl)
                clear hmv
                go_enter Tryz.func12, Tryz.ntmps12
                go_wp2
                go_ret
                exact ⟨ret_bool HF.out.symm, HB.out⟩
              · skip
                cases f3 : decide ((n : Int) ≤ 16)
                · skip
                  have HF := Lib.hid (show mayV ⟨4, x, s.toList, l⟩ = false by rw [hmv, f1, f2, f3]; rfl)
                  clear hmv
                  go_enter Tryz.func12, Tryz.ntmps12
                  go_wp2
                  go_ret
                  exact ⟨ret_bool HF.out.symm, HB.out⟩
                · skip
                  have HF := Lib.hid (show mayV ⟨4, x, s.toList, l⟩ = true by rw [hmv, f1, f2, f3]; rfl)
                  clear hmv
                  go_enter Tryz.func12, Tryz.ntmps12
                  go_wp2
                  go_ret
                  exact ⟨ret_bool HF.out.symm, HB.out⟩
        · skip
          obtain rfl := eq_of_beq z3
          clear z0 z1 z2 z3
          have hmv : mayV ⟨3, x, s.toList, l⟩ = ((x == 0) && decide (s.toList.length ≤ 24) && l.isEmpty) := rfl
          have hd : decide (s.toList.length ≤ 24) = decide ((s.size : Int) ≤ 24) := by rw [lxLen, decide_eq_decide]; omega
          rw [hd] at hmv
          clear hd
          clear hn
          cases f1 : (x == 0)
          · skip
            have HF := Lib.hid (show mayV ⟨3, x, s.toList, l⟩ = false by rw [hmv, f1]; rfl)
            clear hmv
            go_enter Tryz.func12, Tryz.ntmps12
            go_wp2
            go_ret
            exact ⟨ret_bool HF.out.symm, HB.out⟩
          · skip
            cases f2 : decide ((s.size : Int) ≤ 24)
            · skip
              have HF := Lib.hid (show mayV ⟨3, x, s.toList, l⟩ = false by rw [hmv, f1, f2]; rfl)
              clear hmv
              go_enter Tryz.func12, Tryz.ntmps12
              go_wp2
              go_ret
              exact ⟨ret_bool HF.out.symm, HB.out⟩
            · skip
              cases f3 : l.isEmpty
              · skip
                rw [f3] at en
                have HF := Lib.hid (show mayV ⟨3, x, s.toList, l⟩ = false by rw [hmv, f1, f2, f3]; rfl)
                clear hmv
                go_enter Tryz.func12, Tryz.ntmps12
                go_wp2
                go_ret
                exact ⟨ret_bool HF.out.symm, HB.out⟩
              · skip
                rw [f3] at en
                have HF := Lib.hid (show mayV ⟨3, x, s.toList, l⟩ = true by rw [hmv, f1, f2, f3]; rfl)
                clear hmv
                go_enter Tryz.func12, Tryz.ntmps12
                go_wp2
                go_ret
                exact ⟨ret_bool HF.out.symm, HB.out⟩
      · skip
        obtain rfl := eq_of_beq z2
        clear z0 z1 z2
        have hmv : mayV ⟨2, x, s.toList, l⟩ = ((x == 0 || x == 1) && s.toList.isEmpty && l.isEmpty) := rfl
        clear hn
        cases f0 : (x == 0)
        · skip
          cases f1 : (x == 1)
          · skip
            have HF := Lib.hid (show mayV ⟨2, x, s.toList, l⟩ = false by rw [hmv, f0, f1]; rfl)
            clear hmv
            go_enter Tryz.func12, Tryz.ntmps12
            go_wp2
            go_ret
            exact ⟨ret_bool HF.out.symm, HB.out⟩
          · skip
            cases f2 : s.toList.isEmpty
            · skip
              have HF := Lib.hid (show mayV ⟨2, x, s.toList, l⟩ = false by rw [hmv, f0, f1, f2]; rfl)
              clear hmv
              go_enter Tryz.func12, Tryz.ntmps12
              go_wp2
              go_ret
              exact ⟨ret_bool HF.out.symm, HB.out⟩
            · skip
              cases f3 : l.isEmpty
              · skip
                rw [f3] at en
                have HF := Lib.hid (show mayV ⟨2, x, s.toList, l⟩ = false by rw [hmv, f0, f1, f2, f3]; rfl)
                clear hmv
                go_enter Tryz.func12, Tryz.ntmps12
                go_wp2
                go_ret
                exact ⟨ret_bool HF.out.symm, HB.out⟩
              · skip
                rw [f3] at en
                have HF := Lib.hid (show mayV ⟨2, x, s.toList, l⟩ = true by rw [hmv, f0, f1, f2, f3]; rfl)
                clear hmv
                go_enter Tryz.func12, Tryz.ntmps12
                go_wp2
                go_ret
                exact ⟨ret_bool HF.out.symm, HB.out⟩
        · skip
          cases f2 : s.toList.isEmpty
          · skip
            have HF := Lib.hid (show mayV ⟨2, x, s.toList, l⟩ = false by rw [hmv, f0, f2]; rfl)
            clear hmv
            go_enter Tryz.func12, Tryz.ntmps12
            go_wp2
            go_ret
            exact ⟨ret_bool HF.out.symm, HB.out⟩
          · skip
            cases f3 : l.isEmpty
            · skip
              rw [f3] at en
              have HF := Lib.hid (show mayV ⟨2, x, s.toList, l⟩ = false by rw [hmv, f0, f2, f3]; rfl)
              clear hmv
              go_enter Tryz.func12, Tryz.ntmps12
              go_wp2
              go_ret
              exact ⟨ret_bool HF.out.symm, HB.out⟩
            · skip
              rw [f3] at en
              have HF := Lib.hid (show mayV ⟨2, x, s.toList, l⟩ = true by rw [hmv, f0, f2, f3]; rfl)
              clear hmv
              go_enter Tryz.func12, Tryz.ntmps12
              go_wp2
              go_ret
              exact ⟨ret_bool HF.out.symm, HB.out⟩
    · skip
      obtain rfl := eq_of_beq z1
      clear z0 z1
      have hmv : mayV ⟨1, x, s.toList, l⟩ = (s.toList.isEmpty && l.isEmpty) := rfl
      clear hn
      cases f2 : s.toList.isEmpty
      · skip
        have HF := Lib.hid (show mayV ⟨1, x, s.toList, l⟩ = false by rw [hmv, f2]; rfl)
        clear hmv
        go_enter Tryz.func12, Tryz.ntmps12
        go_wp2
        go_ret
        exact ⟨ret_bool HF.out.symm, HB.out⟩
      · skip
        cases f3 : l.isEmpty
        · skip
          rw [f3] at en
          have HF := Lib.hid (show mayV ⟨1, x, s.toList, l⟩ = false by rw [hmv, f2, f3]; rfl)
          clear hmv
          go_enter Tryz.func12, Tryz.ntmps12
          go_wp2
          go_ret
          exact ⟨ret_bool HF.out.symm, HB.out⟩
        · skip
          rw [f3] at en
          have HF := Lib.hid (show mayV ⟨1, x, s.toList, l⟩ = true by rw [hmv, f2, f3]; rfl)
          clear hmv
          go_enter Tryz.func12, Tryz.ntmps12
          go_wp2
          go_ret
          exact ⟨ret_bool HF.out.symm, HB.out⟩
  · skip
    obtain rfl := eq_of_beq z0
    clear z0
    have hmv : mayV ⟨0, x, s.toList, l⟩ = ((x == 0) && s.toList.isEmpty && l.isEmpty) := rfl
    clear hn
    cases f1 : (x == 0)
    · skip
      have HF := Lib.hid (show mayV ⟨0, x, s.toList, l⟩ = false by rw [hmv, f1]; rfl)
      clear hmv
      go_enter Tryz.func12, Tryz.ntmps12
      go_wp2
      go_ret
      exact ⟨ret_bool HF.out.symm, HB.out⟩
    · skip
      cases f2 : s.toList.isEmpty
      · skip
        have HF := Lib.hid (show mayV ⟨0, x, s.toList, l⟩ = false by rw [hmv, f1, f2]; rfl)
        clear hmv
        go_enter Tryz.func12, Tryz.ntmps12
        go_wp2
        go_ret
        exact ⟨ret_bool HF.out.symm, HB.out⟩
      · skip
        cases f3 : l.isEmpty
        · skip
          rw [f3] at en
          have HF := Lib.hid (show mayV ⟨0, x, s.toList, l⟩ = false by rw [hmv, f1, f2, f3]; rfl)
          clear hmv
          go_enter Tryz.func12, Tryz.ntmps12
          go_wp2
          go_ret
          exact ⟨ret_bool HF.out.symm, HB.out⟩
        · skip
          rw [f3] at en
          have HF := Lib.hid (show mayV ⟨0, x, s.toList, l⟩ = true by rw [hmv, f1, f2, f3]; rfl)
          clear hmv
          go_enter Tryz.func12, Tryz.ntmps12
          go_wp2
          go_ret
          exact ⟨ret_bool HF.out.symm, HB.out⟩

theorem drew3 (w : World) (a b c : Nat) : ((w.drewN a).drewN b).drewN c = w.drewN (a + b + c) := by rw [World.drewN_drewN, World.drewN_drewN, Nat.add_assoc]
theorem sameN_len : ∀ {l m : List Int}, l.length ≠ m.length → sameN l m = false
  | [], [], h => absurd rfl h
  | [], _ :: _, _ => rfl
  | _ :: _, [], _ => rfl
  | x :: xs, y :: ys, h => by
    rw [sameN, sameN_len (l := xs) (m := ys) (by simpa using h), Bool.and_false]
theorem sameN_at {l1 l2 : List Int} {k : Nat} {x y : Int} (hx : l1[k]? = some x) (hy : l2[k]? = some y) : sameN (l1.drop k) (l2.drop k) = (x == y && sameN (l1.drop (k + 1)) (l2.drop (k + 1))) := by
  rw [drop_at hx, drop_at hy, sameN]
theorem lessN_at {l1 l2 : List Int} {k : Nat} {x y : Int} (hx : l1[k]? = some x) (hy : l2[k]? = some y) : lessN (l1.drop k) (l2.drop k) = if x = y then lessN (l1.drop (k + 1)) (l2.drop (k + 1)) else decide (x < y) := by
  rw [drop_at hx, drop_at hy, lessN]
theorem lessN_end {l1 l2 : List Int} {k : Nat} (h : (l1.length = k ∧ k ≤ l2.length) ∨ (l2.length = k ∧ k ≤ l1.length)) : lessN (l1.drop k) (l2.drop k) = decide (l1.length < l2.length) := by
  rcases h with ⟨h1, h2⟩ | ⟨h1, h2⟩
  · rw [List.drop_of_length_le (l := l1) (by omega)]
    rcases Nat.eq_or_lt_of_le h2 with h | h
    · rw [List.drop_of_length_le (by omega), decide_eq_false (by omega), lessN]
    · rw [List.drop_eq_getElem_cons h, decide_eq_true (by omega), lessN]
  · rw [List.drop_of_length_le (l := l2) (by omega), decide_eq_false (by omega)]
    cases l1.drop k <;> rfl

set_option maxHeartbeats 2000000 in
theorem refSameNums_any (a b : Option Addr) (n m ca cb : Nat) (l1 l2 : List Int) (w : World) (bound : Nat) (ha : Nums w bound a n l1) (hb : Nums w bound b m l2) :
    Calls Tryz.prog 26 #[.slice a n ca, .slice b m cb] w fun e w' => e = .returned (.bool (sameN l1 l2)) ∧ ∃ q, w' = w.drewN q := by
  have hn := ha.1
  have hm := hb.1
  have hsn := ha.2.1
  have hsm := hb.2.1
  have HA := Lib.hid ha
  have HB := Lib.hid hb
  clear ha hb
  by_cases hnm : n = m
  · subst hnm
    have HN := Lib.hid hn
    have HM := Lib.hid hm
    clear hn hm
    go_enter Tryz.func26, Tryz.ntmps26
    go_wp2
    go_loopw [5] (fun i wr => ∃ k : Nat, k ≤ n ∧ i = .int .i64 k ∧ Hid (sameN l1 l2 = sameN (l1.drop k) (l2.drop k)) ∧ ∃ q, wr = w.drewN q) (fun i _ => n - (intOf i).toNat)
    case atStart => exact ⟨0, Nat.zero_le _, rfl, Lib.hid rfl, 0, rfl⟩
    case round =>
      obtain ⟨k, hk, rfl, hrel', q, rfl⟩ := hrel
      by_cases hlt : k < n
      · obtain ⟨b1, o1, x, rfl, _, hx, x0⟩ := HA.out.at_ hlt
        obtain ⟨b2, o2, y, rfl, _, hy, y0⟩ := HB.out.at_ hlt
        have HS := Lib.hid (sameN_at hx hy)
        clear hx hy
        cases c1 : (x == y)
        · have n1 : (x != y) = true := by unfold bne; rw [c1]; rfl
          have HF := Lib.hid (show sameN l1 l2 = false by rw [hrel'.out, HS.out, c1]; rfl)
          go_wp2
          go_quiet (fail)
          go_wp2
          go_ret
          exact ⟨ret_bool (by rw [HF.out]), q + nq, World.drewN_drewN _ _ _⟩
        · have n1 : (x != y) = false := by unfold bne; rw [c1]; rfl
          have HF := Lib.hid (show sameN l1 l2 = sameN (l1.drop (k + 1)) (l2.drop (k + 1)) by rw [hrel'.out, HS.out, c1]; rfl)
          go_wp2
          go_quiet (fail)
          go_wp2
          go_roundw
          case rel => exact ⟨k + 1, by omega, by go_num, HF, q + nq, rfl⟩
          case measure => simp [intOf]; omega
      · have HF := Lib.hid (show sameN l1 l2 = true by
          rw [hrel'.out, List.drop_of_length_le (by rw [HN.out]; omega), List.drop_of_length_le (by rw [HM.out]; omega)]; rfl)
        go_wp2
        go_ret
        exact ⟨ret_bool (by rw [HF.out]), q, rfl⟩
  · have hne : ((n : Int) != (m : Int)) = true := by rw [bne_iff_ne]; omega
    have HF := Lib.hid (show sameN l1 l2 = false from sameN_len (by rw [hn, hm]; exact hnm))
    clear hn hm
    go_enter Tryz.func26, Tryz.ntmps26
    go_wp2
    go_ret
    exact ⟨ret_bool (by rw [HF.out]), 0, rfl⟩

set_option maxHeartbeats 2000000 in
theorem refLessNums_any (a b : Option Addr) (n m ca cb : Nat) (l1 l2 : List Int) (w : World) (bound : Nat) (ha : Nums w bound a n l1) (hb : Nums w bound b m l2) :
    Calls Tryz.prog 27 #[.slice a n ca, .slice b m cb] w fun e w' => e = .returned (.bool (lessN l1 l2)) ∧ ∃ q, w' = w.drewN q := by
  have hn := ha.1
  have hm := hb.1
  have hsn := ha.2.1
  have hsm := hb.2.1
  have HA := Lib.hid ha
  have HB := Lib.hid hb
  have HN := Lib.hid hn
  have HM := Lib.hid hm
  clear ha hb hn hm
  go_enter Tryz.func27, Tryz.ntmps27
  go_wp2
  go_loopw [5] (fun i wr => ∃ k : Nat, k ≤ n ∧ k ≤ m ∧ i = .int .i64 k ∧ Hid (lessN l1 l2 = lessN (l1.drop k) (l2.drop k)) ∧ ∃ q, wr = w.drewN q) (fun i _ => n - (intOf i).toNat)
  case atStart => exact ⟨0, Nat.zero_le _, Nat.zero_le _, rfl, Lib.hid rfl, 0, rfl⟩
  case round =>
    obtain ⟨k, hk, hkm, rfl, hrel', q, rfl⟩ := hrel
    by_cases hlt : k < n
    · have f1 : decide (k < n) = true := decide_eq_true hlt
      by_cases hlm : k < m
      · have f2 : decide (k < m) = true := decide_eq_true hlm
        obtain ⟨b1, o1, x, rfl, _, hx, x0⟩ := HA.out.at_ hlt
        obtain ⟨b2, o2, y, rfl, _, hy, y0⟩ := HB.out.at_ hlm
        have HS := Lib.hid (lessN_at hx hy)
        clear hx hy
        cases c1 : (x == y)
        · have n1 : (x != y) = true := by unfold bne; rw [c1]; rfl
          have HF := Lib.hid (show lessN l1 l2 = decide (x < y) by rw [hrel'.out, HS.out, if_neg (by rw [beq_eq_false_iff_ne] at c1; exact c1)])
          go_wp2
          go_quiet (fail)
          go_wp2
          go_quiet (fail)
          go_wp2
          go_ret
          exact ⟨ret_bool (by rw [HF.out]), _, drew3 _ _ _ _⟩
        · have n1 : (x != y) = false := by unfold bne; rw [c1]; rfl
          have HF := Lib.hid (show lessN l1 l2 = lessN (l1.drop (k + 1)) (l2.drop (k + 1)) by rw [hrel'.out, HS.out, if_pos (eq_of_beq c1)])
          go_wp2
          go_quiet (fail)
          go_wp2
          go_roundw
          case rel => exact ⟨k + 1, by omega, by omega, by go_num, HF, q + nq, rfl⟩
          case measure => simp [intOf]; omega
      · have f2 : decide (k < m) = false := decide_eq_false hlm
        have HF := Lib.hid (show lessN l1 l2 = decide (n < m) by
          have h := lessN_end (l1 := l1) (l2 := l2) (k := k) (.inr ⟨by rw [HM.out]; omega, by rw [HN.out]; omega⟩)
          rw [HN.out, HM.out] at h
          rw [hrel'.out]; exact h)
        go_wp2
        go_ret
        exact ⟨ret_bool (by rw [HF.out]), q, rfl⟩
    · have f1 : decide (k < n) = false := decide_eq_false hlt
      have HF := Lib.hid (show lessN l1 l2 = decide (n < m) by
        have h := lessN_end (l1 := l1) (l2 := l2) (k := k) (.inl ⟨by rw [HN.out]; omega, by rw [HM.out]; omega⟩)
        rw [HN.out, HM.out] at h
        rw [hrel'.out]; exact h)
      go_wp2
      go_ret
      exact ⟨ret_bool (by rw [HF.out]), q, rfl⟩

set_option maxHeartbeats 2000000 in
theorem refSame_any (k x : Int) (s : ByteArray) (a : Option Addr) (n c : Nat) (l : List Int) (k' x' : Int) (s' : ByteArray) (a' : Option Addr) (n' c' : Nat) (l' : List Int) (w : World) (bound : Nat)
    (hb : bound ≤ w.heap.size) (h : Nums w bound a n l) (h' : Nums w bound a' n' l') :
    Calls Tryz.prog 14 #[.agg #[.int .i64 k, .int .i64 x, .string s, .slice a n c], .agg #[.int .i64 k', .int .i64 x', .string s', .slice a' n' c']] w fun e w' => e = .returned (.bool (sameV ⟨k, x, s.toList, l⟩ ⟨k', x', s'.toList, l'⟩)) ∧ Below w.heap.size w w' := by
  have HB := Lib.hid (((Below.refl w.heap.size w).alloc (Nat.le_refl _) (.cells #[.int .i64 k, .int .i64 x, .string s, .slice a n c] 24)).alloc (by simp) (.cells #[.int .i64 k', .int .i64 x', .string s', .slice a' n' c'] 24))
  have cl : ∀ W, Below w.heap.size w W → Calls Tryz.prog 26 #[.slice a n c, .slice a' n' c'] W fun e w' => e = .returned (.bool (sameN l l')) ∧ Below W.heap.size W w' := fun W hW =>
    (refSameNums_any a a' n n' c c' l l' W bound (h.below (hW.mono hb)) (h'.below (hW.mono hb))).mono fun e w' ⟨h1, q, h2⟩ => ⟨h1, by rw [h2]; exact below_drewN (Below.refl _ _) q⟩
  have CL := Lib.hid cl
  clear cl h h'
  cases e1 : (k == k')
  · have n0 : (k != k') = true := by unfold bne; rw [e1]; rfl
    have HF := Lib.hid (show sameV ⟨k, x, s.toList, l⟩ ⟨k', x', s'.toList, l'⟩ = false by unfold sameV; dsimp only; rw [e1]; rfl)
    go_enter Tryz.func14, Tryz.ntmps14
    go_wp2
    go_ret
    exact ⟨ret_bool HF.out.symm, HB.out⟩
  · have n0 : (k != k') = false := by unfold bne; rw [e1]; rfl
    cases e2 : (x == x')
    · have n1 : (x != x') = true := by unfold bne; rw [e2]; rfl
      have HF := Lib.hid (show sameV ⟨k, x, s.toList, l⟩ ⟨k', x', s'.toList, l'⟩ = false by unfold sameV; dsimp only; rw [e1, e2]; rfl)
      go_enter Tryz.func14, Tryz.ntmps14
      go_wp2
      go_ret
      exact ⟨ret_bool HF.out.symm, HB.out⟩
    · have n1 : (x != x') = false := by unfold bne; rw [e2]; rfl
      cases e3 : (s.toList == s'.toList)
      · have n2 : (s.toList != s'.toList) = true := by unfold bne; rw [e3]; rfl
        have HF := Lib.hid (show sameV ⟨k, x, s.toList, l⟩ ⟨k', x', s'.toList, l'⟩ = false by unfold sameV; dsimp only; rw [e1, e2, e3]; rfl)
        go_enter Tryz.func14, Tryz.ntmps14
        go_wp2
        go_ret
        exact ⟨ret_bool HF.out.symm, HB.out⟩
      · have n2 : (s.toList != s'.toList) = false := by unfold bne; rw [e3]; rfl
        have HF := Lib.hid (show sameV ⟨k, x, s.toList, l⟩ ⟨k', x', s'.toList, l'⟩ = sameN l l' by unfold sameV; dsimp only; rw [e1, e2, e3]; rfl)
        go_enter Tryz.func14, Tryz.ntmps14
        go_wp2_with (first | (go_at_call 26; (with_reducible refine (CL.out _ HB.out).mono ?_); rintro e w1 ⟨rfl, hb1⟩) | fail)
        go_ret
        exact ⟨ret_bool HF.out.symm, HB.out.trans (hb1.mono HB.out.size)⟩
set_option maxHeartbeats 2000000 in
theorem refLess_any (k x : Int) (s : ByteArray) (a : Option Addr) (n c : Nat) (l : List Int) (k' x' : Int) (s' : ByteArray) (a' : Option Addr) (n' c' : Nat) (l' : List Int) (w : World) (bound : Nat)
    (hb : bound ≤ w.heap.size) (h : Nums w bound a n l) (h' : Nums w bound a' n' l') :
    Calls Tryz.prog 16 #[.agg #[.int .i64 k, .int .i64 x, .string s, .slice a n c], .agg #[.int .i64 k', .int .i64 x', .string s', .slice a' n' c']] w fun e w' => e = .returned (.bool (lessV ⟨k, x, s.toList, l⟩ ⟨k', x', s'.toList, l'⟩)) ∧ Below w.heap.size w w' := by
  have HB := Lib.hid (((Below.refl w.heap.size w).alloc (Nat.le_refl _) (.cells #[.int .i64 k, .int .i64 x, .string s, .slice a n c] 24)).alloc (by simp) (.cells #[.int .i64 k', .int .i64 x', .string s', .slice a' n' c'] 24))
  have cl : ∀ W, Below w.heap.size w W → Calls Tryz.prog 27 #[.slice a n c, .slice a' n' c'] W fun e w' => e = .returned (.bool (lessN l l')) ∧ Below W.heap.size W w' := fun W hW =>
    (refLessNums_any a a' n n' c c' l l' W bound (h.below (hW.mono hb)) (h'.below (hW.mono hb))).mono fun e w' ⟨h1, q, h2⟩ => ⟨h1, by rw [h2]; exact below_drewN (Below.refl _ _) q⟩
  have CL := Lib.hid cl
  clear cl h h'
  cases e1 : (k == k')
  · have n0 : (k != k') = true := by unfold bne; rw [e1]; rfl
    have HF := Lib.hid (show lessV ⟨k, x, s.toList, l⟩ ⟨k', x', s'.toList, l'⟩ = decide (k < k') by unfold lessV; dsimp only; rw [if_neg (by rw [beq_eq_false_iff_ne] at e1; exact e1)])
    go_enter Tryz.func16, Tryz.ntmps16
    go_wp2
    go_ret
    exact ⟨ret_bool HF.out.symm, HB.out⟩
  · have n0 : (k != k') = false := by unfold bne; rw [e1]; rfl
    cases e2 : (x == x')
    · have n1 : (x != x') = true := by unfold bne; rw [e2]; rfl
      have HF := Lib.hid (show lessV ⟨k, x, s.toList, l⟩ ⟨k', x', s'.toList, l'⟩ = decide (x < x') by unfold lessV; dsimp only; rw [if_pos (eq_of_beq e1), if_neg (by rw [beq_eq_false_iff_ne] at e2; exact e2)])
      go_enter Tryz.func16, Tryz.ntmps16
      go_wp2
      go_ret
      exact ⟨ret_bool HF.out.symm, HB.out⟩
    · have n1 : (x != x') = false := by unfold bne; rw [e2]; rfl
      cases e3 : (s.toList == s'.toList)
      · have n2 : (s.toList != s'.toList) = true := by unfold bne; rw [e3]; rfl
        have HF := Lib.hid (show lessV ⟨k, x, s.toList, l⟩ ⟨k', x', s'.toList, l'⟩ = Op.bytesLess s.toList s'.toList by unfold lessV; dsimp only; rw [if_pos (eq_of_beq e1), if_pos (eq_of_beq e2), if_neg (by rw [beq_eq_false_iff_ne] at e3; exact e3)])
        go_enter Tryz.func16, Tryz.ntmps16
        go_wp2
        go_ret
        exact ⟨ret_bool HF.out.symm, HB.out⟩
      · have n2 : (s.toList != s'.toList) = false := by unfold bne; rw [e3]; rfl
        have HF := Lib.hid (show lessV ⟨k, x, s.toList, l⟩ ⟨k', x', s'.toList, l'⟩ = lessN l l' by unfold lessV; dsimp only; rw [if_pos (eq_of_beq e1), if_pos (eq_of_beq e2), if_pos (eq_of_beq e3)])
        go_enter Tryz.func16, Tryz.ntmps16
        go_wp2_with (first | (go_at_call 27; (with_reducible refine (CL.out _ HB.out).mono ?_); rintro e w1 ⟨rfl, hb1⟩) | fail)
        go_ret
        exact ⟨ret_bool HF.out.symm, HB.out.trans (hb1.mono HB.out.size)⟩
end Go.Proofs.YtnanfmmafmcchaaGreatDoor
