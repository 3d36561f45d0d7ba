/- Contracts of the reference's arity and alone. -/
import Derived.Test.YthchilnibblbgaaTmEq
import Derived.Test.YthchilnibblbgaaRef2
import Derived.Deep.DeepCutAuto
namespace Go.Proofs.Ythchilnibblbgaa
open Go.RowKit

def arI (k : Int) : Int := if 0 ≤ k ∧ k ≤ 19 then (arT k : Int) else -1
theorem arI_out {k : Int} (h : k < 0 ∨ 19 < k) : arI k = -1 := by unfold arI; rw [if_neg (by omega)]
theorem arI_low {k : Int} (h0 : 0 ≤ k) (h : k ≤ 5) : arI k = 0 := by
  unfold arI arT
  rw [if_pos ⟨h0, by omega⟩, if_neg (by omega), if_pos ⟨h0, h⟩]
  rfl
theorem arI_one {k : Int} (h : k = 15 ∨ k = 16) : arI k = 1 := by rcases h with rfl | rfl <;> rfl
theorem arI_two {k : Int} (h0 : 5 < k) (h : k ≤ 19) (h1 : k ≠ 15) (h2 : k ≠ 16) : arI k = 2 := by
  unfold arI arT
  rw [if_pos ⟨by omega, h⟩, if_neg (by omega), if_neg (by omega)]
  rfl
theorem arity_any (k : Int) (w : World) : Calls Try.prog 50 #[.int .i64 k] w fun e w' => e = .returned (.int .i64 (arI k)) ∧ w = w' := by
  by_cases h1 : k < 0
  · have d1 : decide (k < 0) = true := decide_eq_true h1
    have HG := Lib.hid (arI_out (.inl h1))
    go_enter Try.func50, Try.ntmps50
    go_wp2
    go_ret
    exact ⟨by rw [HG.out]; rfl, rfl⟩
  have d1 : decide (k < 0) = false := decide_eq_false h1
  by_cases h2 : 19 < k
  · have d2 : decide (19 < k) = true := decide_eq_true h2
    have HG := Lib.hid (arI_out (.inr h2))
    go_enter Try.func50, Try.ntmps50
    go_wp2
    go_ret
    exact ⟨by rw [HG.out]; rfl, rfl⟩
  have d2 : decide (19 < k) = false := decide_eq_false h2
  by_cases h3 : k ≤ 5
  · have d3 : decide (k ≤ 5) = true := decide_eq_true h3
    have HG := Lib.hid (arI_low (by omega) h3)
    go_enter Try.func50, Try.ntmps50
    go_wp2
    go_ret
    exact ⟨by rw [HG.out]; rfl, rfl⟩
  have d3 : decide (k ≤ 5) = false := decide_eq_false h3
  by_cases h4 : k = 15
  · subst h4
    go_enter Try.func50, Try.ntmps50
    go_wp2
    go_ret
    exact ⟨rfl, rfl⟩
  have d4 : (k == 15) = false := by rw [beq_eq_false_iff_ne]; exact h4
  by_cases h5 : k = 16
  · subst h5
    go_enter Try.func50, Try.ntmps50
    go_wp2
    go_ret
    exact ⟨rfl, rfl⟩
  have d5 : (k == 16) = false := by rw [beq_eq_false_iff_ne]; exact h5
  have HG := Lib.hid (arI_two (by omega) (by omega) h4 h5)
  clear h4 h5
  go_enter Try.func50, Try.ntmps50
  go_wp2
  go_ret
  exact ⟨by rw [HG.out]; rfl, rfl⟩

/-- The parts of soundT. -/
def headT (t : Trm) : Bool := decide (0 ≤ t.kind) && decide (t.kind ≤ 19) && (decide (arT t.kind = 2) || t.r == -1) && (decide (1 ≤ arT t.kind) || t.l == -1)
def nameT (t : Trm) : Bool := if t.kind = 0 then may t.name else t.name.isEmpty
def numbT (t : Trm) : Bool := t.num == 0 || t.kind == 1 || (t.kind == 2 && t.num == 1)
def textT (t : Trm) : Bool := t.text.isEmpty || (t.kind == 3 && decide (t.text.length ≤ 24))
theorem sound_parts (t : Trm) : soundT t = (headT t && nameT t && numbT t && textT t) := rfl
theorem headT_cases (t : Trm) : headT t = if arI t.kind = -1 then false else if arI t.kind = 0 then (t.r == -1 && t.l == -1) else if arI t.kind = 1 then t.r == -1 else true := by
  unfold headT
  by_cases h0 : 0 ≤ t.kind ∧ t.kind ≤ 19
  · rw [decide_eq_true h0.1, decide_eq_true h0.2]
    have : arI t.kind = (arT t.kind : Int) := by unfold arI; rw [if_pos h0]
    rw [this]
    rcases arT_ways t.kind with h | h | h <;> rw [h] <;> simp
  · rw [arI_out (by omega), if_pos rfl]
    rcases (show t.kind < 0 ∨ 19 < t.kind by omega) with h | h
    · rw [decide_eq_false (p := 0 ≤ t.kind) (by omega)]; rfl
    · rw [decide_eq_false (p := t.kind ≤ 19) (by omega)]; simp
theorem arI_ways (k : Int) : arI k = -1 ∨ arI k = 0 ∨ arI k = 1 ∨ arI k = 2 := by
  unfold arI
  split
  · rcases arT_ways k with h | h | h <;> rw [h] <;> simp
  · exact .inl rfl
theorem beq_nil {l : Str} (h : l.isEmpty = false) : (l == []) = false := by cases l <;> simp_all
set_option maxHeartbeats 8000000 in
set_option maxRecDepth 20000 in
theorem alone_any (k : Int) (nm : ByteArray) (x : Int) (tx : ByteArray) (l r : Int) (w : World) (hs : nm.size ≤ maxLen) :
    Calls Try.prog 49 #[.agg #[.int .i64 k, .string nm, .int .i64 x, .string tx, .int .i64 l, .int .i64 r]] w fun e w' => e = .returned (.bool (soundT ⟨k, nm.toList, x, tx.toList, l, r⟩)) ∧ Below w.heap.size w w' := by
  have HB := Lib.hid ((Below.refl w.heap.size w).alloc (Nat.le_refl _) (.cells #[.int .i64 k, .string nm, .int .i64 x, .string tx, .int .i64 l, .int .i64 r] 38))
  have HSM := Lib.hid hs
  have HP := Lib.hid (sound_parts ⟨k, nm.toList, x, tx.toList, l, r⟩)
  have HH := Lib.hid (headT_cases ⟨k, nm.toList, x, tx.toList, l, r⟩)
  have HN := Lib.hid (show nameT ⟨k, nm.toList, x, tx.toList, l, r⟩ = if k = 0 then may nm.toList else nm.toList.isEmpty from rfl)
  have HU := Lib.hid (show numbT ⟨k, nm.toList, x, tx.toList, l, r⟩ = (x == 0 || k == 1 || (k == 2 && x == 1)) from rfl)
  have HT := Lib.hid (show textT ⟨k, nm.toList, x, tx.toList, l, r⟩ = (tx.toList.isEmpty || (k == 3 && decide (tx.toList.length ≤ 24))) from rfl)
  generalize soundT ⟨k, nm.toList, x, tx.toList, l, r⟩ = S at HP ⊢
  generalize headT ⟨k, nm.toList, x, tx.toList, l, r⟩ = bh at HP HH
  generalize nameT ⟨k, nm.toList, x, tx.toList, l, r⟩ = bn at HP HN
  generalize numbT ⟨k, nm.toList, x, tx.toList, l, r⟩ = bu at HP HU
  generalize textT ⟨k, nm.toList, x, tx.toList, l, r⟩ = bt at HP HT
  have CA := Lib.hid (fun W => arity_any k W)
  have HW := Lib.hid (arI_ways k)
  dsimp only at HH
  generalize arI k = ar at CA HH HW
  clear hs
  go_enter Try.func49, Try.ntmps49
  go_upto_region 2 with (first
    | (go_at_call 50; (with_reducible refine (CA.out _).mono ?_); rintro e w1 ⟨rfl, rfl⟩)
    | fail)
  go_cut [29] (fun c wx => c = .bool (!bh) ∧ wx = w.alloc (.cells #[.int .i64 k, .string nm, .int .i64 x, .string tx, .int .i64 l, .int .i64 r] 38))
  case first =>
    rcases HW.out with h | h | h | h
    · subst h
      have hb := Lib.hid (show bh = false by rw [HH.out, if_pos rfl])
      go_wp2_with fail
      go_meet
      exact ⟨by rw [hb.out]; rfl, rfl⟩
    · subst h
      have hb := Lib.hid (show bh = (r == -1 && l == -1) by rw [HH.out, if_neg (by decide), if_pos rfl])
      cases hr : (r == -1)
      · have hr2 : (r != -1) = true := by unfold bne; rw [hr]; rfl
        rw [hr] at hb
        go_wp2_with fail
        go_meet
        exact ⟨by rw [hb.out]; rfl, rfl⟩
      · have hr2 : (r != -1) = false := by unfold bne; rw [hr]; rfl
        rw [hr] at hb
        cases hl : (l == -1)
        · have hl2 : (l != -1) = true := by unfold bne; rw [hl]; rfl
          rw [hl] at hb
          go_wp2_with fail
          go_meet
          exact ⟨by rw [hb.out]; rfl, rfl⟩
        · have hl2 : (l != -1) = false := by unfold bne; rw [hl]; rfl
          rw [hl] at hb
          go_wp2_with fail
          go_meet
          exact ⟨by rw [hb.out]; rfl, rfl⟩
    · subst h
      have hb := Lib.hid (show bh = (r == -1) by rw [HH.out, if_neg (by decide), if_neg (by decide), if_pos rfl])
      cases hr : (r == -1)
      · have hr2 : (r != -1) = true := by unfold bne; rw [hr]; rfl
        rw [hr] at hb
        go_wp2_with fail
        go_meet
        exact ⟨by rw [hb.out]; rfl, rfl⟩
      · have hr2 : (r != -1) = false := by unfold bne; rw [hr]; rfl
        rw [hr] at hb
        go_wp2_with fail
        go_meet
        exact ⟨by rw [hb.out]; rfl, rfl⟩
    · subst h
      have hb := Lib.hid (show bh = true by rw [HH.out, if_neg (by decide), if_neg (by decide), if_neg (by decide)])
      go_wp2_with fail
      go_meet
      exact ⟨by rw [hb.out]; rfl, rfl⟩
  case rest =>
    obtain ⟨rfl, rfl⟩ := hcut
    cases bh
    · have HZ := Lib.hid (show S = false by rw [HP.out]; rfl)
      go_wp2
      go_ret
      exact ⟨ret_bool HZ.out.symm, HB.out⟩
    have HZ := Lib.hid (show S = (bn && bu && bt) by rw [HP.out, Bool.true_and])
    go_upto_region 4 with fail
    go_cut [4] (fun c wx => c = .bool bn ∧ wx = w.alloc (.cells #[.int .i64 k, .string nm, .int .i64 x, .string tx, .int .i64 l, .int .i64 r] 38))
    case first =>
      by_cases hk : k = 0
      · have HN2 := Lib.hid (show bn = may nm.toList by rw [HN.out, if_pos hk])
        have CM := Lib.hid (fun W => refMay_any nm W HSM.out)
        generalize may nm.toList = b at HN2 CM
        have hk1 : (k == 0) = true := by rw [beq_iff_eq]; exact hk
        have hk2 : (k != 0) = false := by unfold bne; rw [hk1]; rfl
        clear hk
        cases b
        all_goals
          go_wp2_with (first | (go_at_call 68; (with_reducible refine (CM.out _).mono ?_); rintro e w1 ⟨rfl, rfl⟩) | fail)
          go_meet
          exact ⟨by rw [HN2.out], rfl⟩
      · have HN2 := Lib.hid (show bn = nm.toList.isEmpty by rw [HN.out, if_neg hk])
        have hk1 : (k == 0) = false := by rw [beq_eq_false_iff_ne]; exact hk
        have hk2 : (k != 0) = true := by unfold bne; rw [hk1]; rfl
        clear hk
        cases hz : nm.toList.isEmpty
        · have hz2 : (nm.toList == []) = false := beq_nil hz
          rw [hz] at HN2
          go_wp2_with fail
          go_meet
          exact ⟨by rw [HN2.out], rfl⟩
        · have hz2 : nm.toList = [] := List.isEmpty_iff.1 hz
          rw [hz] at HN2
          go_wp2_with fail
          go_meet
          exact ⟨by rw [HN2.out], rfl⟩
    case rest =>
      obtain ⟨rfl, rfl⟩ := hcut
      go_upto_region 5 with fail
      go_cut [5] (fun c wx => c = .bool bu ∧ wx = w.alloc (.cells #[.int .i64 k, .string nm, .int .i64 x, .string tx, .int .i64 l, .int .i64 r] 38))
      case first =>
        cases hx : (x == 0)
        · cases h1 : (k == 1)
          · cases h2 : (k == 2)
            · have HU2 := Lib.hid (show bu = false by rw [HU.out, hx, h1, h2]; rfl)
              go_wp2_with fail
              go_meet
              exact ⟨by rw [HU2.out], rfl⟩
            · have HU2 := Lib.hid (show bu = (x == 1) by rw [HU.out, hx, h1, h2]; rfl)
              cases hx1 : (x == 1)
              all_goals
                rw [hx1] at HU2
                go_wp2_with fail
                go_meet
                exact ⟨by rw [HU2.out], rfl⟩
          · have HU2 := Lib.hid (show bu = true by rw [HU.out, hx, h1]; rfl)
            go_wp2_with fail
            go_meet
            exact ⟨by rw [HU2.out], rfl⟩
        · have HU2 := Lib.hid (show bu = true by rw [HU.out, hx]; rfl)
          go_wp2_with fail
          go_meet
          exact ⟨by rw [HU2.out], rfl⟩
      case rest =>
        obtain ⟨rfl, rfl⟩ := hcut
        go_upto_region 6 with fail
        go_cut [6] (fun c wx => c = .bool bt ∧ wx = w.alloc (.cells #[.int .i64 k, .string nm, .int .i64 x, .string tx, .int .i64 l, .int .i64 r] 38))
        case first =>
          cases hz : tx.toList.isEmpty
          · have hz2 : (tx.toList == []) = false := beq_nil hz
            cases h3 : (k == 3)
            · have HT2 := Lib.hid (show bt = false by rw [HT.out, hz, h3]; rfl)
              go_wp2_with fail
              go_meet
              exact ⟨by rw [HT2.out], rfl⟩
            · have HT2 := Lib.hid (show bt = decide ((tx.size : Int) ≤ 24) by rw [HT.out, hz, h3, lxLen]; simp only [Bool.false_or, Bool.true_and, decide_eq_decide]; omega)
              cases h24 : decide ((tx.size : Int) ≤ 24)
              all_goals
                rw [h24] at HT2
                go_wp2_with fail
                go_meet
                exact ⟨by rw [HT2.out], rfl⟩
          · have hz2 : tx.toList = [] := List.isEmpty_iff.1 hz
            have HT2 := Lib.hid (show bt = true by rw [HT.out, hz]; rfl)
            go_wp2_with fail
            go_meet
            exact ⟨by rw [HT2.out], rfl⟩
        case rest =>
          obtain ⟨rfl, rfl⟩ := hcut
          cases bn
          · have HZ2 := Lib.hid (show S = false by rw [HZ.out]; rfl)
            go_wp2
            go_ret
            exact ⟨ret_bool HZ2.out.symm, HB.out⟩
          cases bu
          · have HZ2 := Lib.hid (show S = false by rw [HZ.out]; rfl)
            go_wp2
            go_ret
            exact ⟨ret_bool HZ2.out.symm, HB.out⟩
          have HZ2 := Lib.hid (show S = bt by rw [HZ.out]; rfl)
          go_wp2
          go_ret
          exact ⟨ret_bool HZ2.out.symm, HB.out⟩
end Go.Proofs.Ythchilnibblbgaa
