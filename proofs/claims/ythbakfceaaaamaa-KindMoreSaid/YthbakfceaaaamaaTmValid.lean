/- Contracts of the program's ofKind, inBounds. -/
import Derived.Test.YthbakfceaaaamaaTmOps
import Derived.Test.YthbakfceaaaamaaNmMay
import Derived.RegionTactic
import Derived.Laws.StructEq
namespace Go.Proofs.Ythbakfceaaaamaa
open Go.RowKit

def ownNm (k : Int) (s : ByteArray) : ByteArray := if k = 0 then s else (⟨#[]⟩ : ByteArray)
def ownTx (k : Int) (s : ByteArray) : ByteArray := if k = 3 then s else (⟨#[]⟩ : ByteArray)
def ownNum (k x : Int) : Int := if k = 1 ∨ k = 2 then x else 0
def ownL (k l : Int) : Int := if arT k = 0 then -1 else l
def ownR (k r : Int) : Int := if arT k = 2 then r else -1
set_option maxHeartbeats 2000000 in
theorem ownKind_any (k : Int) (nm : ByteArray) (x : Int) (tx : ByteArray) (l r : Int) (w : World) :
    Calls Try.prog 47 #[.agg #[.int .i64 k, .string nm, .int .i64 x, .string tx, .int .i64 l, .int .i64 r]] w fun e w' =>
      e = .returned (.agg #[.int .i64 k, .string (ownNm k nm), .int .i64 (ownNum k x), .string (ownTx k tx), .int .i64 (ownL k l), .int .i64 (ownR k r)]) ∧ Below w.heap.size w w' := by
  have HB := Lib.hid ((((Below.refl w.heap.size w).alloc (Nat.le_refl _) (.cells #[.int .i64 k, .string nm, .int .i64 x, .string tx, .int .i64 l, .int .i64 r] 49))))
  rcases kinds_ways k with rfl | rfl | rfl | rfl | rfl | rfl | rfl | rfl | ⟨ha, h0, h1, h2, h3, h4, h5, h6, h7⟩
  · go_enter Try.func47, Try.ntmps47
    go_wp2
    refine bodyPost_ret (v := .agg #[.int .i64 0, .string nm, .int .i64 (0), .string (⟨#[]⟩ : ByteArray), .int .i64 (-1), .int .i64 (-1)]) (by simp [results, go_sem]) rfl ?_
    exact ⟨rfl, (HB.out.alloc (by simp) _).alloc (by simp <;> omega) _⟩
  · go_enter Try.func47, Try.ntmps47
    go_wp2
    refine bodyPost_ret (v := .agg #[.int .i64 1, .string (⟨#[]⟩ : ByteArray), .int .i64 (x), .string (⟨#[]⟩ : ByteArray), .int .i64 (-1), .int .i64 (-1)]) (by simp [results, go_sem]) rfl ?_
    exact ⟨rfl, (HB.out.alloc (by simp) _).alloc (by simp <;> omega) _⟩
  · go_enter Try.func47, Try.ntmps47
    go_wp2
    refine bodyPost_ret (v := .agg #[.int .i64 2, .string (⟨#[]⟩ : ByteArray), .int .i64 (x), .string (⟨#[]⟩ : ByteArray), .int .i64 (-1), .int .i64 (-1)]) (by simp [results, go_sem]) rfl ?_
    exact ⟨rfl, (HB.out.alloc (by simp) _).alloc (by simp <;> omega) _⟩
  · go_enter Try.func47, Try.ntmps47
    go_wp2
    refine bodyPost_ret (v := .agg #[.int .i64 3, .string (⟨#[]⟩ : ByteArray), .int .i64 (0), .string tx, .int .i64 (-1), .int .i64 (-1)]) (by simp [results, go_sem]) rfl ?_
    exact ⟨rfl, (HB.out.alloc (by simp) _).alloc (by simp <;> omega) _⟩
  · go_enter Try.func47, Try.ntmps47
    go_wp2
    refine bodyPost_ret (v := .agg #[.int .i64 4, .string (⟨#[]⟩ : ByteArray), .int .i64 (0), .string (⟨#[]⟩ : ByteArray), .int .i64 (-1), .int .i64 (-1)]) (by simp [results, go_sem]) rfl ?_
    exact ⟨rfl, (HB.out.alloc (by simp) _).alloc (by simp <;> omega) _⟩
  · go_enter Try.func47, Try.ntmps47
    go_wp2
    refine bodyPost_ret (v := .agg #[.int .i64 5, .string (⟨#[]⟩ : ByteArray), .int .i64 (0), .string (⟨#[]⟩ : ByteArray), .int .i64 (-1), .int .i64 (-1)]) (by simp [results, go_sem]) rfl ?_
    exact ⟨rfl, (HB.out.alloc (by simp) _).alloc (by simp <;> omega) _⟩
  · go_enter Try.func47, Try.ntmps47
    go_wp2
    refine bodyPost_ret (v := .agg #[.int .i64 15, .string (⟨#[]⟩ : ByteArray), .int .i64 (0), .string (⟨#[]⟩ : ByteArray), .int .i64 (l), .int .i64 (-1)]) (by simp [results, go_sem]) rfl ?_
    exact ⟨rfl, (HB.out.alloc (by simp) _).alloc (by simp <;> omega) _⟩
  · go_enter Try.func47, Try.ntmps47
    go_wp2
    refine bodyPost_ret (v := .agg #[.int .i64 16, .string (⟨#[]⟩ : ByteArray), .int .i64 (0), .string (⟨#[]⟩ : ByteArray), .int .i64 (l), .int .i64 (-1)]) (by simp [results, go_sem]) rfl ?_
    exact ⟨rfl, (HB.out.alloc (by simp) _).alloc (by simp <;> omega) _⟩
  · have HA := Lib.hid ha
    have HK := Lib.hid (show ownNm k nm = (⟨#[]⟩ : ByteArray) ∧ ownTx k tx = (⟨#[]⟩ : ByteArray) ∧ ownNum k x = 0 ∧ ownL k l = l ∧ ownR k r = r by
      rw [beq_eq_false_iff_ne] at h0 h1 h2 h3
      exact ⟨if_neg h0, if_neg h3, if_neg (by omega), if_neg (by omega), if_pos ha⟩)
    clear ha
    go_enter Try.func47, Try.ntmps47
    go_wp2
    go_region
    all_goals go_wp2
    all_goals
      refine bodyPost_ret (v := .agg #[.int .i64 k, .string (⟨#[]⟩ : ByteArray), .int .i64 0, .string (⟨#[]⟩ : ByteArray), .int .i64 l, .int .i64 r]) (by simp [results, go_sem]) rfl ?_
      obtain ⟨e1, e2, e3, e4, e5⟩ := HK.out
      rw [e1, e2, e3, e4, e5]
      first | exact ⟨rfl, (HB.out.alloc (by simp) _).alloc (by simp <;> omega) _⟩ | exact ⟨rfl, ((HB.out.alloc (by simp) _).alloc (by simp <;> omega) _).drew⟩

def boundsT (t : Trm) : Bool := if t.kind = 0 then may t.name else if t.kind = 2 then t.num == 0 || t.num == 1 else if t.kind = 3 then decide (t.text.length ≤ 24) else decide (0 ≤ t.kind) && decide (t.kind ≤ 19)
theorem bounds_any (k : Int) (nm : ByteArray) (x : Int) (tx : ByteArray) (l r : Int) (w : World) (hn : nm.size ≤ maxLen) :
    Calls Try.prog 48 #[.agg #[.int .i64 k, .string nm, .int .i64 x, .string tx, .int .i64 l, .int .i64 r]] w fun e w' =>
      e = .returned (.bool (boundsT ⟨k, nm.toList, x, tx.toList, l, r⟩)) ∧ Below w.heap.size w w' := by
  have HB := Lib.hid ((((Below.refl w.heap.size w).alloc (Nat.le_refl _) (.cells #[.int .i64 k, .string nm, .int .i64 x, .string tx, .int .i64 l, .int .i64 r] 49))))
  have HT := Lib.hid (lxLen tx)
  have CM := Lib.hid (fun W => may_any nm W hn)
  clear hn
  have HF := Lib.hid (show boundsT ⟨k, nm.toList, x, tx.toList, l, r⟩ = if k = 0 then may nm.toList else if k = 2 then x == 0 || x == 1 else if k = 3 then decide (tx.toList.length ≤ 24) else decide (0 ≤ k) && decide (k ≤ 19) from rfl)
  by_cases h0 : k = 0
  · subst h0
    go_enter Try.func48, Try.ntmps48
    go_wp2_with (first | (go_at_call 68; (with_reducible refine (CM.out _).mono ?_); rintro e w1 ⟨rfl, rfl⟩) | fail)
    go_ret
    exact ⟨ret_bool HF.out.symm, HB.out⟩
  have k0 : (k == 0) = false := by rw [beq_eq_false_iff_ne]; exact h0
  by_cases h2 : k = 2
  · subst h2
    clear k0 h0
    cases e0 : x == 0
    · have HG := Lib.hid (show boundsT ⟨2, nm.toList, x, tx.toList, l, r⟩ = (x == 1) by rw [HF.out, e0]; rfl)
      go_enter Try.func48, Try.ntmps48
      go_wp2
      go_ret
      exact ⟨ret_bool HG.out.symm, HB.out⟩
    · have HG := Lib.hid (show boundsT ⟨2, nm.toList, x, tx.toList, l, r⟩ = true by rw [HF.out, e0]; rfl)
      go_enter Try.func48, Try.ntmps48
      go_wp2
      go_ret
      exact ⟨ret_bool HG.out.symm, HB.out⟩
  have k2 : (k == 2) = false := by rw [beq_eq_false_iff_ne]; exact h2
  by_cases h3 : k = 3
  · subst h3
    clear k0 h0 k2 h2
    have HG := Lib.hid (show boundsT ⟨3, nm.toList, x, tx.toList, l, r⟩ = decide ((tx.size : Int) ≤ 24) by rw [HF.out, HT.out]; simp <;> omega)
    go_enter Try.func48, Try.ntmps48
    go_wp2
    go_ret
    exact ⟨ret_bool HG.out.symm, HB.out⟩
  have k3 : (k == 3) = false := by rw [beq_eq_false_iff_ne]; exact h3
  have HG := Lib.hid (show boundsT ⟨k, nm.toList, x, tx.toList, l, r⟩ = (decide (0 ≤ k) && decide (k ≤ 19)) by rw [HF.out, if_neg h0, if_neg h2, if_neg h3])
  clear h0 h2 h3
  cases c0 : decide (0 ≤ k)
  · have HG := Lib.hid (show boundsT ⟨k, nm.toList, x, tx.toList, l, r⟩ = false by rw [HG.out, c0]; rfl)
    go_enter Try.func48, Try.ntmps48
    go_wp2
    go_ret
    exact ⟨ret_bool HG.out.symm, HB.out⟩
  · have HG := Lib.hid (show boundsT ⟨k, nm.toList, x, tx.toList, l, r⟩ = decide (k ≤ 19) by rw [HG.out, c0]; rfl)
    go_enter Try.func48, Try.ntmps48
    go_wp2
    go_ret
    exact ⟨ret_bool HG.out.symm, HB.out⟩
end Go.Proofs.Ythbakfceaaaamaa
