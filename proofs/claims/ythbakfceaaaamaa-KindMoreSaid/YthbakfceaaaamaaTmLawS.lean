/- The law TermSwaps returns true, whatever its arguments. -/
import Derived.Test.YthbakfceaaaamaaTmLawX
namespace Go.Proofs.Ythbakfceaaaamaa
open Go.RowKit

def swapE (A B : Val) : List (Str × Val) := [([112], A), ([113], B)]
def pqT (k : Int) : List Trm := [varT [112], varT [113], twoT k 0 1]
def qpT (k : Int) : List Trm := [varT [113], varT [112], twoT k 0 1]
theorem swap_hold {A B : Val} (ha : mayV A = true) (hb : mayV B = true) : holdV (swapE A B) [112] = (A, 0) ∧ holdV (swapE A B) [113] = (B, 0) := by
  constructor <;> simp [swapE, holdV, ha, hb]
theorem pq_val {A B : Val} {k : Int} (ha : mayV A = true) (hb : mayV B = true) (h : arT k = 2) (h0 : 0 ≤ k) (h1 : k ≤ 19) : evalF (pqT k) 2 (swapE A B) = twoV k A B := by
  obtain ⟨e1, e2⟩ := swap_hold ha hb
  rw [pqT, evalF_two _ (sound_var may_p) rfl (sound_var may_q) rfl h h0 h1]
  simp only [evalE, leaf_var, e1, e2, if_true]
  rfl
theorem qp_val {A B : Val} {k : Int} (ha : mayV A = true) (hb : mayV B = true) (h : arT k = 2) (h0 : 0 ≤ k) (h1 : k ≤ 19) : evalF (qpT k) 2 (swapE A B) = twoV k B A := by
  obtain ⟨e1, e2⟩ := swap_hold ha hb
  rw [qpT, evalF_two _ (sound_var may_q) rfl (sound_var may_p) rfl h h0 h1]
  simp only [evalE, leaf_var, e1, e2, if_true]
  rfl
theorem sameV_comm (a b : Val) : sameV a b = sameV b a := by
  rw [Bool.eq_iff_iff, sameV_iff, sameV_iff]
  exact eq_comm
theorem swap_two {k : Int} (A B : Val) (hk : k = 6 ∨ k = 8 ∨ k = 13 ∨ k = 14 ∨ k = 11) : twoV k A B = twoV k B A := by
  have hf : fitsV k A B = fitsV k B A := by
    rcases hk with rfl | rfl | rfl | rfl | rfl
    · exact Bool.and_comm _ _
    · exact Bool.and_comm _ _
    · exact Bool.and_comm _ _
    · exact Bool.and_comm _ _
    · show (A.kind == B.kind && A.kind != 5) = (B.kind == A.kind && B.kind != 5)
      cases h : A.kind == B.kind
      · have h2 : (B.kind == A.kind) = false := by rw [beq_eq_false_iff_ne] at *; exact fun e => h e.symm
        rw [h2]; rfl
      · rw [eq_of_beq h]; simp
  unfold twoV
  rw [hf]
  split
  · rcases hk with rfl | rfl | rfl | rfl | rfl
    · show (intV (wrap64 (A.num + B.num)), (0 : Int)) = (intV (wrap64 (B.num + A.num)), 0)
      rw [Int.add_comm]
    · show (intV (wrap64 (A.num * B.num)), (0 : Int)) = (intV (wrap64 (B.num * A.num)), 0)
      rw [Int.mul_comm]
    · show (boolV (A.num == 1 && B.num == 1), (0 : Int)) = (boolV (B.num == 1 && A.num == 1), 0)
      rw [Bool.and_comm]
    · show (boolV (A.num == 1 || B.num == 1), (0 : Int)) = (boolV (B.num == 1 || A.num == 1), 0)
      rw [Bool.or_comm]
    · show (boolV (sameV A B), (0 : Int)) = (boolV (sameV B A), 0)
      rw [sameV_comm]
  · rfl
theorem mayV_int_is {v : Val} (h : mayV v = true) (hk : v.kind = 1) : v = intV v.num := by
  unfold mayV at h
  rw [hk] at h
  simp at h
  obtain ⟨h1, h2⟩ := h
  cases v with
  | mk a b c d =>
    dsimp only at hk h1 h2
    subst hk h1 h2
    rfl
/-- Less-than of two values, both ways. -/
theorem less_two {A B : Val} (ha : mayV A = true) (hb : mayV B = true) : (twoV 12 A B = (⟨0, 0, [], []⟩, 402) ∧ twoV 12 B A = (⟨0, 0, [], []⟩, 402)) ∨
    ∃ x y : Int, twoV 12 A B = (⟨2, x, [], []⟩, 0) ∧ twoV 12 B A = (⟨2, y, [], []⟩, 0) ∧ 0 ≤ x ∧ 0 ≤ y ∧ x + y ≤ 1 ∧ (x + y == 0) = sameV A B := by
  have hf : fitsV 12 A B = (A.kind == 1 && B.kind == 1) := rfl
  have hf2 : fitsV 12 B A = (B.kind == 1 && A.kind == 1) := rfl
  unfold twoV
  rw [hf, hf2]
  cases h1 : A.kind == 1
  · rw [Bool.and_false, Bool.false_and]; exact .inl ⟨rfl, rfl⟩
  · cases h2 : B.kind == 1
    · rw [Bool.and_false, Bool.false_and]; exact .inl ⟨rfl, rfl⟩
    · refine .inr ⟨if A.num < B.num then 1 else 0, if B.num < A.num then 1 else 0, ?_, ?_, ?_, ?_, ?_, ?_⟩
      · show (boolV (decide (A.num < B.num)), (0 : Int)) = _
        unfold boolV
        by_cases h : A.num < B.num <;> simp [h]
      · show (boolV (decide (B.num < A.num)), (0 : Int)) = _
        unfold boolV
        by_cases h : B.num < A.num <;> simp [h]
      · split <;> omega
      · split <;> omega
      · split <;> split <;> omega
      · have k1 := eq_of_beq h1
        have k2 := eq_of_beq h2
        have hA := mayV_int_is ha k1
        have hB := mayV_int_is hb k2
        have hs0 : sameV (intV A.num) (intV B.num) = (A.num == B.num) := by simp [sameV, intV, sameN]
        have hs : sameV A B = (A.num == B.num) := by rwa [← hA, ← hB] at hs0
        rw [hs, Bool.eq_iff_iff, beq_iff_eq, beq_iff_eq]
        split <;> split <;> omega

theorem kinds_five (kd : Int) : ∃ k : Int, (k = 6 ∨ k = 8 ∨ k = 13 ∨ k = 14 ∨ k = 11) ∧ 0 ≤ wrap64 ((IntKind.u64.wrap kd).tmod 5) ∧ wrap64 ((IntKind.u64.wrap kd).tmod 5) < 5 ∧ ∀ h, ([Value.int .i64 6, Value.int .i64 8, Value.int .i64 13, Value.int .i64 14, Value.int .i64 11] : List Value)[(wrap64 ((IntKind.u64.wrap kd).tmod 5)).toNat]'h = .int .i64 k := by
  have h0 : 0 ≤ IntKind.u64.wrap kd := by rw [IntKind.wrap_u64]; omega
  have hm : 0 ≤ wrap64 ((IntKind.u64.wrap kd).tmod 5) ∧ wrap64 ((IntKind.u64.wrap kd).tmod 5) < 5 := by
    rw [Int.tmod_eq_emod_of_nonneg h0]
    unfold wrap64
    omega
  generalize wrap64 ((IntKind.u64.wrap kd).tmod 5) = m at hm
  rcases (show m = 0 ∨ m = 1 ∨ m = 2 ∨ m = 3 ∨ m = 4 by omega) with rfl | rfl | rfl | rfl | rfl
  · exact ⟨6, .inl rfl, by omega, by omega, fun _ => rfl⟩
  · exact ⟨8, .inr (.inl rfl), by omega, by omega, fun _ => rfl⟩
  · exact ⟨13, .inr (.inr (.inl rfl)), by omega, by omega, fun _ => rfl⟩
  · exact ⟨14, .inr (.inr (.inr (.inl rfl))), by omega, by omega, fun _ => rfl⟩
  · exact ⟨11, .inr (.inr (.inr (.inr rfl))), by omega, by omega, fun _ => rfl⟩
theorem swap_made (k1 x1 : Int) (s1 : ByteArray) (a1 : Option Addr) (n1 c1 : Nat) (l1 : List Int) (k2 x2 : Int) (s2 : ByteArray) (a2 : Option Addr) (n2 c2 : Nat) (l2 : List Int) (W : World) (h1 : Nums W W.heap.size a1 n1 l1) (h2 : Nums W W.heap.size a2 n2 l2) :
    Binds (W.alloc (.cells #[.string ⟨#[112]⟩, .int .i64 k1, .int .i64 x1, .string s1, .slice a1 n1 c1, .string ⟨#[113]⟩, .int .i64 k2, .int .i64 x2, .string s2, .slice a2 n2 c2] 35)) (W.alloc (.cells #[.string ⟨#[112]⟩, .int .i64 k1, .int .i64 x1, .string s1, .slice a1 n1 c1, .string ⟨#[113]⟩, .int .i64 k2, .int .i64 x2, .string s2, .slice a2 n2 c2] 35)).heap.size (some ⟨W.heap.size, 0, none⟩) 2 (swapE ⟨k1, x1, s1.toList, l1⟩ ⟨k2, x2, s2.toList, l2⟩) :=
  Binds.made W _ [⟨⟨#[112]⟩, k1, x1, s1, a1, n1, c1⟩, ⟨⟨#[113]⟩, k2, x2, s2, a2, n2, c2⟩] _ 2 _ rfl rfl rfl rfl (by omega) fun j b x e1 e2 => by
    have h0 : j < 2 := (List.getElem?_eq_some_iff.1 e2).1
    have e112 : (⟨#[112]⟩ : ByteArray).toList = [112] := by simp [ByteArray.toList_eq]
    have e113 : (⟨#[113]⟩ : ByteArray).toList = [113] := by simp [ByteArray.toList_eq]
    rcases (show j = 0 ∨ j = 1 by omega) with rfl | rfl
    · obtain rfl := Option.some.inj e1
      obtain rfl := Option.some.inj e2
      exact ⟨e112, rfl, rfl, rfl, h1⟩
    · obtain rfl := Option.some.inj e1
      obtain rfl := Option.some.inj e2
      exact ⟨e113, rfl, rfl, rfl, h2⟩
theorem pq_made (k : Int) (W : World) : Trms (W.alloc (.cells #[.int .i64 0, .string ⟨#[112]⟩, .int .i64 0, .string ⟨#[]⟩, .int .i64 (-1), .int .i64 (-1), .int .i64 0, .string ⟨#[113]⟩, .int .i64 0, .string ⟨#[]⟩, .int .i64 (-1), .int .i64 (-1), .int .i64 k, .string ⟨#[]⟩, .int .i64 0, .string ⟨#[]⟩, .int .i64 0, .int .i64 1] 49)) (W.alloc (.cells #[.int .i64 0, .string ⟨#[112]⟩, .int .i64 0, .string ⟨#[]⟩, .int .i64 (-1), .int .i64 (-1), .int .i64 0, .string ⟨#[113]⟩, .int .i64 0, .string ⟨#[]⟩, .int .i64 (-1), .int .i64 (-1), .int .i64 k, .string ⟨#[]⟩, .int .i64 0, .string ⟨#[]⟩, .int .i64 0, .int .i64 1] 49)).heap.size (some ⟨W.heap.size, 0, none⟩) 3 (pqT k) := Trms.made W _ (pqT k) 3 _ rfl rfl rfl (by omega) (short_trms rfl)
theorem qp_made (k : Int) (W : World) : Trms (W.alloc (.cells #[.int .i64 0, .string ⟨#[113]⟩, .int .i64 0, .string ⟨#[]⟩, .int .i64 (-1), .int .i64 (-1), .int .i64 0, .string ⟨#[112]⟩, .int .i64 0, .string ⟨#[]⟩, .int .i64 (-1), .int .i64 (-1), .int .i64 k, .string ⟨#[]⟩, .int .i64 0, .string ⟨#[]⟩, .int .i64 0, .int .i64 1] 49)) (W.alloc (.cells #[.int .i64 0, .string ⟨#[113]⟩, .int .i64 0, .string ⟨#[]⟩, .int .i64 (-1), .int .i64 (-1), .int .i64 0, .string ⟨#[112]⟩, .int .i64 0, .string ⟨#[]⟩, .int .i64 (-1), .int .i64 (-1), .int .i64 k, .string ⟨#[]⟩, .int .i64 0, .string ⟨#[]⟩, .int .i64 0, .int .i64 1] 49)).heap.size (some ⟨W.heap.size, 0, none⟩) 3 (qpT k) := Trms.made W _ (qpT k) 3 _ rfl rfl rfl (by omega) (short_trms rfl)

end Go.Proofs.Ythbakfceaaaamaa
