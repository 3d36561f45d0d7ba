/- The law TermSwaps returns true, whatever its arguments. -/
import Derived.Test.YthchilnibblbgaaTmLawX
namespace Go.Proofs.Ythchilnibblbgaa
open Go.RowKit

def swapE (A B : Val) : List (Str × Val) := [([112], A), ([113], B)]
def pqT (k : Int) : List Trm := [varT [112], varT [113], twoT k 0 1]
def qpT (k : Int) : List Trm := [varT [113], varT [112], twoT k 0 1]
theorem swap_hold {A B : Val} (ha : mayV A = true) (hb : mayV B = true) : holdV (swapE A B) [112] = (A, 0) ∧ holdV (swapE A B) [113] = (B, 0) := by
  constructor <;> simp [swapE, holdV, ha, hb]
theorem pq_val {A B : Val} {k : Int} (ha : mayV A = true) (hb : mayV B = true) (h : arT k = 2) (h0 : 0 ≤ k) (h1 : k ≤ 19) : evalF (pqT k) 2 (swapE A B) = twoV k A B := by
  obtain ⟨e1, e2⟩ := swap_hold ha hb
  rw [pqT, evalF_two _ (sound_var may_p) rfl (sound_var may_q) rfl h h0 h1]
  simp only [evalE, leaf_var, e1, e2, if_true]
  rfl
theorem qp_val {A B : Val} {k : Int} (ha : mayV A = true) (hb : mayV B = true) (h : arT k = 2) (h0 : 0 ≤ k) (h1 : k ≤ 19) : evalF (qpT k) 2 (swapE A B) = twoV k B A := by
  obtain ⟨e1, e2⟩ := swap_hold ha hb
  rw [qpT, evalF_two _ (sound_var may_q) rfl (sound_var may_p) rfl h h0 h1]
  simp only [evalE, leaf_var, e1, e2, if_true]
  rfl
theorem sameV_comm (a b : Val) : sameV a b = sameV b a := by
  rw [Bool.eq_iff_iff, sameV_iff, sameV_iff]
  exact eq_comm
theorem swap_two {k : Int} (A B : Val) (hk : k = 6 ∨ k = 8 ∨ k = 13 ∨ k = 14 ∨ k = 11) : twoV k A B = twoV k B A := by
  have hf : fitsV k A B = fitsV k B A := by
    rcases hk with rfl | rfl | rfl | rfl | rfl
    · exact Bool.and_comm _ _
    · exact Bool.and_comm _ _
    · exact Bool.and_comm _ _
    · exact Bool.and_comm _ _
    · show (A.kind == B.kind && A.kind != 5) = (B.kind == A.kind && B.kind != 5)
      cases h : A.kind == B.kind
      · have h2 : (B.kind == A.kind) = false := by rw [beq_eq_false_iff_ne] at *; exact fun e => h e.symm
        rw [h2]; rfl
      · rw [eq_of_beq h]; simp
  unfold twoV
  rw [hf]
  split
  · rcases hk with rfl | rfl | rfl | rfl | rfl
    · show (intV (wrap64 (A.num + B.num)), (0 : Int)) = (intV (wrap64 (B.num + A.num)), 0)
      rw [Int.add_comm]
    · show (intV (wrap64 (A.num * B.num)), (0 : Int)) = (intV (wrap64 (B.num * A.num)), 0)
      rw [Int.mul_comm]
    · show (boolV (A.num == 1 && B.num == 1), (0 : Int)) = (boolV (B.num == 1 && A.num == 1), 0)
      rw [Bool.and_comm]
    · show (boolV (A.num == 1 || B.num == 1), (0 : Int)) = (boolV (B.num == 1 || A.num == 1), 0)
      rw [Bool.or_comm]
    · show (boolV (sameV A B), (0 : Int)) = (boolV (sameV B A), 0)
      rw [sameV_comm]
  · rfl
theorem mayV_int_is {v : Val} (h : mayV v = true) (hk : v.kind = 1) : v = intV v.num := by
  unfold mayV at h
  rw [hk] at h
  simp at h
  obtain ⟨h1, h2⟩ := h
  cases v with
  | mk a b c d =>
    dsimp only at hk h1 h2
    subst hk h1 h2
    rfl
/-- Less-than of two values, both ways. -/
theorem less_two {A B : Val} (ha : mayV A = true) (hb : mayV B = true) : (twoV 12 A B = (⟨0, 0, [], []⟩, 402) ∧ twoV 12 B A = (⟨0, 0, [], []⟩, 402)) ∨
    ∃ x y : Int, twoV 12 A B = (⟨2, x, [], []⟩, 0) ∧ twoV 12 B A = (⟨2, y, [], []⟩, 0) ∧ 0 ≤ x ∧ 0 ≤ y ∧ x + y ≤ 1 ∧ (x + y == 0) = sameV A B := by
  have hf : fitsV 12 A B = (A.kind == 1 && B.kind == 1) := rfl
  have hf2 : fitsV 12 B A = (B.kind == 1 && A.kind == 1) := rfl
  unfold twoV
  rw [hf, hf2]
  cases h1 : A.kind == 1
  · rw [Bool.and_false, Bool.false_and]; exact .inl ⟨rfl, rfl⟩
  · cases h2 : B.kind == 1
    · rw [Bool.and_false, Bool.false_and]; exact .inl ⟨rfl, rfl⟩
    · refine .inr ⟨if A.num < B.num then 1 else 0, if B.num < A.num then 1 else 0, ?_, ?_, ?_, ?_, ?_, ?_⟩
      · show (boolV (decide (A.num < B.num)), (0 : Int)) = _
        unfold boolV
        by_cases h : A.num < B.num <;> simp [h]
      · show (boolV (decide (B.num < A.num)), (0 : Int)) = _
        unfold boolV
        by_cases h : B.num < A.num <;> simp [h]
      · split <;> omega
      · split <;> omega
      · split <;> split <;> omega
      · have k1 := eq_of_beq h1
        have k2 := eq_of_beq h2
        have hA := mayV_int_is ha k1
        have hB := mayV_int_is hb k2
        have hs0 : sameV (intV A.num) (intV B.num) = (A.num == B.num) := by simp [sameV, intV, sameN]
        have hs : sameV A B = (A.num == B.num) := by rwa [← hA, ← hB] at hs0
        rw [hs, Bool.eq_iff_iff, beq_iff_eq, beq_iff_eq]
        split <;> split <;> omega

theorem kinds_five (kd : Int) : ∃ k : Int, (k = 6 ∨ k = 8 ∨ k = 13 ∨ k = 14 ∨ k = 11) ∧ 0 ≤ wrap64 ((IntKind.u64.wrap kd).tmod 5) ∧ wrap64 ((IntKind.u64.wrap kd).tmod 5) < 5 ∧ ∀ h, ([Value.int .i64 6, Value.int .i64 8, Value.int .i64 13, Value.int .i64 14, Value.int .i64 11] : List Value)[(wrap64 ((IntKind.u64.wrap kd).tmod 5)).toNat]'h = .int .i64 k := by
  have h0 : 0 ≤ IntKind.u64.wrap kd := by rw [IntKind.wrap_u64]; omega
  have hm : 0 ≤ wrap64 ((IntKind.u64.wrap kd).tmod 5) ∧ wrap64 ((IntKind.u64.wrap kd).tmod 5) < 5 := by
    rw [Int.tmod_eq_emod_of_nonneg h0]
    unfold wrap64
    omega
  generalize wrap64 ((IntKind.u64.wrap kd).tmod 5) = m at hm
  rcases (show m = 0 ∨ m = 1 ∨ m = 2 ∨ m = 3 ∨ m = 4 by omega) with rfl | rfl | rfl | rfl | rfl
  · exact ⟨6, .inl rfl, by omega, by omega, fun _ => rfl⟩
  · exact ⟨8, .inr (.inl rfl), by omega, by omega, fun _ => rfl⟩
  · exact ⟨13, .inr (.inr (.inl rfl)), by omega, by omega, fun _ => rfl⟩
  · exact ⟨14, .inr (.inr (.inr (.inl rfl))), by omega, by omega, fun _ => rfl⟩
  · exact ⟨11, .inr (.inr (.inr (.inr rfl))), by omega, by omega, fun _ => rfl⟩
theorem swap_made (k1 x1 : Int) (s1 : ByteArray) (a1 : Option Addr) (n1 c1 : Nat) (l1 : List Int) (k2 x2 : Int) (s2 : ByteArray) (a2 : Option Addr) (n2 c2 : Nat) (l2 : List Int) (W : World) (h1 : Nums W W.heap.size a1 n1 l1) (h2 : Nums W W.heap.size a2 n2 l2) :
    Binds (W.alloc (.cells #[.string ⟨#[112]⟩, .int .i64 k1, .int .i64 x1, .string s1, .slice a1 n1 c1, .string ⟨#[113]⟩, .int .i64 k2, .int .i64 x2, .string s2, .slice a2 n2 c2] 43)) (W.alloc (.cells #[.string ⟨#[112]⟩, .int .i64 k1, .int .i64 x1, .string s1, .slice a1 n1 c1, .string ⟨#[113]⟩, .int .i64 k2, .int .i64 x2, .string s2, .slice a2 n2 c2] 43)).heap.size (some ⟨W.heap.size, 0, none⟩) 2 (swapE ⟨k1, x1, s1.toList, l1⟩ ⟨k2, x2, s2.toList, l2⟩) :=
  Binds.made W _ [⟨⟨#[112]⟩, k1, x1, s1, a1, n1, c1⟩, ⟨⟨#[113]⟩, k2, x2, s2, a2, n2, c2⟩] _ 2 _ rfl rfl rfl rfl (by omega) fun j b x e1 e2 => by
    have h0 : j < 2 := (List.getElem?_eq_some_iff.1 e2).1
    have e112 : (⟨#[112]⟩ : ByteArray).toList = [112] := by simp [ByteArray.toList_eq]
    have e113 : (⟨#[113]⟩ : ByteArray).toList = [113] := by simp [ByteArray.toList_eq]
    rcases (show j = 0 ∨ j = 1 by omega) with rfl | rfl
    · obtain rfl := Option.some.inj e1
      obtain rfl := Option.some.inj e2
      exact ⟨e112, rfl, rfl, rfl, h1⟩
    · obtain rfl := Option.some.inj e1
      obtain rfl := Option.some.inj e2
      exact ⟨e113, rfl, rfl, rfl, h2⟩
theorem pq_made (k : Int) (W : World) : Trms (W.alloc (.cells #[.int .i64 0, .string ⟨#[112]⟩, .int .i64 0, .string ⟨#[]⟩, .int .i64 (-1), .int .i64 (-1), .int .i64 0, .string ⟨#[113]⟩, .int .i64 0, .string ⟨#[]⟩, .int .i64 (-1), .int .i64 (-1), .int .i64 k, .string ⟨#[]⟩, .int .i64 0, .string ⟨#[]⟩, .int .i64 0, .int .i64 1] 38)) (W.alloc (.cells #[.int .i64 0, .string ⟨#[112]⟩, .int .i64 0, .string ⟨#[]⟩, .int .i64 (-1), .int .i64 (-1), .int .i64 0, .string ⟨#[113]⟩, .int .i64 0, .string ⟨#[]⟩, .int .i64 (-1), .int .i64 (-1), .int .i64 k, .string ⟨#[]⟩, .int .i64 0, .string ⟨#[]⟩, .int .i64 0, .int .i64 1] 38)).heap.size (some ⟨W.heap.size, 0, none⟩) 3 (pqT k) := Trms.made W _ (pqT k) 3 _ rfl rfl rfl (by omega) (short_trms rfl)
theorem qp_made (k : Int) (W : World) : Trms (W.alloc (.cells #[.int .i64 0, .string ⟨#[113]⟩, .int .i64 0, .string ⟨#[]⟩, .int .i64 (-1), .int .i64 (-1), .int .i64 0, .string ⟨#[112]⟩, .int .i64 0, .string ⟨#[]⟩, .int .i64 (-1), .int .i64 (-1), .int .i64 k, .string ⟨#[]⟩, .int .i64 0, .string ⟨#[]⟩, .int .i64 0, .int .i64 1] 38)) (W.alloc (.cells #[.int .i64 0, .string ⟨#[113]⟩, .int .i64 0, .string ⟨#[]⟩, .int .i64 (-1), .int .i64 (-1), .int .i64 0, .string ⟨#[112]⟩, .int .i64 0, .string ⟨#[]⟩, .int .i64 (-1), .int .i64 (-1), .int .i64 k, .string ⟨#[]⟩, .int .i64 0, .string ⟨#[]⟩, .int .i64 0, .int .i64 1] 38)).heap.size (some ⟨W.heap.size, 0, none⟩) 3 (qpT k) := Trms.made W _ (qpT k) 3 _ rfl rfl rfl (by omega) (short_trms rfl)

set_option maxHeartbeats 8000000 in
set_option maxRecDepth 20000 in
theorem termSwaps_walk (kd : Int) (k1 x1 : Int) (s1 : ByteArray) (a1 : Option Addr) (n1 c1 : Nat) (l1 : List Int) (k2 x2 : Int) (s2 : ByteArray) (a2 : Option Addr) (n2 c2 : Nat) (l2 : List Int) (w : World) (h1 : Nums w w.heap.size a1 n1 l1) (h2 : Nums w w.heap.size a2 n2 l2) :
    Calls Try.prog 4 #[.int .i64 kd, .agg #[.int .i64 k1, .int .i64 x1, .string s1, .slice a1 n1 c1], .agg #[.int .i64 k2, .int .i64 x2, .string s2, .slice a2 n2 c2]] w fun e w' => e = .returned (.bool true) ∧ Below w.heap.size w w' := by
  obtain ⟨W0, hW0⟩ : ∃ W0, W0 = (w.alloc (.cells #[.int .i64 k1, .int .i64 x1, .string s1, .slice a1 n1 c1] 33)).alloc (.cells #[.int .i64 k2, .int .i64 x2, .string s2, .slice a2 n2 c2] 33) := ⟨_, rfl⟩
  have hb0 : Below w.heap.size w W0 := by rw [hW0]; exact below_on (next_alloc _ _) (next_alloc _ _)
  have hxA : BoxV W0 w.heap.size (.int .i64 k1) (.int .i64 x1) (.string s1) (.slice a1 n1 c1) := by rw [hW0]; exact (BoxV.new _ _ _ _ _).on (next_alloc _ _)
  have hxB : BoxV W0 (w.heap.size + 1) (.int .i64 k2) (.int .i64 x2) (.string s2) (.slice a2 n2 c2) := by
    have h := BoxV.new (w.alloc (.cells #[.int .i64 k1, .int .i64 x1, .string s1, .slice a1 n1 c1] 33)) (.int .i64 k2) (.int .i64 x2) (.string s2) (.slice a2 n2 c2)
    rw [World.size_alloc] at h
    rw [hW0]; exact h
  obtain ⟨A, hA⟩ : ∃ A : Val, A = ⟨k1, x1, s1.toList, l1⟩ := ⟨_, rfl⟩
  obtain ⟨B, hB⟩ : ∃ B : Val, B = ⟨k2, x2, s2.toList, l2⟩ := ⟨_, rfl⟩
  have CMA := Lib.hid (fun W (hW : Below w.heap.size w W) => show Calls Try.prog 19 #[.agg #[.int .i64 k1, .int .i64 x1, .string s1, .slice a1 n1 c1]] W fun e w' => e = .returned (.bool (mayV A)) ∧ Below W.heap.size W w' from hA ▸ dataMay_any k1 x1 s1 a1 n1 c1 l1 W w.heap.size hW.size (h1.below hW))
  have CMB := Lib.hid (fun W (hW : Below w.heap.size w W) => show Calls Try.prog 19 #[.agg #[.int .i64 k2, .int .i64 x2, .string s2, .slice a2 n2 c2]] W fun e w' => e = .returned (.bool (mayV B)) ∧ Below W.heap.size W w' from hB ▸ dataMay_any k2 x2 s2 a2 n2 c2 l2 W w.heap.size hW.size (h2.below hW))
  have cf := first_any W0
  rw [hW0] at cf
  have CF := Lib.hid cf
  have HB0 := Lib.hid hb0
  have HXA := Lib.hid hxA
  have HXB := Lib.hid hxB
  have HW0 := Lib.hid hW0
  clear cf hb0 hxA hxB
  cases hma : mayV A
  · rw [hma] at CMA
    rw [hW0] at HB0 HXA HXB
    clear hma hW0 h1 h2 hA hB
    go_enter Try.func4, Try.ntmps4
    go_wp2_with (first
      | (go_at_call 13; (with_reducible refine CF.out.mono ?_)
         rintro e w1 ⟨rfl, hb1⟩
         have HB := Lib.hid (below_on HB0.out hb1)
         obtain ⟨⟨p0, p1, p2, p3⟩, _⟩ := (HXA.out.on hb1).cells
         clear hb1)
      | (go_at_call 19; (with_reducible refine (CMA.out _ HB.out).mono ?_)
         rintro e w2 ⟨rfl, hb2⟩
         have HB := Lib.hid (below_on HB.out hb2)
         clear hb2)
      | fail)
    go_ret
    exact ⟨rfl, HB.out⟩
  cases hmb : mayV B
  · rw [hma] at CMA
    rw [hmb] at CMB
    rw [hW0] at HB0 HXA HXB
    clear hma hmb hW0 h1 h2 hA hB
    go_enter Try.func4, Try.ntmps4
    go_wp2_with (first
      | (go_at_call 13; (with_reducible refine CF.out.mono ?_)
         rintro e w1 ⟨rfl, hb1⟩
         have HB := Lib.hid (below_on HB0.out hb1)
         have HXB1 := Lib.hid (HXB.out.on hb1)
         obtain ⟨⟨p0, p1, p2, p3⟩, _⟩ := (HXA.out.on hb1).cells
         clear hb1)
      | (go_at_call 19; (with_reducible refine (CMA.out _ HB.out).mono ?_)
         rintro e w2 ⟨rfl, hb2⟩
         have HB := Lib.hid (below_on HB.out hb2)
         obtain ⟨⟨q0, q1, q2, q3⟩, _⟩ := (HXB1.out.on hb2).cells
         clear hb2)
      | (go_at_call 19; (with_reducible refine (CMB.out _ HB.out).mono ?_)
         rintro e w2 ⟨rfl, hb2⟩
         have HB := Lib.hid (below_on HB.out hb2)
         clear hb2)
      | fail)
    go_ret
    exact ⟨rfl, HB.out⟩
  · rw [hma] at CMA
    rw [hmb] at CMB
    rw [hW0] at HB0 HXA HXB
    obtain ⟨k, hk, m0, m5, hkl⟩ := kinds_five kd
    have hk2 : arT k = 2 ∧ 0 ≤ k ∧ k ≤ 19 := by rcases hk with rfl | rfl | rfl | rfl | rfl <;> exact ⟨rfl, by omega, by omega⟩
    obtain ⟨R, hR⟩ : ∃ R, R = twoV k A B := ⟨_, rfl⟩
    have hr1 := (pq_val hma hmb hk2.1 hk2.2.1 hk2.2.2).trans hR.symm
    have hr2 := (qp_val hma hmb hk2.1 hk2.2.1 hk2.2.2).trans ((swap_two A B hk).symm.trans hR.symm)
    obtain ⟨⟨rk, rn, rt, rl⟩, re⟩ := R
    have CER := Lib.hid (fun (g ge : Nat) (W : World) (hT : Trms W W.heap.size (some ⟨g, 0, none⟩) 3 (pqT k)) (hE : Binds W W.heap.size (some ⟨ge, 0, none⟩) 2 (swapE A B)) =>
      show Calls Try.prog 17 #[.slice (some ⟨g, 0, none⟩) 3 3, .int .i64 2, .slice (some ⟨ge, 0, none⟩) 2 2] W (PairRet W (⟨rk, rn, rt, rl⟩, re)) from hr1 ▸ termEval_any (some ⟨g, 0, none⟩) 3 3 (pqT k) 2 (some ⟨ge, 0, none⟩) 2 2 _ W W.heap.size (Nat.le_refl _) hT hE)
    have CEC := Lib.hid (fun (g ge : Nat) (W : World) (hT : Trms W W.heap.size (some ⟨g, 0, none⟩) 3 (qpT k)) (hE : Binds W W.heap.size (some ⟨ge, 0, none⟩) 2 (swapE A B)) =>
      show Calls Try.prog 17 #[.slice (some ⟨g, 0, none⟩) 3 3, .int .i64 2, .slice (some ⟨ge, 0, none⟩) 2 2] W (PairRet W (⟨rk, rn, rt, rl⟩, re)) from hr2 ▸ termEval_any (some ⟨g, 0, none⟩) 3 3 (qpT k) 2 (some ⟨ge, 0, none⟩) 2 2 _ W W.heap.size (Nat.le_refl _) hT hE)
    have CSM := Lib.hid (fun (sv : ByteArray) (av : Option Addr) (nv cv : Nat) (au : Option Addr) (nu cu : Nat) (W : World) (h1 : Nums W W.heap.size av nv rl) (h2 : Nums W W.heap.size au nu rl) =>
      show Calls Try.prog 18 #[.agg #[.int .i64 rk, .int .i64 rn, .string sv, .slice av nv cv], .agg #[.int .i64 rk, .int .i64 rn, .string sv, .slice au nu cu]] W fun e w' => e = .returned (.bool true) ∧ Below W.heap.size W w' from
        (sameV_iff.2 rfl : sameV ⟨rk, rn, sv.toList, rl⟩ ⟨rk, rn, sv.toList, rl⟩ = true) ▸ dataSame_any rk rn sv av nv cv rl rk rn sv au nu cu rl W W.heap.size (Nat.le_refl _) h1 h2)
    have CAB := Lib.hid (fun (W : World) (hW : Below w.heap.size w W) => show Calls Try.prog 18 #[.agg #[.int .i64 k1, .int .i64 x1, .string s1, .slice a1 n1 c1], .agg #[.int .i64 k2, .int .i64 x2, .string s2, .slice a2 n2 c2]] W fun e w' => e = .returned (.bool (sameV A B)) ∧ Below W.heap.size W w' from
      hA ▸ hB ▸ dataSame_any k1 x1 s1 a1 n1 c1 l1 k2 x2 s2 a2 n2 c2 l2 W w.heap.size hW.size (h1.below hW) (h2.below hW))
    have HN1 := Lib.hid h1
    have HN2 := Lib.hid h2
    have CEN := Lib.hid (fun (W : World) (hW : Below w.heap.size w W) => show Binds (W.alloc (.cells #[.string ⟨#[112]⟩, .int .i64 k1, .int .i64 x1, .string s1, .slice a1 n1 c1, .string ⟨#[113]⟩, .int .i64 k2, .int .i64 x2, .string s2, .slice a2 n2 c2] 43)) (W.alloc (.cells #[.string ⟨#[112]⟩, .int .i64 k1, .int .i64 x1, .string s1, .slice a1 n1 c1, .string ⟨#[113]⟩, .int .i64 k2, .int .i64 x2, .string s2, .slice a2 n2 c2] 43)).heap.size (some ⟨W.heap.size, 0, none⟩) 2 (swapE A B) from
      hA ▸ hB ▸ swap_made k1 x1 s1 a1 n1 c1 l1 k2 x2 s2 a2 n2 c2 l2 W ((h1.below hW).more hW.size) ((h2.below hW).more hW.size))
    have hpq : evalF (pqT 12) 2 (swapE A B) = twoV 12 A B := pq_val hma hmb rfl (by omega) (by omega)
    have hqp : evalF (qpT 12) 2 (swapE A B) = twoV 12 B A := qp_val hma hmb rfl (by omega) (by omega)
    have HLS := Lib.hid (less_two hma hmb)
    have HPQ := Lib.hid (And.intro hpq hqp)
    clear hW0 hr1 hr2 hR hk hk2 hA hB h1 h2 hma hmb hpq hqp
    rcases HLS.out with ⟨hl1, hl2⟩ | ⟨lx, ly, hl1, hl2, hx0, hy0, hxy, hz⟩
    · have CL1 := Lib.hid (fun (g ge : Nat) (W : World) (hT : Trms W W.heap.size (some ⟨g, 0, none⟩) 3 (pqT 12)) (hE : Binds W W.heap.size (some ⟨ge, 0, none⟩) 2 (swapE A B)) =>
        show Calls Try.prog 17 #[.slice (some ⟨g, 0, none⟩) 3 3, .int .i64 2, .slice (some ⟨ge, 0, none⟩) 2 2] W (PairRet W (⟨0, 0, [], []⟩, 402)) from (HPQ.out.1.trans hl1) ▸ termEval_any (some ⟨g, 0, none⟩) 3 3 (pqT 12) 2 (some ⟨ge, 0, none⟩) 2 2 _ W W.heap.size (Nat.le_refl _) hT hE)
      have CL2 := Lib.hid (fun (g ge : Nat) (W : World) (hT : Trms W W.heap.size (some ⟨g, 0, none⟩) 3 (qpT 12)) (hE : Binds W W.heap.size (some ⟨ge, 0, none⟩) 2 (swapE A B)) =>
        show Calls Try.prog 17 #[.slice (some ⟨g, 0, none⟩) 3 3, .int .i64 2, .slice (some ⟨ge, 0, none⟩) 2 2] W (PairRet W (⟨0, 0, [], []⟩, 402)) from (HPQ.out.2.trans hl2) ▸ termEval_any (some ⟨g, 0, none⟩) 3 3 (qpT 12) 2 (some ⟨ge, 0, none⟩) 2 2 _ W W.heap.size (Nat.le_refl _) hT hE)
      clear hl1 hl2
      go_enter Try.func4, Try.ntmps4
      go_wp2_with (first
        | (go_at_call 13; (with_reducible refine CF.out.mono ?_)
           rintro e w1 ⟨rfl, hb1⟩
           have HB := Lib.hid (below_on HB0.out hb1)
           have HXA := Lib.hid (HXA.out.on hb1)
           have HXB := Lib.hid (HXB.out.on hb1)
           obtain ⟨⟨p0, p1, p2, p3⟩, _⟩ := HXA.out.cells
           clear hb1)
        | (go_at_call 19; (with_reducible refine (CMA.out _ HB.out).mono ?_)
           rintro e w2 ⟨rfl, hb2⟩
           have HB := Lib.hid (below_on HB.out hb2)
           have HXA := Lib.hid (HXA.out.on hb2)
           have HXB := Lib.hid (HXB.out.on hb2)
           obtain ⟨⟨q0, q1, q2, q3⟩, _⟩ := HXB.out.cells
           clear hb2)
        | (go_at_call 19; (with_reducible refine (CMB.out _ HB.out).mono ?_)
           rintro e w3 ⟨rfl, hb2⟩
           have hba := below_on (next_alloc w3 (.cells #[.string ⟨#[112]⟩, .int .i64 k1, .int .i64 x1, .string s1, .slice a1 n1 c1, .string ⟨#[113]⟩, .int .i64 k2, .int .i64 x2, .string s2, .slice a2 n2 c2] 43)) (next_alloc (w3.alloc (.cells #[.string ⟨#[112]⟩, .int .i64 k1, .int .i64 x1, .string s1, .slice a1 n1 c1, .string ⟨#[113]⟩, .int .i64 k2, .int .i64 x2, .string s2, .slice a2 n2 c2] 43)) (.cells #[.int .i64 6, .int .i64 8, .int .i64 13, .int .i64 14, .int .i64 11] 3))
           have HXA := Lib.hid (HXA.out.on hb2)
           have HXB := Lib.hid (HXB.out.on hb2)
           have HE := Lib.hid ((CEN.out w3 (below_on HB.out hb2)).on (next_alloc _ (.cells #[.int .i64 6, .int .i64 8, .int .i64 13, .int .i64 14, .int .i64 11] 3)))
           have HB := Lib.hid (below_on (below_on HB.out hb2) hba)
           obtain ⟨⟨p0, p1, p2, p3⟩, _⟩ := HXA.out.cells
           obtain ⟨⟨q0, q1, q2, q3⟩, _⟩ := HXB.out.cells
           have HXA := Lib.hid (HXA.out.on hba)
           have HXB := Lib.hid (HXB.out.on hba)
           clear hb2 hba)
        | (go_at_call 20; (with_reducible refine (var_any _ _).mono ?_)
           rintro e wn ⟨rfl, hb1⟩
           have HXX := Lib.hid (HXX.out.on hb1)
           have HNU := Lib.hid (HNU.out.on hb1)
           have HXU := Lib.hid (HXU.out.on hb1)
           have HNV := Lib.hid (HNV.out.on hb1)
           have HXV := Lib.hid (HXV.out.on hb1)
           have HE := Lib.hid (HE.out.on hb1)
           have HXA := Lib.hid (HXA.out.on hb1)
           have HXB := Lib.hid (HXB.out.on hb1)
           have HB := Lib.hid (below_on HB.out hb1)
           clear hb1)
        | (go_at_call 20; (with_reducible refine (var_any _ _).mono ?_)
           rintro e wn ⟨rfl, hb1⟩
           have HNU := Lib.hid (HNU.out.on hb1)
           have HXU := Lib.hid (HXU.out.on hb1)
           have HNV := Lib.hid (HNV.out.on hb1)
           have HXV := Lib.hid (HXV.out.on hb1)
           have HE := Lib.hid (HE.out.on hb1)
           have HXA := Lib.hid (HXA.out.on hb1)
           have HXB := Lib.hid (HXB.out.on hb1)
           have HB := Lib.hid (below_on HB.out hb1)
           clear hb1)
        | (go_at_call 20; (with_reducible refine (var_any _ _).mono ?_)
           rintro e wn ⟨rfl, hb1⟩
           have HR := Lib.hid (HR.out.on hb1)
           have HE := Lib.hid (HE.out.on hb1)
           have HXA := Lib.hid (HXA.out.on hb1)
           have HXB := Lib.hid (HXB.out.on hb1)
           have HB := Lib.hid (below_on HB.out hb1)
           clear hb1)
        | (go_at_call 20; (with_reducible refine (var_any _ _).mono ?_)
           rintro e wn ⟨rfl, hb1⟩
           have HE := Lib.hid (HE.out.on hb1)
           have HXA := Lib.hid (HXA.out.on hb1)
           have HXB := Lib.hid (HXB.out.on hb1)
           have HB := Lib.hid (below_on HB.out hb1)
           clear hb1)
        | (go_at_call 20; (with_reducible refine (var_any _ _).mono ?_)
           rintro e wn ⟨rfl, hb1⟩
           have HR := Lib.hid ((pq_made k _).on hb1)
           have HB := Lib.hid (below_on (below_on HB.out (next_alloc _ _)) hb1)
           have HE := Lib.hid ((HE.out.on (next_alloc _ _)).on hb1)
           have HXA := Lib.hid ((HXA.out.on (next_alloc _ _)).on hb1)
           have HXB := Lib.hid ((HXB.out.on (next_alloc _ _)).on hb1)
           clear hb1)
        | (go_at_call 21; (with_reducible refine (two_any _ _ _ _).mono ?_)
           rintro e wn ⟨rfl, hb1⟩
           have HXX := Lib.hid (HXX.out.on hb1)
           have HNU := Lib.hid (HNU.out.on hb1)
           have HXU := Lib.hid (HXU.out.on hb1)
           have HNV := Lib.hid (HNV.out.on hb1)
           have HXV := Lib.hid (HXV.out.on hb1)
           have HE := Lib.hid (HE.out.on hb1)
           have HXA := Lib.hid (HXA.out.on hb1)
           have HXB := Lib.hid (HXB.out.on hb1)
           have HB := Lib.hid (below_on HB.out hb1)
           clear hb1)
        | (go_at_call 21; (with_reducible refine (two_any _ _ _ _).mono ?_)
           rintro e wn ⟨rfl, hb1⟩
           have HNU := Lib.hid (HNU.out.on hb1)
           have HXU := Lib.hid (HXU.out.on hb1)
           have HNV := Lib.hid (HNV.out.on hb1)
           have HXV := Lib.hid (HXV.out.on hb1)
           have HE := Lib.hid (HE.out.on hb1)
           have HXA := Lib.hid (HXA.out.on hb1)
           have HXB := Lib.hid (HXB.out.on hb1)
           have HB := Lib.hid (below_on HB.out hb1)
           clear hb1)
        | (go_at_call 21; (with_reducible refine (two_any _ _ _ _).mono ?_)
           rintro e wn ⟨rfl, hb1⟩
           have HR := Lib.hid (HR.out.on hb1)
           have HE := Lib.hid (HE.out.on hb1)
           have HXA := Lib.hid (HXA.out.on hb1)
           have HXB := Lib.hid (HXB.out.on hb1)
           have HB := Lib.hid (below_on HB.out hb1)
           clear hb1)
        | (go_at_call 21; (with_reducible refine (two_any _ _ _ _).mono ?_)
           rintro e wn ⟨rfl, hb1⟩
           have HE := Lib.hid (HE.out.on hb1)
           have HXA := Lib.hid (HXA.out.on hb1)
           have HXB := Lib.hid (HXB.out.on hb1)
           have HB := Lib.hid (below_on HB.out hb1)
           clear hb1)
        | (go_at_call 17; (with_reducible refine (CER.out _ _ _ ?_ ?_).mono ?_)
           · exact HR.out.on (next_alloc _ _)
           · exact HE.out.on (next_alloc _ _)
           rintro e wv ⟨⟨sv, av, nv, cv, rfl, hv, hf⟩, hbv⟩
           have HC := Lib.hid ((qp_made k _).on hbv)
           have HE := Lib.hid ((HE.out.on (next_alloc _ _)).on hbv)
           have HXA := Lib.hid ((HXA.out.on (next_alloc _ _)).on hbv)
           have HXB := Lib.hid ((HXB.out.on (next_alloc _ _)).on hbv)
           have HB := Lib.hid (below_on (below_on HB.out (next_alloc _ _)) hbv)
           have HSV := Lib.hid (show sv.toList = rt from hv.1)
           have HNV := Lib.hid (show Nums wv wv.heap.size av nv rl from hv.2)
           have HXV := Lib.hid (BoxV.new wv (.int .i64 rk) (.int .i64 rn) (.string sv) (.slice av nv cv))
           clear hv hf hbv)
        | (go_at_call 17; (with_reducible refine (CEC.out _ _ _ ?_ ?_).mono ?_)
           · exact HC.out.on (next_alloc _ _)
           · exact HE.out.on (next_alloc _ _)
           rintro e wu ⟨⟨su, au, nu, cu, rfl, hv, hf⟩, hbv⟩
           have HE := Lib.hid ((HE.out.on (next_alloc _ _)).on hbv)
           have HXA := Lib.hid ((HXA.out.on (next_alloc _ _)).on hbv)
           have HXB := Lib.hid ((HXB.out.on (next_alloc _ _)).on hbv)
           have HNV := Lib.hid ((HNV.out.on (next_alloc _ _)).on hbv)
           have HB := Lib.hid (below_on (below_on HB.out (next_alloc _ _)) hbv)
           have HXV := Lib.hid (HXV.out.on hbv)
           obtain rfl : su = sv := toList_inj (hv.1.trans HSV.out.symm)
           have HNU := Lib.hid (show Nums wu wu.heap.size au nu rl from hv.2)
           have HXU := Lib.hid (BoxV.new wu (.int .i64 rk) (.int .i64 rn) (.string su) (.slice au nu cu))
           have HE := Lib.hid (HE.out.on (next_alloc wu (.cells #[.int .i64 rk, .int .i64 rn, .string su, .slice au nu cu] 33)))
           have HXA := Lib.hid (HXA.out.on (next_alloc wu (.cells #[.int .i64 rk, .int .i64 rn, .string su, .slice au nu cu] 33)))
           have HXB := Lib.hid (HXB.out.on (next_alloc wu (.cells #[.int .i64 rk, .int .i64 rn, .string su, .slice au nu cu] 33)))
           have HNV := Lib.hid (HNV.out.on (next_alloc wu (.cells #[.int .i64 rk, .int .i64 rn, .string su, .slice au nu cu] 33)))
           have HXV := Lib.hid (HXV.out.on (next_alloc wu (.cells #[.int .i64 rk, .int .i64 rn, .string su, .slice au nu cu] 33)))
           have HNU := Lib.hid (HNU.out.on (next_alloc wu (.cells #[.int .i64 rk, .int .i64 rn, .string su, .slice au nu cu] 33)))
           have HB := Lib.hid (below_on HB.out (next_alloc wu (.cells #[.int .i64 rk, .int .i64 rn, .string su, .slice au nu cu] 33)))
           clear hv hf hbv)
        | (go_at_call 17; (with_reducible refine (CL1.out _ _ _ ?_ ?_).mono ?_)
           · exact pq_made 12 _
           · exact HE.out.on (next_alloc _ _)
           rintro e wx ⟨⟨sx, ax, nx, cx, rfl, hv, hf⟩, hbv⟩
           have HE := Lib.hid ((HE.out.on (next_alloc _ _)).on hbv)
           have HXA := Lib.hid ((HXA.out.on (next_alloc _ _)).on hbv)
           have HXB := Lib.hid ((HXB.out.on (next_alloc _ _)).on hbv)
           have HNV := Lib.hid ((HNV.out.on (next_alloc _ _)).on hbv)
           have HXV := Lib.hid ((HXV.out.on (next_alloc _ _)).on hbv)
           have HNU := Lib.hid ((HNU.out.on (next_alloc _ _)).on hbv)
           have HXU := Lib.hid ((HXU.out.on (next_alloc _ _)).on hbv)
           have HB := Lib.hid (below_on (below_on HB.out (next_alloc _ _)) hbv)
           have HXX := Lib.hid (BoxV.new wx (.int .i64 0) (.int .i64 0) (.string sx) (.slice ax nx cx))
           have HE := Lib.hid (HE.out.on (next_alloc wx (.cells #[.int .i64 0, .int .i64 0, .string sx, .slice ax nx cx] 33)))
           have HXA := Lib.hid (HXA.out.on (next_alloc wx (.cells #[.int .i64 0, .int .i64 0, .string sx, .slice ax nx cx] 33)))
           have HXB := Lib.hid (HXB.out.on (next_alloc wx (.cells #[.int .i64 0, .int .i64 0, .string sx, .slice ax nx cx] 33)))
           have HNV := Lib.hid (HNV.out.on (next_alloc wx (.cells #[.int .i64 0, .int .i64 0, .string sx, .slice ax nx cx] 33)))
           have HXV := Lib.hid (HXV.out.on (next_alloc wx (.cells #[.int .i64 0, .int .i64 0, .string sx, .slice ax nx cx] 33)))
           have HNU := Lib.hid (HNU.out.on (next_alloc wx (.cells #[.int .i64 0, .int .i64 0, .string sx, .slice ax nx cx] 33)))
           have HXU := Lib.hid (HXU.out.on (next_alloc wx (.cells #[.int .i64 0, .int .i64 0, .string sx, .slice ax nx cx] 33)))
           have HB := Lib.hid (below_on HB.out (next_alloc wx (.cells #[.int .i64 0, .int .i64 0, .string sx, .slice ax nx cx] 33)))
           clear hv hf hbv)
        | (go_at_call 17; (with_reducible refine (CL2.out _ _ _ ?_ ?_).mono ?_)
           · exact qp_made 12 _
           · exact HE.out.on (next_alloc _ _)
           rintro e wy ⟨⟨sy, ay, ny, cy, rfl, hv, hf⟩, hbv⟩
           have HXA := Lib.hid ((HXA.out.on (next_alloc _ _)).on hbv)
           have HXB := Lib.hid ((HXB.out.on (next_alloc _ _)).on hbv)
           have HNV := Lib.hid ((HNV.out.on (next_alloc _ _)).on hbv)
           have HXV := Lib.hid ((HXV.out.on (next_alloc _ _)).on hbv)
           have HNU := Lib.hid ((HNU.out.on (next_alloc _ _)).on hbv)
           have HXU := Lib.hid ((HXU.out.on (next_alloc _ _)).on hbv)
           have HXX := Lib.hid ((HXX.out.on (next_alloc _ _)).on hbv)
           have HB := Lib.hid (below_on (below_on HB.out (next_alloc _ _)) hbv)
           have HXY := Lib.hid (BoxV.new wy (.int .i64 0) (.int .i64 0) (.string sy) (.slice ay ny cy))
           have HXA := Lib.hid (HXA.out.on (next_alloc wy (.cells #[.int .i64 0, .int .i64 0, .string sy, .slice ay ny cy] 33)))
           have HXB := Lib.hid (HXB.out.on (next_alloc wy (.cells #[.int .i64 0, .int .i64 0, .string sy, .slice ay ny cy] 33)))
           have HNV := Lib.hid (HNV.out.on (next_alloc wy (.cells #[.int .i64 0, .int .i64 0, .string sy, .slice ay ny cy] 33)))
           have HXV := Lib.hid (HXV.out.on (next_alloc wy (.cells #[.int .i64 0, .int .i64 0, .string sy, .slice ay ny cy] 33)))
           have HNU := Lib.hid (HNU.out.on (next_alloc wy (.cells #[.int .i64 0, .int .i64 0, .string sy, .slice ay ny cy] 33)))
           have HXU := Lib.hid (HXU.out.on (next_alloc wy (.cells #[.int .i64 0, .int .i64 0, .string sy, .slice ay ny cy] 33)))
           have HXX := Lib.hid (HXX.out.on (next_alloc wy (.cells #[.int .i64 0, .int .i64 0, .string sy, .slice ay ny cy] 33)))
           have HB := Lib.hid (below_on HB.out (next_alloc wy (.cells #[.int .i64 0, .int .i64 0, .string sy, .slice ay ny cy] 33)))
           obtain ⟨⟨y0, y1, y2, y3⟩, _⟩ := HXV.out.cells
           obtain ⟨⟨u0, u1, u2, u3⟩, _⟩ := HXU.out.cells
           clear hv hf hbv)
        | (go_at_call 18; (with_reducible refine (CSM.out _ _ _ _ _ _ _ _ HNV.out HNU.out).mono ?_)
           rintro e ws ⟨rfl, hb1⟩
           have HXA := Lib.hid (HXA.out.on hb1)
           have HXB := Lib.hid (HXB.out.on hb1)
           have HXX := Lib.hid (HXX.out.on hb1)
           have HXY := Lib.hid (HXY.out.on hb1)
           have HB := Lib.hid (below_on HB.out hb1)
           obtain ⟨⟨p0, p1, p2, p3⟩, _⟩ := HXA.out.cells
           obtain ⟨⟨q0, q1, q2, q3⟩, _⟩ := HXB.out.cells
           obtain ⟨⟨v0, v1, v2, v3⟩, _⟩ := HXX.out.cells
           obtain ⟨⟨t0, t1, t2, t3⟩, _⟩ := HXY.out.cells
           clear hb1)
        | fail)
      go_quiet (fail)
      go_wp2
      go_ret
      exact ⟨rfl, below_drewN HB.out _⟩
    · have CL1 := Lib.hid (fun (g ge : Nat) (W : World) (hT : Trms W W.heap.size (some ⟨g, 0, none⟩) 3 (pqT 12)) (hE : Binds W W.heap.size (some ⟨ge, 0, none⟩) 2 (swapE A B)) =>
        show Calls Try.prog 17 #[.slice (some ⟨g, 0, none⟩) 3 3, .int .i64 2, .slice (some ⟨ge, 0, none⟩) 2 2] W (PairRet W (⟨2, lx, [], []⟩, 0)) from (HPQ.out.1.trans hl1) ▸ termEval_any (some ⟨g, 0, none⟩) 3 3 (pqT 12) 2 (some ⟨ge, 0, none⟩) 2 2 _ W W.heap.size (Nat.le_refl _) hT hE)
      have CL2 := Lib.hid (fun (g ge : Nat) (W : World) (hT : Trms W W.heap.size (some ⟨g, 0, none⟩) 3 (qpT 12)) (hE : Binds W W.heap.size (some ⟨ge, 0, none⟩) 2 (swapE A B)) =>
        show Calls Try.prog 17 #[.slice (some ⟨g, 0, none⟩) 3 3, .int .i64 2, .slice (some ⟨ge, 0, none⟩) 2 2] W (PairRet W (⟨2, ly, [], []⟩, 0)) from (HPQ.out.2.trans hl2) ▸ termEval_any (some ⟨g, 0, none⟩) 3 3 (qpT 12) 2 (some ⟨ge, 0, none⟩) 2 2 _ W W.heap.size (Nat.le_refl _) hT hE)
      have hw1 : IntKind.i64.wrap (lx + ly) = lx + ly := by rw [IntKind.wrap_i64]; omega
      have hle : decide (lx + ly ≤ 1) = true := decide_eq_true hxy
      generalize hsab : sameV A B = sab at CAB hz
      have HZ := Lib.hid hz
      clear hl1 hl2 hsab hz hx0 hy0 hxy
      go_enter Try.func4, Try.ntmps4
      go_wp2_with (first
        | (go_at_call 13; (with_reducible refine CF.out.mono ?_)
           rintro e w1 ⟨rfl, hb1⟩
           have HB := Lib.hid (below_on HB0.out hb1)
           have HXA := Lib.hid (HXA.out.on hb1)
           have HXB := Lib.hid (HXB.out.on hb1)
           obtain ⟨⟨p0, p1, p2, p3⟩, _⟩ := HXA.out.cells
           clear hb1)
        | (go_at_call 19; (with_reducible refine (CMA.out _ HB.out).mono ?_)
           rintro e w2 ⟨rfl, hb2⟩
           have HB := Lib.hid (below_on HB.out hb2)
           have HXA := Lib.hid (HXA.out.on hb2)
           have HXB := Lib.hid (HXB.out.on hb2)
           obtain ⟨⟨q0, q1, q2, q3⟩, _⟩ := HXB.out.cells
           clear hb2)
        | (go_at_call 19; (with_reducible refine (CMB.out _ HB.out).mono ?_)
           rintro e w3 ⟨rfl, hb2⟩
           have hba := below_on (next_alloc w3 (.cells #[.string ⟨#[112]⟩, .int .i64 k1, .int .i64 x1, .string s1, .slice a1 n1 c1, .string ⟨#[113]⟩, .int .i64 k2, .int .i64 x2, .string s2, .slice a2 n2 c2] 43)) (next_alloc (w3.alloc (.cells #[.string ⟨#[112]⟩, .int .i64 k1, .int .i64 x1, .string s1, .slice a1 n1 c1, .string ⟨#[113]⟩, .int .i64 k2, .int .i64 x2, .string s2, .slice a2 n2 c2] 43)) (.cells #[.int .i64 6, .int .i64 8, .int .i64 13, .int .i64 14, .int .i64 11] 3))
           have HXA := Lib.hid (HXA.out.on hb2)
           have HXB := Lib.hid (HXB.out.on hb2)
           have HE := Lib.hid ((CEN.out w3 (below_on HB.out hb2)).on (next_alloc _ (.cells #[.int .i64 6, .int .i64 8, .int .i64 13, .int .i64 14, .int .i64 11] 3)))
           have HB := Lib.hid (below_on (below_on HB.out hb2) hba)
           obtain ⟨⟨p0, p1, p2, p3⟩, _⟩ := HXA.out.cells
           obtain ⟨⟨q0, q1, q2, q3⟩, _⟩ := HXB.out.cells
           have HXA := Lib.hid (HXA.out.on hba)
           have HXB := Lib.hid (HXB.out.on hba)
           clear hb2 hba)
        | (go_at_call 20; (with_reducible refine (var_any _ _).mono ?_)
           rintro e wn ⟨rfl, hb1⟩
           have HXX := Lib.hid (HXX.out.on hb1)
           have HNU := Lib.hid (HNU.out.on hb1)
           have HXU := Lib.hid (HXU.out.on hb1)
           have HNV := Lib.hid (HNV.out.on hb1)
           have HXV := Lib.hid (HXV.out.on hb1)
           have HE := Lib.hid (HE.out.on hb1)
           have HXA := Lib.hid (HXA.out.on hb1)
           have HXB := Lib.hid (HXB.out.on hb1)
           have HB := Lib.hid (below_on HB.out hb1)
           clear hb1)
        | (go_at_call 20; (with_reducible refine (var_any _ _).mono ?_)
           rintro e wn ⟨rfl, hb1⟩
           have HNU := Lib.hid (HNU.out.on hb1)
           have HXU := Lib.hid (HXU.out.on hb1)
           have HNV := Lib.hid (HNV.out.on hb1)
           have HXV := Lib.hid (HXV.out.on hb1)
           have HE := Lib.hid (HE.out.on hb1)
           have HXA := Lib.hid (HXA.out.on hb1)
           have HXB := Lib.hid (HXB.out.on hb1)
           have HB := Lib.hid (below_on HB.out hb1)
           clear hb1)
        | (go_at_call 20; (with_reducible refine (var_any _ _).mono ?_)
           rintro e wn ⟨rfl, hb1⟩
           have HR := Lib.hid (HR.out.on hb1)
           have HE := Lib.hid (HE.out.on hb1)
           have HXA := Lib.hid (HXA.out.on hb1)
           have HXB := Lib.hid (HXB.out.on hb1)
           have HB := Lib.hid (below_on HB.out hb1)
           clear hb1)
        | (go_at_call 20; (with_reducible refine (var_any _ _).mono ?_)
           rintro e wn ⟨rfl, hb1⟩
           have HE := Lib.hid (HE.out.on hb1)
           have HXA := Lib.hid (HXA.out.on hb1)
           have HXB := Lib.hid (HXB.out.on hb1)
           have HB := Lib.hid (below_on HB.out hb1)
           clear hb1)
        | (go_at_call 20; (with_reducible refine (var_any _ _).mono ?_)
           rintro e wn ⟨rfl, hb1⟩
           have HR := Lib.hid ((pq_made k _).on hb1)
           have HB := Lib.hid (below_on (below_on HB.out (next_alloc _ _)) hb1)
           have HE := Lib.hid ((HE.out.on (next_alloc _ _)).on hb1)
           have HXA := Lib.hid ((HXA.out.on (next_alloc _ _)).on hb1)
           have HXB := Lib.hid ((HXB.out.on (next_alloc _ _)).on hb1)
           clear hb1)
        | (go_at_call 21; (with_reducible refine (two_any _ _ _ _).mono ?_)
           rintro e wn ⟨rfl, hb1⟩
           have HXX := Lib.hid (HXX.out.on hb1)
           have HNU := Lib.hid (HNU.out.on hb1)
           have HXU := Lib.hid (HXU.out.on hb1)
           have HNV := Lib.hid (HNV.out.on hb1)
           have HXV := Lib.hid (HXV.out.on hb1)
           have HE := Lib.hid (HE.out.on hb1)
           have HXA := Lib.hid (HXA.out.on hb1)
           have HXB := Lib.hid (HXB.out.on hb1)
           have HB := Lib.hid (below_on HB.out hb1)
           clear hb1)
        | (go_at_call 21; (with_reducible refine (two_any _ _ _ _).mono ?_)
           rintro e wn ⟨rfl, hb1⟩
           have HNU := Lib.hid (HNU.out.on hb1)
           have HXU := Lib.hid (HXU.out.on hb1)
           have HNV := Lib.hid (HNV.out.on hb1)
           have HXV := Lib.hid (HXV.out.on hb1)
           have HE := Lib.hid (HE.out.on hb1)
           have HXA := Lib.hid (HXA.out.on hb1)
           have HXB := Lib.hid (HXB.out.on hb1)
           have HB := Lib.hid (below_on HB.out hb1)
           clear hb1)
        | (go_at_call 21; (with_reducible refine (two_any _ _ _ _).mono ?_)
           rintro e wn ⟨rfl, hb1⟩
           have HR := Lib.hid (HR.out.on hb1)
           have HE := Lib.hid (HE.out.on hb1)
           have HXA := Lib.hid (HXA.out.on hb1)
           have HXB := Lib.hid (HXB.out.on hb1)
           have HB := Lib.hid (below_on HB.out hb1)
           clear hb1)
        | (go_at_call 21; (with_reducible refine (two_any _ _ _ _).mono ?_)
           rintro e wn ⟨rfl, hb1⟩
           have HE := Lib.hid (HE.out.on hb1)
           have HXA := Lib.hid (HXA.out.on hb1)
           have HXB := Lib.hid (HXB.out.on hb1)
           have HB := Lib.hid (below_on HB.out hb1)
           clear hb1)
        | (go_at_call 17; (with_reducible refine (CER.out _ _ _ ?_ ?_).mono ?_)
           · exact HR.out.on (next_alloc _ _)
           · exact HE.out.on (next_alloc _ _)
           rintro e wv ⟨⟨sv, av, nv, cv, rfl, hv, hf⟩, hbv⟩
           have HC := Lib.hid ((qp_made k _).on hbv)
           have HE := Lib.hid ((HE.out.on (next_alloc _ _)).on hbv)
           have HXA := Lib.hid ((HXA.out.on (next_alloc _ _)).on hbv)
           have HXB := Lib.hid ((HXB.out.on (next_alloc _ _)).on hbv)
           have HB := Lib.hid (below_on (below_on HB.out (next_alloc _ _)) hbv)
           have HSV := Lib.hid (show sv.toList = rt from hv.1)
           have HNV := Lib.hid (show Nums wv wv.heap.size av nv rl from hv.2)
           have HXV := Lib.hid (BoxV.new wv (.int .i64 rk) (.int .i64 rn) (.string sv) (.slice av nv cv))
           clear hv hf hbv)
        | (go_at_call 17; (with_reducible refine (CEC.out _ _ _ ?_ ?_).mono ?_)
           · exact HC.out.on (next_alloc _ _)
           · exact HE.out.on (next_alloc _ _)
           rintro e wu ⟨⟨su, au, nu, cu, rfl, hv, hf⟩, hbv⟩
           have HE := Lib.hid ((HE.out.on (next_alloc _ _)).on hbv)
           have HXA := Lib.hid ((HXA.out.on (next_alloc _ _)).on hbv)
           have HXB := Lib.hid ((HXB.out.on (next_alloc _ _)).on hbv)
           have HNV := Lib.hid ((HNV.out.on (next_alloc _ _)).on hbv)
           have HB := Lib.hid (below_on (below_on HB.out (next_alloc _ _)) hbv)
           have HXV := Lib.hid (HXV.out.on hbv)
           obtain rfl : su = sv := toList_inj (hv.1.trans HSV.out.symm)
           have HNU := Lib.hid (show Nums wu wu.heap.size au nu rl from hv.2)
           have HXU := Lib.hid (BoxV.new wu (.int .i64 rk) (.int .i64 rn) (.string su) (.slice au nu cu))
           have HE := Lib.hid (HE.out.on (next_alloc wu (.cells #[.int .i64 rk, .int .i64 rn, .string su, .slice au nu cu] 33)))
           have HXA := Lib.hid (HXA.out.on (next_alloc wu (.cells #[.int .i64 rk, .int .i64 rn, .string su, .slice au nu cu] 33)))
           have HXB := Lib.hid (HXB.out.on (next_alloc wu (.cells #[.int .i64 rk, .int .i64 rn, .string su, .slice au nu cu] 33)))
           have HNV := Lib.hid (HNV.out.on (next_alloc wu (.cells #[.int .i64 rk, .int .i64 rn, .string su, .slice au nu cu] 33)))
           have HXV := Lib.hid (HXV.out.on (next_alloc wu (.cells #[.int .i64 rk, .int .i64 rn, .string su, .slice au nu cu] 33)))
           have HNU := Lib.hid (HNU.out.on (next_alloc wu (.cells #[.int .i64 rk, .int .i64 rn, .string su, .slice au nu cu] 33)))
           have HB := Lib.hid (below_on HB.out (next_alloc wu (.cells #[.int .i64 rk, .int .i64 rn, .string su, .slice au nu cu] 33)))
           clear hv hf hbv)
        | (go_at_call 17; (with_reducible refine (CL1.out _ _ _ ?_ ?_).mono ?_)
           · exact pq_made 12 _
           · exact HE.out.on (next_alloc _ _)
           rintro e wx ⟨⟨sx, ax, nx, cx, rfl, hv, hf⟩, hbv⟩
           have HE := Lib.hid ((HE.out.on (next_alloc _ _)).on hbv)
           have HXA := Lib.hid ((HXA.out.on (next_alloc _ _)).on hbv)
           have HXB := Lib.hid ((HXB.out.on (next_alloc _ _)).on hbv)
           have HNV := Lib.hid ((HNV.out.on (next_alloc _ _)).on hbv)
           have HXV := Lib.hid ((HXV.out.on (next_alloc _ _)).on hbv)
           have HNU := Lib.hid ((HNU.out.on (next_alloc _ _)).on hbv)
           have HXU := Lib.hid ((HXU.out.on (next_alloc _ _)).on hbv)
           have HB := Lib.hid (below_on (below_on HB.out (next_alloc _ _)) hbv)
           have HXX := Lib.hid (BoxV.new wx (.int .i64 2) (.int .i64 lx) (.string sx) (.slice ax nx cx))
           have HE := Lib.hid (HE.out.on (next_alloc wx (.cells #[.int .i64 2, .int .i64 lx, .string sx, .slice ax nx cx] 33)))
           have HXA := Lib.hid (HXA.out.on (next_alloc wx (.cells #[.int .i64 2, .int .i64 lx, .string sx, .slice ax nx cx] 33)))
           have HXB := Lib.hid (HXB.out.on (next_alloc wx (.cells #[.int .i64 2, .int .i64 lx, .string sx, .slice ax nx cx] 33)))
           have HNV := Lib.hid (HNV.out.on (next_alloc wx (.cells #[.int .i64 2, .int .i64 lx, .string sx, .slice ax nx cx] 33)))
           have HXV := Lib.hid (HXV.out.on (next_alloc wx (.cells #[.int .i64 2, .int .i64 lx, .string sx, .slice ax nx cx] 33)))
           have HNU := Lib.hid (HNU.out.on (next_alloc wx (.cells #[.int .i64 2, .int .i64 lx, .string sx, .slice ax nx cx] 33)))
           have HXU := Lib.hid (HXU.out.on (next_alloc wx (.cells #[.int .i64 2, .int .i64 lx, .string sx, .slice ax nx cx] 33)))
           have HB := Lib.hid (below_on HB.out (next_alloc wx (.cells #[.int .i64 2, .int .i64 lx, .string sx, .slice ax nx cx] 33)))
           clear hv hf hbv)
        | (go_at_call 17; (with_reducible refine (CL2.out _ _ _ ?_ ?_).mono ?_)
           · exact qp_made 12 _
           · exact HE.out.on (next_alloc _ _)
           rintro e wy ⟨⟨sy, ay, ny, cy, rfl, hv, hf⟩, hbv⟩
           have HXA := Lib.hid ((HXA.out.on (next_alloc _ _)).on hbv)
           have HXB := Lib.hid ((HXB.out.on (next_alloc _ _)).on hbv)
           have HNV := Lib.hid ((HNV.out.on (next_alloc _ _)).on hbv)
           have HXV := Lib.hid ((HXV.out.on (next_alloc _ _)).on hbv)
           have HNU := Lib.hid ((HNU.out.on (next_alloc _ _)).on hbv)
           have HXU := Lib.hid ((HXU.out.on (next_alloc _ _)).on hbv)
           have HXX := Lib.hid ((HXX.out.on (next_alloc _ _)).on hbv)
           have HB := Lib.hid (below_on (below_on HB.out (next_alloc _ _)) hbv)
           have HXY := Lib.hid (BoxV.new wy (.int .i64 2) (.int .i64 ly) (.string sy) (.slice ay ny cy))
           have HXA := Lib.hid (HXA.out.on (next_alloc wy (.cells #[.int .i64 2, .int .i64 ly, .string sy, .slice ay ny cy] 33)))
           have HXB := Lib.hid (HXB.out.on (next_alloc wy (.cells #[.int .i64 2, .int .i64 ly, .string sy, .slice ay ny cy] 33)))
           have HNV := Lib.hid (HNV.out.on (next_alloc wy (.cells #[.int .i64 2, .int .i64 ly, .string sy, .slice ay ny cy] 33)))
           have HXV := Lib.hid (HXV.out.on (next_alloc wy (.cells #[.int .i64 2, .int .i64 ly, .string sy, .slice ay ny cy] 33)))
           have HNU := Lib.hid (HNU.out.on (next_alloc wy (.cells #[.int .i64 2, .int .i64 ly, .string sy, .slice ay ny cy] 33)))
           have HXU := Lib.hid (HXU.out.on (next_alloc wy (.cells #[.int .i64 2, .int .i64 ly, .string sy, .slice ay ny cy] 33)))
           have HXX := Lib.hid (HXX.out.on (next_alloc wy (.cells #[.int .i64 2, .int .i64 ly, .string sy, .slice ay ny cy] 33)))
           have HB := Lib.hid (below_on HB.out (next_alloc wy (.cells #[.int .i64 2, .int .i64 ly, .string sy, .slice ay ny cy] 33)))
           obtain ⟨⟨y0, y1, y2, y3⟩, _⟩ := HXV.out.cells
           obtain ⟨⟨u0, u1, u2, u3⟩, _⟩ := HXU.out.cells
           clear hv hf hbv)
        | (go_at_call 18; (with_reducible refine (CSM.out _ _ _ _ _ _ _ _ HNV.out HNU.out).mono ?_)
           rintro e ws ⟨rfl, hb1⟩
           have HXA := Lib.hid (HXA.out.on hb1)
           have HXB := Lib.hid (HXB.out.on hb1)
           have HXX := Lib.hid (HXX.out.on hb1)
           have HXY := Lib.hid (HXY.out.on hb1)
           have HB := Lib.hid (below_on HB.out hb1)
           obtain ⟨⟨p0, p1, p2, p3⟩, _⟩ := HXA.out.cells
           obtain ⟨⟨q0, q1, q2, q3⟩, _⟩ := HXB.out.cells
           obtain ⟨⟨v0, v1, v2, v3⟩, _⟩ := HXX.out.cells
           obtain ⟨⟨t0, t1, t2, t3⟩, _⟩ := HXY.out.cells
           clear hb1)
        | fail)
      go_region_held3 (fun W => (W.cell? ⟨wx.heap.size, 1, none⟩ = some (.int .i64 lx) ∧ W.cell? ⟨wy.heap.size, 1, none⟩ = some (.int .i64 ly)) ∧ (W.cell? ⟨w.heap.size, 0, none⟩ = some (.int .i64 k1) ∧ W.cell? ⟨w.heap.size, 1, none⟩ = some (.int .i64 x1) ∧ W.cell? ⟨w.heap.size, 2, none⟩ = some (.string s1) ∧ W.cell? ⟨w.heap.size, 3, none⟩ = some (.slice a1 n1 c1)) ∧ W.cell? ⟨w.heap.size + 1, 0, none⟩ = some (.int .i64 k2) ∧ W.cell? ⟨w.heap.size + 1, 1, none⟩ = some (.int .i64 x2) ∧ W.cell? ⟨w.heap.size + 1, 2, none⟩ = some (.string s2) ∧ W.cell? ⟨w.heap.size + 1, 3, none⟩ = some (.slice a2 n2 c2)) (exact ⟨⟨v1, t1⟩, ⟨p0, p1, p2, p3⟩, q0, q1, q2, q3⟩) (first
        | (go_at_call 18; (with_reducible refine (CAB.out _ ?_).mono ?_)
           · first | exact HB.out | exact HB.out.drew | exact below_drewN HB.out _
           rintro e wn ⟨rfl, hbn⟩
           have HXA := Lib.hid (HXA.out.on (W' := wn) ⟨hbn.os, hbn.tape, hbn.output, hbn.size, hbn.block⟩)
           have HXB := Lib.hid (HXB.out.on (W' := wn) ⟨hbn.os, hbn.tape, hbn.output, hbn.size, hbn.block⟩)
           have HXX := Lib.hid (HXX.out.on (W' := wn) ⟨hbn.os, hbn.tape, hbn.output, hbn.size, hbn.block⟩)
           have HXY := Lib.hid (HXY.out.on (W' := wn) ⟨hbn.os, hbn.tape, hbn.output, hbn.size, hbn.block⟩)
           have HB := Lib.hid (show Below w.heap.size w wn from below_on HB.out ⟨hbn.os, hbn.tape, hbn.output, hbn.size, hbn.block⟩)
           obtain ⟨⟨p0, p1, p2, p3⟩, _⟩ := HXA.out.cells
           obtain ⟨⟨q0, q1, q2, q3⟩, _⟩ := HXB.out.cells
           obtain ⟨⟨v0, v1, v2, v3⟩, _⟩ := HXX.out.cells
           obtain ⟨⟨t0, t1, t2, t3⟩, _⟩ := HXY.out.cells
           clear hbn)
        | fail)
      all_goals go_wp2
      all_goals go_ret
      all_goals first
        | exact ⟨ret_bool (by rw [HZ.out]; exact beq_self_eq_true _), HB.out⟩
        | exact ⟨ret_bool (by rw [HZ.out]; exact beq_self_eq_true _), HB.out.drew⟩
        | fail
end Go.Proofs.Ythchilnibblbgaa
