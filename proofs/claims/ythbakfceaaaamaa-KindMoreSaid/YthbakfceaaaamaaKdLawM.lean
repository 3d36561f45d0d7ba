/- The law KindMore returns true, whatever its arguments. -/
import Derived.Test.YthbakfceaaaamaaKdTyps
import Derived.Test.YthbakfceaaaamaaTmLawS
import Derived.Deep.DeepCutAuto
namespace Go.Proofs.Ythbakfceaaaamaa
open Go.RowKit

/-- The four values that came in, in blocks of their own. -/
def FourB (W : World) (g : Nat) (p0 p1 p2 p3 q0 q1 q2 q3 r0 r1 r2 r3 t0 t1 t2 t3 : Value) : Prop := BoxV W g p0 p1 p2 p3 ∧ BoxV W (g + 1) q0 q1 q2 q3 ∧ BoxV W (g + 1 + 1) r0 r1 r2 r3 ∧ BoxV W (g + 1 + 1 + 1) t0 t1 t2 t3
theorem FourB.on {W W' : World} {g : Nat} {p0 p1 p2 p3 q0 q1 q2 q3 r0 r1 r2 r3 t0 t1 t2 t3 : Value} (h : FourB W g p0 p1 p2 p3 q0 q1 q2 q3 r0 r1 r2 r3 t0 t1 t2 t3) (hb : Below W.heap.size W W') : FourB W' g p0 p1 p2 p3 q0 q1 q2 q3 r0 r1 r2 r3 t0 t1 t2 t3 :=
  ⟨h.1.on hb, h.2.1.on hb, h.2.2.1.on hb, h.2.2.2.on hb⟩
theorem BoxV.newAt (W : World) (v0 v1 v2 v3 : Value) {g : Nat} (hg : g = W.heap.size) : BoxV (W.alloc (.cells #[v0, v1, v2, v3] 33)) g v0 v1 v2 v3 := by subst hg; exact BoxV.new W _ _ _ _
theorem four_below (w : World) (a b c d : Obj) : Below w.heap.size w ((((w.alloc a).alloc b).alloc c).alloc d) := below_on (up3 w a b c) (up1 _ d)
theorem four_new (w : World) (p0 p1 p2 p3 q0 q1 q2 q3 r0 r1 r2 r3 t0 t1 t2 t3 : Value) :
    FourB ((((w.alloc (.cells #[p0, p1, p2, p3] 33)).alloc (.cells #[q0, q1, q2, q3] 33)).alloc (.cells #[r0, r1, r2, r3] 33)).alloc (.cells #[t0, t1, t2, t3] 33)) w.heap.size p0 p1 p2 p3 q0 q1 q2 q3 r0 r1 r2 r3 t0 t1 t2 t3 :=
  ⟨(BoxV.newAt _ _ _ _ _ rfl).on (up3 _ _ _ _), (BoxV.newAt _ _ _ _ _ (by simp)).on (up2 _ _ _), (BoxV.newAt _ _ _ _ _ (by simp)).on (up1 _ _), BoxV.newAt _ _ _ _ _ (by simp)⟩
theorem swap_kinds (A B : Val) : kindsOf (swapE A B) = [([112], A.kind), ([113], B.kind)] := rfl
theorem pq_kind {A B : Val} {k : Int} (ha : mayV A = true) (hb : mayV B = true) (h : arT k = 2) (h0 : 0 ≤ k) (h1 : k ≤ 19) : kindF (pqT k) 2 (kindsOf (swapE A B)) = twoK k A.kind B.kind := by
  rw [pqT, kindF_two _ (sound_var may_p) rfl (sound_var may_q) rfl h h0 h1, swap_kinds]
  have e1 : leafK [([112], A.kind), ([113], B.kind)] (varT [112]) = (A.kind, 0) := by
    show typedK _ [112] = _
    rw [typedK, if_pos rfl, if_pos (mayV_kinds ha)]
  have e2 : leafK [([112], A.kind), ([113], B.kind)] (varT [113]) = (B.kind, 0) := by
    show typedK _ [113] = _
    rw [typedK, if_neg (by decide), typedK, if_pos rfl, if_pos (mayV_kinds hb)]
  simp only [kindE, e1, e2, if_true]
  rfl
theorem more_ways {k : Int} (A B C D : Val) (hk : arT k = 2) (e1 : C.kind = A.kind) (e2 : D.kind = B.kind) {K : Int × Int} {R S : Val × Int} (hK : twoK k A.kind B.kind = K) (hR : twoV k A B = R) (hS : twoV k C D = S) :
    (K.2 = 502 ∧ R.2 = 402 ∧ S.2 = 402) ∨ (K.2 = 0 ∧ ((R.2 = 0 ∧ R.1.kind = K.1) ∨ (R.2 != 0) = true) ∧ ((S.2 = 0 ∧ S.1.kind = K.1) ∨ (S.2 != 0) = true)) := by
  have h1 := two_sound k A B hk
  have h2 := two_sound k C D hk
  rw [e1, e2, hK, hS] at h2
  rw [hK, hR] at h1
  unfold Sound at h1 h2
  by_cases h0 : K.2 = 0
  · rw [if_pos h0] at h1 h2
    refine .inr ⟨h0, ?_, ?_⟩
    · rcases h1 with h | h
      · exact .inl h
      · exact .inr (by rw [bne_iff_ne]; omega)
    · rcases h2 with h | h
      · exact .inl h
      · exact .inr (by rw [bne_iff_ne]; omega)
  · left
    have f1 : fitsK k A.kind B.kind = false := by
      cases hf : fitsK k A.kind B.kind
      · rfl
      · unfold twoK at hK
        rw [hf, if_pos rfl] at hK
        rw [← hK] at h0
        exact absurd rfl h0
    have f2 : fitsV k A B = false := f1
    have f3 : fitsV k C D = false := by rw [fits_kinds, e1, e2]; exact f1
    unfold twoK at hK
    unfold twoV at hR hS
    rw [f1, if_neg (by decide)] at hK
    rw [f2, if_neg (by decide)] at hR
    rw [f3, if_neg (by decide)] at hS
    subst hK hR hS
    exact ⟨rfl, rfl, rfl⟩
theorem swap_madeAt (k1 x1 : Int) (s1 : ByteArray) (a1 : Option Addr) (n1 c1 : Nat) (l1 : List Int) (k2 x2 : Int) (s2 : ByteArray) (a2 : Option Addr) (n2 c2 : Nat) (l2 : List Int) (W : World) (h1 : Nums W W.heap.size a1 n1 l1) (h2 : Nums W W.heap.size a2 n2 l2) {g : Nat} (hg : g = W.heap.size) :
    Binds (W.alloc (.cells #[.string ⟨#[112]⟩, .int .i64 k1, .int .i64 x1, .string s1, .slice a1 n1 c1, .string ⟨#[113]⟩, .int .i64 k2, .int .i64 x2, .string s2, .slice a2 n2 c2] 35)) (W.alloc (.cells #[.string ⟨#[112]⟩, .int .i64 k1, .int .i64 x1, .string s1, .slice a1 n1 c1, .string ⟨#[113]⟩, .int .i64 k2, .int .i64 x2, .string s2, .slice a2 n2 c2] 35)).heap.size (some ⟨g, 0, none⟩) 2 (swapE ⟨k1, x1, s1.toList, l1⟩ ⟨k2, x2, s2.toList, l2⟩) := by
  subst hg
  exact swap_made k1 x1 s1 a1 n1 c1 l1 k2 x2 s2 a2 n2 c2 l2 W h1 h2

set_option maxHeartbeats 8000000 in
set_option maxRecDepth 20000 in
theorem more_k13 (kd : Int) (k1 x1 : Int) (s1 : ByteArray) (a1 : Option Addr) (n1 c1 : Nat) (k2 x2 : Int) (s2 : ByteArray) (a2 : Option Addr) (n2 c2 : Nat) (k3 x3 : Int) (s3 : ByteArray) (a3 : Option Addr) (n3 c3 : Nat) (k4 x4 : Int) (s4 : ByteArray) (a4 : Option Addr) (n4 c4 : Nat) (w : World) (d : (k1 != k3) = true) :
    Calls Try.prog 7 #[.int .i64 kd, .agg #[.int .i64 k1, .int .i64 x1, .string s1, .slice a1 n1 c1], .agg #[.int .i64 k2, .int .i64 x2, .string s2, .slice a2 n2 c2], .agg #[.int .i64 k3, .int .i64 x3, .string s3, .slice a3 n3 c3], .agg #[.int .i64 k4, .int .i64 x4, .string s4, .slice a4 n4 c4]] w fun e w' => e = .returned (.bool true) ∧ Below w.heap.size w w' := by
  have CF := Lib.hid (kdFirst_any ((((w.alloc (.cells #[.int .i64 k1, .int .i64 x1, .string s1, .slice a1 n1 c1] 33)).alloc (.cells #[.int .i64 k2, .int .i64 x2, .string s2, .slice a2 n2 c2] 33)).alloc (.cells #[.int .i64 k3, .int .i64 x3, .string s3, .slice a3 n3 c3] 33)).alloc (.cells #[.int .i64 k4, .int .i64 x4, .string s4, .slice a4 n4 c4] 33)))
  have HB0 := Lib.hid (four_below w (.cells #[.int .i64 k1, .int .i64 x1, .string s1, .slice a1 n1 c1] 33) (.cells #[.int .i64 k2, .int .i64 x2, .string s2, .slice a2 n2 c2] 33) (.cells #[.int .i64 k3, .int .i64 x3, .string s3, .slice a3 n3 c3] 33) (.cells #[.int .i64 k4, .int .i64 x4, .string s4, .slice a4 n4 c4] 33))
  have HF0 := Lib.hid (four_new w (.int .i64 k1) (.int .i64 x1) (.string s1) (.slice a1 n1 c1) (.int .i64 k2) (.int .i64 x2) (.string s2) (.slice a2 n2 c2) (.int .i64 k3) (.int .i64 x3) (.string s3) (.slice a3 n3 c3) (.int .i64 k4) (.int .i64 x4) (.string s4) (.slice a4 n4 c4))
  go_enter Try.func7, Try.ntmps7
  go_wp2_with (first
    | (go_at_call 8; (with_reducible refine CF.out.mono ?_)
       rintro e w1 ⟨rfl, hb1⟩
       have HB := Lib.hid (below_on HB0.out hb1)
       have HF := Lib.hid (HF0.out.on hb1)
       obtain ⟨⟨p10, p11, p12, p13⟩, _⟩ := HF.out.1.cells
       obtain ⟨⟨p20, p21, p22, p23⟩, _⟩ := HF.out.2.1.cells
       obtain ⟨⟨p30, p31, p32, p33⟩, _⟩ := HF.out.2.2.1.cells
       obtain ⟨⟨p40, p41, p42, p43⟩, _⟩ := HF.out.2.2.2.cells
       clear hb1)
    | fail)
  go_ret
  exact ⟨rfl, HB.out⟩

set_option maxHeartbeats 8000000 in
set_option maxRecDepth 20000 in
theorem more_k24 (kd : Int) (k1 x1 : Int) (s1 : ByteArray) (a1 : Option Addr) (n1 c1 : Nat) (k2 x2 : Int) (s2 : ByteArray) (a2 : Option Addr) (n2 c2 : Nat) (k3 x3 : Int) (s3 : ByteArray) (a3 : Option Addr) (n3 c3 : Nat) (k4 x4 : Int) (s4 : ByteArray) (a4 : Option Addr) (n4 c4 : Nat) (w : World) (d0 : (k1 != k3) = false) (d : (k2 != k4) = true) :
    Calls Try.prog 7 #[.int .i64 kd, .agg #[.int .i64 k1, .int .i64 x1, .string s1, .slice a1 n1 c1], .agg #[.int .i64 k2, .int .i64 x2, .string s2, .slice a2 n2 c2], .agg #[.int .i64 k3, .int .i64 x3, .string s3, .slice a3 n3 c3], .agg #[.int .i64 k4, .int .i64 x4, .string s4, .slice a4 n4 c4]] w fun e w' => e = .returned (.bool true) ∧ Below w.heap.size w w' := by
  have CF := Lib.hid (kdFirst_any ((((w.alloc (.cells #[.int .i64 k1, .int .i64 x1, .string s1, .slice a1 n1 c1] 33)).alloc (.cells #[.int .i64 k2, .int .i64 x2, .string s2, .slice a2 n2 c2] 33)).alloc (.cells #[.int .i64 k3, .int .i64 x3, .string s3, .slice a3 n3 c3] 33)).alloc (.cells #[.int .i64 k4, .int .i64 x4, .string s4, .slice a4 n4 c4] 33)))
  have HB0 := Lib.hid (four_below w (.cells #[.int .i64 k1, .int .i64 x1, .string s1, .slice a1 n1 c1] 33) (.cells #[.int .i64 k2, .int .i64 x2, .string s2, .slice a2 n2 c2] 33) (.cells #[.int .i64 k3, .int .i64 x3, .string s3, .slice a3 n3 c3] 33) (.cells #[.int .i64 k4, .int .i64 x4, .string s4, .slice a4 n4 c4] 33))
  have HF0 := Lib.hid (four_new w (.int .i64 k1) (.int .i64 x1) (.string s1) (.slice a1 n1 c1) (.int .i64 k2) (.int .i64 x2) (.string s2) (.slice a2 n2 c2) (.int .i64 k3) (.int .i64 x3) (.string s3) (.slice a3 n3 c3) (.int .i64 k4) (.int .i64 x4) (.string s4) (.slice a4 n4 c4))
  go_enter Try.func7, Try.ntmps7
  go_wp2_with (first
    | (go_at_call 8; (with_reducible refine CF.out.mono ?_)
       rintro e w1 ⟨rfl, hb1⟩
       have HB := Lib.hid (below_on HB0.out hb1)
       have HF := Lib.hid (HF0.out.on hb1)
       obtain ⟨⟨p10, p11, p12, p13⟩, _⟩ := HF.out.1.cells
       obtain ⟨⟨p20, p21, p22, p23⟩, _⟩ := HF.out.2.1.cells
       obtain ⟨⟨p30, p31, p32, p33⟩, _⟩ := HF.out.2.2.1.cells
       obtain ⟨⟨p40, p41, p42, p43⟩, _⟩ := HF.out.2.2.2.cells
       clear hb1)
    | fail)
  go_ret
  exact ⟨rfl, HB.out⟩

set_option maxHeartbeats 8000000 in
set_option maxRecDepth 20000 in
theorem more_m1 (kd : Int) (k1 x1 : Int) (s1 : ByteArray) (a1 : Option Addr) (n1 c1 : Nat) (l1 : List Int) (k2 x2 : Int) (s2 : ByteArray) (a2 : Option Addr) (n2 c2 : Nat) (k3 x3 : Int) (s3 : ByteArray) (a3 : Option Addr) (n3 c3 : Nat) (k4 x4 : Int) (s4 : ByteArray) (a4 : Option Addr) (n4 c4 : Nat) (w : World) (d0 : (k1 != k3) = false) (d : (k2 != k4) = false) (h1 : Nums w w.heap.size a1 n1 l1) (m1 : mayV ⟨k1, x1, s1.toList, l1⟩ = false) :
    Calls Try.prog 7 #[.int .i64 kd, .agg #[.int .i64 k1, .int .i64 x1, .string s1, .slice a1 n1 c1], .agg #[.int .i64 k2, .int .i64 x2, .string s2, .slice a2 n2 c2], .agg #[.int .i64 k3, .int .i64 x3, .string s3, .slice a3 n3 c3], .agg #[.int .i64 k4, .int .i64 x4, .string s4, .slice a4 n4 c4]] w fun e w' => e = .returned (.bool true) ∧ Below w.heap.size w w' := by
  have CF := Lib.hid (kdFirst_any ((((w.alloc (.cells #[.int .i64 k1, .int .i64 x1, .string s1, .slice a1 n1 c1] 33)).alloc (.cells #[.int .i64 k2, .int .i64 x2, .string s2, .slice a2 n2 c2] 33)).alloc (.cells #[.int .i64 k3, .int .i64 x3, .string s3, .slice a3 n3 c3] 33)).alloc (.cells #[.int .i64 k4, .int .i64 x4, .string s4, .slice a4 n4 c4] 33)))
  have HB0 := Lib.hid (four_below w (.cells #[.int .i64 k1, .int .i64 x1, .string s1, .slice a1 n1 c1] 33) (.cells #[.int .i64 k2, .int .i64 x2, .string s2, .slice a2 n2 c2] 33) (.cells #[.int .i64 k3, .int .i64 x3, .string s3, .slice a3 n3 c3] 33) (.cells #[.int .i64 k4, .int .i64 x4, .string s4, .slice a4 n4 c4] 33))
  have HF0 := Lib.hid (four_new w (.int .i64 k1) (.int .i64 x1) (.string s1) (.slice a1 n1 c1) (.int .i64 k2) (.int .i64 x2) (.string s2) (.slice a2 n2 c2) (.int .i64 k3) (.int .i64 x3) (.string s3) (.slice a3 n3 c3) (.int .i64 k4) (.int .i64 x4) (.string s4) (.slice a4 n4 c4))
  have CM1 := Lib.hid (fun W (hW : Below w.heap.size w W) => (show Calls Try.prog 11 #[.agg #[.int .i64 k1, .int .i64 x1, .string s1, .slice a1 n1 c1]] W fun e w' => e = .returned (.bool false) ∧ Below W.heap.size W w' from m1 ▸ dataMay_any k1 x1 s1 a1 n1 c1 l1 W w.heap.size hW.size (h1.below hW)))
  clear h1 m1
  go_enter Try.func7, Try.ntmps7
  go_wp2_with (first
    | (go_at_call 8; (with_reducible refine CF.out.mono ?_)
       rintro e w1 ⟨rfl, hb1⟩
       have HB := Lib.hid (below_on HB0.out hb1)
       have HF := Lib.hid (HF0.out.on hb1)
       obtain ⟨⟨p10, p11, p12, p13⟩, _⟩ := HF.out.1.cells
       obtain ⟨⟨p20, p21, p22, p23⟩, _⟩ := HF.out.2.1.cells
       obtain ⟨⟨p30, p31, p32, p33⟩, _⟩ := HF.out.2.2.1.cells
       obtain ⟨⟨p40, p41, p42, p43⟩, _⟩ := HF.out.2.2.2.cells
       clear hb1)
    | (go_at_call 11; (with_reducible refine (CM1.out _ HB.out).mono ?_)
       rintro e wm1 ⟨rfl, hb⟩
       have HF := Lib.hid (HF.out.on hb)
       have HB := Lib.hid (below_on HB.out hb)
       clear hb)
    | fail)
  go_ret
  exact ⟨rfl, HB.out⟩

set_option maxHeartbeats 8000000 in
set_option maxRecDepth 20000 in
theorem more_m2 (kd : Int) (k1 x1 : Int) (s1 : ByteArray) (a1 : Option Addr) (n1 c1 : Nat) (l1 : List Int) (k2 x2 : Int) (s2 : ByteArray) (a2 : Option Addr) (n2 c2 : Nat) (l2 : List Int) (k3 x3 : Int) (s3 : ByteArray) (a3 : Option Addr) (n3 c3 : Nat) (k4 x4 : Int) (s4 : ByteArray) (a4 : Option Addr) (n4 c4 : Nat) (w : World) (d0 : (k1 != k3) = false) (d : (k2 != k4) = false) (h1 : Nums w w.heap.size a1 n1 l1) (m1 : mayV ⟨k1, x1, s1.toList, l1⟩ = true) (h2 : Nums w w.heap.size a2 n2 l2) (m2 : mayV ⟨k2, x2, s2.toList, l2⟩ = false) :
    Calls Try.prog 7 #[.int .i64 kd, .agg #[.int .i64 k1, .int .i64 x1, .string s1, .slice a1 n1 c1], .agg #[.int .i64 k2, .int .i64 x2, .string s2, .slice a2 n2 c2], .agg #[.int .i64 k3, .int .i64 x3, .string s3, .slice a3 n3 c3], .agg #[.int .i64 k4, .int .i64 x4, .string s4, .slice a4 n4 c4]] w fun e w' => e = .returned (.bool true) ∧ Below w.heap.size w w' := by
  have CF := Lib.hid (kdFirst_any ((((w.alloc (.cells #[.int .i64 k1, .int .i64 x1, .string s1, .slice a1 n1 c1] 33)).alloc (.cells #[.int .i64 k2, .int .i64 x2, .string s2, .slice a2 n2 c2] 33)).alloc (.cells #[.int .i64 k3, .int .i64 x3, .string s3, .slice a3 n3 c3] 33)).alloc (.cells #[.int .i64 k4, .int .i64 x4, .string s4, .slice a4 n4 c4] 33)))
  have HB0 := Lib.hid (four_below w (.cells #[.int .i64 k1, .int .i64 x1, .string s1, .slice a1 n1 c1] 33) (.cells #[.int .i64 k2, .int .i64 x2, .string s2, .slice a2 n2 c2] 33) (.cells #[.int .i64 k3, .int .i64 x3, .string s3, .slice a3 n3 c3] 33) (.cells #[.int .i64 k4, .int .i64 x4, .string s4, .slice a4 n4 c4] 33))
  have HF0 := Lib.hid (four_new w (.int .i64 k1) (.int .i64 x1) (.string s1) (.slice a1 n1 c1) (.int .i64 k2) (.int .i64 x2) (.string s2) (.slice a2 n2 c2) (.int .i64 k3) (.int .i64 x3) (.string s3) (.slice a3 n3 c3) (.int .i64 k4) (.int .i64 x4) (.string s4) (.slice a4 n4 c4))
  have CM1 := Lib.hid (fun W (hW : Below w.heap.size w W) => (show Calls Try.prog 11 #[.agg #[.int .i64 k1, .int .i64 x1, .string s1, .slice a1 n1 c1]] W fun e w' => e = .returned (.bool true) ∧ Below W.heap.size W w' from m1 ▸ dataMay_any k1 x1 s1 a1 n1 c1 l1 W w.heap.size hW.size (h1.below hW)))
  have CM2 := Lib.hid (fun W (hW : Below w.heap.size w W) => (show Calls Try.prog 11 #[.agg #[.int .i64 k2, .int .i64 x2, .string s2, .slice a2 n2 c2]] W fun e w' => e = .returned (.bool false) ∧ Below W.heap.size W w' from m2 ▸ dataMay_any k2 x2 s2 a2 n2 c2 l2 W w.heap.size hW.size (h2.below hW)))
  clear h1 m1 h2 m2
  go_enter Try.func7, Try.ntmps7
  go_wp2_with (first
    | (go_at_call 8; (with_reducible refine CF.out.mono ?_)
       rintro e w1 ⟨rfl, hb1⟩
       have HB := Lib.hid (below_on HB0.out hb1)
       have HF := Lib.hid (HF0.out.on hb1)
       obtain ⟨⟨p10, p11, p12, p13⟩, _⟩ := HF.out.1.cells
       obtain ⟨⟨p20, p21, p22, p23⟩, _⟩ := HF.out.2.1.cells
       obtain ⟨⟨p30, p31, p32, p33⟩, _⟩ := HF.out.2.2.1.cells
       obtain ⟨⟨p40, p41, p42, p43⟩, _⟩ := HF.out.2.2.2.cells
       clear hb1)
    | (go_at_call 11; (with_reducible refine (CM1.out _ HB.out).mono ?_)
       rintro e wm1 ⟨rfl, hb⟩
       have HF := Lib.hid (HF.out.on hb)
       have HB := Lib.hid (below_on HB.out hb)
       obtain ⟨⟨p20, p21, p22, p23⟩, _⟩ := HF.out.2.1.cells
       clear hb)
    | (go_at_call 11; (with_reducible refine (CM2.out _ HB.out).mono ?_)
       rintro e wm2 ⟨rfl, hb⟩
       have HF := Lib.hid (HF.out.on hb)
       have HB := Lib.hid (below_on HB.out hb)
       clear hb)
    | fail)
  go_ret
  exact ⟨rfl, HB.out⟩

set_option maxHeartbeats 8000000 in
set_option maxRecDepth 20000 in
theorem more_m3 (kd : Int) (k1 x1 : Int) (s1 : ByteArray) (a1 : Option Addr) (n1 c1 : Nat) (l1 : List Int) (k2 x2 : Int) (s2 : ByteArray) (a2 : Option Addr) (n2 c2 : Nat) (l2 : List Int) (k3 x3 : Int) (s3 : ByteArray) (a3 : Option Addr) (n3 c3 : Nat) (l3 : List Int) (k4 x4 : Int) (s4 : ByteArray) (a4 : Option Addr) (n4 c4 : Nat) (w : World) (d0 : (k1 != k3) = false) (d : (k2 != k4) = false) (h1 : Nums w w.heap.size a1 n1 l1) (m1 : mayV ⟨k1, x1, s1.toList, l1⟩ = true) (h2 : Nums w w.heap.size a2 n2 l2) (m2 : mayV ⟨k2, x2, s2.toList, l2⟩ = true) (h3 : Nums w w.heap.size a3 n3 l3) (m3 : mayV ⟨k3, x3, s3.toList, l3⟩ = false) :
    Calls Try.prog 7 #[.int .i64 kd, .agg #[.int .i64 k1, .int .i64 x1, .string s1, .slice a1 n1 c1], .agg #[.int .i64 k2, .int .i64 x2, .string s2, .slice a2 n2 c2], .agg #[.int .i64 k3, .int .i64 x3, .string s3, .slice a3 n3 c3], .agg #[.int .i64 k4, .int .i64 x4, .string s4, .slice a4 n4 c4]] w fun e w' => e = .returned (.bool true) ∧ Below w.heap.size w w' := by
  have CF := Lib.hid (kdFirst_any ((((w.alloc (.cells #[.int .i64 k1, .int .i64 x1, .string s1, .slice a1 n1 c1] 33)).alloc (.cells #[.int .i64 k2, .int .i64 x2, .string s2, .slice a2 n2 c2] 33)).alloc (.cells #[.int .i64 k3, .int .i64 x3, .string s3, .slice a3 n3 c3] 33)).alloc (.cells #[.int .i64 k4, .int .i64 x4, .string s4, .slice a4 n4 c4] 33)))
  have HB0 := Lib.hid (four_below w (.cells #[.int .i64 k1, .int .i64 x1, .string s1, .slice a1 n1 c1] 33) (.cells #[.int .i64 k2, .int .i64 x2, .string s2, .slice a2 n2 c2] 33) (.cells #[.int .i64 k3, .int .i64 x3, .string s3, .slice a3 n3 c3] 33) (.cells #[.int .i64 k4, .int .i64 x4, .string s4, .slice a4 n4 c4] 33))
  have HF0 := Lib.hid (four_new w (.int .i64 k1) (.int .i64 x1) (.string s1) (.slice a1 n1 c1) (.int .i64 k2) (.int .i64 x2) (.string s2) (.slice a2 n2 c2) (.int .i64 k3) (.int .i64 x3) (.string s3) (.slice a3 n3 c3) (.int .i64 k4) (.int .i64 x4) (.string s4) (.slice a4 n4 c4))
  have CM1 := Lib.hid (fun W (hW : Below w.heap.size w W) => (show Calls Try.prog 11 #[.agg #[.int .i64 k1, .int .i64 x1, .string s1, .slice a1 n1 c1]] W fun e w' => e = .returned (.bool true) ∧ Below W.heap.size W w' from m1 ▸ dataMay_any k1 x1 s1 a1 n1 c1 l1 W w.heap.size hW.size (h1.below hW)))
  have CM2 := Lib.hid (fun W (hW : Below w.heap.size w W) => (show Calls Try.prog 11 #[.agg #[.int .i64 k2, .int .i64 x2, .string s2, .slice a2 n2 c2]] W fun e w' => e = .returned (.bool true) ∧ Below W.heap.size W w' from m2 ▸ dataMay_any k2 x2 s2 a2 n2 c2 l2 W w.heap.size hW.size (h2.below hW)))
  have CM3 := Lib.hid (fun W (hW : Below w.heap.size w W) => (show Calls Try.prog 11 #[.agg #[.int .i64 k3, .int .i64 x3, .string s3, .slice a3 n3 c3]] W fun e w' => e = .returned (.bool false) ∧ Below W.heap.size W w' from m3 ▸ dataMay_any k3 x3 s3 a3 n3 c3 l3 W w.heap.size hW.size (h3.below hW)))
  clear h1 m1 h2 m2 h3 m3
  go_enter Try.func7, Try.ntmps7
  go_wp2_with (first
    | (go_at_call 8; (with_reducible refine CF.out.mono ?_)
       rintro e w1 ⟨rfl, hb1⟩
       have HB := Lib.hid (below_on HB0.out hb1)
       have HF := Lib.hid (HF0.out.on hb1)
       obtain ⟨⟨p10, p11, p12, p13⟩, _⟩ := HF.out.1.cells
       obtain ⟨⟨p20, p21, p22, p23⟩, _⟩ := HF.out.2.1.cells
       obtain ⟨⟨p30, p31, p32, p33⟩, _⟩ := HF.out.2.2.1.cells
       obtain ⟨⟨p40, p41, p42, p43⟩, _⟩ := HF.out.2.2.2.cells
       clear hb1)
    | (go_at_call 11; (with_reducible refine (CM1.out _ HB.out).mono ?_)
       rintro e wm1 ⟨rfl, hb⟩
       have HF := Lib.hid (HF.out.on hb)
       have HB := Lib.hid (below_on HB.out hb)
       obtain ⟨⟨p20, p21, p22, p23⟩, _⟩ := HF.out.2.1.cells
       clear hb)
    | (go_at_call 11; (with_reducible refine (CM2.out _ HB.out).mono ?_)
       rintro e wm2 ⟨rfl, hb⟩
       have HF := Lib.hid (HF.out.on hb)
       have HB := Lib.hid (below_on HB.out hb)
       obtain ⟨⟨p30, p31, p32, p33⟩, _⟩ := HF.out.2.2.1.cells
       clear hb)
    | (go_at_call 11; (with_reducible refine (CM3.out _ HB.out).mono ?_)
       rintro e wm3 ⟨rfl, hb⟩
       have HF := Lib.hid (HF.out.on hb)
       have HB := Lib.hid (below_on HB.out hb)
       clear hb)
    | fail)
  go_ret
  exact ⟨rfl, HB.out⟩

set_option maxHeartbeats 8000000 in
set_option maxRecDepth 20000 in
theorem more_m4 (kd : Int) (k1 x1 : Int) (s1 : ByteArray) (a1 : Option Addr) (n1 c1 : Nat) (l1 : List Int) (k2 x2 : Int) (s2 : ByteArray) (a2 : Option Addr) (n2 c2 : Nat) (l2 : List Int) (k3 x3 : Int) (s3 : ByteArray) (a3 : Option Addr) (n3 c3 : Nat) (l3 : List Int) (k4 x4 : Int) (s4 : ByteArray) (a4 : Option Addr) (n4 c4 : Nat) (l4 : List Int) (w : World) (d0 : (k1 != k3) = false) (d : (k2 != k4) = false) (h1 : Nums w w.heap.size a1 n1 l1) (m1 : mayV ⟨k1, x1, s1.toList, l1⟩ = true) (h2 : Nums w w.heap.size a2 n2 l2) (m2 : mayV ⟨k2, x2, s2.toList, l2⟩ = true) (h3 : Nums w w.heap.size a3 n3 l3) (m3 : mayV ⟨k3, x3, s3.toList, l3⟩ = true) (h4 : Nums w w.heap.size a4 n4 l4) (m4 : mayV ⟨k4, x4, s4.toList, l4⟩ = false) :
    Calls Try.prog 7 #[.int .i64 kd, .agg #[.int .i64 k1, .int .i64 x1, .string s1, .slice a1 n1 c1], .agg #[.int .i64 k2, .int .i64 x2, .string s2, .slice a2 n2 c2], .agg #[.int .i64 k3, .int .i64 x3, .string s3, .slice a3 n3 c3], .agg #[.int .i64 k4, .int .i64 x4, .string s4, .slice a4 n4 c4]] w fun e w' => e = .returned (.bool true) ∧ Below w.heap.size w w' := by
  have CF := Lib.hid (kdFirst_any ((((w.alloc (.cells #[.int .i64 k1, .int .i64 x1, .string s1, .slice a1 n1 c1] 33)).alloc (.cells #[.int .i64 k2, .int .i64 x2, .string s2, .slice a2 n2 c2] 33)).alloc (.cells #[.int .i64 k3, .int .i64 x3, .string s3, .slice a3 n3 c3] 33)).alloc (.cells #[.int .i64 k4, .int .i64 x4, .string s4, .slice a4 n4 c4] 33)))
  have HB0 := Lib.hid (four_below w (.cells #[.int .i64 k1, .int .i64 x1, .string s1, .slice a1 n1 c1] 33) (.cells #[.int .i64 k2, .int .i64 x2, .string s2, .slice a2 n2 c2] 33) (.cells #[.int .i64 k3, .int .i64 x3, .string s3, .slice a3 n3 c3] 33) (.cells #[.int .i64 k4, .int .i64 x4, .string s4, .slice a4 n4 c4] 33))
  have HF0 := Lib.hid (four_new w (.int .i64 k1) (.int .i64 x1) (.string s1) (.slice a1 n1 c1) (.int .i64 k2) (.int .i64 x2) (.string s2) (.slice a2 n2 c2) (.int .i64 k3) (.int .i64 x3) (.string s3) (.slice a3 n3 c3) (.int .i64 k4) (.int .i64 x4) (.string s4) (.slice a4 n4 c4))
  have CM1 := Lib.hid (fun W (hW : Below w.heap.size w W) => (show Calls Try.prog 11 #[.agg #[.int .i64 k1, .int .i64 x1, .string s1, .slice a1 n1 c1]] W fun e w' => e = .returned (.bool true) ∧ Below W.heap.size W w' from m1 ▸ dataMay_any k1 x1 s1 a1 n1 c1 l1 W w.heap.size hW.size (h1.below hW)))
  have CM2 := Lib.hid (fun W (hW : Below w.heap.size w W) => (show Calls Try.prog 11 #[.agg #[.int .i64 k2, .int .i64 x2, .string s2, .slice a2 n2 c2]] W fun e w' => e = .returned (.bool true) ∧ Below W.heap.size W w' from m2 ▸ dataMay_any k2 x2 s2 a2 n2 c2 l2 W w.heap.size hW.size (h2.below hW)))
  have CM3 := Lib.hid (fun W (hW : Below w.heap.size w W) => (show Calls Try.prog 11 #[.agg #[.int .i64 k3, .int .i64 x3, .string s3, .slice a3 n3 c3]] W fun e w' => e = .returned (.bool true) ∧ Below W.heap.size W w' from m3 ▸ dataMay_any k3 x3 s3 a3 n3 c3 l3 W w.heap.size hW.size (h3.below hW)))
  have CM4 := Lib.hid (fun W (hW : Below w.heap.size w W) => (show Calls Try.prog 11 #[.agg #[.int .i64 k4, .int .i64 x4, .string s4, .slice a4 n4 c4]] W fun e w' => e = .returned (.bool false) ∧ Below W.heap.size W w' from m4 ▸ dataMay_any k4 x4 s4 a4 n4 c4 l4 W w.heap.size hW.size (h4.below hW)))
  clear h1 m1 h2 m2 h3 m3 h4 m4
  go_enter Try.func7, Try.ntmps7
  go_wp2_with (first
    | (go_at_call 8; (with_reducible refine CF.out.mono ?_)
       rintro e w1 ⟨rfl, hb1⟩
       have HB := Lib.hid (below_on HB0.out hb1)
       have HF := Lib.hid (HF0.out.on hb1)
       obtain ⟨⟨p10, p11, p12, p13⟩, _⟩ := HF.out.1.cells
       obtain ⟨⟨p20, p21, p22, p23⟩, _⟩ := HF.out.2.1.cells
       obtain ⟨⟨p30, p31, p32, p33⟩, _⟩ := HF.out.2.2.1.cells
       obtain ⟨⟨p40, p41, p42, p43⟩, _⟩ := HF.out.2.2.2.cells
       clear hb1)
    | (go_at_call 11; (with_reducible refine (CM1.out _ HB.out).mono ?_)
       rintro e wm1 ⟨rfl, hb⟩
       have HF := Lib.hid (HF.out.on hb)
       have HB := Lib.hid (below_on HB.out hb)
       obtain ⟨⟨p20, p21, p22, p23⟩, _⟩ := HF.out.2.1.cells
       clear hb)
    | (go_at_call 11; (with_reducible refine (CM2.out _ HB.out).mono ?_)
       rintro e wm2 ⟨rfl, hb⟩
       have HF := Lib.hid (HF.out.on hb)
       have HB := Lib.hid (below_on HB.out hb)
       obtain ⟨⟨p30, p31, p32, p33⟩, _⟩ := HF.out.2.2.1.cells
       clear hb)
    | (go_at_call 11; (with_reducible refine (CM3.out _ HB.out).mono ?_)
       rintro e wm3 ⟨rfl, hb⟩
       have HF := Lib.hid (HF.out.on hb)
       have HB := Lib.hid (below_on HB.out hb)
       obtain ⟨⟨p40, p41, p42, p43⟩, _⟩ := HF.out.2.2.2.cells
       clear hb)
    | (go_at_call 11; (with_reducible refine (CM4.out _ HB.out).mono ?_)
       rintro e wm4 ⟨rfl, hb⟩
       have HF := Lib.hid (HF.out.on hb)
       have HB := Lib.hid (below_on HB.out hb)
       clear hb)
    | fail)
  go_ret
  exact ⟨rfl, HB.out⟩

set_option maxHeartbeats 16000000 in
set_option maxRecDepth 20000 in
theorem more_main (kd : Int) (k1 x1 : Int) (s1 : ByteArray) (a1 : Option Addr) (n1 c1 : Nat) (l1 : List Int) (k2 x2 : Int) (s2 : ByteArray) (a2 : Option Addr) (n2 c2 : Nat) (l2 : List Int) (x3 : Int) (s3 : ByteArray) (a3 : Option Addr) (n3 c3 : Nat) (l3 : List Int) (x4 : Int) (s4 : ByteArray) (a4 : Option Addr) (n4 c4 : Nat) (l4 : List Int) (w : World) (h1 : Nums w w.heap.size a1 n1 l1) (m1 : mayV ⟨k1, x1, s1.toList, l1⟩ = true) (h2 : Nums w w.heap.size a2 n2 l2) (m2 : mayV ⟨k2, x2, s2.toList, l2⟩ = true) (h3 : Nums w w.heap.size a3 n3 l3) (m3 : mayV ⟨k1, x3, s3.toList, l3⟩ = true) (h4 : Nums w w.heap.size a4 n4 l4) (m4 : mayV ⟨k2, x4, s4.toList, l4⟩ = true) (q k : Int) (e1 : wrap64 (6 + wrap64 ((IntKind.u64.wrap kd).tmod 14)) = q) (hq : (k = q ∧ (k == 15) = false ∧ (k == 16) = false) ∨ (q = 15 ∧ k = 11) ∨ (q = 16 ∧ k = 11)) (hk : arT k = 2 ∧ 0 ≤ k ∧ k ≤ 19) :
    Calls Try.prog 7 #[.int .i64 kd, .agg #[.int .i64 k1, .int .i64 x1, .string s1, .slice a1 n1 c1], .agg #[.int .i64 k2, .int .i64 x2, .string s2, .slice a2 n2 c2], .agg #[.int .i64 k1, .int .i64 x3, .string s3, .slice a3 n3 c3], .agg #[.int .i64 k2, .int .i64 x4, .string s4, .slice a4 n4 c4]] w fun e w' => e = .returned (.bool true) ∧ Below w.heap.size w w' := by
  have CF := Lib.hid (kdFirst_any ((((w.alloc (.cells #[.int .i64 k1, .int .i64 x1, .string s1, .slice a1 n1 c1] 33)).alloc (.cells #[.int .i64 k2, .int .i64 x2, .string s2, .slice a2 n2 c2] 33)).alloc (.cells #[.int .i64 k1, .int .i64 x3, .string s3, .slice a3 n3 c3] 33)).alloc (.cells #[.int .i64 k2, .int .i64 x4, .string s4, .slice a4 n4 c4] 33)))
  have HB0 := Lib.hid (four_below w (.cells #[.int .i64 k1, .int .i64 x1, .string s1, .slice a1 n1 c1] 33) (.cells #[.int .i64 k2, .int .i64 x2, .string s2, .slice a2 n2 c2] 33) (.cells #[.int .i64 k1, .int .i64 x3, .string s3, .slice a3 n3 c3] 33) (.cells #[.int .i64 k2, .int .i64 x4, .string s4, .slice a4 n4 c4] 33))
  have HF0 := Lib.hid (four_new w (.int .i64 k1) (.int .i64 x1) (.string s1) (.slice a1 n1 c1) (.int .i64 k2) (.int .i64 x2) (.string s2) (.slice a2 n2 c2) (.int .i64 k1) (.int .i64 x3) (.string s3) (.slice a3 n3 c3) (.int .i64 k2) (.int .i64 x4) (.string s4) (.slice a4 n4 c4))
  have CM1 := Lib.hid (fun W (hW : Below w.heap.size w W) => (show Calls Try.prog 11 #[.agg #[.int .i64 k1, .int .i64 x1, .string s1, .slice a1 n1 c1]] W fun e w' => e = .returned (.bool true) ∧ Below W.heap.size W w' from m1 ▸ dataMay_any k1 x1 s1 a1 n1 c1 l1 W w.heap.size hW.size (h1.below hW)))
  have CM2 := Lib.hid (fun W (hW : Below w.heap.size w W) => (show Calls Try.prog 11 #[.agg #[.int .i64 k2, .int .i64 x2, .string s2, .slice a2 n2 c2]] W fun e w' => e = .returned (.bool true) ∧ Below W.heap.size W w' from m2 ▸ dataMay_any k2 x2 s2 a2 n2 c2 l2 W w.heap.size hW.size (h2.below hW)))
  have CM3 := Lib.hid (fun W (hW : Below w.heap.size w W) => (show Calls Try.prog 11 #[.agg #[.int .i64 k1, .int .i64 x3, .string s3, .slice a3 n3 c3]] W fun e w' => e = .returned (.bool true) ∧ Below W.heap.size W w' from m3 ▸ dataMay_any k1 x3 s3 a3 n3 c3 l3 W w.heap.size hW.size (h3.below hW)))
  have CM4 := Lib.hid (fun W (hW : Below w.heap.size w W) => (show Calls Try.prog 11 #[.agg #[.int .i64 k2, .int .i64 x4, .string s4, .slice a4 n4 c4]] W fun e w' => e = .returned (.bool true) ∧ Below W.heap.size W w' from m4 ▸ dataMay_any k2 x4 s4 a4 n4 c4 l4 W w.heap.size hW.size (h4.below hW)))
  have n13 : (k1 != k1) = false := by simp
  have n24 : (k2 != k2) = false := by simp
  obtain ⟨K, hK⟩ : ∃ K, twoK k k1 k2 = K := ⟨_, rfl⟩
  obtain ⟨R, hR⟩ : ∃ R, twoV k ⟨k1, x1, s1.toList, l1⟩ ⟨k2, x2, s2.toList, l2⟩ = R := ⟨_, rfl⟩
  obtain ⟨S, hS⟩ : ∃ S, twoV k ⟨k1, x3, s3.toList, l3⟩ ⟨k2, x4, s4.toList, l4⟩ = S := ⟨_, rfl⟩
  have hways := more_ways (k := k) ⟨k1, x1, s1.toList, l1⟩ ⟨k2, x2, s2.toList, l2⟩ ⟨k1, x3, s3.toList, l3⟩ ⟨k2, x4, s4.toList, l4⟩ hk.1 rfl rfl hK hR hS
  have HK := Lib.hid ((pq_kind m1 m2 hk.1 hk.2.1 hk.2.2).trans hK)
  have HR := Lib.hid ((pq_val m1 m2 hk.1 hk.2.1 hk.2.2).trans hR)
  have HS := Lib.hid ((pq_val m3 m4 hk.1 hk.2.1 hk.2.2).trans hS)
  have HW := Lib.hid hways
  have HQ := Lib.hid hq
  have HE1E := Lib.hid e1
  have HN := Lib.hid (And.intro h1 (And.intro h2 (And.intro h3 h4)))
  obtain ⟨kk, ke⟩ := K
  obtain ⟨⟨vk, vn, vt, vl⟩, er⟩ := R
  obtain ⟨⟨uk, un, ut, ul⟩, fr⟩ := S
  clear hK hR hS hways hq hk m1 m2 m3 m4 h1 h2 h3 h4 e1
  go_enter Try.func7, Try.ntmps7
  go_upto_region 5 with (first
    | (go_at_call 8; (with_reducible refine CF.out.mono ?_)
       rintro e w1 ⟨rfl, hb1⟩
       have HB := Lib.hid (below_on HB0.out hb1)
       have HF := Lib.hid (HF0.out.on hb1)
       obtain ⟨⟨p10, p11, p12, p13⟩, _⟩ := HF.out.1.cells
       obtain ⟨⟨p20, p21, p22, p23⟩, _⟩ := HF.out.2.1.cells
       obtain ⟨⟨p30, p31, p32, p33⟩, _⟩ := HF.out.2.2.1.cells
       obtain ⟨⟨p40, p41, p42, p43⟩, _⟩ := HF.out.2.2.2.cells
       clear hb1)
    | (go_at_call 11; (with_reducible refine (CM1.out _ HB.out).mono ?_)
       rintro e wm1 ⟨rfl, hb⟩
       have HF := Lib.hid (HF.out.on hb)
       have HB := Lib.hid (below_on HB.out hb)
       obtain ⟨⟨p20, p21, p22, p23⟩, _⟩ := HF.out.2.1.cells
       clear hb)
    | (go_at_call 11; (with_reducible refine (CM2.out _ HB.out).mono ?_)
       rintro e wm2 ⟨rfl, hb⟩
       have HF := Lib.hid (HF.out.on hb)
       have HB := Lib.hid (below_on HB.out hb)
       obtain ⟨⟨p30, p31, p32, p33⟩, _⟩ := HF.out.2.2.1.cells
       clear hb)
    | (go_at_call 11; (with_reducible refine (CM3.out _ HB.out).mono ?_)
       rintro e wm3 ⟨rfl, hb⟩
       have HF := Lib.hid (HF.out.on hb)
       have HB := Lib.hid (below_on HB.out hb)
       obtain ⟨⟨p40, p41, p42, p43⟩, _⟩ := HF.out.2.2.2.cells
       clear hb)
    | (go_at_call 11; (with_reducible refine (CM4.out _ HB.out).mono ?_)
       rintro e wd ⟨rfl, hb⟩
       have HF := Lib.hid (HF.out.on hb)
       have HB := Lib.hid (below_on HB.out hb)
       clear hb)
    | fail)
  go_cut [11] (fun s wx => s = .int .i64 q ∧ wd = wx)
  case first =>
    have e1 := HE1E.out
    go_wp2_with fail
    go_meet
    exact ⟨by rw [HE1E.out], rfl⟩
  case rest =>
    obtain ⟨rfl, rfl⟩ := hcut
    rcases HQ.out with ⟨hq, d15, d16⟩ | ⟨hq, hk⟩ | ⟨hq, hk⟩
    · subst hq
      have hbt := below_on HB.out (up1 wd (.cells #[.int .i64 0, .string ⟨#[112]⟩, .int .i64 0, .string ⟨#[]⟩, .int .i64 (-1), .int .i64 (-1), .int .i64 0, .string ⟨#[113]⟩, .int .i64 0, .string ⟨#[]⟩, .int .i64 (-1), .int .i64 (-1), .int .i64 k, .string ⟨#[]⟩, .int .i64 0, .string ⟨#[]⟩, .int .i64 0, .int .i64 1] 49))
      have hbe := below_on HB.out (up2 wd (.cells #[.int .i64 0, .string ⟨#[112]⟩, .int .i64 0, .string ⟨#[]⟩, .int .i64 (-1), .int .i64 (-1), .int .i64 0, .string ⟨#[113]⟩, .int .i64 0, .string ⟨#[]⟩, .int .i64 (-1), .int .i64 (-1), .int .i64 k, .string ⟨#[]⟩, .int .i64 0, .string ⟨#[]⟩, .int .i64 0, .int .i64 1] 49) (.cells #[.string ⟨#[112]⟩, .int .i64 k1, .int .i64 x1, .string s1, .slice a1 n1 c1, .string ⟨#[113]⟩, .int .i64 k2, .int .i64 x2, .string s2, .slice a2 n2 c2] 35))
      have HT := Lib.hid ((pq_made k wd).at0 (up2 _ (.cells #[.string ⟨#[112]⟩, .int .i64 k1, .int .i64 x1, .string s1, .slice a1 n1 c1, .string ⟨#[113]⟩, .int .i64 k2, .int .i64 x2, .string s2, .slice a2 n2 c2] 35) (.cells #[.string ⟨#[112]⟩, .int .i64 k1, .int .i64 x3, .string s3, .slice a3 n3 c3, .string ⟨#[113]⟩, .int .i64 k2, .int .i64 x4, .string s4, .slice a4 n4 c4] 35)))
      have HE1 := Lib.hid ((swap_madeAt k1 x1 s1 a1 n1 c1 l1 k2 x2 s2 a2 n2 c2 l2 (wd.alloc (.cells #[.int .i64 0, .string ⟨#[112]⟩, .int .i64 0, .string ⟨#[]⟩, .int .i64 (-1), .int .i64 (-1), .int .i64 0, .string ⟨#[113]⟩, .int .i64 0, .string ⟨#[]⟩, .int .i64 (-1), .int .i64 (-1), .int .i64 k, .string ⟨#[]⟩, .int .i64 0, .string ⟨#[]⟩, .int .i64 0, .int .i64 1] 49)) ((HN.out.1.below hbt).more hbt.size) ((HN.out.2.1.below hbt).more hbt.size) (g := wd.heap.size + 1) (by simp)).on (up1 _ (.cells #[.string ⟨#[112]⟩, .int .i64 k1, .int .i64 x3, .string s3, .slice a3 n3 c3, .string ⟨#[113]⟩, .int .i64 k2, .int .i64 x4, .string s4, .slice a4 n4 c4] 35)))
      have HE2 := Lib.hid (swap_madeAt k1 x3 s3 a3 n3 c3 l3 k2 x4 s4 a4 n4 c4 l4 ((wd.alloc (.cells #[.int .i64 0, .string ⟨#[112]⟩, .int .i64 0, .string ⟨#[]⟩, .int .i64 (-1), .int .i64 (-1), .int .i64 0, .string ⟨#[113]⟩, .int .i64 0, .string ⟨#[]⟩, .int .i64 (-1), .int .i64 (-1), .int .i64 k, .string ⟨#[]⟩, .int .i64 0, .string ⟨#[]⟩, .int .i64 0, .int .i64 1] 49)).alloc (.cells #[.string ⟨#[112]⟩, .int .i64 k1, .int .i64 x1, .string s1, .slice a1 n1 c1, .string ⟨#[113]⟩, .int .i64 k2, .int .i64 x2, .string s2, .slice a2 n2 c2] 35)) ((HN.out.2.2.1.below hbe).more hbe.size) ((HN.out.2.2.2.below hbe).more hbe.size) (g := wd.heap.size + 1 + 1) (by simp))
      have HBX := Lib.hid (below_on HB.out (up3 wd (.cells #[.int .i64 0, .string ⟨#[112]⟩, .int .i64 0, .string ⟨#[]⟩, .int .i64 (-1), .int .i64 (-1), .int .i64 0, .string ⟨#[113]⟩, .int .i64 0, .string ⟨#[]⟩, .int .i64 (-1), .int .i64 (-1), .int .i64 k, .string ⟨#[]⟩, .int .i64 0, .string ⟨#[]⟩, .int .i64 0, .int .i64 1] 49) (.cells #[.string ⟨#[112]⟩, .int .i64 k1, .int .i64 x1, .string s1, .slice a1 n1 c1, .string ⟨#[113]⟩, .int .i64 k2, .int .i64 x2, .string s2, .slice a2 n2 c2] 35) (.cells #[.string ⟨#[112]⟩, .int .i64 k1, .int .i64 x3, .string s3, .slice a3 n3 c3, .string ⟨#[113]⟩, .int .i64 k2, .int .i64 x4, .string s4, .slice a4 n4 c4] 35)))
      obtain ⟨⟨p10, p11, p12, p13⟩, _⟩ := HF.out.1.cells
      obtain ⟨⟨p20, p21, p22, p23⟩, _⟩ := HF.out.2.1.cells
      obtain ⟨⟨p30, p31, p32, p33⟩, _⟩ := HF.out.2.2.1.cells
      obtain ⟨⟨p40, p41, p42, p43⟩, _⟩ := HF.out.2.2.2.cells
      have g3 := HF.out.2.2.2.lt
      have g0 : w.heap.size < wd.heap.size := by omega
      have g1 : w.heap.size + 1 < wd.heap.size := by omega
      have g2 : w.heap.size + 1 + 1 < wd.heap.size := by omega
      have g4 : w.heap.size < wd.heap.size + 1 := by omega
      have g5 : w.heap.size + 1 < wd.heap.size + 1 + 1 := by omega
      clear hbt hbe
      have hw5 : (ke = 502 ∧ er = 402 ∧ fr = 402) ∨ (ke = 0 ∧ er = 0 ∧ vk = kk ∧ fr = 0 ∧ uk = kk) ∨ (ke = 0 ∧ er = 0 ∧ vk = kk ∧ (fr != 0) = true) ∨ (ke = 0 ∧ (er != 0) = true ∧ fr = 0 ∧ uk = kk) ∨ (ke = 0 ∧ (er != 0) = true ∧ (fr != 0) = true) := by
        rcases HW.out with h | ⟨h, ⟨h1, h2⟩ | h1, ⟨h3, h4⟩ | h3⟩
        · exact .inl h
        · exact .inr (.inl ⟨h, h1, h2, h3, h4⟩)
        · exact .inr (.inr (.inl ⟨h, h1, h2, h3⟩))
        · exact .inr (.inr (.inr (.inl ⟨h, h1, h3, h4⟩)))
        · exact .inr (.inr (.inr (.inr ⟨h, h1, h3⟩)))
      have ekk : (kk == kk) = true := beq_self_eq_true kk
      go_upto_region 14 with (first
        | (go_at_call 12; (with_reducible refine (typings_any (some ⟨wd.heap.size + 1, 0, none⟩) 2 2 _ _ HE1.out (by omega)).mono ?_)
           rintro e wt ⟨⟨ta, tc, rfl, hty⟩, hb⟩
           have HTY := Lib.hid hty
           have HT := Lib.hid (HT.out.at0 hb)
           have HE1 := Lib.hid (HE1.out.on hb)
           have HE2 := Lib.hid (HE2.out.on hb)
           have HBX := Lib.hid (below_on HBX.out hb)
           clear hty hb)
        | (go_at_call 9; (with_reducible refine (kOf_any (some ⟨wd.heap.size, 0, none⟩) 3 3 (pqT k) 2 ta 2 tc _ _ HT.out HTY.out).mono ?_)
           rintro e wk ⟨he, hb⟩
           rw [HK.out] at he
           subst he
           have HT := Lib.hid (HT.out.at0 hb)
           have HE1 := Lib.hid (HE1.out.on hb)
           have HE2 := Lib.hid (HE2.out.on hb)
           have HBX := Lib.hid (below_on HBX.out hb)
           clear hb)
        | (go_at_call 13; (with_reducible refine (termEval_any (some ⟨wd.heap.size, 0, none⟩) 3 3 (pqT k) 2 (some ⟨wd.heap.size + 1, 0, none⟩) 2 2 _ _ _ (Nat.le_refl _) HT.out HE1.out).mono ?_)
           rintro e wv ⟨⟨z1, za1, zn1, zc1, he, hv, hf⟩, hb⟩
           rw [HR.out] at he hv
           subst he
           have hbb := below_on hb (up1 wv (.cells #[.int .i64 vk, .int .i64 vn, .string z1, .slice za1 zn1 zc1] 33))
           have HX1 := Lib.hid (BoxV.new wv (.int .i64 vk) (.int .i64 vn) (.string z1) (.slice za1 zn1 zc1))
           have HT := Lib.hid (HT.out.at0 hbb)
           have HE2 := Lib.hid (HE2.out.on hbb)
           have HBX := Lib.hid (below_on HBX.out hbb)
           clear hv hf hb hbb)
        | (go_at_call 13; (with_reducible refine (termEval_any (some ⟨wd.heap.size, 0, none⟩) 3 3 (pqT k) 2 (some ⟨wd.heap.size + 1 + 1, 0, none⟩) 2 2 _ _ _ (Nat.le_refl _) HT.out HE2.out).mono ?_)
           rintro e wu ⟨⟨z2, za2, zn2, zc2, he, hv, hf⟩, hb⟩
           rw [HS.out] at he hv
           subst he
           have hbb := below_on hb (up1 wu (.cells #[.int .i64 uk, .int .i64 un, .string z2, .slice za2 zn2 zc2] 33))
           obtain ⟨⟨y0, y1, y2, y3⟩, _⟩ := (BoxV.new wu (.int .i64 uk) (.int .i64 un) (.string z2) (.slice za2 zn2 zc2)).cells
           obtain ⟨⟨z0, z1', z2', z3⟩, _⟩ := (HX1.out.on hbb).cells
           have HBZ := Lib.hid (below_on HBX.out hbb)
           clear hv hf hb hbb)
        | fail)
      rcases hw5 with ⟨rfl, rfl, rfl⟩ | ⟨rfl, rfl, rfl, rfl, rfl⟩ | ⟨rfl, rfl, rfl, f1⟩ | ⟨rfl, f2, rfl, rfl⟩ | ⟨rfl, f2, f3⟩
      all_goals
        go_wp2_with fail
        go_ret
        exact ⟨rfl, HBZ.out⟩
    · subst hq hk
      have hbt := below_on HB.out (up1 wd (.cells #[.int .i64 0, .string ⟨#[112]⟩, .int .i64 0, .string ⟨#[]⟩, .int .i64 (-1), .int .i64 (-1), .int .i64 0, .string ⟨#[113]⟩, .int .i64 0, .string ⟨#[]⟩, .int .i64 (-1), .int .i64 (-1), .int .i64 11, .string ⟨#[]⟩, .int .i64 0, .string ⟨#[]⟩, .int .i64 0, .int .i64 1] 49))
      have hbe := below_on HB.out (up2 wd (.cells #[.int .i64 0, .string ⟨#[112]⟩, .int .i64 0, .string ⟨#[]⟩, .int .i64 (-1), .int .i64 (-1), .int .i64 0, .string ⟨#[113]⟩, .int .i64 0, .string ⟨#[]⟩, .int .i64 (-1), .int .i64 (-1), .int .i64 11, .string ⟨#[]⟩, .int .i64 0, .string ⟨#[]⟩, .int .i64 0, .int .i64 1] 49) (.cells #[.string ⟨#[112]⟩, .int .i64 k1, .int .i64 x1, .string s1, .slice a1 n1 c1, .string ⟨#[113]⟩, .int .i64 k2, .int .i64 x2, .string s2, .slice a2 n2 c2] 35))
      have HT := Lib.hid ((pq_made 11 wd).at0 (up2 _ (.cells #[.string ⟨#[112]⟩, .int .i64 k1, .int .i64 x1, .string s1, .slice a1 n1 c1, .string ⟨#[113]⟩, .int .i64 k2, .int .i64 x2, .string s2, .slice a2 n2 c2] 35) (.cells #[.string ⟨#[112]⟩, .int .i64 k1, .int .i64 x3, .string s3, .slice a3 n3 c3, .string ⟨#[113]⟩, .int .i64 k2, .int .i64 x4, .string s4, .slice a4 n4 c4] 35)))
      have HE1 := Lib.hid ((swap_madeAt k1 x1 s1 a1 n1 c1 l1 k2 x2 s2 a2 n2 c2 l2 (wd.alloc (.cells #[.int .i64 0, .string ⟨#[112]⟩, .int .i64 0, .string ⟨#[]⟩, .int .i64 (-1), .int .i64 (-1), .int .i64 0, .string ⟨#[113]⟩, .int .i64 0, .string ⟨#[]⟩, .int .i64 (-1), .int .i64 (-1), .int .i64 11, .string ⟨#[]⟩, .int .i64 0, .string ⟨#[]⟩, .int .i64 0, .int .i64 1] 49)) ((HN.out.1.below hbt).more hbt.size) ((HN.out.2.1.below hbt).more hbt.size) (g := wd.heap.size + 1) (by simp)).on (up1 _ (.cells #[.string ⟨#[112]⟩, .int .i64 k1, .int .i64 x3, .string s3, .slice a3 n3 c3, .string ⟨#[113]⟩, .int .i64 k2, .int .i64 x4, .string s4, .slice a4 n4 c4] 35)))
      have HE2 := Lib.hid (swap_madeAt k1 x3 s3 a3 n3 c3 l3 k2 x4 s4 a4 n4 c4 l4 ((wd.alloc (.cells #[.int .i64 0, .string ⟨#[112]⟩, .int .i64 0, .string ⟨#[]⟩, .int .i64 (-1), .int .i64 (-1), .int .i64 0, .string ⟨#[113]⟩, .int .i64 0, .string ⟨#[]⟩, .int .i64 (-1), .int .i64 (-1), .int .i64 11, .string ⟨#[]⟩, .int .i64 0, .string ⟨#[]⟩, .int .i64 0, .int .i64 1] 49)).alloc (.cells #[.string ⟨#[112]⟩, .int .i64 k1, .int .i64 x1, .string s1, .slice a1 n1 c1, .string ⟨#[113]⟩, .int .i64 k2, .int .i64 x2, .string s2, .slice a2 n2 c2] 35)) ((HN.out.2.2.1.below hbe).more hbe.size) ((HN.out.2.2.2.below hbe).more hbe.size) (g := wd.heap.size + 1 + 1) (by simp))
      have HBX := Lib.hid (below_on HB.out (up3 wd (.cells #[.int .i64 0, .string ⟨#[112]⟩, .int .i64 0, .string ⟨#[]⟩, .int .i64 (-1), .int .i64 (-1), .int .i64 0, .string ⟨#[113]⟩, .int .i64 0, .string ⟨#[]⟩, .int .i64 (-1), .int .i64 (-1), .int .i64 11, .string ⟨#[]⟩, .int .i64 0, .string ⟨#[]⟩, .int .i64 0, .int .i64 1] 49) (.cells #[.string ⟨#[112]⟩, .int .i64 k1, .int .i64 x1, .string s1, .slice a1 n1 c1, .string ⟨#[113]⟩, .int .i64 k2, .int .i64 x2, .string s2, .slice a2 n2 c2] 35) (.cells #[.string ⟨#[112]⟩, .int .i64 k1, .int .i64 x3, .string s3, .slice a3 n3 c3, .string ⟨#[113]⟩, .int .i64 k2, .int .i64 x4, .string s4, .slice a4 n4 c4] 35)))
      obtain ⟨⟨p10, p11, p12, p13⟩, _⟩ := HF.out.1.cells
      obtain ⟨⟨p20, p21, p22, p23⟩, _⟩ := HF.out.2.1.cells
      obtain ⟨⟨p30, p31, p32, p33⟩, _⟩ := HF.out.2.2.1.cells
      obtain ⟨⟨p40, p41, p42, p43⟩, _⟩ := HF.out.2.2.2.cells
      have g3 := HF.out.2.2.2.lt
      have g0 : w.heap.size < wd.heap.size := by omega
      have g1 : w.heap.size + 1 < wd.heap.size := by omega
      have g2 : w.heap.size + 1 + 1 < wd.heap.size := by omega
      have g4 : w.heap.size < wd.heap.size + 1 := by omega
      have g5 : w.heap.size + 1 < wd.heap.size + 1 + 1 := by omega
      clear hbt hbe
      have hw5 : (ke = 502 ∧ er = 402 ∧ fr = 402) ∨ (ke = 0 ∧ er = 0 ∧ vk = kk ∧ fr = 0 ∧ uk = kk) ∨ (ke = 0 ∧ er = 0 ∧ vk = kk ∧ (fr != 0) = true) ∨ (ke = 0 ∧ (er != 0) = true ∧ fr = 0 ∧ uk = kk) ∨ (ke = 0 ∧ (er != 0) = true ∧ (fr != 0) = true) := by
        rcases HW.out with h | ⟨h, ⟨h1, h2⟩ | h1, ⟨h3, h4⟩ | h3⟩
        · exact .inl h
        · exact .inr (.inl ⟨h, h1, h2, h3, h4⟩)
        · exact .inr (.inr (.inl ⟨h, h1, h2, h3⟩))
        · exact .inr (.inr (.inr (.inl ⟨h, h1, h3, h4⟩)))
        · exact .inr (.inr (.inr (.inr ⟨h, h1, h3⟩)))
      have ekk : (kk == kk) = true := beq_self_eq_true kk
      go_upto_region 14 with (first
        | (go_at_call 12; (with_reducible refine (typings_any (some ⟨wd.heap.size + 1, 0, none⟩) 2 2 _ _ HE1.out (by omega)).mono ?_)
           rintro e wt ⟨⟨ta, tc, rfl, hty⟩, hb⟩
           have HTY := Lib.hid hty
           have HT := Lib.hid (HT.out.at0 hb)
           have HE1 := Lib.hid (HE1.out.on hb)
           have HE2 := Lib.hid (HE2.out.on hb)
           have HBX := Lib.hid (below_on HBX.out hb)
           clear hty hb)
        | (go_at_call 9; (with_reducible refine (kOf_any (some ⟨wd.heap.size, 0, none⟩) 3 3 (pqT 11) 2 ta 2 tc _ _ HT.out HTY.out).mono ?_)
           rintro e wk ⟨he, hb⟩
           rw [HK.out] at he
           subst he
           have HT := Lib.hid (HT.out.at0 hb)
           have HE1 := Lib.hid (HE1.out.on hb)
           have HE2 := Lib.hid (HE2.out.on hb)
           have HBX := Lib.hid (below_on HBX.out hb)
           clear hb)
        | (go_at_call 13; (with_reducible refine (termEval_any (some ⟨wd.heap.size, 0, none⟩) 3 3 (pqT 11) 2 (some ⟨wd.heap.size + 1, 0, none⟩) 2 2 _ _ _ (Nat.le_refl _) HT.out HE1.out).mono ?_)
           rintro e wv ⟨⟨z1, za1, zn1, zc1, he, hv, hf⟩, hb⟩
           rw [HR.out] at he hv
           subst he
           have hbb := below_on hb (up1 wv (.cells #[.int .i64 vk, .int .i64 vn, .string z1, .slice za1 zn1 zc1] 33))
           have HX1 := Lib.hid (BoxV.new wv (.int .i64 vk) (.int .i64 vn) (.string z1) (.slice za1 zn1 zc1))
           have HT := Lib.hid (HT.out.at0 hbb)
           have HE2 := Lib.hid (HE2.out.on hbb)
           have HBX := Lib.hid (below_on HBX.out hbb)
           clear hv hf hb hbb)
        | (go_at_call 13; (with_reducible refine (termEval_any (some ⟨wd.heap.size, 0, none⟩) 3 3 (pqT 11) 2 (some ⟨wd.heap.size + 1 + 1, 0, none⟩) 2 2 _ _ _ (Nat.le_refl _) HT.out HE2.out).mono ?_)
           rintro e wu ⟨⟨z2, za2, zn2, zc2, he, hv, hf⟩, hb⟩
           rw [HS.out] at he hv
           subst he
           have hbb := below_on hb (up1 wu (.cells #[.int .i64 uk, .int .i64 un, .string z2, .slice za2 zn2 zc2] 33))
           obtain ⟨⟨y0, y1, y2, y3⟩, _⟩ := (BoxV.new wu (.int .i64 uk) (.int .i64 un) (.string z2) (.slice za2 zn2 zc2)).cells
           obtain ⟨⟨z0, z1', z2', z3⟩, _⟩ := (HX1.out.on hbb).cells
           have HBZ := Lib.hid (below_on HBX.out hbb)
           clear hv hf hb hbb)
        | fail)
      rcases hw5 with ⟨rfl, rfl, rfl⟩ | ⟨rfl, rfl, rfl, rfl, rfl⟩ | ⟨rfl, rfl, rfl, f1⟩ | ⟨rfl, f2, rfl, rfl⟩ | ⟨rfl, f2, f3⟩
      all_goals
        go_wp2_with fail
        go_ret
        exact ⟨rfl, HBZ.out⟩
    · subst hq hk
      have hbt := below_on HB.out (up1 wd (.cells #[.int .i64 0, .string ⟨#[112]⟩, .int .i64 0, .string ⟨#[]⟩, .int .i64 (-1), .int .i64 (-1), .int .i64 0, .string ⟨#[113]⟩, .int .i64 0, .string ⟨#[]⟩, .int .i64 (-1), .int .i64 (-1), .int .i64 11, .string ⟨#[]⟩, .int .i64 0, .string ⟨#[]⟩, .int .i64 0, .int .i64 1] 49))
      have hbe := below_on HB.out (up2 wd (.cells #[.int .i64 0, .string ⟨#[112]⟩, .int .i64 0, .string ⟨#[]⟩, .int .i64 (-1), .int .i64 (-1), .int .i64 0, .string ⟨#[113]⟩, .int .i64 0, .string ⟨#[]⟩, .int .i64 (-1), .int .i64 (-1), .int .i64 11, .string ⟨#[]⟩, .int .i64 0, .string ⟨#[]⟩, .int .i64 0, .int .i64 1] 49) (.cells #[.string ⟨#[112]⟩, .int .i64 k1, .int .i64 x1, .string s1, .slice a1 n1 c1, .string ⟨#[113]⟩, .int .i64 k2, .int .i64 x2, .string s2, .slice a2 n2 c2] 35))
      have HT := Lib.hid ((pq_made 11 wd).at0 (up2 _ (.cells #[.string ⟨#[112]⟩, .int .i64 k1, .int .i64 x1, .string s1, .slice a1 n1 c1, .string ⟨#[113]⟩, .int .i64 k2, .int .i64 x2, .string s2, .slice a2 n2 c2] 35) (.cells #[.string ⟨#[112]⟩, .int .i64 k1, .int .i64 x3, .string s3, .slice a3 n3 c3, .string ⟨#[113]⟩, .int .i64 k2, .int .i64 x4, .string s4, .slice a4 n4 c4] 35)))
      have HE1 := Lib.hid ((swap_madeAt k1 x1 s1 a1 n1 c1 l1 k2 x2 s2 a2 n2 c2 l2 (wd.alloc (.cells #[.int .i64 0, .string ⟨#[112]⟩, .int .i64 0, .string ⟨#[]⟩, .int .i64 (-1), .int .i64 (-1), .int .i64 0, .string ⟨#[113]⟩, .int .i64 0, .string ⟨#[]⟩, .int .i64 (-1), .int .i64 (-1), .int .i64 11, .string ⟨#[]⟩, .int .i64 0, .string ⟨#[]⟩, .int .i64 0, .int .i64 1] 49)) ((HN.out.1.below hbt).more hbt.size) ((HN.out.2.1.below hbt).more hbt.size) (g := wd.heap.size + 1) (by simp)).on (up1 _ (.cells #[.string ⟨#[112]⟩, .int .i64 k1, .int .i64 x3, .string s3, .slice a3 n3 c3, .string ⟨#[113]⟩, .int .i64 k2, .int .i64 x4, .string s4, .slice a4 n4 c4] 35)))
      have HE2 := Lib.hid (swap_madeAt k1 x3 s3 a3 n3 c3 l3 k2 x4 s4 a4 n4 c4 l4 ((wd.alloc (.cells #[.int .i64 0, .string ⟨#[112]⟩, .int .i64 0, .string ⟨#[]⟩, .int .i64 (-1), .int .i64 (-1), .int .i64 0, .string ⟨#[113]⟩, .int .i64 0, .string ⟨#[]⟩, .int .i64 (-1), .int .i64 (-1), .int .i64 11, .string ⟨#[]⟩, .int .i64 0, .string ⟨#[]⟩, .int .i64 0, .int .i64 1] 49)).alloc (.cells #[.string ⟨#[112]⟩, .int .i64 k1, .int .i64 x1, .string s1, .slice a1 n1 c1, .string ⟨#[113]⟩, .int .i64 k2, .int .i64 x2, .string s2, .slice a2 n2 c2] 35)) ((HN.out.2.2.1.below hbe).more hbe.size) ((HN.out.2.2.2.below hbe).more hbe.size) (g := wd.heap.size + 1 + 1) (by simp))
      have HBX := Lib.hid (below_on HB.out (up3 wd (.cells #[.int .i64 0, .string ⟨#[112]⟩, .int .i64 0, .string ⟨#[]⟩, .int .i64 (-1), .int .i64 (-1), .int .i64 0, .string ⟨#[113]⟩, .int .i64 0, .string ⟨#[]⟩, .int .i64 (-1), .int .i64 (-1), .int .i64 11, .string ⟨#[]⟩, .int .i64 0, .string ⟨#[]⟩, .int .i64 0, .int .i64 1] 49) (.cells #[.string ⟨#[112]⟩, .int .i64 k1, .int .i64 x1, .string s1, .slice a1 n1 c1, .string ⟨#[113]⟩, .int .i64 k2, .int .i64 x2, .string s2, .slice a2 n2 c2] 35) (.cells #[.string ⟨#[112]⟩, .int .i64 k1, .int .i64 x3, .string s3, .slice a3 n3 c3, .string ⟨#[113]⟩, .int .i64 k2, .int .i64 x4, .string s4, .slice a4 n4 c4] 35)))
      obtain ⟨⟨p10, p11, p12, p13⟩, _⟩ := HF.out.1.cells
      obtain ⟨⟨p20, p21, p22, p23⟩, _⟩ := HF.out.2.1.cells
      obtain ⟨⟨p30, p31, p32, p33⟩, _⟩ := HF.out.2.2.1.cells
      obtain ⟨⟨p40, p41, p42, p43⟩, _⟩ := HF.out.2.2.2.cells
      have g3 := HF.out.2.2.2.lt
      have g0 : w.heap.size < wd.heap.size := by omega
      have g1 : w.heap.size + 1 < wd.heap.size := by omega
      have g2 : w.heap.size + 1 + 1 < wd.heap.size := by omega
      have g4 : w.heap.size < wd.heap.size + 1 := by omega
      have g5 : w.heap.size + 1 < wd.heap.size + 1 + 1 := by omega
      clear hbt hbe
      have hw5 : (ke = 502 ∧ er = 402 ∧ fr = 402) ∨ (ke = 0 ∧ er = 0 ∧ vk = kk ∧ fr = 0 ∧ uk = kk) ∨ (ke = 0 ∧ er = 0 ∧ vk = kk ∧ (fr != 0) = true) ∨ (ke = 0 ∧ (er != 0) = true ∧ fr = 0 ∧ uk = kk) ∨ (ke = 0 ∧ (er != 0) = true ∧ (fr != 0) = true) := by
        rcases HW.out with h | ⟨h, ⟨h1, h2⟩ | h1, ⟨h3, h4⟩ | h3⟩
        · exact .inl h
        · exact .inr (.inl ⟨h, h1, h2, h3, h4⟩)
        · exact .inr (.inr (.inl ⟨h, h1, h2, h3⟩))
        · exact .inr (.inr (.inr (.inl ⟨h, h1, h3, h4⟩)))
        · exact .inr (.inr (.inr (.inr ⟨h, h1, h3⟩)))
      have ekk : (kk == kk) = true := beq_self_eq_true kk
      go_upto_region 14 with (first
        | (go_at_call 12; (with_reducible refine (typings_any (some ⟨wd.heap.size + 1, 0, none⟩) 2 2 _ _ HE1.out (by omega)).mono ?_)
           rintro e wt ⟨⟨ta, tc, rfl, hty⟩, hb⟩
           have HTY := Lib.hid hty
           have HT := Lib.hid (HT.out.at0 hb)
           have HE1 := Lib.hid (HE1.out.on hb)
           have HE2 := Lib.hid (HE2.out.on hb)
           have HBX := Lib.hid (below_on HBX.out hb)
           clear hty hb)
        | (go_at_call 9; (with_reducible refine (kOf_any (some ⟨wd.heap.size, 0, none⟩) 3 3 (pqT 11) 2 ta 2 tc _ _ HT.out HTY.out).mono ?_)
           rintro e wk ⟨he, hb⟩
           rw [HK.out] at he
           subst he
           have HT := Lib.hid (HT.out.at0 hb)
           have HE1 := Lib.hid (HE1.out.on hb)
           have HE2 := Lib.hid (HE2.out.on hb)
           have HBX := Lib.hid (below_on HBX.out hb)
           clear hb)
        | (go_at_call 13; (with_reducible refine (termEval_any (some ⟨wd.heap.size, 0, none⟩) 3 3 (pqT 11) 2 (some ⟨wd.heap.size + 1, 0, none⟩) 2 2 _ _ _ (Nat.le_refl _) HT.out HE1.out).mono ?_)
           rintro e wv ⟨⟨z1, za1, zn1, zc1, he, hv, hf⟩, hb⟩
           rw [HR.out] at he hv
           subst he
           have hbb := below_on hb (up1 wv (.cells #[.int .i64 vk, .int .i64 vn, .string z1, .slice za1 zn1 zc1] 33))
           have HX1 := Lib.hid (BoxV.new wv (.int .i64 vk) (.int .i64 vn) (.string z1) (.slice za1 zn1 zc1))
           have HT := Lib.hid (HT.out.at0 hbb)
           have HE2 := Lib.hid (HE2.out.on hbb)
           have HBX := Lib.hid (below_on HBX.out hbb)
           clear hv hf hb hbb)
        | (go_at_call 13; (with_reducible refine (termEval_any (some ⟨wd.heap.size, 0, none⟩) 3 3 (pqT 11) 2 (some ⟨wd.heap.size + 1 + 1, 0, none⟩) 2 2 _ _ _ (Nat.le_refl _) HT.out HE2.out).mono ?_)
           rintro e wu ⟨⟨z2, za2, zn2, zc2, he, hv, hf⟩, hb⟩
           rw [HS.out] at he hv
           subst he
           have hbb := below_on hb (up1 wu (.cells #[.int .i64 uk, .int .i64 un, .string z2, .slice za2 zn2 zc2] 33))
           obtain ⟨⟨y0, y1, y2, y3⟩, _⟩ := (BoxV.new wu (.int .i64 uk) (.int .i64 un) (.string z2) (.slice za2 zn2 zc2)).cells
           obtain ⟨⟨z0, z1', z2', z3⟩, _⟩ := (HX1.out.on hbb).cells
           have HBZ := Lib.hid (below_on HBX.out hbb)
           clear hv hf hb hbb)
        | fail)
      rcases hw5 with ⟨rfl, rfl, rfl⟩ | ⟨rfl, rfl, rfl, rfl, rfl⟩ | ⟨rfl, rfl, rfl, f1⟩ | ⟨rfl, f2, rfl, rfl⟩ | ⟨rfl, f2, f3⟩
      all_goals
        go_wp2_with fail
        go_ret
        exact ⟨rfl, HBZ.out⟩

theorem kindMore_walk (kd : Int) (k1 x1 : Int) (s1 : ByteArray) (a1 : Option Addr) (n1 c1 : Nat) (l1 : List Int) (k2 x2 : Int) (s2 : ByteArray) (a2 : Option Addr) (n2 c2 : Nat) (l2 : List Int) (k3 x3 : Int) (s3 : ByteArray) (a3 : Option Addr) (n3 c3 : Nat) (l3 : List Int) (k4 x4 : Int) (s4 : ByteArray) (a4 : Option Addr) (n4 c4 : Nat) (l4 : List Int) (w : World) (h1 : Nums w w.heap.size a1 n1 l1) (h2 : Nums w w.heap.size a2 n2 l2) (h3 : Nums w w.heap.size a3 n3 l3) (h4 : Nums w w.heap.size a4 n4 l4) :
    Calls Try.prog 7 #[.int .i64 kd, .agg #[.int .i64 k1, .int .i64 x1, .string s1, .slice a1 n1 c1], .agg #[.int .i64 k2, .int .i64 x2, .string s2, .slice a2 n2 c2], .agg #[.int .i64 k3, .int .i64 x3, .string s3, .slice a3 n3 c3], .agg #[.int .i64 k4, .int .i64 x4, .string s4, .slice a4 n4 c4]] w fun e w' => e = .returned (.bool true) ∧ Below w.heap.size w w' := by
  cases d0 : (k1 != k3)
  case true => exact more_k13 kd k1 x1 s1 a1 n1 c1 k2 x2 s2 a2 n2 c2 k3 x3 s3 a3 n3 c3 k4 x4 s4 a4 n4 c4 w d0
  cases d : (k2 != k4)
  case true => exact more_k24 kd k1 x1 s1 a1 n1 c1 k2 x2 s2 a2 n2 c2 k3 x3 s3 a3 n3 c3 k4 x4 s4 a4 n4 c4 w d0 d
  cases m1 : mayV ⟨k1, x1, s1.toList, l1⟩
  case false => exact more_m1 kd k1 x1 s1 a1 n1 c1 l1 k2 x2 s2 a2 n2 c2 k3 x3 s3 a3 n3 c3 k4 x4 s4 a4 n4 c4 w d0 d h1 m1
  cases m2 : mayV ⟨k2, x2, s2.toList, l2⟩
  case false => exact more_m2 kd k1 x1 s1 a1 n1 c1 l1 k2 x2 s2 a2 n2 c2 l2 k3 x3 s3 a3 n3 c3 k4 x4 s4 a4 n4 c4 w d0 d h1 m1 h2 m2
  cases m3 : mayV ⟨k3, x3, s3.toList, l3⟩
  case false => exact more_m3 kd k1 x1 s1 a1 n1 c1 l1 k2 x2 s2 a2 n2 c2 l2 k3 x3 s3 a3 n3 c3 l3 k4 x4 s4 a4 n4 c4 w d0 d h1 m1 h2 m2 h3 m3
  cases m4 : mayV ⟨k4, x4, s4.toList, l4⟩
  case false => exact more_m4 kd k1 x1 s1 a1 n1 c1 l1 k2 x2 s2 a2 n2 c2 l2 k3 x3 s3 a3 n3 c3 l3 k4 x4 s4 a4 n4 c4 l4 w d0 d h1 m1 h2 m2 h3 m3 h4 m4
  obtain rfl : k1 = k3 := by simpa using d0
  obtain rfl : k2 = k4 := by simpa using d
  obtain ⟨q, e1, h6, h19⟩ : ∃ q, wrap64 (6 + wrap64 ((IntKind.u64.wrap kd).tmod 14)) = q ∧ 6 ≤ q ∧ q ≤ 19 := by
    have h0 : 0 ≤ IntKind.u64.wrap kd := by rw [IntKind.wrap_u64]; omega
    refine ⟨_, rfl, ?_⟩
    rw [Int.tmod_eq_emod_of_nonneg h0]
    unfold wrap64
    omega
  by_cases h15 : q = 15
  · exact more_main kd k1 x1 s1 a1 n1 c1 l1 k2 x2 s2 a2 n2 c2 l2 x3 s3 a3 n3 c3 l3 x4 s4 a4 n4 c4 l4 w h1 m1 h2 m2 h3 m3 h4 m4 q 11 e1 (.inr (.inl ⟨h15, rfl⟩)) ⟨rfl, by decide, by decide⟩
  by_cases h16 : q = 16
  · exact more_main kd k1 x1 s1 a1 n1 c1 l1 k2 x2 s2 a2 n2 c2 l2 x3 s3 a3 n3 c3 l3 x4 s4 a4 n4 c4 l4 w h1 m1 h2 m2 h3 m3 h4 m4 q 11 e1 (.inr (.inr ⟨h16, rfl⟩)) ⟨rfl, by decide, by decide⟩
  · exact more_main kd k1 x1 s1 a1 n1 c1 l1 k2 x2 s2 a2 n2 c2 l2 x3 s3 a3 n3 c3 l3 x4 s4 a4 n4 c4 l4 w h1 m1 h2 m2 h3 m3 h4 m4 q q e1 (.inl ⟨rfl, by rw [beq_eq_false_iff_ne]; exact h15, by rw [beq_eq_false_iff_ne]; exact h16⟩) ⟨by unfold arT; rw [if_neg (by omega), if_neg (by omega)], by omega, h19⟩
end Go.Proofs.Ythbakfceaaaamaa
