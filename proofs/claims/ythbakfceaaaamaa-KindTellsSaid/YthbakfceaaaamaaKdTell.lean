/- The law KindTells returns true, whatever its arguments. -/
import Derived.Test.YthbakfceaaaamaaKdRefs
import Derived.Test.YthbakfceaaaamaaKdOfs
import Derived.Test.YthbakfceaaaamaaKdOpen
import Derived.ShutString
namespace Go.Proofs.Ythbakfceaaaamaa
open Go.RowKit

set_option maxHeartbeats 8000000 in
set_option maxRecDepth 20000 in
theorem kindTells_walk (a : Option Addr) (n c : Nat) (L : List Trm) (root : Int) (ea : Option Addr) (en ec : Nat) (env : List (Str × Int)) (w : World)
    (hT : n ≤ 1000 → Trms w w.heap.size a n L) (hE : en ≤ 1000 → Typs w w.heap.size ea en env) :
    Calls Try.prog 3 #[.slice a n c, .int .i64 root, .slice ea en ec] w fun e w' => e = .returned (.bool true) ∧ Below w.heap.size w w' := by
  by_cases hn : 200 < n
  · have d1 : decide ((200 : Int) < (n : Int)) = true := decide_eq_true (by omega)
    clear hT hE
    go_enter Try.func3, Try.ntmps3
    go_wp2_with (first | (go_at_call 8; (with_reducible refine (kdFirst_any _).mono ?_); rintro e w1 ⟨rfl, hb1⟩; have HB := Lib.hid hb1; clear hb1) | fail)
    go_ret
    exact ⟨rfl, HB.out⟩
  have d1 : decide ((200 : Int) < (n : Int)) = false := decide_eq_false (by omega)
  have hn8 : n ≤ 800 := by omega
  have HL := Lib.hid (hT (by omega))
  by_cases hm : 40 < en
  · have d2 : decide ((40 : Int) < (en : Int)) = true := decide_eq_true (by omega)
    clear hT hE
    go_enter Try.func3, Try.ntmps3
    go_wp2_with (first | (go_at_call 8; (with_reducible refine (kdFirst_any _).mono ?_); rintro e w1 ⟨rfl, hb1⟩; have HB := Lib.hid hb1; clear hb1) | fail)
    go_ret
    exact ⟨rfl, HB.out⟩
  have d2 : decide ((40 : Int) < (en : Int)) = false := decide_eq_false (by omega)
  have HE := Lib.hid (hE (by omega))
  clear hT hE
  obtain ⟨R, hR⟩ : ∃ R, kindF L root env = R := ⟨_, rfl⟩
  have CO := Lib.hid (fun (W : World) (h1 : Trms W W.heap.size a n L) (h2 : Typs W W.heap.size ea en env) => kOf_any a n c L root ea en ec env W h1 h2)
  have CK := Lib.hid (fun (W : World) (h1 : Trms W W.heap.size a n L) (h2 : Typs W W.heap.size ea en env) => refKind_any a n c L root ea en ec env W h1 h2 (by omega))
  rw [hR] at CO CK
  obtain ⟨rk, re⟩ := R
  have e1 : (rk == rk) = true := beq_self_eq_true rk
  have e2 : (re == re) = true := beq_self_eq_true re
  clear hR hn hm
  go_enter Try.func3, Try.ntmps3
  go_wp2_with (first
    | (go_at_call 8; (with_reducible refine (kdFirst_any _).mono ?_); rintro e w1 ⟨rfl, hb1⟩; have HB := Lib.hid hb1; clear hb1)
    | (go_at_call 9; (with_reducible refine (CO.out _ (HL.out.at0 HB.out) (HE.out.on HB.out)).mono ?_)
       rintro e w2 ⟨rfl, hb2⟩
       have HB2 := Lib.hid (below_on HB.out hb2)
       clear hb2)
    | (go_at_call 10; (with_reducible refine (CK.out _ (HL.out.at0 HB2.out) (HE.out.on HB2.out)).mono ?_)
       rintro e w3 ⟨rfl, hb3⟩
       have HB3 := Lib.hid (below_on HB2.out hb3)
       clear hb3)
    | fail)
  go_ret
  exact ⟨rfl, HB3.out⟩
end Go.Proofs.Ythbakfceaaaamaa

/- The statement KindTells holds for every argument, with no condition. -/
namespace Go.Proofs.Ythbakfceaaaamaa.kindTells
open Go Go.ChangeShapes Go.WideShapes Go.ChangeAt Go.RowKit
open Go.ChangeMaps (open_string shut_string)

set_option maxRecDepth 100000 in
theorem lifted (os : Os) (started : os.Started) (H : Type) (enc : TypeId × Value → H) :
    ReturnsInHanded {} Try.checked os 3 .any (Rows.kindTellsSpec.pre6 enc Try.prog Try.f3 Rows.kindTellsRow.domain false) (Rows.kindTellsSpec.post enc Try.prog Try.f3 false true false false) := by
  refine returnsInHanded_of_change (C := Try.checked) seatOwn started (by kernel_rfl) Try.func3
    (ChangeSpec.witness6 (enc := enc) (C := Try.checked) false ⟨#[], #[.slice none 0 0, .int .i64 0, .slice none 0 0], []⟩ 8 (by kernel_rfl) (by kernel_rfl) (by kernel_rfl) (by kernel_rfl)) ?_
  intro W base args ds gs before hval0 hW hcnd _
  have hval : ∀ (j : Nat) t v, Try.f3.params[j]? = some t → args[j]? = some v → Value.okWide Try.prog W .any base t v := hval0
  have hW' := hW
  obtain ⟨p, q, hA0, hV, rfl, hfz, hnd⟩ := hW
  have hA : DataW.TrodAll enc Try.prog W 0 (fun _ => true) true Try.f3.params.toList args.toList ds p := hA0
  rw [Try.params3] at hA hval
  obtain ⟨v0, vs0, d0, ds0, p0, q0, hargs, rfl, rfl, h0, r0⟩ := trodAll_cons hA
  obtain ⟨v1, vs1, d1, ds1, p1, q1, rfl, rfl, rfl, h1, r1⟩ := trodAll_cons r0
  obtain ⟨v2, vs2, d2, ds2, p2, q2, rfl, rfl, rfl, h2, r2⟩ := trodAll_cons r1
  obtain ⟨rfl, rfl, rfl⟩ := trodAll_nil r2
  obtain rfl : args = #[v0, v1, v2] := by cases args; simp_all
  obtain ⟨rfl, rfl⟩ := trodVars_none hV
  have k0 := h0
  have lt0 := args_below k0
  obtain ⟨fu0, hf0⟩ := h0
  obtain ⟨ia0, ilen0, icap0, rfl⟩ := okWide_slice Try.underlying22 (hval 0 22 v0 rfl rfl)
  obtain ⟨a0, n0, c0, l0, hv0, hn0, hc0⟩ := open_trms hf0
  injection hv0 with ea0 en0 ec0
  subst ea0 en0 ec0
  have k1 := h1
  have lt1 := args_below k1
  obtain ⟨a1, rfl, rfl, rfl, w1⟩ := open_int Try.underlying3 (hval 1 3 v1 rfl rfl) h1
  have k2 := h2
  have lt2 := args_below k2
  obtain ⟨fu2, hf2⟩ := h2
  obtain ⟨ia2, ilen2, icap2, rfl⟩ := okWide_slice Try.underlying23 (hval 2 23 v2 rfl rfl)
  obtain ⟨a2, n2, c2, l2, hv2, hn2, hc2⟩ := open_typs hf2
  injection hv2 with ea2 en2 ec2
  subst ea2 en2 ec2
  clear hA0 hval0
  refine (kindTells_walk ia0 ilen0 icap0 l0 a1 ia2 ilen2 icap2 l2 W hn0 hn2 ).mono fun e W' ⟨he, bel⟩ => ?_
  subst he
  exact ⟨_, rfl, _, _, _, [], _, [], hW', trodAll_mk1 (shut_bool Try.underlying4 _), (trodAll_cons_mk (Below.trod seatLaidOut (by kernel_rfl) (of_decide_eq_true (by kernel_rfl)) k0 bel lt0) (trodAll_cons_mk (Below.trod seatLaidOut (by kernel_rfl) (of_decide_eq_true (by kernel_rfl)) k1 bel lt1) (trodAll_cons_mk (Below.trod seatLaidOut (by kernel_rfl) (of_decide_eq_true (by kernel_rfl)) k2 bel lt2) trodAll_mk0))), rfl, bel.frame _, fun h => by cases h⟩

theorem over : Rows.kindTellsRow.holds Try.pinned (OpenSpec.ofChange Rows.kindTellsSpec) :=
  OpenClaim.holds_of_wide 3 Try.f3 rfl rfl rfl rfl rfl rfl rfl ⟨rfl, rfl, rfl, rfl, rfl⟩ rfl rfl rfl rfl rfl (by kernel_rfl) Try.func3 (by kernel_rfl)
    (of_decide_eq_true (by kernel_rfl)) (by unfold Func.isWrapper; first | (rw [if_pos (by decide +kernel)]; kernel_rfl) | (rw [if_neg (by decide +kernel)]; exact ⟨rfl, rfl⟩))
    (fun os started H enc _ => lifted os started H enc)

theorem proved : Rows.KindTellsSaid :=
  over
#print axioms proved
end Go.Proofs.Ythbakfceaaaamaa.kindTells
