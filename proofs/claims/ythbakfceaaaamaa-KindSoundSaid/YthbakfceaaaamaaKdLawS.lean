/- The law KindSound returns true, whatever its arguments. -/
import Derived.Test.YthbakfceaaaamaaKdTyps
namespace Go.Proofs.Ythbakfceaaaamaa
open Go.RowKit

theorem typedK_errs (nm : Str) : ∀ env : List (Str × Int), (typedK env nm).2 = 0 ∨ (typedK env nm).2 = 501 ∨ (typedK env nm).2 = 502
  | [] => .inr (.inl rfl)
  | (s, k) :: r => by
    rw [typedK]
    split
    · split
      · exact .inl rfl
      · exact .inr (.inr rfl)
    · exact typedK_errs nm r
theorem kindE_errs (env : List (Str × Int)) : ∀ e : Exp, (kindE env e).2 = 0 ∨ (kindE env e).2 = 501 ∨ (kindE env e).2 = 502 := by
  intro e
  induction e with
  | leaf i t =>
    simp only [kindE]
    unfold leafK
    split
    · exact typedK_errs _ _
    split
    · exact .inl rfl
    split
    · exact .inl rfl
    split
    · exact .inl rfl
    split
    · exact .inl rfl
    · exact .inl rfl
  | one i t a ih =>
    simp only [kindE]
    split
    · unfold oneK
      split
      · split
        · exact .inl rfl
        · exact .inr (.inr rfl)
      · split
        · exact .inl rfl
        · exact .inr (.inr rfl)
    · exact ih
  | two i t a b iha ihb =>
    simp only [kindE]
    split
    · split
      · unfold twoK
        split
        · exact .inl rfl
        · exact .inr (.inr rfl)
      · exact ihb
    · exact iha
theorem sound_ways (L : List Trm) (root : Int) {env : List (Str × Val)} (hm : ∀ b ∈ env, mayV b.2 = true) {K : Int × Int} {R : Val × Int} (hK : kindF L root (kindsOf env) = K) (hR : evalF L root env = R) :
    (K.2 = 500 ∧ R.2 = 400) ∨ ((K.2 = 501 ∨ K.2 = 502) ∧ R.2 ≠ 0) ∨ (K.2 = 0 ∧ R.2 = 0 ∧ R.1.kind = K.1 ∧ mayV R.1 = true) ∨ (K.2 = 0 ∧ (R.2 = 403 ∨ R.2 = 404 ∨ R.2 = 405)) := by
  cases hf : mayF L root
  · rw [kindF_none hf] at hK
    rw [evalF_none hf] at hR
    subst hK hR
    exact .inl ⟨rfl, rfl⟩
  · obtain ⟨e, he⟩ := (mayF_iff L root).1 hf
    rw [kindF_good he] at hK
    rw [evalF_good he] at hR
    have h1 := kind_sound hm he.2.2.1
    have h2 := kindE_errs (kindsOf env) e
    have h3 := evalE_may env he.2.2.1
    rw [hK] at h1 h2
    rw [hR] at h1 h3
    unfold Sound at h1
    rcases h2 with h2 | h2
    · rw [if_pos h2] at h1
      rcases h1 with ⟨h4, h5⟩ | h4
      · exact .inr (.inr (.inl ⟨h2, h4, h5, h3⟩))
      · exact .inr (.inr (.inr ⟨h2, h4⟩))
    · rw [if_neg (by omega)] at h1
      exact .inr (.inl ⟨h2, h1⟩)
theorem all_at {env : List (Str × Val)} {j : Nat} {x : Str × Val} (h : env[j]? = some x) (hm : ∀ b ∈ env.take j, mayV b.2 = true) (hx : mayV x.2 = true) : ∀ b ∈ env.take (j + 1), mayV b.2 = true := by
  intro b hb
  obtain ⟨h1, e⟩ := List.getElem?_eq_some_iff.1 h
  rw [List.take_succ_eq_append_getElem h1, e, List.mem_append, List.mem_singleton] at hb
  rcases hb with hb | rfl
  · exact hm b hb
  · exact hx

set_option maxHeartbeats 16000000 in
set_option maxRecDepth 20000 in
theorem kindSound_walk (a : Option Addr) (n c : Nat) (L : List Trm) (root : Int) (ea : Option Addr) (en ec : Nat) (env : List (Str × Val)) (w : World)
    (hT : n ≤ 1000 → Trms w w.heap.size a n L) (hE : BindsL w w.heap.size ea en env) :
    Calls Try.prog 4 #[.slice a n c, .int .i64 root, .slice ea en ec] w fun e w' => e = .returned (.bool true) ∧ Below w.heap.size w w' := by
  by_cases hn : 200 < n
  · have d1 : decide ((200 : Int) < (n : Int)) = true := decide_eq_true (by omega)
    clear hT hE
    go_enter Try.func4, Try.ntmps4
    go_wp2_with (first | (go_at_call 8; (with_reducible refine (kdFirst_any _).mono ?_); rintro e w1 ⟨rfl, hb1⟩; have HB := Lib.hid hb1; clear hb1) | fail)
    go_ret
    exact ⟨rfl, HB.out⟩
  have d1 : decide ((200 : Int) < (n : Int)) = false := decide_eq_false (by omega)
  have HL := Lib.hid (hT (by omega))
  by_cases hm : 40 < en
  · have d2 : decide ((40 : Int) < (en : Int)) = true := decide_eq_true (by omega)
    clear hT hE
    go_enter Try.func4, Try.ntmps4
    go_wp2_with (first | (go_at_call 8; (with_reducible refine (kdFirst_any _).mono ?_); rintro e w1 ⟨rfl, hb1⟩; have HB := Lib.hid hb1; clear hb1) | fail)
    go_ret
    exact ⟨rfl, HB.out⟩
  have d2 : decide ((40 : Int) < (en : Int)) = false := decide_eq_false (by omega)
  have hen : en ≤ 40 := by omega
  have HE := Lib.hid (hE.short (by omega))
  have HN := Lib.hid hE.1
  clear hT hE hn hm
  go_enter Try.func4, Try.ntmps4
  go_wp2_with (first | (go_at_call 8; (with_reducible refine (kdFirst_any _).mono ?_); rintro e w1 ⟨rfl, hb1⟩; have HB := Lib.hid hb1; have HE1 := Lib.hid (HE.out.on hb1); have HL1 := Lib.hid (HL.out.at0 hb1); clear hb1) | fail)
  go_loopw [7] (fun i wr => ∃ j : Nat, j ≤ en ∧ i = .int .i64 j ∧ Hid (∀ b ∈ env.take j, mayV b.2 = true) ∧ Hid (Below w1.heap.size w1 wr)) (fun i _ => en - (intOf i).toNat)
  case atStart => exact ⟨0, Nat.zero_le _, rfl, Lib.hid (fun b hb => by simp at hb), Lib.hid (Below.refl _ _)⟩
  case round =>
    obtain ⟨j, hj, rfl, HA, HBr⟩ := hrel
    by_cases hlt : j < en
    · obtain ⟨b, off, x, s, t, la, ln, lc, rfl, hbb, hx, ⟨q0, q1, q2, q3, q4⟩, hs, ht, hnums⟩ := HE1.out.at_ hlt
      have r1 := (HBr.out.cell (p := ⟨b, off + j * 5 + 1, none⟩) hbb).trans q1
      have r2 := (HBr.out.cell (p := ⟨b, off + j * 5 + 2, none⟩) hbb).trans q2
      have r3 := (HBr.out.cell (p := ⟨b, off + j * 5 + 3, none⟩) hbb).trans q3
      have r4 := (HBr.out.cell (p := ⟨b, off + j * 5 + 4, none⟩) hbb).trans q4
      have cm := fun (W : World) (hW : Below w1.heap.size w1 W) => dataMay_any x.2.kind x.2.num t la ln lc x.2.list W _ hW.size (hnums.below hW)
      rw [ht] at cm
      have hm' : mayV ⟨x.2.kind, x.2.num, x.2.text, x.2.list⟩ = mayV x.2 := rfl
      rw [hm'] at cm
      obtain ⟨xk, hxk⟩ : ∃ xk, xk = x.2.kind := ⟨_, rfl⟩
      obtain ⟨xn, hxn⟩ : ∃ xn, xn = x.2.num := ⟨_, rfl⟩
      rw [← hxk] at r1 cm
      rw [← hxn] at r2 cm
      have HX := Lib.hid hx
      clear q0 q1 q2 q3 q4 hs ht hnums hm' hxk hxn hx
      cases hmx : mayV x.2
      · rw [hmx] at cm
        have CM := Lib.hid cm
        clear cm hmx
        go_wp2_with (first
          | (go_at_call 11; (with_reducible refine (CM.out _ HBr.out).mono ?_)
             rintro e w2 ⟨rfl, hb2⟩
             have HB2 := Lib.hid (below_on HB.out (HBr.out.trans (hb2.mono HBr.out.size)))
             clear hb2)
          | fail)
        go_ret
        exact ⟨rfl, HB2.out⟩
      · rw [hmx] at cm
        have CM := Lib.hid cm
        have HA2 := Lib.hid (all_at HX.out HA.out hmx)
        clear cm hmx
        go_wp2_with (first
          | (go_at_call 11; (with_reducible refine (CM.out _ HBr.out).mono ?_)
             rintro e w2 ⟨rfl, hb2⟩
             have HB2 := Lib.hid (HBr.out.trans (hb2.mono HBr.out.size))
             clear hb2)
          | fail)
        go_roundw
        case rel => exact ⟨j + 1, by omega, by go_num, HA2, HB2⟩
        case measure => simp [intOf]; omega
    · have hall : ∀ b ∈ env, mayV b.2 = true := by
        have h := HA.out
        rw [List.take_of_length_le (by have := HN.out; omega)] at h
        exact h
      have HLr := Lib.hid (HL1.out.at0 HBr.out)
      have HEr := Lib.hid (HE1.out.on HBr.out)
      have HBW := Lib.hid (below_on HB.out HBr.out)
      obtain ⟨K, hK⟩ : ∃ K, kindF L root (kindsOf env) = K := ⟨_, rfl⟩
      obtain ⟨R, hR⟩ : ∃ R, evalF L root env = R := ⟨_, rfl⟩
      have hways := sound_ways L root hall hK hR
      have HK := Lib.hid hK
      have HR := Lib.hid hR
      clear hK hR hall
      obtain ⟨kk, ke⟩ := K
      obtain ⟨⟨vk, vn, vt, vl⟩, er⟩ := R
      dsimp only at hways
      have hways2 : (ke = 500 ∧ er = 400) ∨ (ke = 501 ∧ (er != 0) = true) ∨ (ke = 502 ∧ (er != 0) = true) ∨ (ke = 0 ∧ er = 0 ∧ vk = kk ∧ mayV ⟨vk, vn, vt, vl⟩ = true) ∨ (ke = 0 ∧ er = 403) ∨ (ke = 0 ∧ er = 404) ∨ (ke = 0 ∧ er = 405) := by
        rcases hways with h | ⟨h1, h2⟩ | ⟨h1, h2, h3, h4⟩ | ⟨h1, h2⟩
        · exact .inl h
        · rcases h1 with h1 | h1
          · exact .inr (.inl ⟨h1, by rw [bne_iff_ne]; exact h2⟩)
          · exact .inr (.inr (.inl ⟨h1, by rw [bne_iff_ne]; exact h2⟩))
        · exact .inr (.inr (.inr (.inl ⟨h1, h2, h3, h4⟩)))
        · rcases h2 with h2 | h2 | h2
          · exact .inr (.inr (.inr (.inr (.inl ⟨h1, h2⟩))))
          · exact .inr (.inr (.inr (.inr (.inr (.inl ⟨h1, h2⟩)))))
          · exact .inr (.inr (.inr (.inr (.inr (.inr ⟨h1, h2⟩)))))
      clear hways
      rcases hways2 with ⟨rfl, rfl⟩ | ⟨rfl, her⟩ | ⟨rfl, her⟩ | ⟨rfl, rfl, rfl, hmv⟩ | ⟨rfl, rfl⟩ | ⟨rfl, rfl⟩ | ⟨rfl, rfl⟩
      case inr.inr.inr.inl =>
        have e1 : (vk == vk) = true := beq_self_eq_true vk
        have HMV := Lib.hid hmv
        clear hmv
        go_wp2_with (first
          | (go_at_call 12; (with_reducible refine (typings_any ea en ec env _ HEr.out (by omega)).mono ?_)
             rintro e w2 ⟨⟨ta, tc, rfl, hty⟩, hb2⟩
             have HTY := Lib.hid hty
             have HLr := Lib.hid (HLr.out.at0 hb2)
             have HEr := Lib.hid (HEr.out.on hb2)
             have HBW := Lib.hid (below_on HBW.out hb2)
             clear hty hb2)
          | (go_at_call 9; (with_reducible refine (kOf_any a n c L root ta en tc (kindsOf env) _ HLr.out HTY.out).mono ?_)
             rintro e w3 ⟨he, hb3⟩
             rw [HK.out] at he
             subst he
             have HLr := Lib.hid (HLr.out.at0 hb3)
             have HEr := Lib.hid (HEr.out.on hb3)
             have HBW := Lib.hid (below_on HBW.out hb3)
             clear hb3)
          | (go_at_call 13; (with_reducible refine (termEval_any a n c L root ea en ec env _ _ (Nat.le_refl _) HLr.out HEr.out).mono ?_)
             rintro e wv ⟨⟨s1, a1, n1, c1, he, hv, hf⟩, hb⟩
             rw [HR.out] at he hv
             subst he
             have HN1 := Lib.hid (hv.2.on (up1 wv (.cells #[.int .i64 vk, .int .i64 vn, .string s1, .slice a1 n1 c1] 33)))
             have HX1 := Lib.hid (BoxV.new wv (.int .i64 vk) (.int .i64 vn) (.string s1) (.slice a1 n1 c1))
             have HBW := Lib.hid (below_on (below_on HBW.out hb) (up1 wv (.cells #[.int .i64 vk, .int .i64 vn, .string s1, .slice a1 n1 c1] 33)))
             obtain ⟨⟨x0, x1, x2, x3⟩, _⟩ := HX1.out.cells
             have HMV := Lib.hid (show mayV ⟨vk, vn, s1.toList, vl⟩ = true by have h := hv.1; dsimp only at h; rw [h]; exact HMV.out)
             clear hv hf hb)
          | (go_at_call 11; (with_reducible refine (dataMay_any vk vn s1 a1 n1 c1 vl _ _ (Nat.le_refl _) HN1.out).mono ?_)
             rintro e w5 ⟨he, hb5⟩
             rw [HMV.out] at he
             subst he
             have HBW := Lib.hid (below_on HBW.out hb5)
             clear hb5)
          | fail)
        go_ret
        exact ⟨rfl, HBW.out⟩
      all_goals
        go_wp2_with (first
          | (go_at_call 12; (with_reducible refine (typings_any ea en ec env _ HEr.out (by omega)).mono ?_)
             rintro e w2 ⟨⟨ta, tc, rfl, hty⟩, hb2⟩
             have HTY := Lib.hid hty
             have HLr := Lib.hid (HLr.out.at0 hb2)
             have HEr := Lib.hid (HEr.out.on hb2)
             have HBW := Lib.hid (below_on HBW.out hb2)
             clear hty hb2)
          | (go_at_call 9; (with_reducible refine (kOf_any a n c L root ta en tc (kindsOf env) _ HLr.out HTY.out).mono ?_)
             rintro e w3 ⟨he, hb3⟩
             rw [HK.out] at he
             subst he
             have HLr := Lib.hid (HLr.out.at0 hb3)
             have HEr := Lib.hid (HEr.out.on hb3)
             have HBW := Lib.hid (below_on HBW.out hb3)
             clear hb3)
          | (go_at_call 13; (with_reducible refine (termEval_any a n c L root ea en ec env _ _ (Nat.le_refl _) HLr.out HEr.out).mono ?_)
             rintro e wv ⟨⟨s1, a1, n1, c1, he, hv, hf⟩, hb⟩
             rw [HR.out] at he hv
             subst he
             have HBW := Lib.hid (below_on (below_on HBW.out hb) (up1 wv (.cells #[.int .i64 vk, .int .i64 vn, .string s1, .slice a1 n1 c1] 33)))
             clear hv hf hb)
          | fail)
        go_ret
        exact ⟨rfl, HBW.out⟩
end Go.Proofs.Ythbakfceaaaamaa
