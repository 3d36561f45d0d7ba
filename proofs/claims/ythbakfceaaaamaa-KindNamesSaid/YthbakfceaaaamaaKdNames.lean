/- The law KindNames returns true, whatever its arguments. -/
import Derived.Test.YthbakfceaaaamaaKdTyps
import Derived.BigQuiet
import Derived.Test.YthbakfceaaaamaaKdOpen
import Derived.ShutString
namespace Go.Proofs.Ythbakfceaaaamaa
open Go.RowKit

/-- The typings of other names. -/
def otherK (V : List Str) (more : List (Str × Int)) : List (Str × Int) := more.filter fun b => !hasS V b.1
/-- Does a name have a typing? -/
def inK (env : List (Str × Int)) (x : Str) : Bool := env.any fun b => b.1 == x
theorem kTake_at {α : Type} {l : List α} {k : Nat} {x : α} (h : l[k]? = some x) : l.take (k + 1) = l.take k ++ [x] := by
  obtain ⟨h1, e⟩ := List.getElem?_eq_some_iff.1 h
  rw [List.take_succ_eq_append_getElem h1, e]
theorem otherK_at {V : List Str} {more : List (Str × Int)} {k : Nat} {x : Str × Int} (h : more[k]? = some x) : otherK V (more.take (k + 1)) = otherK V (more.take k) ++ (if hasS V x.1 then [] else [x]) := by
  rw [kTake_at h]
  unfold otherK
  rw [List.filter_append]
  cases hh : hasS V x.1 <;> simp [hh]
theorem otherK_len (V : List Str) (more : List (Str × Int)) : (otherK V more).length ≤ more.length := List.length_filter_le _ _
theorem inK_at {env : List (Str × Int)} {k : Nat} {y : Str × Int} (h : env[k]? = some y) (x : Str) : inK (env.take (k + 1)) x = (inK (env.take k) x || y.1 == x) := by
  rw [kTake_at h]
  unfold inK
  rw [List.any_append]
  simp
theorem kAll_take {V : List Str} {f : Str → Bool} {k : Nat} {y : Str} (h : V[k]? = some y) : (V.take (k + 1)).all f = ((V.take k).all f && f y) := by
  rw [kTake_at h, List.all_append]
  simp
theorem typedK_skip {x : Str} : ∀ {o : List (Str × Int)} (env : List (Str × Int)), (∀ b ∈ o, b.1 ≠ x) → typedK (o ++ env) x = typedK env x
  | [], _, _ => rfl
  | (s, v) :: r, env, h => by
    rw [List.cons_append, typedK, if_neg (h (s, v) (by simp))]
    exact typedK_skip env (fun b hb => h b (by simp [hb]))
theorem typedK_kept {x : Str} : ∀ {env : List (Str × Int)} (more : List (Str × Int)), inK env x = true → typedK (env ++ more) x = typedK env x
  | [], _, h => by simp [inK] at h
  | (s, v) :: r, more, h => by
    rw [List.cons_append, typedK, typedK]
    by_cases hs : s = x
    · rw [if_pos hs, if_pos hs]
    · rw [if_neg hs, if_neg hs]
      refine typedK_kept more ?_
      unfold inK at h ⊢
      rw [List.any_cons, Bool.or_eq_true] at h
      rcases h with h | h
      · exact absurd (by simpa using h) hs
      · exact h
theorem typedK_gone {x : Str} : ∀ {env : List (Str × Int)}, inK env x = false → typedK env x = (0, 501)
  | [], _ => rfl
  | (s, v) :: r, h => by
    unfold inK at h
    rw [List.any_cons, Bool.or_eq_false_iff] at h
    rw [typedK, if_neg (by have := h.1; simpa using this)]
    exact typedK_gone h.2
theorem kindE_same {env env' : List (Str × Int)} : ∀ {e : Exp}, (∀ x ∈ e.names, typedK env x = typedK env' x) → kindE env e = kindE env' e := by
  intro e
  induction e with
  | leaf i t =>
    intro h
    simp only [kindE]
    unfold leafK
    by_cases hk : t.kind = 0
    · rw [if_pos hk, if_pos hk]
      exact h _ (by simp [Exp.names, hk])
    · rw [if_neg hk, if_neg hk]
  | one i t a ih => intro h; simp only [kindE, ih h]
  | two i t a b iha ihb =>
    intro h
    simp only [kindE, iha (fun x hx => h x (by simp [Exp.names, hx])), ihb (fun x hx => h x (by simp [Exp.names, hx]))]
theorem kindE_bad {env : List (Str × Int)} {x : Str} (hx : typedK env x = (0, 501)) : ∀ {e : Exp}, x ∈ e.names → (kindE env e).2 ≠ 0 ∧ (kindE env e).1 = 0 := by
  intro e
  induction e with
  | leaf i t =>
    intro h
    simp only [kindE]
    unfold leafK
    by_cases hk : t.kind = 0
    · rw [if_pos hk]
      simp only [Exp.names] at h
      rw [if_pos hk, List.mem_singleton] at h
      rw [← h, hx]
      exact ⟨by decide, rfl⟩
    · simp only [Exp.names] at h
      rw [if_neg hk] at h
      cases h
  | one i t a ih =>
    intro h
    have h1 := ih h
    simp only [kindE]
    rw [if_neg h1.1]
    exact ⟨h1.1, rfl⟩
  | two i t a b iha ihb =>
    intro h
    simp only [kindE]
    by_cases ha : (kindE env a).2 = 0
    · rw [if_pos ha]
      rcases List.mem_append.1 h with h | h
      · exact absurd ha (iha h).1
      · have h1 := ihb h
        rw [if_neg h1.1]
        exact ⟨h1.1, rfl⟩
    · rw [if_neg ha]
      exact ⟨ha, rfl⟩
theorem names_more (L : List Trm) (root : Int) (env more : List (Str × Int)) (h : (varsF L root).all (inK env) = true) : kindF L root (otherK (varsF L root) more ++ env ++ more) = kindF L root env := by
  cases hm : mayF L root
  · rw [kindF_none hm, kindF_none hm]
  · obtain ⟨e, he⟩ := (mayF_iff L root).1 hm
    rw [kindF_good he, kindF_good he]
    refine kindE_same fun x hx => ?_
    have hv : x ∈ varsF L root := (mem_vars he x).2 hx
    rw [List.append_assoc, typedK_skip, typedK_kept more (List.all_eq_true.1 h x hv)]
    intro b hb e2
    have h1 := (List.mem_filter.1 hb).2
    subst e2
    unfold hasS at h1
    rw [List.contains_iff_mem.2 hv] at h1
    cases h1
theorem names_gone (L : List Trm) (root : Int) (env : List (Str × Int)) (h : (varsF L root).all (inK env) = false) : (kindF L root env).2 ≠ 0 ∧ (kindF L root env).1 = 0 := by
  cases hm : mayF L root
  · rw [kindF_none hm]
    exact ⟨by decide, rfl⟩
  · obtain ⟨e, he⟩ := (mayF_iff L root).1 hm
    rw [kindF_good he]
    rw [List.all_eq_false] at h
    obtain ⟨x, hx, hn⟩ := h
    exact kindE_bad (typedK_gone (by simpa using hn)) ((mem_vars he x).1 hx)
theorem Strs.part (w : World) {bound : Nat} {a : Option Addr} {n : Nat} {ss : List Str} (h : Strs w bound a n ss) {k : Nat} (hk : k < n) : ∃ b off, ∃ t : ByteArray, a = some ⟨b, off, none⟩ ∧ b < bound ∧ ss[k]? = some t.toList ∧ w.cell? ⟨b, off + k, none⟩ = some (.string t) := by
  obtain ⟨b, off, e, hb, hc⟩ := h.2.2.2 (by omega)
  have hk' : k < ss.length := by rw [h.1]; exact hk
  have hg := List.getElem?_eq_getElem hk'
  exact ⟨b, off, baS ss[k], e, hb, by rw [baS_toList]; exact hg, hc k _ hg⟩

set_option maxHeartbeats 16000000 in
set_option maxRecDepth 20000 in
theorem names_over (a : Option Addr) (n c : Nat) (root : Int) (ea : Option Addr) (en ec : Nat) (ma : Option Addr) (mn mc : Nat) (w : World) (h : 200 < n ∨ 40 < en ∨ 40 < mn) :
    Calls Try.prog 5 #[.slice a n c, .int .i64 root, .slice ea en ec, .slice ma mn mc] w fun e w' => e = .returned (.bool true) ∧ Below w.heap.size w w' := by
  by_cases hn : 200 < n
  · have d1 : decide ((200 : Int) < (n : Int)) = true := decide_eq_true (by omega)
    go_enter Try.func5, Try.ntmps5
    go_wp2_with (first | (go_at_call 8; (with_reducible refine (kdFirst_any _).mono ?_); rintro e w1 ⟨rfl, hb1⟩; have HB := Lib.hid hb1; clear hb1) | fail)
    go_ret
    exact ⟨rfl, HB.out⟩
  have d1 : decide ((200 : Int) < (n : Int)) = false := decide_eq_false (by omega)
  by_cases hm : 40 < en
  · have d2 : decide ((40 : Int) < (en : Int)) = true := decide_eq_true (by omega)
    go_enter Try.func5, Try.ntmps5
    go_wp2_with (first | (go_at_call 8; (with_reducible refine (kdFirst_any _).mono ?_); rintro e w1 ⟨rfl, hb1⟩; have HB := Lib.hid hb1; clear hb1) | fail)
    go_ret
    exact ⟨rfl, HB.out⟩
  have d2 : decide ((40 : Int) < (en : Int)) = false := decide_eq_false (by omega)
  have d3 : decide ((40 : Int) < (mn : Int)) = true := decide_eq_true (by omega)
  clear h hn hm
  go_enter Try.func5, Try.ntmps5
  go_wp2_with (first | (go_at_call 8; (with_reducible refine (kdFirst_any _).mono ?_); rintro e w1 ⟨rfl, hb1⟩; have HB := Lib.hid hb1; clear hb1) | fail)
  go_ret
  exact ⟨rfl, HB.out⟩
set_option maxHeartbeats 16000000 in
set_option maxRecDepth 20000 in
theorem kindNames_walk (a : Option Addr) (n c : Nat) (L : List Trm) (root : Int) (ea : Option Addr) (en ec : Nat) (env : List (Str × Int)) (ma : Option Addr) (mn mc : Nat) (more : List (Str × Int)) (w : World)
    (hT : n ≤ 1000 → Trms w w.heap.size a n L) (hE : en ≤ 1000 → Typs w w.heap.size ea en env) (hM : mn ≤ 1000 → Typs w w.heap.size ma mn more) :
    Calls Try.prog 5 #[.slice a n c, .int .i64 root, .slice ea en ec, .slice ma mn mc] w fun e w' => e = .returned (.bool true) ∧ Below w.heap.size w w' := by
  by_cases hover : 200 < n ∨ 40 < en ∨ 40 < mn
  · exact names_over a n c root ea en ec ma mn mc w hover
  have d1 : decide ((200 : Int) < (n : Int)) = false := decide_eq_false (by omega)
  have d2 : decide ((40 : Int) < (en : Int)) = false := decide_eq_false (by omega)
  have d3 : decide ((40 : Int) < (mn : Int)) = false := decide_eq_false (by omega)
  have hen : en ≤ 40 := by omega
  have hmn : mn ≤ 40 := by omega
  have hl := hT (by omega)
  have HL := Lib.hid hl
  have HE := Lib.hid (hE (by omega))
  have HM := Lib.hid (hM (by omega))
  have HN1 := Lib.hid HE.out.1
  have HN2 := Lib.hid HM.out.1
  obtain ⟨V, hV⟩ : ∃ V, varsF L root = V := ⟨_, rfl⟩
  have hmore := names_more L root env more
  have hgone := names_gone L root env
  rw [hV] at hmore hgone
  obtain ⟨K, hK⟩ : ∃ K, kindF L root env = K := ⟨_, rfl⟩
  rw [hK] at hmore hgone
  have HV := Lib.hid hV
  have HK := Lib.hid hK
  have HMORE := Lib.hid hmore
  have HGONE := Lib.hid hgone
  obtain ⟨kk, ke⟩ := K
  clear hT hE hM hl hV hmore hgone hK hover
  go_enter Try.func5, Try.ntmps5
  go_wp2_with (first
    | (go_at_call 8; (with_reducible refine (kdFirst_any _).mono ?_); rintro e w1 ⟨rfl, hb1⟩; have HB := Lib.hid hb1; clear hb1)
    | (go_at_call 14; (with_reducible refine (termVars_any a n c L root _ _ (Nat.le_refl _) (HL.out.at0 HB.out)).mono ?_)
       rintro e w2 ⟨⟨va, vn, vc, rfl, hs, _⟩, hb⟩
       rw [HV.out] at hs
       have HB := Lib.hid (below_on HB.out hb)
       have HVS := Lib.hid hs
       have hvn := hs.2.1
       have HL2 := Lib.hid (HL.out.at0 HB.out)
       have HE2 := Lib.hid (HE.out.on HB.out)
       have HM2 := Lib.hid (HM.out.on HB.out)
       clear hs hb)
    | fail)
  go_loopw [10, 11] (fun s i wr => ∃ (j : Nat) (v : Value), j ≤ mn ∧ i = .int .i64 j ∧ v = s ∧ Hid (YOwn wr w2.heap.size v (otherK V (more.take j))) ∧ Hid (Below w2.heap.size w2 wr)) (fun _ i _ => mn - (intOf i).toNat)
  case atStart => exact ⟨0, _, Nat.zero_le _, rfl, rfl, Lib.hid (by rw [List.take_zero]; exact YOwn.zero _ _), Lib.hid (Below.refl _ _)⟩
  case round =>
    obtain ⟨j, v, hj, rfl, hv, HO, HBr⟩ := hrel
    subst hv
    have hzr := HBr.out.size
    by_cases hlt : j < mn
    · obtain ⟨b, off, x, s, z, rfl, hbb, hx, ⟨q0, q1, q2⟩, hs⟩ := HM2.out.at_ hlt
      have r0 := (HBr.out.cell (p := ⟨b, off + j * 3, none⟩) hbb).trans q0
      have r1 := (HBr.out.cell (p := ⟨b, off + j * 3 + 1, none⟩) hbb).trans q1
      have r2 := (HBr.out.cell (p := ⟨b, off + j * 3 + 2, none⟩) hbb).trans q2
      have hat := otherK_at (V := V) hx
      have hxe : x = (s.toList, x.2) := by rw [hs]
      rw [hxe] at hat
      dsimp only at hat
      obtain ⟨xk, hxk⟩ : ∃ xk, xk = x.2 := ⟨_, rfl⟩
      rw [← hxk] at r1 hat
      have hlo := Nat.le_trans (otherK_len V (more.take j)) (List.length_take_le _ _)
      cases hh : hasS V s.toList
      · rw [hh] at hat
        have HAT := Lib.hid hat
        have CH := Lib.hid (fun (W : World) (hb : Below w2.heap.size w2 W) => show Calls Try.prog 15 #[.slice va vn vc, .string s] W fun e w' => e = .returned (.bool false) ∧ W = w' from by
          have := has_any va vn vc V s W _ (HVS.out.below hb)
          rw [hh] at this
          exact this)
        clear hat hh hx q0 q1 q2 hs hxk hxe
        go_wp2_with (first
          | (go_at_call 15; (with_reducible refine (CH.out _ HBr.out).mono ?_); rintro e w3 ⟨rfl, rfl⟩)
          | (at_builtin
             refine wpList_append_typs rfl (.tmp 52) (.tmp 57) rfl w2.heap.size v (otherK V (more.take j)) _ 1 1 [(s.toList, xk)] rfl rfl (HO.out.alloc _) (YRow.one ⟨s, xk, z⟩ rfl rfl) (by simp; omega) (by omega) ?_
             intro v3 w3 ho hb
             have HO3 := Lib.hid ho
             have HB3 := Lib.hid (HBr.out.trans (((up1 wr _).mono hzr).trans hb))
             clear ho hb)
          | fail)
        go_roundw
        case rel => exact ⟨j + 1, _, by omega, by go_num, rfl, Lib.hid (by rw [HAT.out]; exact HO3.out), HB3⟩
        case measure => simp [intOf]; omega
      · rw [hh] at hat
        have HAT := Lib.hid (hat.trans (List.append_nil _))
        have CH := Lib.hid (fun (W : World) (hb : Below w2.heap.size w2 W) => show Calls Try.prog 15 #[.slice va vn vc, .string s] W fun e w' => e = .returned (.bool true) ∧ W = w' from by
          have := has_any va vn vc V s W _ (HVS.out.below hb)
          rw [hh] at this
          exact this)
        clear hat hh hx q0 q1 q2 hs hxk hxe
        go_wp2_with (first
          | (go_at_call 15; (with_reducible refine (CH.out _ HBr.out).mono ?_); rintro e w3 ⟨rfl, rfl⟩)
          | fail)
        go_roundw
        case rel => exact ⟨j + 1, _, by omega, by go_num, rfl, Lib.hid (by rw [HAT.out]; exact HO.out), HBr⟩
        case measure => simp [intOf]; omega
    · have HO1 := Lib.hid (show YOwn wr w2.heap.size v (otherK V more) by
        have h := HO.out
        rw [List.take_of_length_le (by have := HN2.out; omega)] at h
        exact h)
      have hlo := otherK_len V more
      have hlm := HN2.out
      have hle := HN1.out
      obtain ⟨O, hO⟩ : ∃ O, otherK V more = O := ⟨_, rfl⟩
      rw [hO] at HO1 HMORE hlo
      have hol : O.length ≤ 40 := by omega
      clear hO hlo
      go_wp2_with (first
        | (at_builtin
           refine wpList_append_typs rfl (.tmp 59) (.tmp 60) rfl w2.heap.size v O ea en ec env rfl rfl HO1.out (YRow.of_typs (HE2.out.below HBr.out)) hzr (by omega) ?_
           intro v3 w3 ho hb
           have HO3 := Lib.hid ho
           have HB3 := Lib.hid (HBr.out.trans hb)
           clear ho hb)
        | (at_builtin
           refine wpList_append_typs rfl (.tmp 61) (.tmp 62) rfl w2.heap.size v3 (O ++ env) ma mn mc more rfl rfl HO3.out (YRow.of_typs (HM2.out.below HB3.out)) HB3.out.size (by rw [List.length_append]; omega) ?_
           intro v4 w4 ho hb
           have hsees := ho.sees (by rw [List.length_append, List.length_append]; omega)
           obtain ⟨al, hal⟩ : ∃ al, (O ++ env ++ more).length = al := ⟨_, rfl⟩
           rw [hal] at hsees
           obtain ⟨aa, ac, hua, hab⟩ := hsees
           subst hua
           have HA := Lib.hid hab
           have HB4 := Lib.hid (HB3.out.trans hb)
           clear ho hb hab hal)
        | fail)
      have HE4 := Lib.hid (HE2.out.below HB4.out)
      have HV4 := Lib.hid (HVS.out.below HB4.out)
      have HVN := Lib.hid HVS.out.1
      have hzz := HB4.out.size
      go_loopw [12, 13] (fun kn i wr => ∃ (j : Nat) (kb : Bool), j ≤ vn ∧ i = .int .i64 j ∧ kn = .bool kb ∧ Hid (kb = (V.take j).all (inK env)) ∧ Hid (Below w4.heap.size w4 wr)) (fun _ i _ => vn - (intOf i).toNat)
      case atStart => exact ⟨0, true, Nat.zero_le _, rfl, rfl, Lib.hid (by rw [List.take_zero]; rfl), Lib.hid (Below.refl _ _)⟩
      case round =>
        obtain ⟨j2, kb, hj2, rfl, rfl, HKB, HBq⟩ := hrel
        by_cases hlt2 : j2 < vn
        · obtain ⟨vb, voff, x, rfl, hvb, hvx, hvc⟩ := Strs.part _ HV4.out hlt2
          have HAL := Lib.hid (kAll_take (f := inK env) hvx)
          have HVC := Lib.hid hvc
          clear hvx hvc
          go_wp2
          go_loopw [14, 15] (fun on i wt => ∃ (k : Nat) (ob : Bool), k ≤ en ∧ i = .int .i64 k ∧ on = .bool ob ∧ Hid (ob = inK (env.take k) x.toList) ∧ Hid (Below w4.heap.size w4 wt)) (fun _ i _ => en - (intOf i).toNat)
          case atStart => exact ⟨0, false, Nat.zero_le _, rfl, rfl, Lib.hid (by rw [List.take_zero]; rfl), HBq⟩
          case round =>
            obtain ⟨k, ob, hk, rfl, rfl, HOB, HBt⟩ := hrel
            by_cases hlt3 : k < en
            · obtain ⟨b, off, y, s, z, rfl, hbb, hy, ⟨q0, q1, q2⟩, hs⟩ := HE4.out.at_ hlt3
              have r0 := (HBt.out.cell (p := ⟨b, off + k * 3, none⟩) (by show b < _; omega)).trans q0
              have v0 := (HBt.out.cell (p := ⟨vb, voff + j2, none⟩) (by show vb < _; omega)).trans HVC.out
              have hin := inK_at hy x.toList
              rw [← hs, ← HOB.out] at hin
              clear q0 q1 q2 hy hs
              cases ob
              · cases hq : (s.toList == x.toList)
                · rw [hq] at hin
                  have HIN := Lib.hid hin
                  have HQ := Lib.hid hq
                  clear hin hq
                  go_wp2
                  go_quiet (fail)
                  go_wp2
                  go_roundw
                  case rel => exact ⟨k + 1, false, by omega, by go_num, by rw [HQ.out], Lib.hid HIN.out.symm, Lib.hid (below_drewN HBt.out nq)⟩
                  case measure => simp [intOf]; omega
                · rw [hq] at hin
                  have HIN := Lib.hid hin
                  have HQ := Lib.hid hq
                  clear hin hq
                  go_wp2
                  go_quiet (fail)
                  go_wp2
                  go_roundw
                  case rel => exact ⟨k + 1, true, by omega, by go_num, by rw [HQ.out], Lib.hid HIN.out.symm, Lib.hid (below_drewN HBt.out nq)⟩
                  case measure => simp [intOf]; omega
              · have HIN := Lib.hid hin
                clear hin
                go_wp2
                go_quiet (fail)
                go_wp2
                go_roundw
                case rel => exact ⟨k + 1, true, by omega, by go_num, rfl, Lib.hid HIN.out.symm, Lib.hid (below_drewN HBt.out nq)⟩
                case measure => simp [intOf]; omega
            · have HOB2 := Lib.hid (show ob = inK env x.toList by rw [HOB.out, List.take_of_length_le (by have := HN1.out; omega)])
              have HKN := Lib.hid (show (kb && ob) = (V.take (j2 + 1)).all (inK env) by rw [HAL.out, ← HKB.out, ← HOB2.out])
              cases kb
              · go_wp2
                go_roundw
                case rel => exact ⟨j2 + 1, false, by omega, by go_num, rfl, HKN, HBt⟩
                case measure => simp [intOf]; omega
              · go_wp2
                go_roundw
                case rel => exact ⟨j2 + 1, ob, by omega, by go_num, rfl, Lib.hid (by have h := HKN.out; rwa [Bool.true_and] at h), HBt⟩
                case measure => simp [intOf]; omega
        · have hkb : kb = V.all (inK env) := by rw [HKB.out, List.take_of_length_le (by have := HVN.out; omega)]
          have HB5 := Lib.hid (HB4.out.trans (HBq.out.mono hzz))
          have HL5 := Lib.hid (HL2.out.at0 HB5.out)
          have HE5 := Lib.hid (HE2.out.on HB5.out)
          have HA5 := Lib.hid (HA.out.on HBq.out)
          have HBW := Lib.hid (below_on HB.out HB5.out)
          cases kb
          · have HG := Lib.hid (HGONE.out hkb.symm)
            have g1 : (ke != 0) = true := by rw [bne_iff_ne]; exact HG.out.1
            have g2 : kk = 0 := HG.out.2
            subst g2
            clear hkb
            go_wp2_with (first
              | (go_at_call 9; (with_reducible refine (kOf_any a n c L root ea en ec env _ HL5.out HE5.out).mono ?_)
                 rintro e w5 ⟨he, hb5⟩
                 rw [HK.out] at he
                 subst he
                 have HBW := Lib.hid (below_on HBW.out hb5)
                 clear hb5)
              | fail)
            go_ret
            exact ⟨rfl, HBW.out⟩
          · have HMK := Lib.hid (HMORE.out hkb.symm)
            have e1 : (kk == kk) = true := beq_self_eq_true kk
            have e2 : (ke == ke) = true := beq_self_eq_true ke
            clear hkb
            go_wp2_with (first
              | (go_at_call 9; (with_reducible refine (kOf_any a n c L root ea en ec env _ HL5.out HE5.out).mono ?_)
                 rintro e w5 ⟨he, hb5⟩
                 rw [HK.out] at he
                 subst he
                 have HBW := Lib.hid (below_on HBW.out hb5)
                 have HL6 := Lib.hid (HL5.out.at0 hb5)
                 have HA6 := Lib.hid (HA5.out.on hb5)
                 clear hb5)
              | (go_at_call 9; (with_reducible refine (kOf_any a n c L root aa al ac (O ++ env ++ more) _ HL6.out HA6.out).mono ?_)
                 rintro e w6 ⟨he, hb6⟩
                 rw [HMK.out] at he
                 subst he
                 have HBW := Lib.hid (below_on HBW.out hb6)
                 clear hb6)
              | fail)
            go_ret
            exact ⟨rfl, HBW.out⟩
end Go.Proofs.Ythbakfceaaaamaa

/- The statement KindNames holds for every argument, with no condition. -/
namespace Go.Proofs.Ythbakfceaaaamaa.kindNames
open Go Go.ChangeShapes Go.WideShapes Go.ChangeAt Go.RowKit
open Go.ChangeMaps (open_string shut_string)

set_option maxRecDepth 100000 in
theorem lifted (os : Os) (started : os.Started) (H : Type) (enc : TypeId × Value → H) :
    ReturnsInHanded {} Try.checked os 5 .any (Rows.kindNamesSpec.pre6 enc Try.prog Try.f5 Rows.kindNamesRow.domain false) (Rows.kindNamesSpec.post enc Try.prog Try.f5 false true false false) := by
  refine returnsInHanded_of_change (C := Try.checked) seatOwn started (by kernel_rfl) Try.func5
    (ChangeSpec.witness6 (enc := enc) (C := Try.checked) false ⟨#[], #[.slice none 0 0, .int .i64 0, .slice none 0 0, .slice none 0 0], []⟩ 8 (by kernel_rfl) (by kernel_rfl) (by kernel_rfl) (by kernel_rfl)) ?_
  intro W base args ds gs before hval0 hW hcnd _
  have hval : ∀ (j : Nat) t v, Try.f5.params[j]? = some t → args[j]? = some v → Value.okWide Try.prog W .any base t v := hval0
  have hW' := hW
  obtain ⟨p, q, hA0, hV, rfl, hfz, hnd⟩ := hW
  have hA : DataW.TrodAll enc Try.prog W 0 (fun _ => true) true Try.f5.params.toList args.toList ds p := hA0
  rw [Try.params5] at hA hval
  obtain ⟨v0, vs0, d0, ds0, p0, q0, hargs, rfl, rfl, h0, r0⟩ := trodAll_cons hA
  obtain ⟨v1, vs1, d1, ds1, p1, q1, rfl, rfl, rfl, h1, r1⟩ := trodAll_cons r0
  obtain ⟨v2, vs2, d2, ds2, p2, q2, rfl, rfl, rfl, h2, r2⟩ := trodAll_cons r1
  obtain ⟨v3, vs3, d3, ds3, p3, q3, rfl, rfl, rfl, h3, r3⟩ := trodAll_cons r2
  obtain ⟨rfl, rfl, rfl⟩ := trodAll_nil r3
  obtain rfl : args = #[v0, v1, v2, v3] := by cases args; simp_all
  obtain ⟨rfl, rfl⟩ := trodVars_none hV
  have k0 := h0
  have lt0 := args_below k0
  obtain ⟨fu0, hf0⟩ := h0
  obtain ⟨ia0, ilen0, icap0, rfl⟩ := okWide_slice Try.underlying22 (hval 0 22 v0 rfl rfl)
  obtain ⟨a0, n0, c0, l0, hv0, hn0, hc0⟩ := open_trms hf0
  injection hv0 with ea0 en0 ec0
  subst ea0 en0 ec0
  have k1 := h1
  have lt1 := args_below k1
  obtain ⟨a1, rfl, rfl, rfl, w1⟩ := open_int Try.underlying3 (hval 1 3 v1 rfl rfl) h1
  have k2 := h2
  have lt2 := args_below k2
  obtain ⟨fu2, hf2⟩ := h2
  obtain ⟨ia2, ilen2, icap2, rfl⟩ := okWide_slice Try.underlying23 (hval 2 23 v2 rfl rfl)
  obtain ⟨a2, n2, c2, l2, hv2, hn2, hc2⟩ := open_typs hf2
  injection hv2 with ea2 en2 ec2
  subst ea2 en2 ec2
  have k3 := h3
  have lt3 := args_below k3
  obtain ⟨fu3, hf3⟩ := h3
  obtain ⟨ia3, ilen3, icap3, rfl⟩ := okWide_slice Try.underlying23 (hval 3 23 v3 rfl rfl)
  obtain ⟨a3, n3, c3, l3, hv3, hn3, hc3⟩ := open_typs hf3
  injection hv3 with ea3 en3 ec3
  subst ea3 en3 ec3
  clear hA0 hval0
  refine (kindNames_walk ia0 ilen0 icap0 l0 a1 ia2 ilen2 icap2 l2 ia3 ilen3 icap3 l3 W hn0 hn2 hn3 ).mono fun e W' ⟨he, bel⟩ => ?_
  subst he
  exact ⟨_, rfl, _, _, _, [], _, [], hW', trodAll_mk1 (shut_bool Try.underlying4 _), (trodAll_cons_mk (Below.trod seatLaidOut (by kernel_rfl) (of_decide_eq_true (by kernel_rfl)) k0 bel lt0) (trodAll_cons_mk (Below.trod seatLaidOut (by kernel_rfl) (of_decide_eq_true (by kernel_rfl)) k1 bel lt1) (trodAll_cons_mk (Below.trod seatLaidOut (by kernel_rfl) (of_decide_eq_true (by kernel_rfl)) k2 bel lt2) (trodAll_cons_mk (Below.trod seatLaidOut (by kernel_rfl) (of_decide_eq_true (by kernel_rfl)) k3 bel lt3) trodAll_mk0)))), rfl, bel.frame _, fun h => by cases h⟩

theorem over : Rows.kindNamesRow.holds Try.pinned (OpenSpec.ofChange Rows.kindNamesSpec) :=
  OpenClaim.holds_of_wide 5 Try.f5 rfl rfl rfl rfl rfl rfl rfl ⟨rfl, rfl, rfl, rfl, rfl⟩ rfl rfl rfl rfl rfl (by kernel_rfl) Try.func5 (by kernel_rfl)
    (of_decide_eq_true (by kernel_rfl)) (by unfold Func.isWrapper; first | (rw [if_pos (by decide +kernel)]; kernel_rfl) | (rw [if_neg (by decide +kernel)]; exact ⟨rfl, rfl⟩))
    (fun os started H enc _ => lifted os started H enc)

theorem proved : Rows.KindNamesSaid :=
  over
#print axioms proved
end Go.Proofs.Ythbakfceaaaamaa.kindNames
