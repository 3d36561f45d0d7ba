/- The law TermOthers returns true, whatever its arguments. -/
import Derived.Test.YthchilnibblbgaaTmBind
import Derived.Test.YthchilnibblbgaaTmTrees
import Derived.Test.YthchilnibblbgaaTmSome
namespace Go.Proofs.Ythchilnibblbgaa
open Go.RowKit

/-- The binds of other names. -/
def otherB (V : List Str) (more : List (Str × Val)) : List (Str × Val) := more.filter fun b => !hasS V b.1
def badB (env : List (Str × Val)) : List (Str × Val) := env.map fun b => (b.1, (⟨77, 0, [], []⟩ : Val))
theorem take_at {α : Type} {l : List α} {k : Nat} {x : α} (h : l[k]? = some x) : l.take (k + 1) = l.take k ++ [x] := by
  obtain ⟨h1, e⟩ := List.getElem?_eq_some_iff.1 h
  rw [List.take_succ_eq_append_getElem h1, e]
theorem otherB_at {V : List Str} {more : List (Str × Val)} {k : Nat} {x : Str × Val} (h : more[k]? = some x) : otherB V (more.take (k + 1)) = otherB V (more.take k) ++ (if hasS V x.1 then [] else [x]) := by
  rw [take_at h]
  unfold otherB
  rw [List.filter_append]
  cases hh : hasS V x.1 <;> simp [hh]
theorem badB_at {env : List (Str × Val)} {k : Nat} {x : Str × Val} (h : env[k]? = some x) : badB (env.take (k + 1)) = badB (env.take k) ++ [(x.1, ⟨77, 0, [], []⟩)] := by
  rw [take_at h]
  unfold badB
  rw [List.map_append]
  rfl
theorem otherB_len (V : List Str) (more : List (Str × Val)) : (otherB V more).length ≤ more.length := List.length_filter_le _ _
theorem badB_len (env : List (Str × Val)) : (badB env).length = env.length := List.length_map _
theorem others_val (L : List Trm) (root : Int) (env more : List (Str × Val)) : evalF L root (otherB (varsF L root) more ++ env ++ badB env) = evalF L root env := by
  cases hm : mayF L root
  · rw [evalF_none hm, evalF_none hm]
  · obtain ⟨e, he⟩ := (mayF_iff L root).1 hm
    rw [evalF_good he, evalF_good he]
    refine evalE_same fun x hx => holdV_more fun b hb e2 => ?_
    have h1 := (List.mem_filter.1 hb).2
    have h2 : x ∈ varsF L root := (mem_vars he x).2 hx
    subst e2
    unfold hasS at h1
    rw [List.contains_iff_mem.2 h2] at h1
    cases h1

set_option maxHeartbeats 16000000 in
set_option maxRecDepth 20000 in
theorem termOthers_walk (a : Option Addr) (n c : Nat) (L : List Trm) (root : Int) (ea : Option Addr) (en ec : Nat) (env : List (Str × Val)) (ma : Option Addr) (mn mc : Nat) (more : List (Str × Val)) (w : World)
    (hT : n ≤ 1000 → Trms w w.heap.size a n L) (hE : BindsL w w.heap.size ea en env) (hM : BindsL w w.heap.size ma mn more) :
    Calls Try.prog 7 #[.slice a n c, .int .i64 root, .slice ea en ec, .slice ma mn mc] w fun e w' => e = .returned (.bool true) ∧ Below w.heap.size w w' := by
  by_cases hn : 200 < n
  · have d1 : decide ((200 : Int) < (n : Int)) = true := decide_eq_true (by omega)
    clear hT hE hM
    go_enter Try.func7, Try.ntmps7
    go_wp2_with (first | (go_at_call 13; (with_reducible refine (first_any _).mono ?_); rintro e w1 ⟨rfl, hb1⟩; have HB := Lib.hid hb1; clear hb1) | fail)
    go_ret
    exact ⟨rfl, HB.out⟩
  have d1 : decide ((200 : Int) < (n : Int)) = false := decide_eq_false (by omega)
  have hl := hT (by omega)
  have HL := Lib.hid hl
  have HE := Lib.hid hE
  have HM := Lib.hid hM
  clear hT hE hM
  cases hs1 : someE env
  · have HS1 := Lib.hid hs1
    clear hs1 hl
    go_enter Try.func7, Try.ntmps7
    go_wp2_with (first
      | (go_at_call 13; (with_reducible refine (first_any _).mono ?_); rintro e w1 ⟨rfl, hb1⟩; have HB := Lib.hid hb1; clear hb1)
      | (go_at_call 14; (with_reducible refine (some_any ea en ec env _ _ (HE.out.below HB.out)).mono ?_); rintro e w2 ⟨he, rfl⟩; rw [HS1.out] at he; subst he)
      | fail)
    go_ret
    exact ⟨rfl, HB.out⟩
  cases hs2 : someE more
  · have HS1 := Lib.hid hs1
    have HS2 := Lib.hid hs2
    clear hs1 hs2 hl
    go_enter Try.func7, Try.ntmps7
    go_wp2_with (first
      | (go_at_call 13; (with_reducible refine (first_any _).mono ?_); rintro e w1 ⟨rfl, hb1⟩; have HB := Lib.hid hb1; clear hb1)
      | (go_at_call 14; (with_reducible refine (some_any ea en ec env _ _ (HE.out.below HB.out)).mono ?_); rintro e w2 ⟨he, rfl⟩; rw [HS1.out] at he; subst he)
      | (go_at_call 14; (with_reducible refine (some_any ma mn mc more _ _ (HM.out.below HB.out)).mono ?_); rintro e w2 ⟨he, rfl⟩; rw [HS2.out] at he; subst he)
      | fail)
    go_ret
    exact ⟨rfl, HB.out⟩
  have HS1 := Lib.hid hs1
  have HS2 := Lib.hid hs2
  have len1 := HE.out.1
  have len2 := HM.out.1
  have hen : en ≤ 40 := by have := (someE_iff.1 hs1).1; omega
  have hmn : mn ≤ 40 := by have := (someE_iff.1 hs2).1; omega
  have HE0 := Lib.hid (HE.out.short (by omega))
  have HM0 := Lib.hid (HM.out.short (by omega))
  have HN1 := Lib.hid len1
  have HN2 := Lib.hid len2
  obtain ⟨V, hV⟩ : ∃ V, varsF L root = V := ⟨_, rfl⟩
  have hval := others_val L root env more
  rw [hV] at hval
  have HV := Lib.hid hV
  have HVAL := Lib.hid hval
  clear hs1 hs2 hl hV hval len1 len2
  go_enter Try.func7, Try.ntmps7
  go_wp2_with (first
    | (go_at_call 13; (with_reducible refine (first_any _).mono ?_); rintro e w1 ⟨rfl, hb1⟩; have HB := Lib.hid hb1; clear hb1)
    | (go_at_call 14; (with_reducible refine (some_any ea en ec env _ _ (HE.out.below HB.out)).mono ?_); rintro e w2 ⟨he, rfl⟩; rw [HS1.out] at he; subst he)
    | (go_at_call 14; (with_reducible refine (some_any ma mn mc more _ _ (HM.out.below HB.out)).mono ?_); rintro e w2 ⟨he, rfl⟩; rw [HS2.out] at he; subst he)
    | (go_at_call 25; (with_reducible refine (termVars_any a n c L root _ _ (Nat.le_refl _) (HL.out.on HB.out)).mono ?_)
       rintro e w2 ⟨⟨va, vn, vc, rfl, hs, _⟩, hb⟩
       rw [HV.out] at hs
       have HB := Lib.hid (below_on HB.out hb)
       have HVS := Lib.hid hs
       have HL2 := Lib.hid (HL.out.on HB.out)
       have HE2 := Lib.hid (HE0.out.on HB.out)
       have HM2 := Lib.hid (HM0.out.on HB.out)
       clear hs hb)
    | fail)
  go_loopw [10, 11] (fun s i wr => ∃ (j : Nat) (v : Value), j ≤ mn ∧ i = .int .i64 j ∧ v = s ∧ Hid (BOwn wr w2.heap.size w2.heap.size v (otherB V (more.take j))) ∧ Hid (Below w2.heap.size w2 wr)) (fun _ i _ => mn - (intOf i).toNat)
  case atStart => exact ⟨0, _, Nat.zero_le _, rfl, rfl, Lib.hid (by rw [List.take_zero]; exact BOwn.zero _ _ _), Lib.hid (Below.refl _ _)⟩
  case round =>
    obtain ⟨j, v, hj, rfl, hv, HO, HBr⟩ := hrel
    subst hv
    have hzr := HBr.out.size
    by_cases hlt : j < mn
    · obtain ⟨b, off, x, s, t, la, ln, lc, rfl, hbb, hx, ⟨q0, q1, q2, q3, q4⟩, hs, ht, hnums⟩ := HM2.out.at_ hlt
      have r0 := (HBr.out.cell (p := ⟨b, off + j * 5, none⟩) hbb).trans q0
      have r1 := (HBr.out.cell (p := ⟨b, off + j * 5 + 1, none⟩) hbb).trans q1
      have r2 := (HBr.out.cell (p := ⟨b, off + j * 5 + 2, none⟩) hbb).trans q2
      have r3 := (HBr.out.cell (p := ⟨b, off + j * 5 + 3, none⟩) hbb).trans q3
      have r4 := (HBr.out.cell (p := ⟨b, off + j * 5 + 4, none⟩) hbb).trans q4
      have hat := otherB_at (V := V) hx
      have HRD := Lib.hid (show BReads wr w2.heap.size ⟨s, x.2.kind, x.2.num, t, la, ln, lc⟩ x from ⟨hs, rfl, rfl, ht, hnums.below HBr.out⟩)
      cases hh : hasS V x.1
      · rw [hh] at hat
        have HAT := Lib.hid hat
        have CH := Lib.hid (fun (W : World) (hb : Below w2.heap.size w2 W) => show Calls Try.prog 28 #[.slice va vn vc, .string s] W fun e w' => e = .returned (.bool false) ∧ W = w' from by
          have := has_any va vn vc V s W _ (HVS.out.below hb)
          rw [hs, hh] at this
          exact this)
        have hlo := Nat.le_trans (otherB_len V (more.take j)) (List.length_take_le _ _)
        obtain ⟨xk, hxk⟩ : ∃ xk, xk = x.2.kind := ⟨_, rfl⟩
        obtain ⟨xn, hxn⟩ : ∃ xn, xn = x.2.num := ⟨_, rfl⟩
        rw [← hxk] at r1 HRD
        rw [← hxn] at r2 HRD
        clear hat hh hx q0 q1 q2 q3 q4 hs ht hnums hxk hxn
        go_wp2_with (first
          | (go_at_call 28; (with_reducible refine (CH.out _ HBr.out).mono ?_); rintro e w3 ⟨rfl, rfl⟩)
          | (at_builtin
             refine wpList_append_binds rfl (.tmp 49) (.tmp 54) rfl w2.heap.size w2.heap.size v (otherB V (more.take j)) _ 1 1 [x] rfl rfl (HO.out.alloc hzr _) (BRow.one ⟨s, xk, xn, t, la, ln, lc⟩ x rfl rfl hzr HRD.out) (by simp; omega) (Nat.le_refl _) (by omega) ?_
             intro v3 w3 ho hb
             have HO3 := Lib.hid ho
             have HB3 := Lib.hid (HBr.out.trans (((next_alloc wr _).mono hzr).trans hb))
             clear ho hb)
          | fail)
        go_roundw
        case rel => exact ⟨j + 1, _, by omega, by go_num, rfl, Lib.hid (by rw [HAT.out]; exact HO3.out), HB3⟩
        case measure => simp [intOf]; omega
      · rw [hh] at hat
        have HAT := Lib.hid (hat.trans (List.append_nil _))
        have CH := Lib.hid (fun (W : World) (hb : Below w2.heap.size w2 W) => show Calls Try.prog 28 #[.slice va vn vc, .string s] W fun e w' => e = .returned (.bool true) ∧ W = w' from by
          have := has_any va vn vc V s W _ (HVS.out.below hb)
          rw [hs, hh] at this
          exact this)
        clear hat hh hx q0 q1 q2 q3 q4 hs ht hnums
        go_wp2_with (first
          | (go_at_call 28; (with_reducible refine (CH.out _ HBr.out).mono ?_); rintro e w3 ⟨rfl, rfl⟩)
          | fail)
        go_roundw
        case rel => exact ⟨j + 1, _, by omega, by go_num, rfl, Lib.hid (by rw [HAT.out]; exact HO.out), HBr⟩
        case measure => simp [intOf]; omega
    · have HO1 := Lib.hid (show BOwn wr w2.heap.size w2.heap.size v (otherB V more) by
        have h := HO.out
        rw [List.take_of_length_le (by have := HN2.out; omega)] at h
        exact h)
      have hlo := otherB_len V more
      have hlm := HN2.out
      have hle := HN1.out
      have HRE := Lib.hid (BRow.of_binds (HE2.out.below HBr.out))
      obtain ⟨O, hO⟩ : ∃ O, otherB V more = O := ⟨_, rfl⟩
      rw [hO] at HO1 HVAL hlo
      have hol : O.length ≤ 40 := by omega
      clear hO hlo hlm
      go_wp2_with (first
        | (at_builtin
           refine wpList_append_binds rfl (.tmp 56) (.tmp 57) rfl w2.heap.size w2.heap.size v O ea en ec env rfl rfl HO1.out HRE.out hzr (Nat.le_refl _) (by omega) ?_
           intro v3 w3 ho hb
           have HO3 := Lib.hid ho
           have HB3 := Lib.hid (HBr.out.trans hb)
           clear ho hb)
        | fail)
      clear hle
      go_loopw [10, 12] (fun s i wx => ∃ (j : Nat) (u : Value), j ≤ en ∧ i = .int .i64 j ∧ u = s ∧ Hid (BOwn wx w2.heap.size w2.heap.size u (O ++ env ++ badB (env.take j))) ∧ Hid (Below w2.heap.size w2 wx)) (fun _ i _ => en - (intOf i).toNat)
      case atStart => exact ⟨0, _, Nat.zero_le _, rfl, rfl, Lib.hid (by rw [List.take_zero]; show BOwn _ _ _ _ (O ++ env ++ []); rw [List.append_nil]; exact HO3.out), HB3⟩
      case round =>
        obtain ⟨j2, u, hj2, rfl, hu, HOq, HBq⟩ := hrel
        subst hu
        have hzq := HBq.out.size
        by_cases hlt2 : j2 < en
        · obtain ⟨b, off, x, s, t, la, ln, lc, rfl, hbb, hx, ⟨q0, q1, q2, q3, q4⟩, hs, ht, hnums⟩ := HE2.out.at_ hlt2
          have r0 := (HBq.out.cell (p := ⟨b, off + j2 * 5, none⟩) hbb).trans q0
          have HAT := Lib.hid (badB_at hx)
          have HRD := Lib.hid (show BReads wr w2.heap.size ⟨s, 77, 0, ⟨#[]⟩, none, 0, 0⟩ (x.1, ⟨77, 0, [], []⟩) from ⟨hs, rfl, rfl, empty_toList, Nums.zero _ _ _⟩)
          have hbl : (O ++ env ++ badB (env.take j2)).length ≤ 200 := by
            have := HN1.out
            rw [List.length_append, List.length_append, badB_len, List.length_take]
            omega
          clear hx q0 q1 q2 q3 q4 hs ht hnums
          go_wp2_with (first
            | (at_builtin
               refine wpList_append_binds rfl (.tmp 65) (.tmp 73) rfl w2.heap.size w2.heap.size u (O ++ env ++ badB (env.take j2)) _ 1 1 [(x.1, ⟨77, 0, [], []⟩)] rfl rfl (HOq.out.alloc hzq _) (BRow.one ⟨s, 77, 0, ⟨#[]⟩, none, 0, 0⟩ _ rfl rfl hzq HRD.out) (by simp; omega) (Nat.le_refl _) (by omega) ?_
               intro v4 w4 ho hb
               have HO4 := Lib.hid ho
               have HB4 := Lib.hid (HBq.out.trans (((next_alloc wr _).mono hzq).trans hb))
               clear ho hb)
            | fail)
          go_roundw
          case rel => exact ⟨j2 + 1, _, by omega, by go_num, rfl, Lib.hid (by rw [HAT.out, ← List.append_assoc]; exact HO4.out), HB4⟩
          case measure => simp [intOf]; omega
        · have hsees := (show BOwn wr w2.heap.size w2.heap.size u (O ++ env ++ badB env) by
            have h := HOq.out
            rw [List.take_of_length_le (by have := HN1.out; omega)] at h
            exact h).sees (by have := HN1.out; rw [List.length_append, List.length_append, badB_len]; omega) hzq
          obtain ⟨aa, ac, hua, hab⟩ := hsees
          obtain ⟨al, hal⟩ : ∃ al, (O ++ env ++ badB env).length = al := ⟨_, rfl⟩
          rw [hal] at hua hab
          subst hua
          have HA := Lib.hid hab
          have HL3 := Lib.hid (HL2.out.on HBq.out)
          have HE3 := Lib.hid (HE2.out.on HBq.out)
          obtain ⟨R, hR⟩ : ∃ R, evalF L root env = R := ⟨_, rfl⟩
          rw [hR] at HVAL
          have HER := Lib.hid hR
          clear hR hab hal
          obtain ⟨⟨vk, vn2, vt, vl⟩, er⟩ := R
          have HSV := Lib.hid (sameV_self ⟨vk, vn2, vt, vl⟩)
          have HBX := Lib.hid (Below.refl wr.heap.size wr)
          have HBW := Lib.hid (HB.out.trans (HBq.out.mono HB.out.size))
          go_wp2_with (first
            | (go_at_call 17; (with_reducible refine (termEval_any a n c L root ea en ec env _ _ (Nat.le_refl _) (HL3.out.on HBX.out) (HE3.out.on HBX.out)).mono ?_)
               rintro e wv ⟨⟨s1, a1, n1, c1, he, hv, hf⟩, hb⟩
               rw [HER.out] at he hv
               subst he
               have HBX := Lib.hid (below_on (below_on HBX.out hb) (next_alloc wv (.cells #[.int .i64 vk, .int .i64 vn2, .string s1, .slice a1 n1 c1] 33)))
               have HN1 := Lib.hid (hv.2.on (next_alloc wv (.cells #[.int .i64 vk, .int .i64 vn2, .string s1, .slice a1 n1 c1] 33)))
               have HS1 := Lib.hid hv.1
               have HX1 := Lib.hid (BoxV.new wv (.int .i64 vk) (.int .i64 vn2) (.string s1) (.slice a1 n1 c1))
               clear hv hf hb)
            | (go_at_call 17; (with_reducible refine (termEval_any a n c L root aa al ac (O ++ env ++ badB env) _ _ (Nat.le_refl _) (HL3.out.on HBX.out) (HA.out.on HBX.out)).mono ?_)
               rintro e wu ⟨⟨s2, a2, n2, c2, he, hv, hf⟩, hb⟩
               rw [HVAL.out] at he hv
               subst he
               have HBX := Lib.hid (below_on (below_on HBX.out hb) (next_alloc wu (.cells #[.int .i64 vk, .int .i64 vn2, .string s2, .slice a2 n2 c2] 33)))
               have HN1 := Lib.hid ((HN1.out.on hb).on (next_alloc wu (.cells #[.int .i64 vk, .int .i64 vn2, .string s2, .slice a2 n2 c2] 33)))
               have HX1 := Lib.hid ((HX1.out.on hb).on (next_alloc wu (.cells #[.int .i64 vk, .int .i64 vn2, .string s2, .slice a2 n2 c2] 33)))
               have HN2 := Lib.hid (hv.2.on (next_alloc wu (.cells #[.int .i64 vk, .int .i64 vn2, .string s2, .slice a2 n2 c2] 33)))
               have HS2 := Lib.hid hv.1
               have HX2 := Lib.hid (BoxV.new wu (.int .i64 vk) (.int .i64 vn2) (.string s2) (.slice a2 n2 c2))
               obtain ⟨⟨x0, x1, x2, x3⟩, _⟩ := HX1.out.cells
               obtain ⟨⟨y0, y1, y2, y3⟩, _⟩ := HX2.out.cells
               clear hv hf hb)
            | (go_at_call 18; (with_reducible refine (dataSame_any vk vn2 s1 a1 n1 c1 vl vk vn2 s2 a2 n2 c2 vl _ _ (Nat.le_refl _) HN1.out HN2.out).mono ?_)
               rintro e w6 ⟨he, hb⟩
               rw [HS1.out, HS2.out, HSV.out] at he
               subst he
               have HBX := Lib.hid (below_on HBX.out hb)
               clear hb)
            | fail)
          go_ret
          exact ⟨rfl, below_on HBW.out HBX.out⟩
end Go.Proofs.Ythchilnibblbgaa
