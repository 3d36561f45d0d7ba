/- Contract of the reference's Sorted. -/
import Derived.Test.YtiofpeckcfdilaaGreatDoorTuOwn
import Derived.Laws.Cover1
import Derived.Sort.Walk0
namespace Go.Proofs.YtiofpeckcfdilaaGreatDoor
open Go.RowKit Go.Sort

theorem sortA_step {l : List ArmL} {j : Nat} {x : ArmL} (h : l[j]? = some x) : sortA (l.take (j + 1)) = insA x (sortA (l.take j)) := by
  rw [tuTake_at h]
  unfold sortA
  rw [List.foldl_append]
  rfl
theorem insA_at {x : ArmL} : ∀ {o : List ArmL} {k : Nat}, k ≤ o.length → (∀ y ∈ o.take k, ¬ x.label < y.label) → (∀ y ∈ o.drop k, x.label < y.label) → insA x o = o.take k ++ [x] ++ o.drop k
  | [], k, _, _, _ => by simp [insA]
  | b :: r, 0, _, _, hhi => by
    rw [insA, if_pos (hhi b (by simp))]
    rfl
  | b :: r, k + 1, hk, hlo, hhi => by
    rw [insA, if_neg (hlo b (by simp))]
    rw [insA_at (o := r) (k := k) (by simpa using hk) (fun y hy => hlo y (by simp [hy])) (fun y hy => hhi y (by simpa using hy))]
    simp
theorem low_of {x y : ArmL} {o : List ArmL} {k : Nat} (hu : UpA o) (hy : o[k]? = some y) (hn : ¬ x.label < y.label) : ∀ z ∈ o.take (k + 1), ¬ x.label < z.label := by
  intro z hz hlt
  rw [tuTake_at hy, List.mem_append, List.mem_singleton] at hz
  rcases hz with hz | rfl
  · obtain ⟨i, hi, rfl⟩ := List.mem_iff_getElem.1 hz
    rw [List.length_take] at hi
    obtain ⟨hk, e⟩ := List.getElem?_eq_some_iff.1 hy
    have := List.pairwise_iff_getElem.1 hu i k (by omega) hk (by omega)
    rw [e] at this
    rw [List.getElem_take] at hlt
    exact hn (List.not_le.1 fun hc => absurd hlt (List.not_lt.2 (List.le_trans this hc)))
  · exact hn hlt
theorem high_step {x y : ArmL} {o : List ArmL} {k : Nat} (hy : o[k]? = some y) (hlt : x.label < y.label) (h : ∀ z ∈ o.drop (k + 1), x.label < z.label) : ∀ z ∈ o.drop k, x.label < z.label := by
  intro z hz
  obtain ⟨hk, e⟩ := List.getElem?_eq_some_iff.1 hy
  rw [List.drop_eq_getElem_cons hk, e, List.mem_cons] at hz
  rcases hz with rfl | hz
  · exact hlt
  · exact h z hz
theorem greater_yes {y s : Str} (h : (!Op.bytesLess y s && !y == s) = true) : s < y := by
  rw [Bool.and_eq_true, bytesLess_eq] at h
  simp only [Bool.not_eq_true', decide_eq_false_iff_not, beq_eq_false_iff_ne] at h
  exact List.not_le.1 fun hc => h.2 (List.le_antisymm hc (List.not_lt.1 h.1))
theorem greater_no {y s : Str} (h : (!Op.bytesLess y s && !y == s) = false) : ¬ s < y := by
  intro hlt
  rw [Bool.and_eq_false_iff, bytesLess_eq] at h
  simp only [Bool.not_eq_false', decide_eq_true_eq, beq_iff_eq] at h
  rcases h with h | h
  · exact List.lt_irrefl _ (List.lt_trans hlt h)
  · subst h; exact List.lt_irrefl _ hlt
theorem sortA_len (l : List ArmL) : (sortA l).length = l.length := (sortA_perm l).length_eq

set_option maxHeartbeats 16000000 in
set_option maxRecDepth 20000 in
theorem tuSorted_any (a : Option Addr) (n c : Nat) (l : List ArmL) (w : World) (bound : Nat) (hb : bound ≤ w.heap.size) (h : Arms w bound a n l) (hn : n ≤ 1000) :
    Calls Tryz.prog 104 #[.slice a n c] w fun e w' => (∃ v, e = .returned v ∧ AOwn w' w.heap.size v (sortA l)) ∧ Below w.heap.size w w' := by
  have HLEN := Lib.hid h.1
  have HN := Lib.hid h
  clear h
  go_enter Tryz.func104, Tryz.ntmps104
  go_wp2
  go_loopw [3, 4] (fun s i wr => ∃ (j : Nat) (v : Value), j ≤ n ∧ i = .int .i64 j ∧ v = s ∧ Hid (j = 0 → v = .slice none 0 0) ∧ Hid (AOwn wr w.heap.size v (sortA (l.take j))) ∧ Hid (Below w.heap.size w wr)) (fun _ i _ => n - (intOf i).toNat)
  case atStart => exact ⟨0, _, Nat.zero_le _, rfl, rfl, Lib.hid (fun _ => rfl), Lib.hid (by rw [List.take_zero]; exact AOwn.zero _ _), Lib.hid (Below.refl _ _)⟩
  case round =>
    obtain ⟨j, v, hj, rfl, hv, HV, HO, HBr⟩ := hrel
    subst hv
    obtain ⟨wo, hwo⟩ : ∃ wo : World, wo = wr := ⟨_, rfl⟩
    subst hwo
    have hzr := HBr.out.size
    by_cases hlt : j < n
    · obtain ⟨b, off, s, u, ck, nx, rfl, hbb, hx, ⟨q0, q1, q2, q3⟩, hs, hu⟩ := HN.out.at_ hlt
      have HSU := Lib.hid (And.intro hs hu)
      have hst := sortA_step hx
      have hup := sortA_up (l.take j)
      have hol : (sortA (l.take j)).length = j := by rw [sortA_len, List.length_take, HLEN.out]; omega
      obtain ⟨o, ho⟩ : ∃ o, sortA (l.take j) = o := ⟨_, rfl⟩
      rw [ho] at hst hup hol HO
      have HST := Lib.hid hst
      have HUP := Lib.hid hup
      have HOL := Lib.hid hol
      have hbw : b < w.heap.size := by omega
      have hbr : b < wo.heap.size := by omega
      have HR := Lib.hid (And.intro ((HBr.out.cell (p := ⟨b, off + j * 4, none⟩) hbw).trans q0) (And.intro ((HBr.out.cell (p := ⟨b, off + j * 4 + 1, none⟩) hbw).trans q1) (And.intro ((HBr.out.cell (p := ⟨b, off + j * 4 + 2, none⟩) hbw).trans q2) ((HBr.out.cell (p := ⟨b, off + j * 4 + 3, none⟩) hbw).trans q3))))
      clear q0 q1 q2 q3 hs hu hx hst hup ho
      by_cases hj0 : j = 0
      · subst hj0
        have hv0 := HV.out rfl
        subst hv0
        have ho0 : o = [] := List.eq_nil_of_length_eq_zero hol
        subst ho0
        clear hol
        have HZ := Lib.hid (show sortA (l.take (0 + 1)) = [] ++ [] ++ [⟨s.toList, ck, u.toList, nx⟩] ++ [] from HST.out)
        go_wp2
        go_loopw [5] (fun v wr => v = .int .i64 0 ∧ Hid (Below wo.heap.size wo wr)) (fun v _ => (intOf v).toNat)
        case atStart => exact ⟨rfl, Lib.hid (Below.refl _ _)⟩
        case round =>
          obtain ⟨rfl, HBt⟩ := hrel
          go_wp2
          go_quiet (fail)
          have HBq := Lib.hid (below_drewN HBt.out nq)
          have t0 := (HBq.out.cell (p := ⟨b, off + 0 * 4, none⟩) hbr).trans HR.out.1
          have t1 := (HBq.out.cell (p := ⟨b, off + 0 * 4 + 1, none⟩) hbr).trans HR.out.2.1
          have t2 := (HBq.out.cell (p := ⟨b, off + 0 * 4 + 2, none⟩) hbr).trans HR.out.2.2.1
          have t3 := (HBq.out.cell (p := ⟨b, off + 0 * 4 + 3, none⟩) hbr).trans HR.out.2.2.2
          rw [Nat.zero_mul, Nat.add_zero] at t0 t1 t2 t3
          go_wp2_with (first
            | (at_builtin
               refine wpList_append_arms rfl (.tmp 37) (.tmp 42) rfl wo.heap.size (.slice none 0 0) [] _ 1 1 [armR ⟨s, ck, u, nx⟩] rfl rfl (AOwn.zero _ _) (ARow.one ⟨s, ck, u, nx⟩ rfl rfl HSU.out) (by have := HBq.out.size; simp at this ⊢; omega) (by simp) ?_
               intro v2 w2 ho2 hb2
               have HO2 := Lib.hid (show AOwn w2 wo.heap.size v2 ([] ++ [] ++ [armR ⟨s, ck, u, nx⟩]) from ho2)
               have HB2 := Lib.hid (HBq.out.trans (((tu1 (wr.drewN nq) _).mono HBq.out.size).trans hb2))
               clear ho2 hb2)
            | (at_builtin
               refine wpList_append_arms rfl (.tmp 44) (.tmp 47) rfl wo.heap.size v2 ([] ++ [] ++ [armR ⟨s, ck, u, nx⟩]) none 0 _ [] rfl rfl HO2.out (ARow.of_arms (Arms.zero _ 0 none)) HB2.out.size (by simp <;> omega) ?_
               intro v3 w3 ho3 hb3
               have HO3 := Lib.hid ho3
               have HB3 := Lib.hid (HBr.out.trans ((HB2.out.trans hb3).mono hzr))
               clear ho3 hb3)
            | fail)
          go_roundw
          case rel => exact ⟨0 + 1, v3, by omega, by go_num, rfl, Lib.hid (fun h => absurd h (by omega)), Lib.hid (by rw [HZ.out]; exact HO3.out.low hzr), HB3⟩
          case measure => simp [intOf] <;> omega
      · have hsees := HO.out.sees (by omega)
        rw [hol] at hsees
        obtain ⟨oa, oc, hva, hoa, hjc, hcm⟩ := hsees
        subst hva
        obtain ⟨ob, oo, rfl, hob, _⟩ := hoa.2.2 (by omega)
        have HOA := Lib.hid hoa
        have hcm2 : oc ≤ 9223372036854775807 := by unfold maxLen at hcm; omega
        clear hoa hcm hol
        go_wp2
        go_loopw [5] (fun v wr => ∃ k : Nat, k ≤ j ∧ v = .int .i64 k ∧ Hid (∀ y ∈ o.drop k, s.toList < y.label) ∧ Hid (Below wo.heap.size wo wr)) (fun v _ => (intOf v).toNat)
        case atStart => exact ⟨j, Nat.le_refl _, by go_num, Lib.hid (by intro y hy; rw [List.drop_of_length_le (by rw [HOL.out]; omega)] at hy; cases hy), Lib.hid (Below.refl _ _)⟩
        case round =>
          obtain ⟨k, hk, rfl, HHI, HBt⟩ := hrel
          have t0 := (HBt.out.cell (p := ⟨b, off + j * 4, none⟩) hbr).trans HR.out.1
          have hkc : (k : Int) ≤ (oc : Int) := by omega
          by_cases hk0 : k = 0
          · subst hk0
            have HZ := Lib.hid (show sortA (l.take (j + 1)) = [] ++ o.take 0 ++ [⟨s.toList, ck, u.toList, nx⟩] ++ o.drop 0 from by
              rw [HST.out, insA_at (k := 0) (Nat.zero_le _) (by simp) HHI.out]; rfl)
            have hc0 : oc ≠ 0 := by omega
            go_wp2
            go_quiet (fail)
            have HBq := Lib.hid (below_drewN HBt.out nq)
            have t0 := (HBq.out.cell (p := ⟨b, off + j * 4, none⟩) hbr).trans HR.out.1
            have t1 := (HBq.out.cell (p := ⟨b, off + j * 4 + 1, none⟩) hbr).trans HR.out.2.1
            have t2 := (HBq.out.cell (p := ⟨b, off + j * 4 + 2, none⟩) hbr).trans HR.out.2.2.1
            have t3 := (HBq.out.cell (p := ⟨b, off + j * 4 + 3, none⟩) hbr).trans HR.out.2.2.2
            go_wp2_with (first
              | (at_builtin
                 refine wpList_append_arms rfl (.tmp 37) (.tmp 42) rfl wo.heap.size (.slice none 0 0) [] _ 1 1 [armR ⟨s, ck, u, nx⟩] rfl rfl (AOwn.zero _ _) (ARow.one ⟨s, ck, u, nx⟩ rfl rfl HSU.out) (by have := HBq.out.size; simp at this ⊢; omega) (by simp) ?_
                 intro v2 w2 ho2 hb2
                 have HO2 := Lib.hid (show AOwn w2 wo.heap.size v2 ([] ++ (o.take (0)) ++ [armR ⟨s, ck, u, nx⟩]) from ho2)
                 have HB2 := Lib.hid (HBq.out.trans (((tu1 (wr.drewN nq) _).mono HBq.out.size).trans hb2))
                 clear ho2 hb2)
              | (at_builtin
                 refine wpList_append_arms rfl (.tmp 44) (.tmp 47) rfl wo.heap.size v2 ([] ++ (o.take (0)) ++ [armR ⟨s, ck, u, nx⟩]) (some ⟨ob, oo, none⟩) j _ (o.drop (0)) rfl rfl HO2.out (ARow.of_arms (HOA.out.below HB2.out)) HB2.out.size (by simp <;> omega) ?_
                 intro v3 w3 ho3 hb3
                 have HO3 := Lib.hid ho3
                 have HB3 := Lib.hid (HBr.out.trans ((HB2.out.trans hb3).mono hzr))
                 clear ho3 hb3)
              | fail)
            go_roundw
            case rel => exact ⟨j + 1, v3, by omega, by go_num, rfl, Lib.hid (fun h => absurd h (by omega)), Lib.hid (by rw [HZ.out]; exact HO3.out.low hzr), HB3⟩
            case measure => simp [intOf] <;> omega
          · obtain ⟨k', rfl⟩ : ∃ k', k = k' + 1 := ⟨k - 1, by omega⟩
            obtain ⟨ob2, oo2, ys, yu, yk, yx, e2, _, hy, ⟨y0, _, _, _⟩, _, _⟩ := HOA.out.at_ (show k' < j by omega)
            injection e2 with e2
            injection e2 with e3 e4 _
            subst e3 e4
            have y1 := (HBt.out.cell (p := ⟨ob, oo + k' * 4, none⟩) hob).trans y0
            have HY := Lib.hid hy
            have g0 : decide ((0 : Int) < ((k' + 1 : Nat) : Int)) = true := decide_eq_true (by omega)
            have g1 : (((k' + 1 : Nat) : Int) - 1) = (k' : Int) := by omega
            clear y0 hy
            cases hls : (!Op.bytesLess ys.toList s.toList && !ys.toList == s.toList)
            · have HLO := Lib.hid (show ∀ z ∈ o.take (k' + 1), ¬ s.toList < z.label from low_of (x := ⟨s.toList, ck, u.toList, nx⟩) HUP.out HY.out (greater_no hls))
              have HZ := Lib.hid (show sortA (l.take (j + 1)) = [] ++ o.take (k' + 1) ++ [⟨s.toList, ck, u.toList, nx⟩] ++ o.drop (k' + 1) from by
                rw [HST.out, insA_at (k := k' + 1) (by rw [HOL.out]; omega) HLO.out HHI.out]; rfl)
              by_cases hck : oc = k' + 1
              · go_wp2
                go_quiet (fail)
                have HBq := Lib.hid (below_drewN HBt.out nq)
                go_wp2_with (first
                  | (at_builtin
                     refine wpList_append_arms rfl (.const (.slice none 0 0)) (.tmp 35) rfl wo.heap.size (.slice none 0 0) [] (some ⟨ob, oo, none⟩) (k' + 1) _ (o.take (k' + 1)) rfl rfl (AOwn.zero _ _) (ARow.of_arms ((HOA.out.below HBq.out).cut (by omega))) HBq.out.size (by simp <;> omega) ?_
                     intro v1 w1 ho1 hb1
                     have HO1 := Lib.hid ho1
                     have HB1 := Lib.hid (HBq.out.trans hb1)
                     have t0 := (HB1.out.cell (p := ⟨b, off + j * 4, none⟩) hbr).trans HR.out.1
                     have t1 := (HB1.out.cell (p := ⟨b, off + j * 4 + 1, none⟩) hbr).trans HR.out.2.1
                     have t2 := (HB1.out.cell (p := ⟨b, off + j * 4 + 2, none⟩) hbr).trans HR.out.2.2.1
                     have t3 := (HB1.out.cell (p := ⟨b, off + j * 4 + 3, none⟩) hbr).trans HR.out.2.2.2
                     clear ho1 hb1)
                  | (at_builtin
                     refine wpList_append_arms rfl (.tmp 37) (.tmp 42) rfl wo.heap.size v1 ([] ++ (o.take (k' + 1))) _ 1 1 [armR ⟨s, ck, u, nx⟩] rfl rfl (HO1.out.alloc _) (ARow.one ⟨s, ck, u, nx⟩ rfl rfl HSU.out) (by have := HB1.out.size; simp; omega) (by simp <;> omega) ?_
                     intro v2 w2 ho2 hb2
                     have HO2 := Lib.hid ho2
                     have HB2 := Lib.hid (HB1.out.trans (((tu1 w1 _).mono HB1.out.size).trans hb2))
                     clear ho2 hb2)
                  | (at_builtin
                     refine wpList_append_arms rfl (.tmp 44) (.tmp 47) rfl wo.heap.size v2 ([] ++ (o.take (k' + 1)) ++ [armR ⟨s, ck, u, nx⟩]) _ (j - (k' + 1)) _ (o.drop (k' + 1)) rfl rfl HO2.out (ARow.of_arms (by rw [List.drop_of_length_le (by rw [HOL.out]; omega), show j - (k' + 1) = 0 by omega]; exact Arms.zero _ 0 _)) HB2.out.size (by simp <;> omega) ?_
                     intro v3 w3 ho3 hb3
                     have HO3 := Lib.hid ho3
                     have HB3 := Lib.hid (HBr.out.trans ((HB2.out.trans hb3).mono hzr))
                     clear ho3 hb3)
                  | fail)
                go_roundw
                case rel => exact ⟨j + 1, v3, by omega, by go_num, rfl, Lib.hid (fun h => absurd h (by omega)), Lib.hid (by rw [HZ.out]; exact HO3.out.low hzr), HB3⟩
                case measure => simp [intOf] <;> omega
              · go_wp2
                go_quiet (fail)
                have HBq := Lib.hid (below_drewN HBt.out nq)
                go_wp2_with (first
                  | (at_builtin
                     refine wpList_append_arms rfl (.const (.slice none 0 0)) (.tmp 35) rfl wo.heap.size (.slice none 0 0) [] (some ⟨ob, oo, none⟩) (k' + 1) _ (o.take (k' + 1)) rfl rfl (AOwn.zero _ _) (ARow.of_arms ((HOA.out.below HBq.out).cut (by omega))) HBq.out.size (by simp <;> omega) ?_
                     intro v1 w1 ho1 hb1
                     have HO1 := Lib.hid ho1
                     have HB1 := Lib.hid (HBq.out.trans hb1)
                     have t0 := (HB1.out.cell (p := ⟨b, off + j * 4, none⟩) hbr).trans HR.out.1
                     have t1 := (HB1.out.cell (p := ⟨b, off + j * 4 + 1, none⟩) hbr).trans HR.out.2.1
                     have t2 := (HB1.out.cell (p := ⟨b, off + j * 4 + 2, none⟩) hbr).trans HR.out.2.2.1
                     have t3 := (HB1.out.cell (p := ⟨b, off + j * 4 + 3, none⟩) hbr).trans HR.out.2.2.2
                     clear ho1 hb1)
                  | (at_builtin
                     refine wpList_append_arms rfl (.tmp 37) (.tmp 42) rfl wo.heap.size v1 ([] ++ (o.take (k' + 1))) _ 1 1 [armR ⟨s, ck, u, nx⟩] rfl rfl (HO1.out.alloc _) (ARow.one ⟨s, ck, u, nx⟩ rfl rfl HSU.out) (by have := HB1.out.size; simp; omega) (by simp <;> omega) ?_
                     intro v2 w2 ho2 hb2
                     have HO2 := Lib.hid ho2
                     have HB2 := Lib.hid (HB1.out.trans (((tu1 w1 _).mono HB1.out.size).trans hb2))
                     clear ho2 hb2)
                  | (at_builtin
                     refine wpList_append_arms rfl (.tmp 44) (.tmp 47) rfl wo.heap.size v2 ([] ++ (o.take (k' + 1)) ++ [armR ⟨s, ck, u, nx⟩]) _ (j - (k' + 1)) _ (o.drop (k' + 1)) rfl rfl HO2.out (ARow.of_arms ((HOA.out.below HB2.out).drop (k := k' + 1) (by omega))) HB2.out.size (by simp <;> omega) ?_
                     intro v3 w3 ho3 hb3
                     have HO3 := Lib.hid ho3
                     have HB3 := Lib.hid (HBr.out.trans ((HB2.out.trans hb3).mono hzr))
                     clear ho3 hb3)
                  | fail)
                go_roundw
                case rel => exact ⟨j + 1, v3, by omega, by go_num, rfl, Lib.hid (fun h => absurd h (by omega)), Lib.hid (by rw [HZ.out]; exact HO3.out.low hzr), HB3⟩
                case measure => simp [intOf] <;> omega
            · have HHI2 := Lib.hid (show ∀ y ∈ o.drop k', s.toList < y.label from high_step (x := ⟨s.toList, ck, u.toList, nx⟩) HY.out (greater_yes hls) HHI.out)
              go_wp2
              go_quiet (fail)
              go_wp2
              go_roundw
              case rel => exact ⟨k', by omega, by go_num, HHI2, Lib.hid (below_drewN HBt.out nq)⟩
              case measure => simp [intOf]
    · have HZ := Lib.hid (show sortA (l.take j) = sortA l by rw [List.take_of_length_le (by have := HLEN.out; omega)])
      go_wp2
      go_ret
      exact ⟨⟨v, rfl, by rw [← HZ.out]; exact HO.out⟩, HBr.out⟩
end Go.Proofs.YtiofpeckcfdilaaGreatDoor
