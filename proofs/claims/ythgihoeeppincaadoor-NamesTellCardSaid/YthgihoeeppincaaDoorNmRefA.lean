/- Contracts of the reference's NameMay, Place, Has and Once. -/
import Derived.Test.YthgihoeeppincaaDoorNmLawPut
namespace Go.Proofs.YthgihoeeppincaaDoor
open Go.RowKit Go.Sort

set_option maxHeartbeats 1000000 in
theorem refMay_any (s : ByteArray) (w : World) (hs : s.size ≤ maxLen) : Calls Tryd.prog 16 #[.string s] w fun e w' => e = .returned (.bool (may s.toList)) ∧ w = w' := by
  unfold maxLen at hs
  have hlen := Lib.hid (len_toList s)
  by_cases h0 : s.size < 1
  · have hm := Lib.hid (may_short (l := s.toList) (by rw [len_toList]; exact h0))
    have d1 : decide ((s.size : Int) < 1) = true := by simp; omega
    go_enter Tryd.func16, Tryd.ntmps16
    go_wp2
    go_ret
    exact ⟨ret_bool hm.out.symm, rfl⟩
  have d1 : decide ((s.size : Int) < 1) = false := by simp; omega
  by_cases hbig : 12 < s.size
  · have hm := Lib.hid (may_long (l := s.toList) (by rw [len_toList]; exact hbig))
    have d2 : decide (12 < (s.size : Int)) = true := by simp; omega
    go_enter Tryd.func16, Tryd.ntmps16
    go_wp2
    go_ret
    exact ⟨ret_bool hm.out.symm, rfl⟩
  have d2 : decide (12 < (s.size : Int)) = false := by simp; omega
  have hpos : 0 < s.size := by omega
  have hg0 := Lib.hid (get_toList s 0 hpos)
  cases hl : isLet (s[0].toNat : Int)
  · have hm := Lib.hid (may_first (l := s.toList) (by rw [hg0.out]; exact hl))
    go_enter Tryd.func16, Tryd.ntmps16
    go_wp2_with (go_at_call 32; refine (refLetter_any _ _).mono ?_; rintro e w' ⟨rfl, rfl⟩)
    go_ret
    exact ⟨ret_bool hm.out.symm, rfl⟩
  have hf := Lib.hid (show isLet ((s.toList.getD 0 0).toNat : Int) = true by rw [hg0.out]; exact hl)
  cases hkw : isKw s.toList
  · have ck : ∀ W, Calls Tryd.prog 14 #[.string s] W fun e w' => e = .returned (.bool false) ∧ W = w' := fun W => by
      have h := refKeyword_any s W
      rwa [hkw] at h
    have HK := Lib.hid hkw
    have CK := Lib.hid ck
    clear hkw ck
    go_enter Tryd.func16, Tryd.ntmps16
    go_wp2_with (first
      | (go_at_call 32; refine (refLetter_any _ _).mono ?_; rintro e w' ⟨rfl, rfl⟩)
      | (go_at_call 14; refine (CK.out _).mono ?_; rintro e w' ⟨rfl, rfl⟩))
    go_loop [3] (fun i => ∃ k : Nat, 1 ≤ k ∧ k ≤ s.size ∧ i = .int .i64 k ∧ Hid (∀ j, j < k → okB (s.toList.getD j 0) = true)) (fun i => s.size - (intOf i).toNat)
    case atStart => exact ⟨1, Nat.le_refl _, hpos, rfl, Lib.hid (fun j hj => by
      obtain rfl : j = 0 := by omega
      unfold okB
      rw [hf.out]; rfl)⟩
    case round =>
      obtain ⟨k, hk1, hk, rfl, hpre⟩ := hrel
      by_cases hlt : k < s.size
      · have hgk := Lib.hid (get_toList s k hlt)
        cases hb1 : isLet (s[k].toNat : Int)
        · cases hb2 : isDig (s[k].toNat : Int)
          · have hm := Lib.hid (may_bad (l := s.toList) (k := k) (by rw [hlen.out]; exact hlt) (by rw [hgk.out]; simp [okB, hb1, hb2]))
            go_wp2_with (first
              | (go_at_call 32; refine (refLetter_any _ _).mono ?_; rintro e w' ⟨rfl, rfl⟩)
              | (go_at_call 33; refine (refDigit_any _ _).mono ?_; rintro e w' ⟨rfl, rfl⟩))
            go_ret
            exact ⟨ret_bool hm.out.symm, rfl⟩
          · have hok := Lib.hid (show okB (s.toList.getD k 0) = true by rw [hgk.out]; simp [okB, hb2])
            go_wp2_with (first
              | (go_at_call 32; refine (refLetter_any _ _).mono ?_; rintro e w' ⟨rfl, rfl⟩)
              | (go_at_call 33; refine (refDigit_any _ _).mono ?_; rintro e w' ⟨rfl, rfl⟩))
            go_round
            case rel => exact ⟨k + 1, by omega, by omega, by go_num, Lib.hid (fun j hj => by
              rcases Nat.lt_or_ge j k with h | h
              · exact hpre.out j h
              · obtain rfl : j = k := by omega
                exact hok.out)⟩
            case measure => simp [intOf]; omega
        · have hok := Lib.hid (show okB (s.toList.getD k 0) = true by rw [hgk.out]; simp [okB, hb1])
          go_wp2_with (first
            | (go_at_call 32; refine (refLetter_any _ _).mono ?_; rintro e w' ⟨rfl, rfl⟩)
            | (go_at_call 33; refine (refDigit_any _ _).mono ?_; rintro e w' ⟨rfl, rfl⟩))
          go_round
          case rel => exact ⟨k + 1, by omega, by omega, by go_num, Lib.hid (fun j hj => by
            rcases Nat.lt_or_ge j k with h | h
            · exact hpre.out j h
            · obtain rfl : j = k := by omega
              exact hok.out)⟩
          case measure => simp [intOf]; omega
      · have hm := Lib.hid ((may_all (l := s.toList) (by rw [hlen.out]; omega) (by rw [hlen.out]; omega) hf.out (fun j hj => hpre.out j (by rw [hlen.out] at hj; omega))).trans (by rw [HK.out]))
        go_wp2
        go_ret
        exact ⟨ret_bool hm.out.symm, rfl⟩
  · have ck : ∀ W, Calls Tryd.prog 14 #[.string s] W fun e w' => e = .returned (.bool true) ∧ W = w' := fun W => by
      have h := refKeyword_any s W
      rwa [hkw] at h
    have hm := Lib.hid (show may s.toList = false by unfold may; rw [hkw]; simp)
    have CK := Lib.hid ck
    clear hkw ck
    go_enter Tryd.func16, Tryd.ntmps16
    go_wp2_with (first
      | (go_at_call 32; refine (refLetter_any _ _).mono ?_; rintro e w' ⟨rfl, rfl⟩)
      | (go_at_call 14; refine (CK.out _).mono ?_; rintro e w' ⟨rfl, rfl⟩))
    go_ret
    exact ⟨ret_bool hm.out.symm, rfl⟩

theorem plc_has (x : Str) : ∀ (ss : List Str) (i : Nat), decide (0 ≤ plcFrom ss x i) = hasS ss x
  | [], _ => rfl
  | z :: zs, i => by
    have ih := plc_has x zs (i + 1)
    unfold hasS at ih ⊢
    unfold plcFrom
    rw [List.contains_cons]
    by_cases h : z = x
    · subst h; simp
    · rw [if_neg h, ih, beq_eq_false_iff_ne.2 (fun e => h e.symm), Bool.false_or]
theorem plc_step {ss : List Str} {x : Str} {k : Nat} (hk : k < ss.length) (hne : ss.getD k [] ≠ x) : plcFrom (ss.drop k) x k = plcFrom (ss.drop (k + 1)) x (k + 1) := by
  rw [List.drop_eq_getElem_cons hk, plcFrom, if_neg (by rw [List.getD_eq_getElem?_getD, List.getElem?_eq_getElem hk] at hne; exact hne)]
theorem plc_hit {ss : List Str} {x : Str} {k : Nat} (hk : k < ss.length) (he : ss.getD k [] = x) : plcFrom (ss.drop k) x k = (k : Int) := by
  rw [List.drop_eq_getElem_cons hk, plcFrom, if_pos (by rw [List.getD_eq_getElem?_getD, List.getElem?_eq_getElem hk] at he; exact he)]

set_option maxHeartbeats 400000 in
theorem refPlace_any (a : Option Addr) (n c : Nat) (ss : List Str) (x : ByteArray) (w : World) (bound : Nat) (h : Strs w bound a n ss) :
    Calls Tryd.prog 20 #[.slice a n c, .string x] w fun e w' => e = .returned (.int .i64 (plc ss x.toList)) ∧ w = w' := by
  have hsn := h.2.1
  have H := Lib.hid h
  have HL := Lib.hid h.1
  clear h
  go_enter Tryd.func20, Tryd.ntmps20
  go_wp2
  go_loop [5] (fun i => ∃ k : Nat, k ≤ n ∧ i = .int .i64 k ∧ Hid (plc ss x.toList = plcFrom (ss.drop k) x.toList k)) (fun i => n - (intOf i).toNat)
  case atStart => exact ⟨0, Nat.zero_le _, rfl, Lib.hid rfl⟩
  case round =>
    obtain ⟨k, hk, rfl, hpre⟩ := hrel
    by_cases hlt : k < n
    · obtain ⟨b, o, rfl, _, hc⟩ := H.out.at_ hlt
      have hkk : k < ss.length := by rw [HL.out]; exact hlt
      obtain ⟨y, hy⟩ : ∃ y, y = baS (ss.getD k []) := ⟨_, rfl⟩
      replace hc : w.cell? { block := b, off := o + k } = some (Value.string y) := by rw [hy]; exact hc
      have ey : y.toList = ss.getD k [] := by rw [hy, baS_toList]
      clear hy
      cases hyx : (y.toList == x.toList)
      · have hne := Lib.hid (hpre.out.trans (plc_step hkk (by rw [← ey]; simpa using hyx)))
        clear hkk ey
        go_wp2
        go_round
        case rel => exact ⟨k + 1, by omega, by go_num, hne⟩
        case measure => simp [intOf]; omega
      · have he := Lib.hid (hpre.out.trans (plc_hit hkk (by rw [← ey]; simpa using hyx)))
        clear hkk ey
        go_wp2
        go_ret
        exact ⟨ret_int he.out.symm, rfl⟩
    · have he := Lib.hid (show plc ss x.toList = -1 by rw [hpre.out, List.drop_of_length_le (by rw [HL.out]; omega)]; rfl)
      go_wp2
      go_ret
      exact ⟨ret_int he.out.symm, rfl⟩

theorem refHas_any (a : Option Addr) (n c : Nat) (ss : List Str) (x : ByteArray) (w : World) (bound : Nat) (h : Strs w bound a n ss) :
    Calls Tryd.prog 18 #[.slice a n c, .string x] w fun e w' => e = .returned (.bool (hasS ss x.toList)) ∧ w = w' := by
  have hp := refPlace_any a n c ss x w bound h
  have hd := plc_has x.toList ss 0
  obtain ⟨pv, hpv⟩ : ∃ pv, pv = plc ss x.toList := ⟨_, rfl⟩
  rw [← hpv] at hp
  rw [show plcFrom ss x.toList 0 = pv from hpv.symm] at hd
  clear hpv h
  have CP := Lib.hid hp
  clear hp
  cases hb : hasS ss x.toList
  all_goals
    rw [hb] at hd
    clear hb
    go_enter Tryd.func18, Tryd.ntmps18
    go_wp2_with (go_at_call 20; refine CP.out.mono ?_; rintro e w' ⟨rfl, rfl⟩)
    go_ret
    exact ⟨rfl, rfl⟩

theorem nodup_more {ss : List Str} {k : Nat} (hk : k < ss.length) (hn : (ss.take k).Nodup) (hno : hasS (ss.take k) (ss.getD k []) = false) : (ss.take (k + 1)).Nodup := by
  rw [take_more ss k hk, List.nodup_append]
  refine ⟨hn, by simp, fun x hx y hy e => ?_⟩
  rw [List.mem_singleton] at hy
  rw [← Bool.not_eq_true, hasS_iff] at hno
  exact hno (by rw [← hy, ← e]; exact hx)
theorem twice_at {ss : List Str} {k : Nat} (hk : k < ss.length) (hh : hasS (ss.take k) (ss.getD k []) = true) : once ss = false := by
  rw [← Bool.not_eq_true, once_iff]
  intro hn
  have h1 : (ss.take (k + 1)).Nodup := hn.sublist (List.take_sublist _ _)
  rw [take_more ss k hk, List.nodup_append] at h1
  exact h1.2.2 _ ((hasS_iff _ _).1 hh) _ (by simp) rfl

set_option maxHeartbeats 1000000 in
theorem refOnce_any (a : Option Addr) (n c : Nat) (ss : List Str) (w : World) (bound : Nat) (hnc : n ≤ c) (h : Strs w bound a n ss) :
    Calls Tryd.prog 22 #[.slice a n c] w fun e w' => e = .returned (.bool (once ss)) ∧ ∃ q, w' = w.drewN q := by
  have hsn := h.2.1
  have H := Lib.hid h
  have HL := Lib.hid h.1
  clear h
  go_enter Tryd.func22, Tryd.ntmps22
  go_wp2
  go_loopw [3] (fun i wr => ∃ k : Nat, k ≤ n ∧ i = .int .i64 k ∧ Hid ((ss.take k).Nodup) ∧ Hid (Strs wr bound a n ss) ∧ Hid (∃ q, wr = w.drewN q)) (fun i _ => n - (intOf i).toNat)
  case atStart => exact ⟨0, Nat.zero_le _, rfl, Lib.hid (by simp), H, Lib.hid ⟨0, rfl⟩⟩
  case round =>
    obtain ⟨k, hk, rfl, hpre, HS, HQ⟩ := hrel
    by_cases hlt : k < n
    · have hkk : k < ss.length := by rw [HL.out]; exact hlt
      obtain ⟨b, o, rfl, _, hc⟩ := HS.out.at_ hlt
      obtain ⟨y, hy⟩ : ∃ y, y = baS (ss.getD k []) := ⟨_, rfl⟩
      replace hc : wr.cell? { block := b, off := o + k } = some (Value.string y) := by rw [hy]; exact hc
      have ey : y.toList = ss.getD k [] := by rw [hy, baS_toList]
      have hkc : (k : Int) ≤ (c : Int) := by omega
      have ch : ∀ m, Calls Tryd.prog 18 #[.slice (some ⟨b, o, none⟩) k c, .string y] (wr.drewN m) fun e w' => e = .returned (.bool (hasS (ss.take k) (ss.getD k []))) ∧ wr.drewN m = w' := fun m => by
        have h := refHas_any (some ⟨b, o, none⟩) k c (ss.take k) y (wr.drewN m) bound ((HS.out.drewN m).cut hk)
        rwa [ey] at h
      clear hy ey
      cases hb : hasS (ss.take k) (ss.getD k [])
      · rw [hb] at ch
        have CH := Lib.hid ch
        have hn := Lib.hid (nodup_more hkk hpre.out hb)
        clear ch hb hkk
        go_wp2
        go_quiet ((go_at_call 18; exact quiet_at (CH.out _)))
        go_wp2
        go_roundw
        case rel => exact ⟨k + 1, by omega, by go_num, hn, Lib.hid (HS.out.drewN _), Lib.hid (by obtain ⟨q, rfl⟩ := HQ.out; exact ⟨q + nq, World.drewN_drewN _ _ _⟩)⟩
        case measure => simp [intOf]; omega
      · rw [hb] at ch
        have CH := Lib.hid ch
        have hn := Lib.hid (twice_at hkk hb)
        clear ch hb hkk
        go_wp2
        go_quiet ((go_at_call 18; exact quiet_at (CH.out _)))
        go_wp2
        go_ret
        obtain ⟨q, rfl⟩ := HQ.out
        exact ⟨ret_bool hn.out.symm, q + nq, World.drewN_drewN _ _ _⟩
    · have he := Lib.hid (show once ss = true by
        rw [once_iff]
        have := hpre.out
        rwa [List.take_of_length_le (by rw [HL.out]; omega)] at this)
      go_wp2
      go_ret
      exact ⟨ret_bool he.out.symm, HQ.out⟩
end Go.Proofs.YthgihoeeppincaaDoor
