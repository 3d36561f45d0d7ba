/- The law NamesBytes returns true for every string, number and byte. -/
import Derived.Test.YthgihoeeppincaaDoorNmLawPut
import Derived.Test.YthgihoeeppincaaDoorNmKeys
import Derived.RegionTactic
import Derived.BigRegion
import Derived.Deep.RegionHeld3
import Derived.Laws.BytesArg
import Derived.IntWalk
import Derived.OpenShut
namespace Go.Proofs.YthgihoeeppincaaDoor
open Go.RowKit Go.Sort

theorem byte_place (k : Int) (n : Nat) (h1 : 1 ≤ n) (h2 : n ≤ 12) : ∃ i : Nat, i < n ∧ wrap64 ((IntKind.u64.wrap k).tmod (n : Int)) = (i : Int) := by
  have h0 : 0 ≤ IntKind.u64.wrap k := by rw [IntKind.wrap_u64]; omega
  have hm := Int.emod_nonneg (IntKind.u64.wrap k) (show (n : Int) ≠ 0 by omega)
  have hl := Int.emod_lt_of_pos (IntKind.u64.wrap k) (show (0 : Int) < n by omega)
  refine ⟨((IntKind.u64.wrap k).tmod (n : Int)).toNat, ?_, ?_⟩
  · rw [Int.tmod_eq_emod_of_nonneg h0]; omega
  · rw [Int.tmod_eq_emod_of_nonneg h0, wrap64]; omega
theorem may_parts {l : Str} (h : may l = true) : 1 ≤ l.length ∧ l.length ≤ 12 ∧ isLet ((l.getD 0 0).toNat : Int) = true ∧ ∀ k, k < l.length → okB (l.getD k 0) = true := by
  unfold may at h
  simp only [Bool.and_eq_true, decide_eq_true_eq] at h
  refine ⟨h.1.1.1.1, h.1.1.1.2, h.1.1.2, fun k hk => ?_⟩
  have := List.all_eq_true.1 h.1.2 l[k] (List.getElem_mem hk)
  rwa [List.getD_eq_getElem?_getD, List.getElem?_eq_getElem hk]

theorem conv_one (W : World) (b : Nat) (c : Int) (h : W.cell? ⟨b, 0, none⟩ = some (.int .u8 c)) :
    (convert 32 9 (.slice (some ⟨b, 0, none⟩) 1 1)).run Tryd.prog W = .ok (.string (strOfNums [c])) W :=
  run_convert_bytes_arg W 32 5 Tryd.underlying32 Tryd.underlying5 b 0 1 1 [c] rfl (fun i hi => by
    obtain rfl : i = 0 := by omega
    simpa using h) 9 Tryd.underlying9

theorem one_toList (c : Int) : (strOfNums [c]).toList = [UInt8.ofNat c.toNat] := by rw [ByteArray.toList_eq, strOfNums_data]; rfl
theorem bad_byte {c : Int} (h : (Lit.int .u8 c).wf = true) (hc : ¬ ((97 ≤ c ∧ c ≤ 122) ∨ (48 ≤ c ∧ c ≤ 57))) : okB (UInt8.ofNat c.toNat) = false := by
  have hr := Go.bounds_u8 h
  have e : ((UInt8.ofNat c.toNat).toNat : Int) = c := by
    rw [UInt8.toNat_ofNat']; omega
  unfold okB isLet isDig
  rw [e, Bool.eq_false_iff]
  intro hb
  simp only [Bool.or_eq_true, Bool.and_eq_true, decide_eq_true_eq] at hb
  exact hc hb
theorem may_spoilt (s : ByteArray) (i : Nat) (b : UInt8) (xc : ByteArray) (hx : xc.toList = [b]) (hi : i < s.size) (hb : okB b = false) : may (s.extract 0 i ++ xc ++ s.extract (i + 1) s.size).toList = false := by
  have hl : (s.extract 0 i).toList = s.toList.take i := by
    rw [ByteArray.toList_eq, ByteArray.toList_eq, ByteArray.data_extract]; simp [List.extract_eq_take_drop]
  rw [app_toList, app_toList, hl, hx]
  have hlen : (s.toList.take i).length = i := by rw [List.length_take, len_toList]; omega
  refine may_bad (k := i) (by rw [List.length_append, List.length_append, hlen]; simp only [List.length_singleton]; omega) ?_
  rw [List.getD_eq_getElem?_getD, List.append_assoc, List.getElem?_append_right (by omega), hlen]
  simpa using hb
theorem may_longer (s : ByteArray) (b : UInt8) (xc : ByteArray) (hx : xc.toList = [b]) (hb : okB b = false) : may (s ++ xc).toList = false := by
  rw [app_toList, hx]
  refine may_bad (k := s.toList.length) (by simp) ?_
  rw [List.getD_eq_getElem?_getD, List.getElem?_append_right (Nat.le_refl _)]
  simpa using hb

set_option maxHeartbeats 1000000 in
theorem bytes_walk (s : ByteArray) (p c : Int) (w : World) (hs : s.size ≤ maxLen) (_ : (Lit.int .i64 p).wf = true) (hc : (Lit.int .u8 c).wf = true) :
    Calls Tryd.prog 4 #[.string s, .int .i64 p, .int .u8 c] w fun e w' => e = .returned (.bool true) ∧ Below w.heap.size w w' := by
  have cm : ∀ (b : Bool) W, may s.toList = b → Calls Tryd.prog 15 #[.string s] W fun e w' => e = .returned (.bool b) ∧ W = w' := fun b W hb => by
    have h := may_any s W hs
    rwa [hb] at h
  cases hm : may s.toList
  · have CM := Lib.hid (fun W => cm _ W hm)
    clear cm hm
    go_enter Tryd.func4, Tryd.ntmps4
    go_wp2_with (first
      | (go_at_call 8; refine (first_any _).mono ?_; rintro e w1 ⟨rfl, hb⟩)
      | (go_at_call 15; ((with_reducible refine (CM.out _).mono ?_); rintro e w2 ⟨rfl, rfl⟩)))
    go_ret
    exact ⟨rfl, hb⟩
  · have CM := Lib.hid (fun W => cm _ W hm)
    obtain ⟨m1, m2, m3, m4⟩ := may_parts hm
    rw [len_toList] at m1 m2 m4
    clear cm hm
    have M3 := Lib.hid m3
    have M4 := Lib.hid m4
    clear m3 m4
    have d1 : decide ((s.size : Int) < 1) = false := by simp; omega
    have d2 : decide (12 < (s.size : Int)) = false := by simp; omega
    go_enter Tryd.func4, Tryd.ntmps4
    go_wp2_with (first
      | (go_at_call 8; refine (first_any _).mono ?_; rintro e w1 ⟨rfl, hb⟩
         have HB := Lib.hid hb
         clear hb)
      | (go_at_call 15; ((with_reducible refine (CM.out _).mono ?_); rintro e w2 ⟨rfl, rfl⟩)))
    go_loopw [7] (fun i wr => ∃ k : Nat, k ≤ s.size ∧ i = .int .i64 k ∧ Hid (Below w.heap.size w wr)) (fun i _ => s.size - (intOf i).toNat)
    case atStart => exact ⟨0, Nat.zero_le _, rfl, HB⟩
    case round =>
      obtain ⟨k, hk, rfl, HR⟩ := hrel
      by_cases hlt : k < s.size
      · have hok := M4.out k hlt
        rw [get_toList s k hlt] at hok
        have hlet : k = 0 → isLet (s[k].toNat : Int) = true := fun e => by
          have := M3.out
          subst e
          rwa [get_toList s 0 hlt] at this
        unfold okB at hok
        cases hl : isLet (s[k].toNat : Int)
        · rw [hl, Bool.false_or] at hok
          have hk0 : k ≠ 0 := fun e => by rw [hlet e] at hl; cases hl
          have e0 : ((k : Int) == 0) = false := by simp; omega
          unfold isDig at hok
          simp only [Bool.and_eq_true, decide_eq_true_eq] at hok
          obtain ⟨o1, o2⟩ := hok
          have b1 : decide (97 ≤ (s[k].toNat : Int)) = false := by simp; omega
          have b3 : decide (48 ≤ (s[k].toNat : Int)) = true := by simp; omega
          have b4 : decide ((s[k].toNat : Int) ≤ 57) = true := by simp; omega
          clear hl hlet
          go_wp2
          go_quiet (fail)
          go_wp2
          go_roundw
          case rel => exact ⟨k + 1, by omega, by go_num, Lib.hid (bel_drewN HR.out _)⟩
          case measure => simp [intOf]; omega
        · unfold isLet at hl
          simp only [Bool.and_eq_true, decide_eq_true_eq] at hl
          obtain ⟨o1, o2⟩ := hl
          have b1 : decide (97 ≤ (s[k].toNat : Int)) = true := by simp; omega
          have b2 : decide ((s[k].toNat : Int) ≤ 122) = true := by simp; omega
          have b3 : decide (48 ≤ (s[k].toNat : Int)) = true := by simp; omega
          have b4 : decide ((s[k].toNat : Int) ≤ 57) = false := by simp; omega
          clear hok hlet
          go_wp2
          go_quiet (fail)
          go_wp2
          go_roundw
          case rel => exact ⟨k + 1, by omega, by go_num, Lib.hid (bel_drewN HR.out _)⟩
          case measure => simp [intOf]; omega
      · obtain ⟨i, hi, hpl⟩ := byte_place p s.size m1 m2
        by_cases hcc : (97 ≤ c ∧ c ≤ 122) ∨ (48 ≤ c ∧ c ≤ 57)
        · have hsz : (s ++ ⟨#[97, 98, 99, 100, 101, 102, 103, 104, 105, 106, 107, 108]⟩ : ByteArray).size = s.size + 12 := by rw [ByteArray.size_append]; rfl
          have hml : may (s ++ ⟨#[97, 98, 99, 100, 101, 102, 103, 104, 105, 106, 107, 108]⟩ : ByteArray).toList = false := may_long (by rw [len_toList, hsz]; omega)
          have cl : ∀ W, Calls Tryd.prog 15 #[.string (s ++ ⟨#[97, 98, 99, 100, 101, 102, 103, 104, 105, 106, 107, 108]⟩)] W fun e w' => e = .returned (.bool false) ∧ W = w' := fun W => by
            have h := may_any (s ++ ⟨#[97, 98, 99, 100, 101, 102, 103, 104, 105, 106, 107, 108]⟩) W (by rw [hsz]; unfold maxLen; omega)
            rwa [hml] at h
          have CL := Lib.hid cl
          clear cl hml hsz
          rcases hcc with ⟨c1, c2⟩ | ⟨c1, c2⟩
          · have b1 : decide (97 ≤ c) = true := by simp; omega
            have b2 : decide (c ≤ 122) = true := by simp; omega
            go_wp2_with (go_at_call 15; refine (CL.out _).mono ?_; rintro e w3 ⟨rfl, rfl⟩)
            go_ret
            exact ⟨rfl, HR.out⟩
          · have b1 : decide (97 ≤ c) = false := by simp; omega
            have b3 : decide (48 ≤ c) = true := by simp; omega
            have b4 : decide (c ≤ 57) = true := by simp; omega
            go_wp2_with (go_at_call 15; refine (CL.out _).mono ?_; rintro e w3 ⟨rfl, rfl⟩)
            go_ret
            exact ⟨rfl, HR.out⟩
        · have hi1 : (i : Int) < (s.size : Int) := by omega
          have hi2 : (i : Int) ≤ (s.size : Int) := by omega
          have hi3 : (i : Int) + 1 ≤ (s.size : Int) := by omega
          obtain ⟨xc, hxc⟩ : ∃ xc, xc = strOfNums [c] := ⟨_, rfl⟩
          have e1 : (convert 32 9 (.slice (some ⟨wr.heap.size, 0, none⟩) 1 1)).run Tryd.prog (wr.alloc (.cells #[.int .u8 c] 5)).drew = .ok (.string xc) (wr.alloc (.cells #[.int .u8 c] 5)).drew := by
            rw [hxc]; exact conv_one _ _ c (by simp)
          have e2 : (convert 32 9 (.slice (some ⟨wr.heap.size + 1, 0, none⟩) 1 1)).run Tryd.prog ((wr.alloc (.cells #[.int .u8 c] 5)).alloc (.cells #[.int .u8 c] 5)).drew = .ok (.string xc) ((wr.alloc (.cells #[.int .u8 c] 5)).alloc (.cells #[.int .u8 c] 5)).drew := by
            rw [hxc]; exact conv_one _ _ c (by simp)
          have hx1 : xc.size ≤ 1 := by rw [hxc, strOfNums_size]; exact Nat.le_refl 1
          have w1 : IntKind.i64.wrap ((i : Int) + 1) = (i : Int) + 1 := IntWalk.i64_in _ (by omega)
          have w2 : (0 : Int) ≤ (i : Int) + 1 := by omega
          have w3 : ((i : Int) + 1).toNat = i + 1 := by omega
          have hxl : xc.toList = [UInt8.ofNat c.toNat] := by rw [hxc]; exact one_toList c
          have hbb := bad_byte hc hcc
          have hx1' : xc.size ≤ maxLen := by unfold maxLen; omega
          have ca : ∀ W, Calls Tryd.prog 15 #[.string (s.extract 0 i ++ xc ++ s.extract (i + 1) s.size)] W fun e w' => e = .returned (.bool false) ∧ W = w' := fun W => by
            have h := may_any (s.extract 0 i ++ xc ++ s.extract (i + 1) s.size) W (by
              have h1 : (s.extract 0 i).size ≤ s.size := by rw [ByteArray.size_extract]; omega
              have h2 : (s.extract (i + 1) s.size).size ≤ s.size := by rw [ByteArray.size_extract]; omega
              rw [ByteArray.size_append, ByteArray.size_append]
              unfold maxLen
              omega)
            rwa [may_spoilt s i _ xc hxl hi hbb] at h
          have cb : ∀ W, Calls Tryd.prog 15 #[.string (s ++ xc)] W fun e w' => e = .returned (.bool false) ∧ W = w' := fun W => by
            have h := may_any (s ++ xc) W (by rw [ByteArray.size_append]; unfold maxLen; omega)
            rwa [may_longer s _ xc hxl hbb] at h
          have CA := Lib.hid ca
          have CB := Lib.hid cb
          clear ca cb hxl hbb hx1'
          have HXC := Lib.hid hxc
          clear hxc
          by_cases c1 : 97 ≤ c
          · have b1 : decide (97 ≤ c) = true := by simp; omega
            have b2 : decide (c ≤ 122) = false := by simp; omega
            have b3 : decide (48 ≤ c) = true := by simp; omega
            have b4 : decide (c ≤ 57) = false := by simp; omega
            go_wp2_with fail
            go_region_with (first | (go_at_call 15; with_reducible refine (CA.out _).mono ?_; rintro e w9 ⟨rfl, rfl⟩) | (go_at_call 15; with_reducible refine (CB.out _).mono ?_; rintro e w9 ⟨rfl, rfl⟩))
            all_goals
              go_wp2
              go_ret
              exact ⟨rfl, bel_drewN ((HR.out.alloc HR.out.size _).alloc (by have := HR.out.size; simp; omega) _) 1⟩
          · have b1 : decide (97 ≤ c) = false := by simp; omega
            by_cases c2 : 48 ≤ c
            · have b3 : decide (48 ≤ c) = true := by simp; omega
              have b4 : decide (c ≤ 57) = false := by simp; omega
              go_wp2_with fail
              go_region_with (first | (go_at_call 15; with_reducible refine (CA.out _).mono ?_; rintro e w9 ⟨rfl, rfl⟩) | (go_at_call 15; with_reducible refine (CB.out _).mono ?_; rintro e w9 ⟨rfl, rfl⟩))
              all_goals
                go_wp2
                go_ret
                exact ⟨rfl, bel_drewN ((HR.out.alloc HR.out.size _).alloc (by have := HR.out.size; simp; omega) _) 1⟩
            · have b3 : decide (48 ≤ c) = false := by simp; omega
              go_wp2_with fail
              go_region_with (first | (go_at_call 15; with_reducible refine (CA.out _).mono ?_; rintro e w9 ⟨rfl, rfl⟩) | (go_at_call 15; with_reducible refine (CB.out _).mono ?_; rintro e w9 ⟨rfl, rfl⟩))
              all_goals
                go_wp2
                go_ret
                exact ⟨rfl, bel_drewN ((HR.out.alloc HR.out.size _).alloc (by have := HR.out.size; simp; omega) _) 1⟩
end Go.Proofs.YthgihoeeppincaaDoor
