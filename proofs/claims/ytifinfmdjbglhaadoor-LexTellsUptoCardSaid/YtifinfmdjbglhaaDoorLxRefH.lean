/- Contract of the reference's token. -/
import Derived.Test.YtifinfmdjbglhaaDoorLxRefG
namespace Go.Proofs.YtifinfmdjbglhaaDoor
open Go.RowKit


def TokAns (s : ByteArray) (p : Nat) : Except Int (Nat × Str × Str) → Ending → Prop
  | .error c, e => e = .returned (.tuple #[.agg #[.int .i64 0, .string ⟨#[]⟩, .int .i64 0], .int .i64 0, .int .i64 c])
  | .ok (k, t, u), e => ∃ r : Nat, e = .returned (.tuple #[.agg #[.int .i64 k, .string (lxS t), .int .i64 p], .int .i64 r, .int .i64 0]) ∧ p < r ∧ r ≤ s.size ∧ s.toList.drop r = u

theorem lxS_inj {a b : ByteArray} (h : a.toList = b.toList) : a = b := by
  rw [ByteArray.toList_eq, ByteArray.toList_eq] at h
  cases a; cases b
  congr 1
  exact Array.toList_inj.1 h
theorem lx_cut (s : ByteArray) (p r : Nat) (h1 : p ≤ r) (h2 : r ≤ s.size) {P : UInt8 → Bool} (h : s.toList.drop r = (s.toList.drop p).dropWhile P) : s.extract p r = lxS ((s.toList.drop p).takeWhile P) := by
  have e : (s.extract p r).toList = (s.toList.drop p).take (r - p) := by
    rw [ByteArray.toList_eq, ByteArray.toList_eq, ByteArray.data_extract]
    simp [List.extract_eq_take_drop]
  have hl := List.takeWhile_append_dropWhile (p := P) (l := s.toList.drop p)
  rw [← h] at hl
  have hlen : ((s.toList.drop p).takeWhile P).length = r - p := by
    have := congrArg List.length hl
    rw [List.length_append, List.length_drop, List.length_drop, lxLen] at this
    omega
  have e2 : (s.toList.drop p).take (r - p) = (s.toList.drop p).takeWhile P := by
    conv => lhs; rw [← hl]
    rw [← hlen, List.take_left']
    rfl
  apply lxS_inj
  rw [e, e2, lxS_toList]

theorem resTok : Tryd.f24.results = #[.cell 6 35, .tmp 7, .tmp 8] := rfl
theorem tok_word {b : Bool} {c : UInt8} {r : Str} (h : letB c = true) : tok1 b (c :: r) = .ok (0, (c :: r).takeWhile okB, (c :: r).dropWhile okB) := by
  unfold tok1; dsimp only; rw [if_pos h]
theorem tok_num {b : Bool} {c : UInt8} {r : Str} (h : letB c = false) (h2 : (digB c || (c == 45 && !b && nextDig r)) = true) (h3 : numeral (c :: r.takeWhile digB) = true) : tok1 b (c :: r) = .ok (1, c :: r.takeWhile digB, r.dropWhile digB) := by
  unfold tok1; dsimp only; rw [if_neg (by rw [h]; simp), if_pos h2, if_pos h3]
theorem tok_nonum {b : Bool} {c : UInt8} {r : Str} (h : letB c = false) (h2 : (digB c || (c == 45 && !b && nextDig r)) = true) (h3 : numeral (c :: r.takeWhile digB) = false) : tok1 b (c :: r) = .error 202 := by
  unfold tok1; dsimp only; rw [if_neg (by rw [h]; simp), if_pos h2, if_neg (by rw [h3]; simp)]
theorem tok_quote {b : Bool} {c : UInt8} {r : Str} {q : Str × Str} (h : letB c = false) (h2 : (digB c || (c == 45 && !b && nextDig r)) = false) (h3 : (c == 34) = true) (h4 : quoteS r = some q) : tok1 b (c :: r) = .ok (2, q.1, q.2) := by
  unfold tok1; dsimp only; rw [if_neg (by rw [h]; simp), if_neg (by rw [h2]; simp), if_pos h3, h4]
theorem tok_noquote {b : Bool} {c : UInt8} {r : Str} (h : letB c = false) (h2 : (digB c || (c == 45 && !b && nextDig r)) = false) (h3 : (c == 34) = true) (h4 : quoteS r = none) : tok1 b (c :: r) = .error 203 := by
  unfold tok1; dsimp only; rw [if_neg (by rw [h]; simp), if_neg (by rw [h2]; simp), if_pos h3, h4]
theorem tok_sign {b : Bool} {c : UInt8} {r : Str} (h : letB c = false) (h2 : (digB c || (c == 45 && !b && nextDig r)) = false) (h3 : (c == 34) = false) (h4 : signLen (c :: r) ≠ 0) : tok1 b (c :: r) = .ok (3, (c :: r).take (signLen (c :: r)), (c :: r).drop (signLen (c :: r))) := by
  unfold tok1; dsimp only; rw [if_neg (by rw [h]; simp), if_neg (by rw [h2]; simp), if_neg (by rw [h3]; simp), if_neg h4]
theorem tok_nosign {b : Bool} {c : UInt8} {r : Str} (h : letB c = false) (h2 : (digB c || (c == 45 && !b && nextDig r)) = false) (h3 : (c == 34) = false) (h4 : signLen (c :: r) = 0) : tok1 b (c :: r) = .error 201 := by
  unfold tok1; dsimp only; rw [if_neg (by rw [h]; simp), if_neg (by rw [h2]; simp), if_neg (by rw [h3]; simp), if_pos h4]
theorem lx_num (s : ByteArray) (p r : Nat) (hp : p < s.size) (h1 : p + 1 ≤ r) (h2 : r ≤ s.size) (h : s.toList.drop r = (s.toList.drop (p + 1)).dropWhile digB) : s.extract p r = lxS (s[p] :: (s.toList.drop (p + 1)).takeWhile digB) := by
  have e := lx_cut s (p + 1) r h1 h2 h
  have e3 : (s.extract p r).toList = s[p] :: (s.extract (p + 1) r).toList := by
    rw [ByteArray.toList_eq, ByteArray.toList_eq, ByteArray.data_extract, ByteArray.data_extract]
    simp only [Array.toList_extract, List.extract_eq_take_drop]
    have hd := lxDrop s p hp
    rw [ByteArray.toList_eq] at hd
    rw [hd, show r - p = (r - (p + 1)) + 1 by omega, List.take_succ_cons]
  apply lxS_inj
  rw [e3, e, lxS_toList, lxS_toList]

set_option maxHeartbeats 1100000 in
theorem refToken_word (s : ByteArray) (p : Nat) (b : Bool) (w : World) (hp : p < s.size) (hs : s.size ≤ 1100000) (hc : letB s[p] = true) :
    Calls Tryd.prog 24 #[.string s, .int .i64 p, .bool b] w fun e w' => Below w.heap.size w w' ∧ TokAns s p (tok1 b (s.toList.drop p)) e := by
  have cl : ∀ W, Calls Tryd.prog 39 #[.int .u8 s[p].toNat] W fun e w' => e = .returned (.bool (letB s[p])) ∧ W = w' := fun W => refLetter_any s[p].toNat W
  rw [hc] at cl
  have CL := Lib.hid cl
  have CR := Lib.hid fun W => refRun_any s p true W (Nat.le_of_lt hp) hs
  have HT := Lib.hid (show tok1 b (s.toList.drop p) = .ok (0, (s.toList.drop p).takeWhile okB, (s.toList.drop p).dropWhile okB) by
    rw [lxDrop s p hp]; exact tok_word hc)
  have hlt : ∀ r, s.toList.drop r = (s.toList.drop p).dropWhile okB → r ≤ s.size → p < r := fun r h hr => by
    have hok : okB s[p] = true := by unfold okB; unfold letB at hc; rw [hc]; rfl
    have h1 := drop_while_le okB (s.toList.drop (p + 1))
    have h2 := congrArg List.length h
    rw [lxDrop s p hp, List.dropWhile_cons_of_pos hok, List.length_drop] at h2
    rw [List.length_drop] at h1
    rw [lxLen] at h1 h2
    omega
  have HL := Lib.hid hlt
  clear cl hlt hc
  go_enter Tryd.func24, Tryd.ntmps24
  go_wp2_with (first
    | (go_at_call 39; (with_reducible refine (CL.out _).mono ?_); rintro e w9 ⟨rfl, rfl⟩)
    | (go_at_call 40; (with_reducible refine (CR.out _).mono ?_); rintro e w9 ⟨r, rfl, hpr, hrs, hd, rfl⟩
       rw [runB_true] at hd
       have HX := Lib.hid (lx_cut s p r hpr hrs hd)
       have HD := Lib.hid hd
       have hcut := run_cut 9 Tryd.underlying9 s (p : Int) (r : Int) p r rfl rfl hpr hrs
       clear hd)
    | fail)
  refine bodyPost_ret (v := .tuple #[.agg #[.int .i64 0, .string (s.extract p r), .int .i64 p], .int .i64 r, .int .i64 0]) (by simp [results, go_sem]) rfl ⟨(Below.refl _ _).alloc (Nat.le_refl _) _, ?_⟩
  rw [HT.out, HX.out]
  exact ⟨r, rfl, HL.out r HD.out hrs, hrs, HD.out⟩

set_option maxHeartbeats 1100000 in
theorem refToken_num (s : ByteArray) (p : Nat) (b : Bool) (w : World) (hp : p < s.size) (hs : s.size ≤ 1100000) (hc : letB s[p] = false) (hn : (digB s[p] || (s[p] == 45 && !b && nextDig (s.toList.drop (p + 1)))) = true) :
    Calls Tryd.prog 24 #[.string s, .int .i64 p, .bool b] w fun e w' => Below w.heap.size w w' ∧ TokAns s p (tok1 b (s.toList.drop p)) e := by
  have cl : ∀ W, Calls Tryd.prog 39 #[.int .u8 s[p].toNat] W fun e w' => e = .returned (.bool (letB s[p])) ∧ W = w' := fun W => refLetter_any s[p].toNat W
  rw [hc] at cl
  have CL := Lib.hid cl
  have cr : ∀ W, Calls Tryd.prog 40 #[.string s, .int .i64 ((p : Int) + 1), .bool false] W fun e w' => ∃ r : Nat, e = .returned (.int .i64 r) ∧ p + 1 ≤ r ∧ r ≤ s.size ∧ s.toList.drop r = (s.toList.drop (p + 1)).dropWhile (runB false) ∧ W = w' := fun W => refRun_any s (p + 1) false W hp hs
  have CR := Lib.hid cr
  have cd : ∀ W, Calls Tryd.prog 41 #[.int .u8 s[p].toNat] W fun e w' => e = .returned (.bool (digB s[p])) ∧ W = w' := fun W => refDigit_any s[p].toNat W
  clear cl cr
  -- the rest of the walk, from what the tests gave
  have fin : ∀ v, numeral (s[p] :: (s.toList.drop (p + 1)).takeWhile digB) = v → ∀ r : Nat, p + 1 ≤ r → r ≤ s.size → s.toList.drop r = (s.toList.drop (p + 1)).dropWhile digB →
      (∀ W, Calls Tryd.prog 42 #[.string (s.extract p r)] W fun e w' => e = .returned (.bool v) ∧ W = w') ∧ s.extract p r = lxS (s[p] :: (s.toList.drop (p + 1)).takeWhile digB) := fun v hv r h1 h2 h3 => by
    have hx := lx_num s p r hp h1 h2 h3
    refine ⟨fun W => ?_, hx⟩
    have h := refNumeral_any (s.extract p r) W (by rw [ByteArray.size_extract]; omega)
    rw [hx, lxS_toList, hv] at h
    rw [hx]
    exact h
  have FIN := Lib.hid fin
  clear fin
  cases hv : numeral (s[p] :: (s.toList.drop (p + 1)).takeWhile digB)
  · have HT := Lib.hid (show tok1 b (s.toList.drop p) = .error 202 by rw [lxDrop s p hp]; exact tok_nonum hc hn hv)
    have HV := Lib.hid hv
    clear hv
    cases hdg : digB s[p]
    · rw [hdg, Bool.false_or] at hn
      cases b
      · cases h45 : (s[p] == 45)
        · rw [h45] at hn; cases hn
        · have hnd : nextDig (s.toList.drop (p + 1)) = true := by rw [h45] at hn; exact hn
          by_cases hsz : p + 1 < s.size
          · rw [lxDrop s (p + 1) hsz] at hnd
            have e45 : (((s[p].toNat : Nat) : Int) == 45) = true := by rw [← h45]; exact byte_is s[p] 45 (by omega)
            have i1 : (p : Int) + 1 < (s.size : Int) := by omega
            have cd2 : ∀ W, Calls Tryd.prog 41 #[.int .u8 s[p + 1].toNat] W fun e w' => e = .returned (.bool true) ∧ W = w' := fun W => by
              have h := refDigit_any s[p + 1].toNat W
              rw [show isDig (s[p + 1].toNat : Int) = true from hnd] at h
              exact h
            have CD2 := Lib.hid cd2
            rw [hdg] at cd
            have CD := Lib.hid cd
            clear cd cd2 hdg hn hc hnd h45
            go_enter Tryd.func24, Tryd.ntmps24
            go_wp2_with (first
              | (go_at_call 39; (with_reducible refine (CL.out _).mono ?_); rintro e w9 ⟨rfl, rfl⟩)
              | (go_at_call 41; (with_reducible refine (CD.out _).mono ?_); rintro e w9 ⟨rfl, rfl⟩)
              | (go_at_call 41; (with_reducible refine (CD2.out _).mono ?_); rintro e w9 ⟨rfl, rfl⟩)
              | (go_at_call 40; (with_reducible refine (CR.out _).mono ?_); rintro e w9 ⟨r, rfl, hpr, hrs, hd, rfl⟩
                 rw [runB_false] at hd
                 obtain ⟨cn, hx⟩ := FIN.out _ HV.out r hpr hrs hd
                 have CN := Lib.hid cn
                 have HX := Lib.hid hx
                 have HD := Lib.hid hd
                 have HPR := Lib.hid hpr
                 have hpr2 : p ≤ r := by omega
                 have hcut := run_cut 9 Tryd.underlying9 s (p : Int) (r : Int) p r rfl rfl hpr2 hrs
                 clear hd cn hx)
              | (go_at_call 42; (with_reducible refine (CN.out _).mono ?_); rintro e w9 ⟨rfl, rfl⟩)
              | fail)
            refine bodyPost_ret (v := .tuple #[.agg #[.int .i64 0, .string ⟨#[]⟩, .int .i64 0], .int .i64 0, .int .i64 202]) (by simp [results, go_sem]) rfl ⟨(Below.refl _ _).alloc (Nat.le_refl _) _, ?_⟩
            rw [HT.out]
            rfl
          · rw [lxEnd s (p + 1) (by omega)] at hnd; cases hnd
      · rw [Bool.not_true, Bool.and_false, Bool.false_and] at hn; cases hn
    · rw [hdg] at cd
      have CD := Lib.hid cd
      clear cd hdg hn hc
      go_enter Tryd.func24, Tryd.ntmps24
      go_wp2_with (first
        | (go_at_call 39; (with_reducible refine (CL.out _).mono ?_); rintro e w9 ⟨rfl, rfl⟩)
        | (go_at_call 41; (with_reducible refine (CD.out _).mono ?_); rintro e w9 ⟨rfl, rfl⟩)
        | (go_at_call 41; (with_reducible refine (CD2.out _).mono ?_); rintro e w9 ⟨rfl, rfl⟩)
        | (go_at_call 40; (with_reducible refine (CR.out _).mono ?_); rintro e w9 ⟨r, rfl, hpr, hrs, hd, rfl⟩
           rw [runB_false] at hd
           obtain ⟨cn, hx⟩ := FIN.out _ HV.out r hpr hrs hd
           have CN := Lib.hid cn
           have HX := Lib.hid hx
           have HD := Lib.hid hd
           have HPR := Lib.hid hpr
           have hpr2 : p ≤ r := by omega
           have hcut := run_cut 9 Tryd.underlying9 s (p : Int) (r : Int) p r rfl rfl hpr2 hrs
           clear hd cn hx)
        | (go_at_call 42; (with_reducible refine (CN.out _).mono ?_); rintro e w9 ⟨rfl, rfl⟩)
        | fail)
      refine bodyPost_ret (v := .tuple #[.agg #[.int .i64 0, .string ⟨#[]⟩, .int .i64 0], .int .i64 0, .int .i64 202]) (by simp [results, go_sem]) rfl ⟨(Below.refl _ _).alloc (Nat.le_refl _) _, ?_⟩
      rw [HT.out]
      rfl
  · have HT := Lib.hid (show tok1 b (s.toList.drop p) = .ok (1, s[p] :: (s.toList.drop (p + 1)).takeWhile digB, (s.toList.drop (p + 1)).dropWhile digB) by rw [lxDrop s p hp]; exact tok_num hc hn hv)
    have HV := Lib.hid hv
    clear hv
    cases hdg : digB s[p]
    · rw [hdg, Bool.false_or] at hn
      cases b
      · cases h45 : (s[p] == 45)
        · rw [h45] at hn; cases hn
        · have hnd : nextDig (s.toList.drop (p + 1)) = true := by rw [h45] at hn; exact hn
          by_cases hsz : p + 1 < s.size
          · rw [lxDrop s (p + 1) hsz] at hnd
            have e45 : (((s[p].toNat : Nat) : Int) == 45) = true := by rw [← h45]; exact byte_is s[p] 45 (by omega)
            have i1 : (p : Int) + 1 < (s.size : Int) := by omega
            have cd2 : ∀ W, Calls Tryd.prog 41 #[.int .u8 s[p + 1].toNat] W fun e w' => e = .returned (.bool true) ∧ W = w' := fun W => by
              have h := refDigit_any s[p + 1].toNat W
              rw [show isDig (s[p + 1].toNat : Int) = true from hnd] at h
              exact h
            have CD2 := Lib.hid cd2
            rw [hdg] at cd
            have CD := Lib.hid cd
            clear cd cd2 hdg hn hc hnd h45
            go_enter Tryd.func24, Tryd.ntmps24
            go_wp2_with (first
              | (go_at_call 39; (with_reducible refine (CL.out _).mono ?_); rintro e w9 ⟨rfl, rfl⟩)
              | (go_at_call 41; (with_reducible refine (CD.out _).mono ?_); rintro e w9 ⟨rfl, rfl⟩)
              | (go_at_call 41; (with_reducible refine (CD2.out _).mono ?_); rintro e w9 ⟨rfl, rfl⟩)
              | (go_at_call 40; (with_reducible refine (CR.out _).mono ?_); rintro e w9 ⟨r, rfl, hpr, hrs, hd, rfl⟩
                 rw [runB_false] at hd
                 obtain ⟨cn, hx⟩ := FIN.out _ HV.out r hpr hrs hd
                 have CN := Lib.hid cn
                 have HX := Lib.hid hx
                 have HD := Lib.hid hd
                 have HPR := Lib.hid hpr
                 have hpr2 : p ≤ r := by omega
                 have hcut := run_cut 9 Tryd.underlying9 s (p : Int) (r : Int) p r rfl rfl hpr2 hrs
                 clear hd cn hx)
              | (go_at_call 42; (with_reducible refine (CN.out _).mono ?_); rintro e w9 ⟨rfl, rfl⟩)
              | fail)
            refine bodyPost_ret (v := .tuple #[.agg #[.int .i64 1, .string (s.extract p r), .int .i64 p], .int .i64 r, .int .i64 0]) (by simp [results, go_sem]) rfl ⟨(Below.refl _ _).alloc (Nat.le_refl _) _, ?_⟩
            rw [HT.out, HX.out]
            exact ⟨r, rfl, HPR.out, hrs, HD.out⟩
          · rw [lxEnd s (p + 1) (by omega)] at hnd; cases hnd
      · rw [Bool.not_true, Bool.and_false, Bool.false_and] at hn; cases hn
    · rw [hdg] at cd
      have CD := Lib.hid cd
      clear cd hdg hn hc
      go_enter Tryd.func24, Tryd.ntmps24
      go_wp2_with (first
        | (go_at_call 39; (with_reducible refine (CL.out _).mono ?_); rintro e w9 ⟨rfl, rfl⟩)
        | (go_at_call 41; (with_reducible refine (CD.out _).mono ?_); rintro e w9 ⟨rfl, rfl⟩)
        | (go_at_call 41; (with_reducible refine (CD2.out _).mono ?_); rintro e w9 ⟨rfl, rfl⟩)
        | (go_at_call 40; (with_reducible refine (CR.out _).mono ?_); rintro e w9 ⟨r, rfl, hpr, hrs, hd, rfl⟩
           rw [runB_false] at hd
           obtain ⟨cn, hx⟩ := FIN.out _ HV.out r hpr hrs hd
           have CN := Lib.hid cn
           have HX := Lib.hid hx
           have HD := Lib.hid hd
           have HPR := Lib.hid hpr
           have hpr2 : p ≤ r := by omega
           have hcut := run_cut 9 Tryd.underlying9 s (p : Int) (r : Int) p r rfl rfl hpr2 hrs
           clear hd cn hx)
        | (go_at_call 42; (with_reducible refine (CN.out _).mono ?_); rintro e w9 ⟨rfl, rfl⟩)
        | fail)
      refine bodyPost_ret (v := .tuple #[.agg #[.int .i64 1, .string (s.extract p r), .int .i64 p], .int .i64 r, .int .i64 0]) (by simp [results, go_sem]) rfl ⟨(Below.refl _ _).alloc (Nat.le_refl _) _, ?_⟩
      rw [HT.out, HX.out]
      exact ⟨r, rfl, HPR.out, hrs, HD.out⟩
end Go.Proofs.YtifinfmdjbglhaaDoor
