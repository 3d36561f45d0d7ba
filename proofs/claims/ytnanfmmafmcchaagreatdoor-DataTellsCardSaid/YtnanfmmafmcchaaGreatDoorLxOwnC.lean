/- Contracts of the program's sign and canonical. -/
import Derived.Test.YtnanfmmafmcchaaGreatDoorLxOwnB
import Derived.Test.YtnanfmmafmcchaaGreatDoorShelf
import Derived.Lib.AtoiErrMem
namespace Go.Proofs.YtnanfmmafmcchaaGreatDoor
open Go.RowKit

theorem data_list (s : ByteArray) : s.data.toList = s.toList := (ByteArray.toList_eq s).symm
theorem lxS_toList' (l : Str) : (⟨l.toArray⟩ : ByteArray).toList = l := by rw [ByteArray.toList_eq]
theorem index_ge : ∀ (l : Str) (c : UInt8), decide ((0 : Int) ≤ Lib.indexByte l c) = l.contains c
  | [], c => rfl
  | b :: l, c => by
    have ih := index_ge l c
    have hge := Lib.indexByte_ge l c
    unfold Lib.indexByte
    rw [List.contains_cons]
    cases h : b == c
    · have h2 : (c == b) = false := by rw [beq_eq_false_iff_ne] at h ⊢; exact fun e => h e.symm
      rw [h2, Bool.false_or, ← ih]
      cases h3 : Lib.indexByte l c == -1
      · simp only [Bool.false_eq_true, if_false]
        rw [beq_eq_false_iff_ne] at h3
        rw [decide_eq_true (show (0 : Int) ≤ Lib.indexByte l c + 1 by omega), decide_eq_true (show (0 : Int) ≤ Lib.indexByte l c by omega)]
      · rw [eq_of_beq h3]
        rfl
    · have h2 : (c == b) = true := by rw [eq_of_beq h]; exact beq_self_eq_true _
      rw [h2, Bool.true_or]
      rfl
theorem byte_back_int (c : UInt8) : ((c.toNat : Nat) : Int).toNat.toUInt8 = c := by
  rw [Int.toNat_natCast]
  exact UInt8.ofNat_toNat
theorem sign_tests (c : UInt8) (r : Str) : signLen (c :: r) = if Lib.hasPrefix (c :: r) [61, 61] || Lib.hasPrefix (c :: r) [45, 62] then 2 else if decide ((0 : Int) ≤ Lib.indexByte signs c) then 1 else 0 := by
  rw [index_ge]
  cases r with
  | nil =>
    have h1 : Lib.hasPrefix [c] [61, 61] = false := by unfold Lib.hasPrefix; simp [List.isPrefixOf]
    have h2 : Lib.hasPrefix [c] [45, 62] = false := by unfold Lib.hasPrefix; simp [List.isPrefixOf]
    rw [h1, h2]
    rfl
  | cons d t =>
    have hp : ∀ x y : UInt8, Lib.hasPrefix (c :: d :: t) [x, y] = (c == x && d == y) := fun x y => by
      unfold Lib.hasPrefix
      simp only [List.isPrefixOf, Bool.and_true]
      rw [Bool.beq_comm (a := x), Bool.beq_comm (a := y)]
    rw [hp, hp]
    rfl

set_option maxHeartbeats 1100000 in
theorem ownSign_any (s : ByteArray) (w : World) (h0 : 0 < s.size) :
    Calls Tryz.prog 72 #[.string s] w fun e w' => e = .returned (.int .i64 (signLen s.toList : Nat)) ∧ w' = w := by
  have H0 := Lib.hid (show s.toList = s[0] :: s.toList.drop 1 from lxDrop s 0 h0)
  have HL := Lib.hid (show signLen s.toList = _ from (congrArg signLen H0.out).trans (sign_tests s[0] (s.toList.drop 1)))
  rw [← H0.out] at HL
  have c1 : ∀ W, Calls Tryz.prog 37 #[.string s, .string ⟨#[61, 61]⟩] W fun e w' => e = .returned (.bool (Lib.hasPrefix s.toList [61, 61])) ∧ w' = W := fun W => by
    have h := Tryz.strings_HasPrefix s ⟨#[61, 61]⟩ W
    rw [data_list] at h
    exact h
  have c2 : ∀ W, Calls Tryz.prog 37 #[.string s, .string ⟨#[45, 62]⟩] W fun e w' => e = .returned (.bool (Lib.hasPrefix s.toList [45, 62])) ∧ w' = W := fun W => by
    have h := Tryz.strings_HasPrefix s ⟨#[45, 62]⟩ W
    rw [data_list] at h
    exact h
  obtain ⟨v, hv⟩ : ∃ v, v = Lib.indexByte signs s[0] := ⟨_, rfl⟩
  have c3 : ∀ W, Calls Tryz.prog 88 #[.string ⟨#[40, 41, 123, 125, 44, 59, 58, 46, 61, 60, 43, 45, 42, 47]⟩, .int .u8 s[0].toNat] W fun e w' => e = .returned (.int .i64 v) ∧ w' = W := fun W => by
    have h := Tryz.strings_IndexByte ⟨#[40, 41, 123, 125, 44, 59, 58, 46, 61, 60, 43, 45, 42, 47]⟩ (s[0].toNat : Nat) W
    rw [byte_back_int] at h
    rw [hv]
    exact h
  rw [← hv] at HL
  have C3 := Lib.hid c3
  clear c3 hv H0
  cases h1 : Lib.hasPrefix s.toList [61, 61]
  · rw [h1] at c1 HL
    have C1 := Lib.hid c1
    cases h2 : Lib.hasPrefix s.toList [45, 62]
    · rw [h2] at c2 HL
      have C2 := Lib.hid c2
      cases h3 : decide ((0 : Int) ≤ v)
      · rw [h3] at HL
        have HF := Lib.hid (show signLen s.toList = 0 from HL.out)
        clear c1 c2 h1 h2 HL
        go_enter Tryz.func72, Tryz.ntmps72
        go_wp2_with (first
          | (go_at_call 37; (with_reducible refine (C1.out _).mono ?_); rintro e w1 ⟨rfl, rfl⟩)
          | (go_at_call 37; (with_reducible refine (C2.out _).mono ?_); rintro e w1 ⟨rfl, rfl⟩)
          | (go_at_call 88; (with_reducible refine (C3.out _).mono ?_); rintro e w1 ⟨rfl, rfl⟩)
          | fail)
        go_ret
        exact ⟨ret_int (by rw [HF.out]; rfl), rfl⟩
      · rw [h3] at HL
        have HF := Lib.hid (show signLen s.toList = 1 from HL.out)
        clear c1 c2 h1 h2 HL
        go_enter Tryz.func72, Tryz.ntmps72
        go_wp2_with (first
          | (go_at_call 37; (with_reducible refine (C1.out _).mono ?_); rintro e w1 ⟨rfl, rfl⟩)
          | (go_at_call 37; (with_reducible refine (C2.out _).mono ?_); rintro e w1 ⟨rfl, rfl⟩)
          | (go_at_call 88; (with_reducible refine (C3.out _).mono ?_); rintro e w1 ⟨rfl, rfl⟩)
          | fail)
        go_ret
        exact ⟨ret_int (by rw [HF.out]; rfl), rfl⟩
    · rw [h2] at c2 HL
      have C2 := Lib.hid c2
      have HF := Lib.hid (show signLen s.toList = 2 from HL.out)
      clear c1 c2 h1 h2 HL
      go_enter Tryz.func72, Tryz.ntmps72
      go_wp2_with (first
        | (go_at_call 37; (with_reducible refine (C1.out _).mono ?_); rintro e w1 ⟨rfl, rfl⟩)
        | (go_at_call 37; (with_reducible refine (C2.out _).mono ?_); rintro e w1 ⟨rfl, rfl⟩)
        | fail)
      go_ret
      exact ⟨ret_int (by rw [HF.out]; rfl), rfl⟩
  · rw [h1] at c1 HL
    have C1 := Lib.hid c1
    have HF := Lib.hid (show signLen s.toList = 2 from HL.out)
    clear c1 c2 h1 HL
    go_enter Tryz.func72, Tryz.ntmps72
    go_wp2_with (first
      | (go_at_call 37; (with_reducible refine (C1.out _).mono ?_); rintro e w1 ⟨rfl, rfl⟩)
      | fail)
    go_ret
    exact ⟨ret_int (by rw [HF.out]; rfl), rfl⟩

/-! ### Numbers -/
theorem foldl_ge : ∀ (l : Str) (u : Nat), u * 10 ^ l.length ≤ l.foldl (fun u c => u * 10 + (c.toNat - 48)) u
  | [], u => by simp
  | c :: l, u => by
    rw [List.foldl_cons, List.length_cons]
    have := foldl_ge l (u * 10 + (c.toNat - 48))
    refine Nat.le_trans ?_ this
    rw [Nat.pow_succ, Nat.mul_comm (10 ^ l.length) 10, ← Nat.mul_assoc]
    exact Nat.mul_le_mul_right _ (Nat.le_add_right _ _)
theorem foldl_le (l : Str) (u : Nat) : u ≤ l.foldl (fun u c => u * 10 + (c.toNat - 48)) u := by
  have := foldl_ge l u
  have h1 : 1 ≤ 10 ^ l.length := Nat.pow_pos (by decide)
  have : u * 1 ≤ u * 10 ^ l.length := Nat.mul_le_mul_left u h1
  omega
theorem dig_range {c : UInt8} (h : digB c = true) : 48 ≤ c.toNat ∧ c.toNat ≤ 57 := by
  unfold digB isDig at h
  simp only [Bool.and_eq_true, decide_eq_true_eq] at h
  omega
theorem parse_digits : ∀ (l : Str) (acc : Nat), l.all digB = true → acc < 18446744073709551616 →
    Lib.parseUintM (2 ^ 64 - 1) acc l = if l.foldl (fun u c => u * 10 + (c.toNat - 48)) acc < 18446744073709551616 then .ok (l.foldl (fun u c => u * 10 + (c.toNat - 48)) acc) else .range
  | [], acc, _, ha => by rw [List.foldl_nil, if_pos ha]; rfl
  | c :: l, acc, h, ha => by
    rw [List.all_cons, Bool.and_eq_true] at h
    have hr := dig_range h.1
    have hle := foldl_le l (acc * 10 + (c.toNat - 48))
    unfold Lib.parseUintM
    rw [if_pos hr, List.foldl_cons]
    by_cases h1 : 1844674407370955162 ≤ acc
    · rw [if_pos h1, if_neg (by omega)]
    · rw [if_neg h1]
      by_cases h2 : 2 ^ 64 - 1 < acc * 10 + (c.toNat - 48)
      · rw [if_pos h2, if_neg (by omega)]
      · rw [if_neg h2]
        exact parse_digits l _ h.2 (by omega)
/-- The text of digits, or of a minus and digits. -/
def digitsS (s : Str) : Prop := ∃ (neg : Bool) (c : UInt8) (d : Str), s = (if neg then 45 :: c :: d else c :: d) ∧ digB c = true ∧ d.all digB = true
theorem digits_trim {s : Str} {neg : Bool} {c : UInt8} {d : Str} (h : s = (if neg then 45 :: c :: d else c :: d)) (hc : digB c = true) : Lib.trimPrefix s [45] = c :: d := by
  have hr := dig_range hc
  subst h
  cases neg
  · show (if Lib.hasPrefix (c :: d) [45] then _ else _) = _
    have : Lib.hasPrefix (c :: d) [45] = false := by
      unfold Lib.hasPrefix
      simp only [List.isPrefixOf, Bool.and_true]
      rw [beq_eq_false_iff_ne]
      intro e
      subst e
      revert hr; decide
    rw [this]; rfl
  · show (if Lib.hasPrefix (45 :: c :: d) [45] then _ else _) = _
    have : Lib.hasPrefix (45 :: c :: d) [45] = true := by
      unfold Lib.hasPrefix
      simp [List.isPrefixOf]
    rw [this]; rfl
theorem numeral_digits {s : Str} {neg : Bool} {c : UInt8} {d : Str} (h : s = (if neg then 45 :: c :: d else c :: d)) (hc : digB c = true) (hd : d.all digB = true) :
    numeral s = (decide (d.length < 19) && !(c == 48 && decide (1 < s.length)) && (if neg then decide (valU (c :: d) ≤ 9223372036854775808) else decide (valU (c :: d) < 9223372036854775808))) := by
  have hr := dig_range hc
  have h45 : (some c == some (45 : UInt8)) = false := by
    rw [beq_eq_false_iff_ne]
    intro e
    injection e with e
    subst e
    revert hr; decide
  have hall : (c :: d).all digB = true := by rw [List.all_cons, hc, hd]; rfl
  have hl : decide ((c :: d).length ≤ 19) = decide (d.length < 19) := by
    rw [List.length_cons]
    rw [decide_eq_decide]; omega
  have hhd : ((c :: d).head? == some 48) = (c == 48) := by
    rw [List.head?_cons]
    rfl
  cases neg
  · subst h
    unfold numeral
    simp only [List.head?_cons, h45, Bool.false_eq_true, if_false]
    show (decide (1 ≤ (c :: d).length) && decide ((c :: d).length ≤ 19) && !((c :: d).head? == some 48 && decide (1 < (c :: d).length)) && (c :: d).all digB && (if (c :: d).length < (c :: d).length then _ else _)) = _
    rw [hall, hl, hhd, decide_eq_true (show 1 ≤ (c :: d).length by simp), Bool.true_and, Bool.and_true, if_neg (Nat.lt_irrefl _)]
    try rfl
  · subst h
    unfold numeral
    show (let t := (if (some (45 : UInt8) == some 45) then c :: d else _); decide (1 ≤ t.length) && decide (t.length ≤ 19) && !(t.head? == some 48 && decide (1 < (45 :: c :: d).length)) && t.all digB && (if t.length < (45 :: c :: d).length then _ else _)) = _
    rw [if_pos (by rfl)]
    show (decide (1 ≤ (c :: d).length) && decide ((c :: d).length ≤ 19) && !((c :: d).head? == some 48 && decide (1 < (45 :: c :: d).length)) && (c :: d).all digB && (if (c :: d).length < (45 :: c :: d).length then _ else _)) = _
    rw [hall, hl, hhd, decide_eq_true (show 1 ≤ (c :: d).length by simp), Bool.true_and, Bool.and_true, if_pos (by simp)]
    try rfl
theorem valU_long {c : UInt8} {d : Str} (hc : digB c = true) (h0 : (c == 48) = false) (h : ¬ d.length < 19) : 9223372036854775808 < valU (c :: d) := by
  have hr := dig_range hc
  have h1 : 1 ≤ c.toNat - 48 := by
    rcases Nat.lt_or_ge 48 c.toNat with h | h
    · omega
    · have : c.toNat = 48 := by omega
      have : c = 48 := UInt8.toNat_inj.1 this
      rw [this] at h0
      cases h0
  have h2 := foldl_ge d (0 * 10 + (c.toNat - 48))
  have h3 : (10 : Nat) ^ 19 ≤ 10 ^ d.length := Nat.pow_le_pow_right (by decide) (by omega)
  have h4 : 1 * 10 ^ d.length ≤ (0 * 10 + (c.toNat - 48)) * 10 ^ d.length := Nat.mul_le_mul_right _ (by omega)
  show _ < d.foldl _ (0 * 10 + (c.toNat - 48))
  refine Nat.lt_of_lt_of_le ?_ h2
  refine Nat.lt_of_lt_of_le ?_ h4
  rw [Nat.one_mul]
  refine Nat.lt_of_lt_of_le ?_ h3
  decide
/-- How ParseInt ends at such a text that does not begin with a zero. -/
theorem parse_ends {s : Str} {neg : Bool} {c : UInt8} {d : Str} (h : s = (if neg then 45 :: c :: d else c :: d)) (hc : digB c = true) (hd : d.all digB = true) (h0 : (c == 48) = false) :
    (numeral s = true ∧ ∃ v, Lib.parseIntB 64 s = .ok v) ∨ (numeral s = false ∧ Lib.parseIntB 64 s = .range) := by
  have hr := dig_range hc
  have hall : (c :: d).all digB = true := by rw [List.all_cons, hc, hd]; rfl
  have hp := parse_digits (c :: d) 0 hall (by decide)
  have hn := numeral_digits h hc hd
  rw [h0, Bool.false_and, Bool.not_false, Bool.and_true] at hn
  have hlong := valU_long (d := d) hc h0
  have hv : valU (c :: d) = (c :: d).foldl (fun u c => u * 10 + (c.toNat - 48)) 0 := rfl
  rw [← hv] at hp
  have hu : Lib.parseUintB 64 (c :: d) = if valU (c :: d) < 18446744073709551616 then .ok (valU (c :: d)) else .range := by
    unfold Lib.parseUintB
    rw [if_neg (by simp)]
    exact hp
  generalize valU (c :: d) = V at hn hp hu hlong
  cases neg
  · have hs : s = c :: d := h
    subst hs
    have c43 : ¬ (c.toNat = 43 ∨ c.toNat = 45) := by omega
    have c45 : ¬ c.toNat = 45 := by omega
    have hpi : Lib.parseIntB 64 (c :: d) = match Lib.parseUintB 64 (c :: d) with
        | .syntax => .syntax
        | .range => .range
        | .ok u => if 9223372036854775808 ≤ u then .range else .ok (u : Int) := by
      unfold Lib.parseIntB
      dsimp only
      rw [if_neg c43]
      cases Lib.parseUintB 64 (c :: d) with
      | «syntax» => rfl
      | range => rfl
      | ok u => simp only [c45, not_false_eq_true, true_and, false_and, if_false]; try rfl
    rw [hu] at hpi
    simp only [Bool.false_eq_true, if_false] at hn
    by_cases h1 : V < 18446744073709551616
    · rw [if_pos h1] at hpi
      by_cases h2 : 9223372036854775808 ≤ V
      · refine .inr ⟨?_, ?_⟩
        · rw [hn, decide_eq_false (show ¬ V < 9223372036854775808 by omega), Bool.and_false]
        · rw [hpi]; exact if_pos h2
      · refine .inl ⟨?_, V, ?_⟩
        · rw [hn, decide_eq_true (show V < 9223372036854775808 by omega), Bool.and_true, decide_eq_true]
          exact Classical.byContradiction fun h3 => by have := hlong h3; omega
        · rw [hpi]; exact if_neg h2
    · rw [if_neg h1] at hpi
      refine .inr ⟨?_, hpi⟩
      rw [hn, decide_eq_false (show ¬ V < 9223372036854775808 by omega), Bool.and_false]
  · have hs : s = 45 :: c :: d := h
    subst hs
    have hpi : Lib.parseIntB 64 (45 :: c :: d) = match Lib.parseUintB 64 (c :: d) with
        | .syntax => .syntax
        | .range => .range
        | .ok u => if 9223372036854775808 < u then .range else .ok (-(u : Int)) := by
      unfold Lib.parseIntB
      dsimp only
      rw [if_pos (show (45 : UInt8).toNat = 43 ∨ (45 : UInt8).toNat = 45 from .inr rfl)]
      cases Lib.parseUintB 64 (c :: d) with
      | «syntax» => rfl
      | range => rfl
      | ok u => simp only [show (45 : UInt8).toNat = 45 from rfl, not_true_eq_false, false_and, true_and, if_false, if_true]; try rfl
    rw [hu] at hpi
    simp only [if_true] at hn
    by_cases h1 : V < 18446744073709551616
    · rw [if_pos h1] at hpi
      by_cases h2 : 9223372036854775808 < V
      · refine .inr ⟨?_, ?_⟩
        · rw [hn, decide_eq_false (show ¬ V ≤ 9223372036854775808 by omega), Bool.and_false]
        · rw [hpi]; exact if_pos h2
      · refine .inl ⟨?_, -(V : Int), ?_⟩
        · rw [hn, decide_eq_true (show V ≤ 9223372036854775808 by omega), Bool.and_true, decide_eq_true]
          exact Classical.byContradiction fun h3 => by have := hlong h3; omega
        · rw [hpi]; exact if_neg h2
    · rw [if_neg h1] at hpi
      refine .inr ⟨?_, hpi⟩
      rw [hn, decide_eq_false (show ¬ V ≤ 9223372036854775808 by omega), Bool.and_false]

/-- The variable that an error out of range is made with holds an error (as at the start). -/
def ErrCell (w : World) : Prop := 2 < w.heap.size ∧ ∃ te pe, w.cell? ⟨2, 0, none⟩ = some (.iface te pe)
theorem ErrCell.keep {w w' : World} (h : ErrCell w) (hb : Below w.heap.size w w') : ErrCell w' := by
  obtain ⟨h1, te, pe, h2⟩ := h
  exact ⟨Nat.lt_of_lt_of_le h1 hb.size, te, pe, by rw [hb.cell h1]; exact h2⟩

set_option maxHeartbeats 1100000 in
theorem ownCanonical_any (s : ByteArray) (w : World) (hs : s.size ≤ 1100000) (hd : digitsS s.toList) (he : ErrCell w) :
    Calls Tryz.prog 55 #[.string s] w fun e w' => e = .returned (.bool (numeral s.toList)) ∧ Below w.heap.size w w' := by
  obtain ⟨neg, c, d, hsd, hc, hdd⟩ := hd
  have ht := digits_trim hsd hc
  obtain ⟨T, hT, hTl⟩ : ∃ T : ByteArray, T = ⟨(Lib.trimPrefix s.toList [45]).toArray⟩ ∧ T.toList = c :: d := ⟨_, rfl, by rw [ht]; exact lxS_toList' _⟩
  have cp : ∀ W, Calls Tryz.prog 73 #[.string s, .string ⟨#[45]⟩] W fun e w' => e = .returned (.string T) ∧ w' = W := fun W => by
    have h := Tryz.strings_TrimPrefix s ⟨#[45]⟩ W
    rw [data_list] at h
    rw [hT]
    exact h
  have CP := Lib.hid cp
  have hT0 : 0 < T.size := by rw [← lxLen, hTl]; simp
  have hg : T[0] = c := by
    have := lxDrop T 0 hT0
    rw [List.drop_zero, hTl] at this
    injection this with h1 h2
    exact h1.symm
  have e1 : (((T[0].toNat : Nat) : Int) == 48) = (c == 48) := by rw [hg]; exact byte_is c 48 (by omega)
  cases h0 : (c == 48)
  · rw [h0] at e1
    rcases parse_ends hsd hc hdd h0 with ⟨hn, v, hv⟩ | ⟨hn, hv⟩
    · have ci : ∀ W, Calls Tryz.prog 60 #[.string s, .int .i64 10, .int .i64 64] W fun e w' => e = .returned (.tuple #[.int .i64 v, .nilIface]) ∧ Below W.heap.size W w' := fun W =>
        (Tryz.strconv_ParseInt_10_at64_ok s (by omega) v (by rw [data_list]; exact hv) W).mono fun e w' h => ⟨h.1, by
          rcases h.2 with rfl | ⟨t, rfl⟩
          · exact Below.refl _ _
          · exact Lib.bytesWorld_below W _ t⟩
      have CI := Lib.hid ci
      have HF := Lib.hid hn
      clear cp ci hn hv ht hT hTl hsd hc hdd hg h0
      go_enter Tryz.func55, Tryz.ntmps55
      go_wp2_with (first
        | (go_at_call 73; (with_reducible refine (CP.out _).mono ?_); rintro e w1 ⟨rfl, rfl⟩)
        | (go_at_call 60; (with_reducible refine (CI.out _).mono ?_); rintro e w1 ⟨rfl, hb1⟩)
        | fail)
      go_ret
      exact ⟨ret_bool HF.out.symm, hb1⟩
    · obtain ⟨he1, te, pe, he2⟩ := he
      have ci : Calls Tryz.prog 60 #[.string s, .int .i64 10, .int .i64 64] w fun e w' => ∃ N, e = .returned (.tuple #[.int .i64 (Lib.intSat 64 s.toList), .iface 107 (.pointer (some ⟨N, 0, none⟩))]) ∧ Below w.heap.size w w' :=
        (Tryz.strconv_ParseInt_10_at64_range s (by omega) (by rw [data_list]; exact hv) (.iface te pe) w he2 (.inr ⟨te, pe, rfl⟩)).mono fun e w' h => by
          obtain ⟨N, h1, h2, h3, h4⟩ := h
          rw [data_list] at h1
          exact ⟨N, h1, h4⟩
      have CI := Lib.hid ci
      have HF := Lib.hid hn
      clear cp ci hn hv ht hT hTl hsd hc hdd hg h0
      go_enter Tryz.func55, Tryz.ntmps55
      go_wp2_with (first
        | (go_at_call 73; (with_reducible refine (CP.out _).mono ?_); rintro e w1 ⟨rfl, rfl⟩)
        | (go_at_call 60; (with_reducible refine CI.out.mono ?_); rintro e w1 ⟨N, rfl, hb1⟩)
        | fail)
      go_ret
      exact ⟨ret_bool HF.out.symm, hb1⟩
  · rw [h0] at e1
    have hn := numeral_digits hsd hc hdd
    have hsz : numeral s.toList = (s.toList == [48]) := by
      rw [hn, h0, Bool.true_and]
      have hc48 := eq_of_beq h0
      cases neg
      · have hsd' : s.toList = c :: d := hsd
        rw [hsd', hc48]
        cases d with
        | nil => rfl
        | cons x y =>
          rw [decide_eq_true (show 1 < (48 :: x :: y).length by simp)]
          show (_ && false && _) = _
          rw [Bool.and_false, Bool.false_and]
          symm
          rw [beq_eq_false_iff_ne]
          intro e
          cases e
      · have hsd' : s.toList = 45 :: c :: d := hsd
        rw [hsd', decide_eq_true (show 1 < (45 :: c :: d).length by simp)]
        show (_ && false && _) = _
        rw [Bool.and_false, Bool.false_and]
        symm
        rw [beq_eq_false_iff_ne]
        intro e
        cases e
    have HF := Lib.hid hsz
    clear cp hn hsz ht hT hTl hsd hc hdd hg h0
    go_enter Tryz.func55, Tryz.ntmps55
    go_wp2_with (first
      | (go_at_call 73; (with_reducible refine (CP.out _).mono ?_); rintro e w1 ⟨rfl, rfl⟩)
      | fail)
    go_ret
    exact ⟨ret_bool HF.out.symm, Below.refl _ _⟩
end Go.Proofs.YtnanfmmafmcchaaGreatDoor
