/- Contracts of the program's firstQuote, guess. -/
import Derived.Test.YtnanfmmafmcchaaGreatDoorDtNumO
import Derived.Test.YtnanfmmafmcchaaGreatDoorLxFirst
import Derived.Test.YtnanfmmafmcchaaGreatDoorLxLawP
import Derived.Deep.Heap
namespace Go.Proofs.YtnanfmmafmcchaaGreatDoor
open Go.RowKit

theorem tok1_code {after : Bool} {s : Str} {c : Int} (h : tok1 after s = .error c) : c ≠ 0 := by
  cases s with
  | nil => injection h with h; subst h; decide
  | cons d r =>
    rw [tok1] at h
    split at h
    · cases h
    · split at h
      · split at h
        · cases h
        · injection h with h; subst h; decide
      · split at h
        · split at h
          · cases h
          · injection h with h; subst h; decide
        · split at h
          · injection h with h; subst h; decide
          · cases h
theorem lexF_code (n : Nat) : ∀ (f : Nat) (after : Bool) (s : Str) (c : Int) (p : Nat), lexF n f after s = .error (c, p) → c ≠ 0
  | 0, _, _, _, _, h => by cases h
  | f + 1, after, s, c, p, h => by
    rw [lexF] at h
    split at h
    · cases h
    · split at h
      · rename_i e he
        injection h with h
        injection h with h1 h2
        subst h1
        exact tok1_code he
      · split at h
        · rename_i e he
          injection h with h
          subst h
          exact lexF_code n f _ _ _ _ he
        · cases h
theorem tokens_code {s : Str} {c : Int} {p : Nat} (h : tokensS s = .error (c, p)) : c ≠ 0 := by
  unfold tokensS at h
  split at h
  · injection h with h
    injection h with h1 h2
    subst h1
    decide
  · exact lexF_code _ _ _ _ _ _ h
theorem tokens_one {r : Str} {l : List Tok} (h : tokensS (34 :: r) = .ok l) : ∃ t l', l = t :: l' := by
  unfold tokensS at h
  split at h
  · cases h
  · rw [lexF, skip_stay (by rfl) (by rfl)] at h
    dsimp only at h
    split at h
    · cases h
    · split at h
      · cases h
      · injection h with h
        exact ⟨_, _, h.symm⟩

theorem firstQuote_any (s : ByteArray) (w : World) (hs : s.size ≤ 1100000) (h34 : ∃ r, s.toList = 34 :: r) (he : ErrCell w) :
    Calls Tryz.prog 38 #[.string s] w fun e w' => e = .returned (.string (lxS (firstQ s.toList))) ∧ Below w.heap.size w w' := by
  obtain ⟨r, hr⟩ := h34
  cases ht : tokensS s.toList with
  | error q =>
    obtain ⟨c, p⟩ := q
    have hc := tokens_code ht
    have c1 : (c != 0) = true := by rw [bne_iff_ne]; exact hc
    have HF := Lib.hid (show firstQ s.toList = [] by unfold firstQ; rw [ht])
    have C := Lib.hid (tokens_err (s := s) (w := w) hs he ht)
    clear hc ht hr he
    go_enter Tryz.func38, Tryz.ntmps38
    go_wp2_with (first | (go_at_call 19; (with_reducible refine C.out.mono ?_); rintro e w1 ⟨rfl, hb1⟩) | fail)
    go_ret
    exact ⟨ret_str (by rw [HF.out]; rfl), hb1⟩
  | ok l =>
    obtain ⟨t, l', rfl⟩ : ∃ t l', l = t :: l' := by rw [hr] at ht; exact tokens_one ht
    have hct := tokens_count ht
    rw [lxLen] at hct
    have HF := Lib.hid (show firstQ s.toList = t.text by unfold firstQ; rw [ht])
    have C := Lib.hid (tokens_ok (s := s) (w := w) hs he ht (by omega))
    clear ht hr he
    go_enter Tryz.func38, Tryz.ntmps38
    go_wp2_with (first
      | (go_at_call 19; (with_reducible refine C.out.mono ?_)
         rintro e w1 ⟨a, cap, rfl, hs1, _, _, hb1, _⟩
         obtain ⟨b, off, x, rfl, _, hx, x0, x1, x2⟩ := hs1.at_ (k := 0) (by simp)
         rw [Nat.zero_mul, Nat.add_zero] at x0 x1 x2
         have hxt : x.text = t.text := by
           simp only [List.map_cons, List.getElem?_cons_zero] at hx
           injection hx with hx
           rw [← hx]; rfl
         rw [hxt] at x1
         have hlen : 0 < (t :: l').length := by simp
         clear hs1 hx hxt)
      | fail)
    go_ret
    exact ⟨ret_str (by rw [HF.out]), hb1⟩

/-- The value guessed. -/
def GuessAns (w' : World) (base : Nat) (g : Val) (e : Ending) : Prop := ∃ a c, e = .returned (.agg #[.int .i64 g.kind, .int .i64 g.num, .string (lxS g.text), .slice a g.list.length c]) ∧ From base a g.list.length ∧ Nums w' w'.heap.size a g.list.length g.list
theorem lit_eq (l : Str) (s : ByteArray) : (s.toList == l) = decide (s.toList = l) := by
  rw [Bool.eq_iff_iff]
  simp
theorem toList_cut1 (s : ByteArray) : (s.extract 1 s.size).toList = s.toList.drop 1 := by
  rw [toList_cut]

theorem Ints.setOther {w : World} {base : Nat} {v : Value} {l : List Int} (h : Ints w base v l) (p : Addr) (x : Value) (hp : p.block < base) : Ints (w.setCell p x) base v l := by
  rcases h.2 with h0 | ⟨g, cap, cur, rfl, hbase, hh, h1, h2, h3, h4⟩
  · exact ⟨h.1, .inl h0⟩
  · exact ⟨h.1, .inr ⟨g, cap, cur, rfl, hbase, by rw [Go.Deep.blk_setCell_other w p x g (by omega)]; exact hh, h1, h2, h3, h4⟩⟩
theorem pre_one {s : Str} {c : UInt8} (h : Lib.hasPrefix s [c] = true) : ∃ r, s = c :: r := by
  cases s with
  | nil => cases h
  | cons d r =>
    unfold Lib.hasPrefix at h
    have h' : (c == d && List.isPrefixOf [] r) = true := h
    rw [Bool.and_eq_true] at h'
    exact ⟨r, by rw [eq_of_beq h'.1]⟩

set_option maxHeartbeats 4000000 in
set_option maxRecDepth 20000 in
theorem guess_any (s : ByteArray) (w : World) (hs : s.size ≤ 1100000) (hm : Met w) : Calls Tryz.prog 21 #[.string s] w fun e w' => GuessAns w' w.heap.size (guessP s.toList) e ∧ Below w.heap.size w w' := by
  have HM := Lib.hid hm
  have HB := Lib.hid ((Below.refl w.heap.size w).alloc (Nat.le_refl _) (.cells #[.int .i64 0, .int .i64 0, .string ⟨#[]⟩, .slice none 0 0] 24))
  clear hm
  cases e1 : (s.toList == [117, 110, 105, 116])
  · cases e2 : (s.toList == [102, 97, 108, 115, 101])
    · cases e3 : (s.toList == [116, 114, 117, 101])
      · have hne1 : s.toList ≠ [117, 110, 105, 116] := by rw [beq_eq_false_iff_ne] at e1; exact e1
        have hne2 : s.toList ≠ [102, 97, 108, 115, 101] := by rw [beq_eq_false_iff_ne] at e2; exact e2
        have hne3 : s.toList ≠ [116, 114, 117, 101] := by rw [beq_eq_false_iff_ne] at e3; exact e3
        have c1 : ∀ W, Calls Tryz.prog 37 #[.string s, .string ⟨#[34]⟩] W fun e w' => e = .returned (.bool (Lib.hasPrefix s.toList [34])) ∧ w' = W := fun W => by
          have h := Tryz.strings_HasPrefix s ⟨#[34]⟩ W
          rw [data_list] at h
          exact h
        have c2 : ∀ W, Calls Tryz.prog 37 #[.string s, .string ⟨#[91]⟩] W fun e w' => e = .returned (.bool (Lib.hasPrefix s.toList [91])) ∧ w' = W := fun W => by
          have h := Tryz.strings_HasPrefix s ⟨#[91]⟩ W
          rw [data_list] at h
          exact h
        cases h1 : Lib.hasPrefix s.toList [34]
        · rw [h1] at c1
          have C1 := Lib.hid c1
          cases h2 : Lib.hasPrefix s.toList [91]
          · have HF := Lib.hid (show guessP s.toList = ⟨1, numP s.toList, [], []⟩ by unfold guessP; rw [if_neg hne1, if_neg hne2, if_neg hne3, h1, h2]; rfl)
            rw [h2] at c2
            have C2 := Lib.hid c2
            have CN := Lib.hid (fun W (hW : Below w.heap.size w W) => number_any s W hs (HM.out.keep hW))
            clear c1 c2 h1 h2 hne1 hne2 hne3
            go_enter Tryz.func21, Tryz.ntmps21
            go_wp2_with (first
              | (go_at_call 37; (with_reducible refine (C1.out _).mono ?_); rintro e w1 ⟨rfl, rfl⟩)
              | (go_at_call 37; (with_reducible refine (C2.out _).mono ?_); rintro e w1 ⟨rfl, rfl⟩)
              | (go_at_call 41; (with_reducible refine (CN.out _ HB.out).mono ?_)
                 rintro e w1 ⟨rfl, hb1⟩
                 obtain ⟨hcc, hff⟩ := bcell hb1
                 have hzz : w.heap.size < w1.heap.size := by have := hb1.size; simp at this; omega
                 have HB1 := Lib.hid (HB.out.trans (hb1.mono HB.out.size))
                 clear hb1)
              | fail)
            refine bodyPost_ret (v := .agg #[.int .i64 1, .int .i64 (numP s.toList), .string ⟨#[]⟩, .slice none 0 0]) (by simp [results, go_sem, hcc]) rfl ?_
            exact ⟨by rw [HF.out]; exact ⟨none, 0, rfl, From.zero _ _, Nums.zero _ _ _⟩, (((HB1.out.setCell (Nat.le_refl _) _).setCell (Nat.le_refl _) _).setCell (Nat.le_refl _) _).setCell (Nat.le_refl _) _⟩
          · obtain ⟨r, hr⟩ := pre_one h2
            have hpos : 1 ≤ s.size := by rw [← lxLen, hr]; simp
            obtain ⟨T, hT⟩ : ∃ T, T = lxS (Lib.trimSuffix (s.toList.drop 1) [93]) := ⟨_, rfl⟩
            have hTl : T.toList = Lib.trimSuffix (s.toList.drop 1) [93] := by rw [hT, lxS_toList]
            have hTs : T.size ≤ 1100000 := by
              rw [← lxLen, hTl]
              unfold Lib.trimSuffix
              have h0 : (s.toList.drop 1).length ≤ 1100000 := by rw [List.length_drop, lxLen]; omega
              split
              · rw [List.length_take]; omega
              · exact h0
            have HF := Lib.hid (show guessP s.toList = ⟨4, 0, [], numsP T.toList⟩ by unfold guessP; rw [if_neg hne1, if_neg hne2, if_neg hne3, h1, h2, hTl]; rfl)
            rw [h2] at c2
            have C2 := Lib.hid c2
            have ct : ∀ W, Calls Tryz.prog 40 #[.string (s.extract 1 s.size), .string ⟨#[93]⟩] W fun e w' => e = .returned (.string T) ∧ w' = W := fun W => by
              have h := Tryz.strings_TrimSuffix (s.extract 1 s.size) ⟨#[93]⟩ W (by simp; omega)
              rw [data_list, toList_cut1] at h
              rw [hT]
              exact h
            have CT := Lib.hid ct
            have CN := Lib.hid (fun W (hW : Below w.heap.size w W) => numbers_any T W hTs (HM.out.keep hW))
            clear c1 c2 h1 h2 hne1 hne2 hne3 hr ct hT hTl
            go_enter Tryz.func21, Tryz.ntmps21
            go_wp2_with (first
              | (go_at_call 37; (with_reducible refine (C1.out _).mono ?_); rintro e w1 ⟨rfl, rfl⟩)
              | (go_at_call 37; (with_reducible refine (C2.out _).mono ?_); rintro e w1 ⟨rfl, rfl⟩)
              | (go_at_call 40; (with_reducible refine (CT.out _).mono ?_); rintro e w1 ⟨rfl, rfl⟩)
              | (go_at_call 39; (with_reducible refine (CN.out _ HB.out).mono ?_)
                 rintro e w1 ⟨⟨v, rfl, hv⟩, hb1⟩
                 obtain ⟨hcc, hff⟩ := bcell hb1
                 have hzz : w.heap.size < w1.heap.size := by have := hb1.size; simp at this; omega
                 have HB1 := Lib.hid (HB.out.trans (hb1.mono HB.out.size))
                 obtain ⟨a, cap, hvs, _, _, _, _⟩ := hv.sees
                 obtain ⟨nl, hnl⟩ : ∃ nl, nl = (numsP T.toList).length := ⟨_, rfl⟩
                 rw [← hnl] at hvs
                 subst hvs
                 have HNL := Lib.hid hnl
                 have HV := Lib.hid hv
                 clear hb1 hv hnl)
              | fail)
            refine bodyPost_ret (v := .agg #[.int .i64 4, .int .i64 0, .string ⟨#[]⟩, .slice a nl cap]) (by simp [results, go_sem, hcc]) rfl ?_
            refine ⟨?_, (((HB1.out.setCell (Nat.le_refl _) _).setCell (Nat.le_refl _) _).setCell (Nat.le_refl _) _).setCell (Nat.le_refl _) _⟩
            rw [HF.out]
            have hv2 := (((HV.out.setOther ⟨w.heap.size, 0, none⟩ (.int .i64 4) (by simp)).setOther ⟨w.heap.size, 1, none⟩ (.int .i64 0) (by simp)).setOther ⟨w.heap.size, 2, none⟩ (.string ⟨#[]⟩) (by simp)).setOther ⟨w.heap.size, 3, none⟩ (.slice a nl cap) (by simp)
            obtain ⟨a', cap', hvs, _, _, hfr, hn⟩ := hv2.sees
            injection hvs with f1 f2 f3
            subst f1 f3
            exact ⟨_, _, by rw [f2]; rfl, fun h0 => (by obtain ⟨b, o, eb, hb⟩ := hfr h0; exact ⟨b, o, eb, by simp at hb; omega⟩), hn⟩
        · obtain ⟨r, hr⟩ := pre_one h1
          have HF := Lib.hid (show guessP s.toList = ⟨3, 0, firstQ s.toList, []⟩ by unfold guessP; rw [if_neg hne1, if_neg hne2, if_neg hne3, h1]; rfl)
          rw [h1] at c1
          have C1 := Lib.hid c1
          have CN := Lib.hid (fun W (hW : Below w.heap.size w W) => firstQuote_any s W hs ⟨r, hr⟩ (HM.out.keep hW).err)
          clear c1 c2 h1 hne1 hne2 hne3 hr
          go_enter Tryz.func21, Tryz.ntmps21
          go_wp2_with (first
            | (go_at_call 37; (with_reducible refine (C1.out _).mono ?_); rintro e w1 ⟨rfl, rfl⟩)
            | (go_at_call 38; (with_reducible refine (CN.out _ HB.out).mono ?_)
               rintro e w1 ⟨rfl, hb1⟩
               obtain ⟨hcc, hff⟩ := bcell hb1
               have hzz : w.heap.size < w1.heap.size := by have := hb1.size; simp at this; omega
               have HB1 := Lib.hid (HB.out.trans (hb1.mono HB.out.size))
               clear hb1)
            | fail)
          refine bodyPost_ret (v := .agg #[.int .i64 3, .int .i64 0, .string (lxS (firstQ s.toList)), .slice none 0 0]) (by simp [results, go_sem, hcc]) rfl ?_
          exact ⟨by rw [HF.out]; exact ⟨none, 0, rfl, From.zero _ _, Nums.zero _ _ _⟩, (((HB1.out.setCell (Nat.le_refl _) _).setCell (Nat.le_refl _) _).setCell (Nat.le_refl _) _).setCell (Nat.le_refl _) _⟩
      · have HF := Lib.hid (show guessP s.toList = ⟨2, 1, [], []⟩ by rw [eq_of_beq e3]; rfl)
        go_enter Tryz.func21, Tryz.ntmps21
        go_wp2
        refine bodyPost_ret (v := .agg #[.int .i64 2, .int .i64 1, .string ⟨#[]⟩, .slice none 0 0]) (by simp [results, go_sem]) rfl ?_
        exact ⟨by rw [HF.out]; exact ⟨none, 0, rfl, From.zero _ _, Nums.zero _ _ _⟩, (Below.refl _ _).alloc (Nat.le_refl _) _⟩
    · have HF := Lib.hid (show guessP s.toList = ⟨2, 0, [], []⟩ by rw [eq_of_beq e2]; rfl)
      go_enter Tryz.func21, Tryz.ntmps21
      go_wp2
      refine bodyPost_ret (v := .agg #[.int .i64 2, .int .i64 0, .string ⟨#[]⟩, .slice none 0 0]) (by simp [results, go_sem]) rfl ?_
      exact ⟨by rw [HF.out]; exact ⟨none, 0, rfl, From.zero _ _, Nums.zero _ _ _⟩, (Below.refl _ _).alloc (Nat.le_refl _) _⟩
  · have HF := Lib.hid (show guessP s.toList = ⟨0, 0, [], []⟩ by rw [eq_of_beq e1]; rfl)
    go_enter Tryz.func21, Tryz.ntmps21
    go_wp2
    refine bodyPost_ret (v := .agg #[.int .i64 0, .int .i64 0, .string ⟨#[]⟩, .slice none 0 0]) (by simp [results, go_sem]) rfl ?_
    exact ⟨by rw [HF.out]; exact ⟨none, 0, rfl, From.zero _ _, Nums.zero _ _ _⟩, HB.out⟩
end Go.Proofs.YtnanfmmafmcchaaGreatDoor
