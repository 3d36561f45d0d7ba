/- The law LexJoined returns true for all texts: of two texts with a sign between, the tokens are those of both. -/
import Derived.Test.YtifinfmdjbglhaaDoorLxLawP
import Derived.BigFrame
namespace Go.Proofs.YtifinfmdjbglhaaDoor
open Go.RowKit

theorem run_append_zero (w : World) {base : Nat} {v : Value} {l : List Tok} (h : Toks w base v l) (ty c : Nat) : (Builtin.append_ #[22, 22] ty #[v, .slice none 0 c]).run Tryd.prog w = .ok v w := by
  obtain ⟨i0, hi0, hzz⟩ := Option.map_eq_some_iff.1 info_tok
  rcases h.2 with ⟨rfl, h1⟩ | ⟨g, cap, cur, rfl, _, _, hnc, _⟩
  · simp [Builtin.append_, run_underlying Tryd.underlying22, sizeOf, typeInfo, hi0, Builtin.lenOf, Builtin.firstCells]
  · simp [Builtin.append_, run_underlying Tryd.underlying22, sizeOf, typeInfo, hi0, Builtin.lenOf, Builtin.firstCells, hnc, storeCells]
set_option maxRecDepth 20000 in
/-- An append of a slice of tokens that may be read to one that the call made. -/
theorem Toks.join {w : World} {base bound : Nat} {v : Value} {l l2 : List Tok} (h : Toks w base v l) (hb : base ≤ w.heap.size) {a : Option Addr} {m : Nat} (c : Nat) (hs : Sees w bound a m (l2.map Tok.asI)) (hlim : l.length + m ≤ 1000000) (ty : Nat) :
    ∃ v' w', (Builtin.append_ #[22, 22] ty #[v, .slice a m c]).run Tryd.prog w = .ok v' w' ∧
      Toks w' base v' (l ++ l2) ∧ ∀ B, B ≤ base → ∀ w0, Below B w0 w → Below B w0 w' := by
  have hm : l2.length = m := by have := hs.1; simpa using this
  rcases a with _ | ad
  · have h0 : m = 0 := by
      rcases Nat.eq_zero_or_pos m with h0 | h0
      · exact h0
      · obtain ⟨b, off, h, _⟩ := hs.2.2 h0
        cases h
    subst h0
    have hl : l2 = [] := List.eq_nil_of_length_eq_zero hm
    subst hl
    exact ⟨v, w, run_append_zero w h ty c, by rw [List.append_nil]; exact h, fun _ _ _ hw => hw⟩
  · obtain ⟨i0, hi0, hzz⟩ := Option.map_eq_some_iff.1 info_tok
    simp only [Prod.mk.injEq] at hzz
    obtain ⟨hz, hs1, hb1⟩ := hzz
    have hcells : ∀ j u, (encToks l2)[j]? = some u → w.cell? (ad.add j) = some u := by
      intro j u hu
      have hj : j < (encToks l2).length := by
        rcases Nat.lt_or_ge j (encToks l2).length with h | h
        · exact h
        · rw [List.getElem?_eq_none h] at hu; cases hu
      rw [encToks_len] at hj
      obtain ⟨b, off, h, _, hc⟩ := hs.2.2 (by omega)
      obtain rfl := Option.some.inj h
      rw [Go.WideShapes.add_plain]
      have hq : j / 3 < l2.length := by omega
      have hx : (l2.map Tok.asI)[j / 3]? = some (l2[j / 3]).asI := by rw [List.getElem?_map, List.getElem?_eq_getElem hq]; rfl
      obtain ⟨h0, h1, h2⟩ := hc _ _ hx
      have hget : ∀ (l : List Tok) (j : Nat) (t : Tok), l[j]? = some t → ∀ i, i < 3 → (encToks l)[j * 3 + i]? = (encTok t)[i]? := by
        intro l
        induction l with
        | nil => intro j t h; cases h
        | cons x l ih =>
          intro j t h i hi
          show (List.flatMap encTok (x :: l))[_]? = _
          rw [List.flatMap_cons]
          cases j with
          | zero =>
            injection h with h
            subst h
            rw [Nat.zero_mul, Nat.zero_add, List.getElem?_append_left (by show i < 3; exact hi)]
          | succ j =>
            rw [List.getElem?_append_right (by show 3 ≤ _; omega)]
            show (encToks l)[(j + 1) * 3 + i - 3]? = _
            rw [show (j + 1) * 3 + i - 3 = j * 3 + i by omega]
            exact ih j t h i hi
      have hg := hget l2 (j / 3) _ (List.getElem?_eq_getElem hq) (j % 3) (by omega)
      rw [show j / 3 * 3 + j % 3 = j by omega, hu] at hg
      rcases (show j % 3 = 0 ∨ j % 3 = 1 ∨ j % 3 = 2 by omega) with e | e | e
      · rw [e] at hg
        rw [show off + j = off + j / 3 * 3 by omega, h0]
        exact hg.symm
      · rw [e] at hg
        rw [show off + j = off + j / 3 * 3 + 1 by omega, h1]
        exact hg.symm
      · rw [e] at hg
        rw [show off + j = off + j / 3 * 3 + 2 by omega, h2]
        exact hg.symm
    obtain ⟨v', w', hrun, hown, hgr, _, _⟩ := run_append_own_at (P := Tryd.prog) w base 22 ty 35 i0 _ 3 32 Tryd.underlying22 hi0 hz hs1 hb1 rfl (by omega) v l.length (encToks l) h
      ad m c (encToks l2) (by rw [encToks_len, hm]) hcells
      (fun u hu => by
        unfold encToks at hu
        obtain ⟨t, _, ht⟩ := List.mem_flatMap.1 hu
        unfold encTok at ht
        simp only [List.mem_cons, List.not_mem_nil, or_false] at ht
        rcases ht with rfl | rfl | rfl <;> rfl) (by unfold maxLen; omega) (by omega) hb
    refine ⟨v', w', hrun, ?_, fun B hB w0 hw0 => ?_⟩
    · unfold Toks encToks
      rw [List.length_append, hm, List.flatMap_append]
      exact hown
    · exact hw0.grown hgr (by omega) (fun k hk => by have := h.lt k hk; omega)

/-- An append of a slice of tokens, for the walk; the operation may stand behind a guard that says yes. -/
theorem wpList_append_join {ops : Array Oper} {rest : List Oper} {o : Oper} {a : Act} {Q : Exit → Act → World → Prop} {W : World} (hwant : Region.wanted o (yielded ops a.tmps) = true) (s x : Operand)
    (ho : o.op = .call { callee := .builtin .append, args := #[s, x], argTypes := #[22, 22] }) (base bound : Nat) (v : Value) (l l2 : List Tok) (ad : Option Addr) (m c : Nat)
    (hs : a.eval s = v) (hx : a.eval x = .slice ad m c) (hB : Toks W base v l) (hb : base ≤ W.heap.size) (hS : Sees W bound ad m (l2.map Tok.asI)) (hlim : l.length + m ≤ 1000000)
    (w0 : World) (hw : Below base w0 W)
    (h : ∀ v' w', Toks w' base v' (l ++ l2) → Below base w0 w' → wpList Tryd.prog ops Q rest (a.put o.dst v') w') : wpList Tryd.prog ops Q (o :: rest) a W := by
  obtain ⟨v', w', hrun, hown, hbel⟩ := hB.join hb c hS hlim o.type
  exact BigFrame.wpList_want hwant fun K hK => by
    unfold Oper.wp execOp
    simp only [ho, resolve, invoke, builtin, Sem.run_bind, Sem.run_pure, Result.andThen_ok, List.map_toArray, List.map_cons, List.map_nil, hs, hx, hrun]
    exact hK _ _ (h v' w' hown (hbel base (Nat.le_refl _) w0 hw))

theorem Toks.sees_n {w : World} {base n : Nat} {v : Value} {l : List Tok} (h : Toks w base v l) (hn : l.length = n) (hl : n ≤ 1000000) :
    ∃ a cap, v = .slice a n cap ∧ Sees w w.heap.size a n (l.map Tok.asI) := by
  subst hn
  obtain ⟨a, cap, h1, _, _, h4⟩ := h.sees (by omega)
  exact ⟨a, cap, h1, h4⟩
theorem sameB_app {x y x2 y2 : List TokI} (h : sameB false x y = true) (h2 : sameB false x2 y2 = true) : sameB false (x ++ x2) (y ++ y2) = true := by
  induction x generalizing y with
  | nil => cases y with
    | nil => exact h2
    | cons _ _ => cases h
  | cons a x ih => cases y with
    | nil => cases h
    | cons b y =>
      rw [sameB, Bool.and_eq_true] at h
      rw [List.cons_append, List.cons_append, sameB, h.1, ih h.2]; rfl
theorem sameB_moved (d : Nat) : ∀ l : List Tok, sameB false ((l.map (Tok.moved d)).map Tok.asI) (l.map Tok.asI) = true
  | [] => rfl
  | t :: l => by
    rw [List.map_cons, List.map_cons, List.map_cons, sameB, sameB_moved d l]
    simp [Tok.moved, Tok.asI]
theorem sameB_joined (n d : Nat) (l1 l2 : List Tok) : sameB false ((l1 ++ (⟨3, [59], n⟩ : Tok) :: l2.map (Tok.moved d)).map Tok.asI) (([] ++ l1 ++ [(⟨3, [59], 0⟩ : Tok)] ++ l2).map Tok.asI) = true := by
  rw [List.nil_append, List.append_assoc, List.map_append, List.map_append, List.cons_append, List.nil_append, List.map_cons, List.map_cons]
  refine sameB_app (sameB_refl _ _) ?_
  rw [sameB, sameB_moved]
  rfl

theorem tokens_joined (a b : Str) (ha : a.length ≤ 1000) (hb : b.length ≤ 1000) :
    tokensS (a ++ 10 :: 59 :: 10 :: b) = match tokensS a with
      | .error e => .error e
      | .ok l => match tokensS b with
        | .error e => .error (e.1, e.2 + (a.length + 3))
        | .ok l2 => .ok (l ++ ⟨3, [59], a.length + 1⟩ :: l2.map (Tok.moved (a.length + 3))) := by
  have hl : (a ++ 10 :: 59 :: 10 :: b).length = a.length + 3 + b.length := by simp; omega
  unfold tokensS
  rw [if_neg (by omega), if_neg (by omega), if_neg (by omega), hl]
  have h := lexF_joined b a.length (a.length + 1) false a (by omega) (Nat.le_refl _)
  rw [show a.length + 3 + b.length + 1 = a.length + 1 + 3 + b.length by omega, h]
  cases lexF a.length (a.length + 1) false a with
  | error e => rfl
  | ok l =>
    dsimp only
    have h2 := lexF_shift b.length (a.length + 3) (b.length + 1) false b (Nat.le_refl _)
    rw [show a.length + 3 + b.length = b.length + (a.length + 3) by omega, h2]
    cases lexF b.length (b.length + 1) false b with
    | error e => rfl
    | ok l2 => rfl

theorem joined_bytes (a b : ByteArray) : (a ++ ⟨#[10, 59, 10]⟩ ++ b : ByteArray).toList = a.toList ++ 10 :: 59 :: 10 :: b.toList := by
  rw [ByteArray.toList_eq, ByteArray.data_append, ByteArray.data_append, ByteArray.toList_eq, ByteArray.toList_eq]
  simp

set_option maxHeartbeats 2000000 in
set_option maxRecDepth 20000 in
theorem lexJoined_walk (a b : ByteArray) (w : World) (he : ErrCell w) : Calls Tryd.prog 8 #[.string a, .string b] w fun e w' => e = .returned (.bool true) ∧ Below w.heap.size w w' := by
  have HE := Lib.hid he
  clear he
  by_cases ha : a.size ≤ 1000
  · have b1 : decide ((1000 : Int) < (a.size : Int)) = false := decide_eq_false (by omega)
    by_cases hb : b.size ≤ 1000
    · have b2 : decide ((1000 : Int) < (b.size : Int)) = false := decide_eq_false (by omega)
      have hj := tokens_joined a.toList b.toList (by rw [lxLen]; exact ha) (by rw [lxLen]; exact hb)
      rw [← joined_bytes] at hj
      have hz : (a ++ ⟨#[10, 59, 10]⟩ ++ b : ByteArray).size ≤ 1000000 := by rw [← lxLen, joined_bytes]; simp [lxLen]; omega
      cases hta : tokensS a.toList with
      | error e1 =>
        obtain ⟨ec, ep⟩ := e1
        rw [hta] at hj
        dsimp only at hj
        obtain ⟨hp, hc⟩ := tokens_errs (by rw [lxLen]; omega) hta
        have hcz : ((ec : Int) == 0) = false := by rw [beq_eq_false_iff_ne]; exact hc
        have hcn : ((ec : Int) != 0) = true := by unfold bne; rw [hcz]; rfl
        have C1 := Lib.hid (fun W (hW : ErrCell W) => tokens_err (s := a) (w := W) (by omega) hW hta)
        have C3 := Lib.hid (fun W (hW : ErrCell W) => tokens_err (s := a ++ ⟨#[10, 59, 10]⟩ ++ b) (w := W) hz hW hj)
        cases htb : tokensS b.toList with
        | error e2 =>
          obtain ⟨fc, fp⟩ := e2
          have C2 := Lib.hid (fun W (hW : ErrCell W) => tokens_err (s := b) (w := W) (by omega) hW htb)
          clear hj hta htb hc
          go_enter Tryd.func8, Tryd.ntmps8
          go_wp2_with (first
            | (go_at_call 10; (with_reducible refine (lexFirst_any _ HE.out).mono ?_); rintro e w1 ⟨rfl, hb1⟩
               have HB1 := Lib.hid hb1
               clear hb1)
            | (go_at_call 11; (with_reducible refine (C1.out _ (HE.out.keep HB1.out)).mono ?_)
               rintro e w2 ⟨rfl, hb2⟩
               have HB2 := Lib.hid (HB1.out.trans (hb2.mono HB1.out.size))
               clear hb2)
            | (go_at_call 11; (with_reducible refine (C2.out _ (HE.out.keep HB2.out)).mono ?_)
               rintro e w3 ⟨rfl, hb3⟩
               have HB3 := Lib.hid (HB2.out.trans (hb3.mono HB2.out.size))
               clear hb3)
            | (go_at_call 11; (with_reducible refine (C3.out _ (HE.out.keep HB3.out)).mono ?_)
               rintro e w4 ⟨rfl, hb4⟩
               have HB4 := Lib.hid (HB3.out.trans (hb4.mono HB3.out.size))
               clear hb4)
            | fail)
          go_ret
          exact ⟨rfl, HB4.out⟩
        | ok l2 =>
          have n2 := tokens_count htb
          rw [lxLen] at n2
          have C2 := Lib.hid (fun W (hW : ErrCell W) => tokens_ok (s := b) (w := W) (by omega) hW htb (by omega))
          clear hj hta htb hc
          go_enter Tryd.func8, Tryd.ntmps8
          go_wp2_with (first
            | (go_at_call 10; (with_reducible refine (lexFirst_any _ HE.out).mono ?_); rintro e w1 ⟨rfl, hb1⟩
               have HB1 := Lib.hid hb1
               clear hb1)
            | (go_at_call 11; (with_reducible refine (C1.out _ (HE.out.keep HB1.out)).mono ?_)
               rintro e w2 ⟨rfl, hb2⟩
               have HB2 := Lib.hid (HB1.out.trans (hb2.mono HB1.out.size))
               clear hb2)
            | (go_at_call 11; (with_reducible refine (C2.out _ (HE.out.keep HB2.out)).mono ?_)
               rintro e w3 ⟨a2, c2, rfl, hs3, hc3, hm3, hb3, _⟩
               have HB3 := Lib.hid (HB2.out.trans (hb3.mono HB2.out.size))
               clear hb3 hs3)
            | (go_at_call 11; (with_reducible refine (C3.out _ (HE.out.keep HB3.out)).mono ?_)
               rintro e w4 ⟨rfl, hb4⟩
               have HB4 := Lib.hid (HB3.out.trans (hb4.mono HB3.out.size))
               clear hb4)
            | fail)
          go_ret
          exact ⟨rfl, HB4.out⟩
      | ok l1 =>
        cases htb : tokensS b.toList with
        | error e2 =>
          obtain ⟨fc, fp⟩ := e2
          rw [hta, htb] at hj
          dsimp only at hj
          rw [lxLen] at hj
          obtain ⟨hp, hc⟩ := tokens_errs (by rw [lxLen]; omega) htb
          have hcz : ((fc : Int) == 0) = false := by rw [beq_eq_false_iff_ne]; exact hc
          have hcn : ((fc : Int) != 0) = true := by unfold bne; rw [hcz]; rfl
          rw [lxLen] at hp
          have hpos : (((fp + (a.size + 3) : Nat) : Int) == (a.size : Int) + 3 + (fp : Int)) = true := by rw [beq_iff_eq]; omega
          have n1 := tokens_count hta
          rw [lxLen] at n1
          have C1 := Lib.hid (fun W (hW : ErrCell W) => tokens_ok (s := a) (w := W) (by omega) hW hta (by omega))
          have C2 := Lib.hid (fun W (hW : ErrCell W) => tokens_err (s := b) (w := W) (by omega) hW htb)
          obtain ⟨P, hP⟩ : ∃ P, P = fp + (a.size + 3) := ⟨_, rfl⟩
          rw [← hP] at hj hpos
          have C3 := Lib.hid (fun W (hW : ErrCell W) => tokens_err (s := a ++ ⟨#[10, 59, 10]⟩ ++ b) (w := W) hz hW hj)
          clear hj hta htb hc hP
          go_enter Tryd.func8, Tryd.ntmps8
          go_wp2_with (first
            | (go_at_call 10; (with_reducible refine (lexFirst_any _ HE.out).mono ?_); rintro e w1 ⟨rfl, hb1⟩
               have HB1 := Lib.hid hb1
               clear hb1)
            | (go_at_call 11; (with_reducible refine (C1.out _ (HE.out.keep HB1.out)).mono ?_)
               rintro e w2 ⟨a1, c1, rfl, hs2, hc2, hm2, hb2, _⟩
               have HB2 := Lib.hid (HB1.out.trans (hb2.mono HB1.out.size))
               clear hb2 hs2)
            | (go_at_call 11; (with_reducible refine (C2.out _ (HE.out.keep HB2.out)).mono ?_)
               rintro e w3 ⟨rfl, hb3⟩
               have HB3 := Lib.hid (HB2.out.trans (hb3.mono HB2.out.size))
               clear hb3)
            | (go_at_call 11; (with_reducible refine (C3.out _ (HE.out.keep HB3.out)).mono ?_)
               rintro e w4 ⟨rfl, hb4⟩
               have HB4 := Lib.hid (HB3.out.trans (hb4.mono HB3.out.size))
               clear hb4)
            | fail)
          go_ret
          exact ⟨rfl, HB4.out⟩
        | ok l2 =>
          rw [hta, htb] at hj
          dsimp only at hj
          have n1 := tokens_count hta
          have n2 := tokens_count htb
          rw [lxLen] at n1 n2
          have C1 := Lib.hid (fun W (hW : ErrCell W) => tokens_ok (s := a) (w := W) (by omega) hW hta (by omega))
          have C2 := Lib.hid (fun W (hW : ErrCell W) => tokens_ok (s := b) (w := W) (by omega) hW htb (by omega))
          have c3 := fun W (hW : ErrCell W) => tokens_ok (s := a ++ ⟨#[10, 59, 10]⟩ ++ b) (w := W) hz hW hj (by simp; omega)
          rw [show (l1 ++ (⟨3, [59], a.toList.length + 1⟩ : Tok) :: l2.map (Tok.moved (a.toList.length + 3))).length = l1.length + (l2.length + 1) by simp] at c3
          have C3 := Lib.hid c3
          have HSB := Lib.hid (sameB_joined (a.toList.length + 1) (a.toList.length + 3) l1 l2)
          clear c3
          clear hj hta htb
          go_enter Tryd.func8, Tryd.ntmps8
          go_wp2_with (first
            | (go_at_call 10; (with_reducible refine (lexFirst_any _ HE.out).mono ?_); rintro e w1 ⟨rfl, hb1⟩
               have HB1 := Lib.hid hb1
               clear hb1)
            | (go_at_call 11; (with_reducible refine (C1.out _ (HE.out.keep HB1.out)).mono ?_)
               rintro e w2 ⟨a1, c1, rfl, hs2, hc2, hm2, hb2, _⟩
               have HB2 := Lib.hid (HB1.out.trans (hb2.mono HB1.out.size))
               have HS2 := Lib.hid hs2
               clear hb2 hs2)
            | (go_at_call 11; (with_reducible refine (C2.out _ (HE.out.keep HB2.out)).mono ?_)
               rintro e w3 ⟨a2, c2, rfl, hs3, hc3, hm3, hb3, _⟩
               have HB3 := Lib.hid (HB2.out.trans (hb3.mono HB2.out.size))
               have HS3 := Lib.hid hs3
               have HS23 := Lib.hid ((HS2.out.below hb3).more hb3.size)
               clear hb3 hs3)
            | (go_at_call 11; (with_reducible refine (C3.out _ (HE.out.keep HB3.out)).mono ?_)
               rintro e w4 ⟨a3, c3, rfl, hs4, hc4, hm4, hb4, _⟩
               have HB4 := Lib.hid (HB3.out.trans (hb4.mono HB3.out.size))
               have HS4 := Lib.hid hs4
               have HS34 := Lib.hid ((HS3.out.below hb4).more hb4.size)
               have HS24 := Lib.hid ((HS23.out.below hb4).more hb4.size)
               clear hb4 hs4)
            | (at_builtin
               refine wpList_append_join rfl (.const (.slice none 0 0)) (.tmp 80) rfl w4.heap.size w4.heap.size (.slice none 0 0) [] l1 a1 l1.length c1 rfl rfl (Toks.zero _ _) (Nat.le_refl _) HS24.out (by simp; omega) w4 (Below.refl _ _) ?_
               intro v5 w5 hown hbel
               have HO5 := Lib.hid hown
               have HB5 := Lib.hid hbel
               clear hown hbel)
            | (at_builtin
               refine wpList_append_toks rfl (.tmp 81) (.tmp 83) rfl w4.heap.size v5 ([] ++ l1) ⟨3, [59], 0⟩ rfl rfl rfl rfl HO5.out HB5.out.size (by simp; omega) w4 HB5.out ?_
               intro v6 w6 hown hbel
               have HO6 := Lib.hid hown
               have HB6 := Lib.hid hbel
               clear hown hbel)
            | (at_builtin
               refine wpList_append_join rfl (.tmp 89) (.tmp 90) rfl w4.heap.size w4.heap.size v6 ([] ++ l1 ++ [⟨3, [59], 0⟩]) l2 a2 l2.length c2 rfl rfl HO6.out HB6.out.size (HS34.out.below HB6.out) (by simp; omega) w4 HB6.out ?_
               intro v7 w7 hown hbel
               obtain ⟨a7, c7, rfl, hs7⟩ := hown.sees_n (n := l1.length + 1 + l2.length) (by simp <;> omega) (by omega)
               have S7 := Lib.hid (lawSame_any a3 a7 (l1.length + (l2.length + 1)) (l1.length + 1 + l2.length) c3 c7 _ _ false w7 w7.heap.size ((HS4.out.below hbel).more hbel.size) hs7)
               rw [HSB.out] at S7
               have HB7 := Lib.hid hbel
               clear hown hbel hs7)
            | (go_at_call 15; (with_reducible refine S7.out.mono ?_)
               rintro e w8 ⟨rfl, q8, rfl⟩)
            | fail)
          go_ret
          exact ⟨rfl, below_drewN (HB4.out.trans (HB7.out.mono HB4.out.size)) q8⟩
    · have b2 : decide ((1000 : Int) < (b.size : Int)) = true := decide_eq_true (by omega)
      go_enter Tryd.func8, Tryd.ntmps8
      go_wp2_with (first
        | (go_at_call 10; (with_reducible refine (lexFirst_any _ HE.out).mono ?_); rintro e w1 ⟨rfl, hb1⟩
           have HB1 := Lib.hid hb1
           clear hb1)
        | fail)
      go_ret
      exact ⟨rfl, HB1.out⟩
  · have b1 : decide ((1000 : Int) < (a.size : Int)) = true := decide_eq_true (by omega)
    go_enter Tryd.func8, Tryd.ntmps8
    go_wp2_with (first
      | (go_at_call 10; (with_reducible refine (lexFirst_any _ HE.out).mono ?_); rintro e w1 ⟨rfl, hb1⟩
         have HB1 := Lib.hid hb1
         clear hb1)
      | fail)
    go_ret
    exact ⟨rfl, HB1.out⟩
end Go.Proofs.YtifinfmdjbglhaaDoor
