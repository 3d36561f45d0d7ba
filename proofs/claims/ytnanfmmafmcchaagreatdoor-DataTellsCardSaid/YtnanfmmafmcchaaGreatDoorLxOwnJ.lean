/- Contract of the program's Tokens. -/
import Derived.Test.YtnanfmmafmcchaaGreatDoorLxOwnI
import Derived.Sort.Walk7a
namespace Go.Proofs.YtnanfmmafmcchaaGreatDoor
open Go.RowKit

theorem ErrCell.alloc {w : World} (h : ErrCell w) (o : Obj) : ErrCell (w.alloc o) := h.keep ((Below.refl _ w).alloc (Nat.le_refl _) o)

theorem two_alloc (W : World) (c : Array Value) (e : TypeId) (o : Obj) (n i : Nat) (hn : n = W.heap.size) : ((W.alloc (.cells c e)).alloc o).cell? ⟨n, i, none⟩ = c[i]? := by
  rw [World.cell?_alloc_past _ _ _ (by simp; omega), World.cell?_alloc_at _ _ _ _ hn]

/-- Block A holds a token whose place is yet to be set. -/
def TokAt (W : World) (A k : Nat) (t : Str) : Prop :=
  W.cell? ⟨A, 0, none⟩ = some (.int .i64 k) ∧ W.cell? ⟨A, 1, none⟩ = some (.string (lxS t)) ∧ W.cell? ⟨A, 2, none⟩ = some (.int .i64 0) ∧ W.frozen? ⟨A, 2, none⟩ = false
theorem TokAt.new (w : World) (k : Nat) (t : Str) : TokAt (w.alloc (.cells #[.int .i64 k, .string (lxS t), .int .i64 0] 41)) w.heap.size k t :=
  ⟨by simp, by simp, by simp, by simp⟩
theorem TokAt.set {w : World} {A : Nat} (k : Nat) (t : Str) (h0 : (w.cell? ⟨A, 0, none⟩).isSome = true) (h1 : (w.cell? ⟨A, 1, none⟩).isSome = true) (h2 : (w.cell? ⟨A, 2, none⟩).isSome = true) (hf : w.frozen? ⟨A, 2, none⟩ = false) :
    TokAt (((w.setCell ⟨A, 0, none⟩ (.int .i64 k)).setCell ⟨A, 1, none⟩ (.string (lxS t))).setCell ⟨A, 2, none⟩ (.int .i64 0)) A k t := by
  have ne : ∀ i j : Nat, i ≠ j → (⟨A, i, none⟩ : Addr) ≠ ⟨A, j, none⟩ := fun i j h e => by injection e with _ e _; exact h e
  refine ⟨?_, ?_, ?_, ?_⟩
  · rw [World.cell?_setCell_other _ _ _ _ (ne 2 0 (by omega)), World.cell?_setCell_other _ _ _ _ (ne 1 0 (by omega))]
    exact World.cell?_setCell_same' _ _ _ h0
  · rw [World.cell?_setCell_other _ _ _ _ (ne 2 1 (by omega))]
    exact World.cell?_setCell_same' _ _ _ (by rw [World.cell?_setCell_other _ _ _ _ (ne 0 1 (by omega))]; exact h1)
  · exact World.cell?_setCell_same' _ _ _ (by rw [World.cell?_setCell_other _ _ _ _ (ne 1 2 (by omega)), World.cell?_setCell_other _ _ _ _ (ne 0 2 (by omega))]; exact h2)
  · rw [World.frozen?_setCell, World.frozen?_setCell, World.frozen?_setCell]; exact hf

set_option maxHeartbeats 4000000 in
theorem ownTokens_any (s : ByteArray) (w : World) (hs : s.size ≤ 1100000) (he : ErrCell w) :
    Calls Tryz.prog 19 #[.string s] w fun e w' => Below w.heap.size w w' ∧ TokensAns w' w.heap.size (tokensS s.toList) e := by
  by_cases hbig : 16384 < s.size
  · have HF := Lib.hid (show tokensS s.toList = .error (200, 0) by unfold tokensS; rw [if_pos (by rw [lxLen]; exact hbig)])
    have b1 : decide ((16384 : Int) < (s.size : Int)) = true := decide_eq_true (by omega)
    go_enter Tryz.func19, Tryz.ntmps19
    go_wp2
    go_ret3
    rw [HF.out]
    exact ⟨Below.refl _ _, rfl⟩
  have HT := Lib.hid (show tokensS s.toList = lexF s.toList.length (s.toList.length + 1) false s.toList by unfold tokensS; rw [if_neg (by rw [lxLen]; exact hbig)])
  have b1 : decide ((16384 : Int) < (s.size : Int)) = false := decide_eq_false (by omega)
  have C0 := Lib.hid (fun W => ownBlank_any s W hs)
  have HE := Lib.hid he
  clear he
  have hss : ∀ (W : World) (b o : Nat) (v v' : Value), (W.setCell ⟨b, o, none⟩ v).setCell ⟨b, o, none⟩ v' = W.setCell ⟨b, o, none⟩ v' := setCell_setCell
  have cskip : ∀ r : Nat, r ≤ s.size → ∀ W, Calls Tryz.prog 33 #[.string (s.extract r s.size)] W fun e w' => ∃ m : Nat, e = .returned (.int .i64 m) ∧ r + m ≤ s.size ∧ s.toList.drop (r + m) = skipF false (s.toList.drop r) ∧ Below W.heap.size W w' := fun r hr W =>
    (ownBlank_any (s.extract r s.size) W (by simp; omega)).mono fun e w' h => by
      obtain ⟨m, h1, h2, h3, h4⟩ := h
      rw [toList_cut, List.drop_drop] at h3
      exact ⟨m, h1, by simp at h2; omega, h3, h4⟩
  have CSKIP := Lib.hid cskip
  clear cskip
  go_enter Tryz.func19, Tryz.ntmps19
  go_wp2_with (first
    | (go_at_call 33; (with_reducible refine (C0.out _).mono ?_); rintro e w4 ⟨r0, rfl, hr0, hd0, hb0⟩
       have HD0 := Lib.hid hd0
       have HB0 := Lib.hid hb0
       clear hd0 hb0)
    | fail)
  go_loopw [5, 6] (fun v i wr => ∃ (k : Nat) (acc : List Tok), k ≤ s.size ∧ acc.length ≤ k ∧ i = .int .i64 k ∧ Hid (Toks wr w.heap.size v acc) ∧ Hid (Below w.heap.size w wr) ∧ Hid (LexRel s.toList k acc) ∧ Hid (∀ t ∈ acc, t.kind ≤ 3)) (fun _ i _ => s.size - (intOf i).toNat)
  case atStart => exact ⟨r0, [], hr0, Nat.zero_le _, rfl, Lib.hid (Toks.zero _ _), HB0, Lib.hid (lex_start HD0.out), Lib.hid (fun t h => by cases h)⟩
  case round =>
    obtain ⟨k, acc, hk, hacc, rfl, HB, HW, HR, HK⟩ := hrel
    by_cases hlt : k < s.size
    · have cskip := CSKIP.out
      have ctk : ∀ (neg : Bool) W, ErrCell W → Calls Tryz.prog 34 #[.string (s.extract k s.size), .bool neg] W fun e w' => Below W.heap.size W w' ∧ OwnTok (s.toList.drop k) (tok1 (!neg) (s.toList.drop k)) e := fun neg W hW => by
        have h := ownToken_any (s.extract k s.size) neg W (by simp; omega) (by simp; omega) hW
        rw [toList_cut] at h
        exact h
      rcases List.eq_nil_or_concat acc with rfl | ⟨acc', t, rfl⟩
      · have hbo : afterL [] = false := rfl
        obtain ⟨sa, sc, rfl⟩ : ∃ sa sc, u5 = .slice sa 0 sc := by
          rcases HB.out.2 with ⟨h, _⟩ | ⟨g, cap, cur, h, _⟩
          · exact ⟨_, _, h⟩
          · exact ⟨_, _, h⟩
        have CN := Lib.hid (fun W => mayNegate_none sa sc W)
        have ct := ctk true
        clear ctk
        rw [show (!true) = false from rfl] at ct
        cases ht : tok1 false (s.toList.drop k) with
        | error c =>
          rw [ht] at ct
          have CT := Lib.hid ct
          have HF := Lib.hid (lex_err hbo HR.out (by rw [lxLen]; exact hlt) ht)
          have hc0 := tok_code ht
          clear ct ht hbo
          have hcz : ((c : Int) == 0) = false := by rw [beq_eq_false_iff_ne]; exact hc0
          have HE1 := Lib.hid (HE.out.keep HW.out)
          go_wp2
          go_region_held3 (fun _ => True) (trivial) (first
            | (go_at_call 35; (with_reducible refine (CN.out _).mono ?_); rintro e w1 ⟨rfl, rfl⟩)
            | (go_at_call 34; (with_reducible refine (CT.out _ ?_).mono ?_)
               · first | exact HE1.out | exact HE1.out.alloc _ | exact (HE1.out.alloc _).alloc _
               rintro e w2 ⟨hb2, rfl⟩
               obtain ⟨hcc, hff⟩ := bcell hb2
               have hzz := hb2.size
               simp at hzz
               have HR2 := Lib.hid (show Below wr.heap.size wr w2 by first | exact ⟨hb2.os, hb2.tape, hb2.output, hb2.size, hb2.block⟩ | exact (((Below.refl _ wr).drew.alloc (Nat.le_refl _) _).trans (hb2.mono (by simp))))
               clear hb2)
            | fail)
          all_goals
            go_wp2
            go_ret3
            rw [HT.out, HF.out]
            refine ⟨?_, rfl⟩
            first
              | exact ((HW.out.trans (HR2.out.mono HW.out.size)).alloc (by have := HW.out.size; omega) _)
              | exact ((((HW.out.trans (HR2.out.mono HW.out.size)).setCell HW.out.size _).setCell HW.out.size _).setCell HW.out.size _)
        | ok res =>
          obtain ⟨kd, tx, u⟩ := res
          rw [ht] at ct
          have CT := Lib.hid ct
          have HS := Lib.hid (fun r h => lex_ok (k2 := r) hbo HR.out (by rw [lxLen]; exact hlt) ht h)
          have HKD := tok1_kind ht
          clear ct ht hbo
          have HE1 := Lib.hid (HE.out.keep HW.out)
          go_wp2
          go_region_held3 (fun _ => True) (trivial) (first
            | (go_at_call 35; (with_reducible refine (CN.out _).mono ?_); rintro e w1 ⟨rfl, rfl⟩)
            | (go_at_call 34; (with_reducible refine (CT.out _ ?_).mono ?_)
               · first | exact HE1.out | exact HE1.out.alloc _ | exact (HE1.out.alloc _).alloc _
               rintro e w2 ⟨hb2, ⟨n, rfl, hn1, hn2, hdn⟩⟩
               obtain ⟨hcc, hff⟩ := bcell hb2
               have hzz := hb2.size
               simp at hzz
               have HR2 := Lib.hid (show Below wr.heap.size wr w2 by first | exact ⟨hb2.os, hb2.tape, hb2.output, hb2.size, hb2.block⟩ | exact (((Below.refl _ wr).drew.alloc (Nat.le_refl _) _).trans (hb2.mono (by simp))))
               rw [List.length_drop, lxLen] at hn2
               rw [List.drop_drop] at hdn
               have HDN := Lib.hid hdn
               have CK := Lib.hid (cskip (k + n) (by omega))
               clear hdn
               clear hb2)
            | fail)
          all_goals
            first
              | (with_reducible show Exit.then _ _ _ _ (World.alloc w2 _)
                 have HT3 := Lib.hid (TokAt.new w2 kd tx)
                 have HR3 := Lib.hid (HR2.out.alloc HR2.out.size (.cells #[.int .i64 kd, .string (lxS tx), .int .i64 0] 41))
                 have hA : wr.heap.size ≤ w2.heap.size := HR2.out.size
                 generalize hWW : w2.alloc (.cells #[.int .i64 kd, .string (lxS tx), .int .i64 0] 41) = W3 at HT3 HR3 ⊢
                 clear hWW
                 generalize w2.heap.size = A at HT3 hA hzz ⊢)
              | (with_reducible show Exit.then _ _ _ _ (World.setCell _ ⟨wr.heap.size, 2, none⟩ _)
                 have HT3 := Lib.hid (TokAt.set (w := w2) (A := wr.heap.size) kd tx (by rw [hcc _ _ (by simp <;> omega)]; first | simp | (rw [two_alloc _ _ _ _ _ _ rfl]; rfl)) (by rw [hcc _ _ (by simp <;> omega)]; first | simp | (rw [two_alloc _ _ _ _ _ _ rfl]; rfl)) (by rw [hcc _ _ (by simp <;> omega)]; first | simp | (rw [two_alloc _ _ _ _ _ _ rfl]; rfl)) (by rw [hff _ _ (by simp <;> omega)]; first | simp | (rw [World.frozen?_alloc_old _ _ _ (by simp)]; simp)))
                 have HR3 := Lib.hid (((HR2.out.setCell (p := ⟨wr.heap.size, 0, none⟩) (by simp) (.int .i64 kd)).setCell (p := ⟨wr.heap.size, 1, none⟩) (by simp) (.string (lxS tx))).setCell (p := ⟨wr.heap.size, 2, none⟩) (by simp) (.int .i64 0))
                 generalize hWW : (((w2.setCell ⟨wr.heap.size, 0, none⟩ (.int .i64 kd)).setCell ⟨wr.heap.size, 1, none⟩ (.string (lxS tx))).setCell ⟨wr.heap.size, 2, none⟩ (.int .i64 0)) = W3 at HT3 HR3 ⊢
                 clear hWW
                 generalize hAA : wr.heap.size = A at HT3 ⊢
                 have hA : wr.heap.size ≤ A := by omega
                 clear hAA)
            clear hcc hff
            obtain ⟨c0, c1, c2, f2⟩ := HT3.out
            go_wp2_with (first
              | (at_builtin
                 refine wpList_append_toks rfl (.tmp 35) (.tmp 37) rfl w.heap.size _ [] ⟨kd, tx, k⟩ rfl rfl rfl (by simp) (HB.out.below (B := wr.heap.size) (HR3.out.setCell (p := ⟨A, 2, none⟩) hA _) (Nat.le_refl _)) (by have := HW.out.size; have := HR3.out.size; simp <;> omega) (by simp <;> omega) w (HW.out.trans (Below.mono (B := wr.heap.size) (HR3.out.setCell (p := ⟨A, 2, none⟩) hA _) HW.out.size)) ?_
                 intro v3 w3 hown hbel
                 have HB3 := Lib.hid hown
                 have HW3 := Lib.hid hbel
                 clear hown hbel)
              | (go_at_call 33; (with_reducible refine (CK.out _).mono ?_); rintro e w4 ⟨m, rfl, hm, hd2, hb4⟩
                 have HD2 := Lib.hid hd2
                 have HB4 := Lib.hid (HB3.out.below hb4 (Nat.le_refl _))
                 have HW4 := Lib.hid (HW3.out.trans (hb4.mono HW3.out.size))
                 clear hd2 hb4)
              | fail)
          all_goals
            go_roundw
            case rel =>
              have HS2 := Lib.hid (HS.out (k + n + m) (HD2.out.trans (congrArg (skipF false) HDN.out)))
              have HK2 : Hid (∀ t' ∈ [] ++ [(⟨kd, tx, k⟩ : Tok)], t'.kind ≤ 3) := Lib.hid (fun t' ht => by
                rw [List.mem_append] at ht
                rcases ht with h | h
                · cases h
                · rw [List.mem_singleton] at h; subst h; exact HKD)
              refine ⟨k + n + m, _, hm, ?_, ?_, HB4, HW4, ?_, ?_⟩
              · simp <;> omega
              · go_num
              · exact HS2
              · exact HK2
            case measure => simp [intOf]; omega
      · skip
        rw [List.concat_eq_append] at hacc HB HR HK
        rw [List.length_append] at hacc
        obtain ⟨bo, hbo⟩ : ∃ bo, afterL (acc' ++ [t]) = bo := ⟨_, rfl⟩
        obtain ⟨g, cap, rfl, hg, hcap, hcm, l0, l1, l2⟩ := HB.out.last
        unfold maxLen at hcm
        simp only [List.length_cons, List.length_nil, Nat.zero_add] at hacc
        have hne : negI t.kind t.text = !bo := by
          rw [negI_ends (HK.out t (by simp)), ← afterL_snoc acc', hbo]
        have cn : ∀ W, Below wr.heap.size wr W → Calls Tryz.prog 35 #[.slice (some ⟨g, 0, none⟩) (acc'.length + 1) cap] W fun e w' => e = .returned (.bool (!bo)) ∧ w' = W.alloc (.cells #[.int .i64 t.kind, .string (lxS t.text), .int .i64 t.place] 41) := fun W hW => by
          have h := mayNegate_last g 0 acc'.length cap t.kind (lxS t.text) t.place W (by omega) hcm (by rw [Nat.zero_add, hW.cell hg]; exact l0) (by rw [Nat.zero_add, hW.cell hg]; exact l1) (by rw [Nat.zero_add, hW.cell hg]; exact l2)
          rw [lxS_toList, hne] at h
          exact h
        have CN := Lib.hid cn
        have ct := ctk (!bo)
        rw [Bool.not_not] at ct
        clear ctk cn hne l0 l1 l2
        cases ht : tok1 bo (s.toList.drop k) with
        | error c =>
          rw [ht] at ct
          have CT := Lib.hid ct
          have HF := Lib.hid (lex_err hbo HR.out (by rw [lxLen]; exact hlt) ht)
          have hc0 := tok_code ht
          clear ct ht hbo
          have hcz : ((c : Int) == 0) = false := by rw [beq_eq_false_iff_ne]; exact hc0
          have HE1 := Lib.hid (HE.out.keep HW.out)
          go_wp2
          go_region_held3 (fun _ => True) (trivial) (first
            | (go_at_call 35; (with_reducible refine (CN.out _ ?_).mono ?_)
               · first | exact (Below.refl _ wr).drew | exact (Below.refl _ wr).drew.alloc (Nat.le_refl _) _
               rintro e w1 ⟨rfl, rfl⟩)
            | (go_at_call 34; (with_reducible refine (CT.out _ ?_).mono ?_)
               · first | exact HE1.out.alloc _ | exact (HE1.out.alloc _).alloc _
               rintro e w2 ⟨hb2, rfl⟩
               obtain ⟨hcc, hff⟩ := bcell hb2
               have hzz := hb2.size
               simp at hzz
               have HR2 := Lib.hid (show Below wr.heap.size wr w2 by first | exact (((Below.refl _ wr).drew.alloc (Nat.le_refl _) _).trans (hb2.mono (by simp))) | exact ((((Below.refl _ wr).drew.alloc (Nat.le_refl _) _).alloc (by simp) _).trans (hb2.mono (by simp <;> omega))))
               clear hb2)
            | fail)
          all_goals
            go_wp2
            go_ret3
            rw [HT.out, HF.out]
            refine ⟨?_, rfl⟩
            first
              | exact ((HW.out.trans (HR2.out.mono HW.out.size)).alloc (by have := HW.out.size; omega) _)
              | exact ((((HW.out.trans (HR2.out.mono HW.out.size)).setCell HW.out.size _).setCell HW.out.size _).setCell HW.out.size _)
              | exact ((((HW.out.trans (HR2.out.mono HW.out.size)).setCell (Nat.le_succ_of_le HW.out.size) _).setCell (Nat.le_succ_of_le HW.out.size) _).setCell (Nat.le_succ_of_le HW.out.size) _)
        | ok res =>
          obtain ⟨kd, tx, u⟩ := res
          rw [ht] at ct
          have CT := Lib.hid ct
          have HS := Lib.hid (fun r h => lex_ok (k2 := r) hbo HR.out (by rw [lxLen]; exact hlt) ht h)
          have HKD := tok1_kind ht
          clear ct ht hbo
          have HE1 := Lib.hid (HE.out.keep HW.out)
          go_wp2
          go_region_held3 (fun _ => True) (trivial) (first
            | (go_at_call 35; (with_reducible refine (CN.out _ ?_).mono ?_)
               · first | exact (Below.refl _ wr).drew | exact (Below.refl _ wr).drew.alloc (Nat.le_refl _) _
               rintro e w1 ⟨rfl, rfl⟩)
            | (go_at_call 34; (with_reducible refine (CT.out _ ?_).mono ?_)
               · first | exact HE1.out.alloc _ | exact (HE1.out.alloc _).alloc _
               rintro e w2 ⟨hb2, ⟨n, rfl, hn1, hn2, hdn⟩⟩
               obtain ⟨hcc, hff⟩ := bcell hb2
               have hzz := hb2.size
               simp at hzz
               have HR2 := Lib.hid (show Below wr.heap.size wr w2 by first | exact (((Below.refl _ wr).drew.alloc (Nat.le_refl _) _).trans (hb2.mono (by simp))) | exact ((((Below.refl _ wr).drew.alloc (Nat.le_refl _) _).alloc (by simp) _).trans (hb2.mono (by simp <;> omega))))
               rw [List.length_drop, lxLen] at hn2
               rw [List.drop_drop] at hdn
               have HDN := Lib.hid hdn
               have CK := Lib.hid (cskip (k + n) (by omega))
               clear hdn
               clear hb2)
            | fail)
          all_goals
            first
              | (with_reducible show Exit.then _ _ _ _ (World.alloc w2 _)
                 have HT3 := Lib.hid (TokAt.new w2 kd tx)
                 have HR3 := Lib.hid (HR2.out.alloc HR2.out.size (.cells #[.int .i64 kd, .string (lxS tx), .int .i64 0] 41))
                 have hA : wr.heap.size ≤ w2.heap.size := HR2.out.size
                 generalize hWW : w2.alloc (.cells #[.int .i64 kd, .string (lxS tx), .int .i64 0] 41) = W3 at HT3 HR3 ⊢
                 clear hWW
                 generalize w2.heap.size = A at HT3 hA hzz ⊢)
              | (with_reducible show Exit.then _ _ _ _ (World.setCell _ ⟨wr.heap.size, 2, none⟩ _)
                 have HT3 := Lib.hid (TokAt.set (w := w2) (A := wr.heap.size) kd tx (by rw [hcc _ _ (by simp <;> omega)]; first | simp | (rw [two_alloc _ _ _ _ _ _ rfl]; rfl)) (by rw [hcc _ _ (by simp <;> omega)]; first | simp | (rw [two_alloc _ _ _ _ _ _ rfl]; rfl)) (by rw [hcc _ _ (by simp <;> omega)]; first | simp | (rw [two_alloc _ _ _ _ _ _ rfl]; rfl)) (by rw [hff _ _ (by simp <;> omega)]; first | simp | (rw [World.frozen?_alloc_old _ _ _ (by simp)]; simp)))
                 have HR3 := Lib.hid (((HR2.out.setCell (p := ⟨wr.heap.size, 0, none⟩) (by simp) (.int .i64 kd)).setCell (p := ⟨wr.heap.size, 1, none⟩) (by simp) (.string (lxS tx))).setCell (p := ⟨wr.heap.size, 2, none⟩) (by simp) (.int .i64 0))
                 generalize hWW : (((w2.setCell ⟨wr.heap.size, 0, none⟩ (.int .i64 kd)).setCell ⟨wr.heap.size, 1, none⟩ (.string (lxS tx))).setCell ⟨wr.heap.size, 2, none⟩ (.int .i64 0)) = W3 at HT3 HR3 ⊢
                 clear hWW
                 generalize hAA : wr.heap.size = A at HT3 ⊢
                 have hA : wr.heap.size ≤ A := by omega
                 clear hAA)
              | (with_reducible show Exit.then _ _ _ _ (World.setCell _ ⟨wr.heap.size + 1, 2, none⟩ _)
                 have HT3 := Lib.hid (TokAt.set (w := w2) (A := wr.heap.size + 1) kd tx (by rw [hcc _ _ (by simp <;> omega)]; first | simp | (rw [two_alloc _ _ _ _ _ _ rfl]; rfl)) (by rw [hcc _ _ (by simp <;> omega)]; first | simp | (rw [two_alloc _ _ _ _ _ _ rfl]; rfl)) (by rw [hcc _ _ (by simp <;> omega)]; first | simp | (rw [two_alloc _ _ _ _ _ _ rfl]; rfl)) (by rw [hff _ _ (by simp <;> omega)]; first | simp | (rw [World.frozen?_alloc_old _ _ _ (by simp)]; simp)))
                 have HR3 := Lib.hid (((HR2.out.setCell (p := ⟨wr.heap.size + 1, 0, none⟩) (by simp) (.int .i64 kd)).setCell (p := ⟨wr.heap.size + 1, 1, none⟩) (by simp) (.string (lxS tx))).setCell (p := ⟨wr.heap.size + 1, 2, none⟩) (by simp) (.int .i64 0))
                 generalize hWW : (((w2.setCell ⟨wr.heap.size + 1, 0, none⟩ (.int .i64 kd)).setCell ⟨wr.heap.size + 1, 1, none⟩ (.string (lxS tx))).setCell ⟨wr.heap.size + 1, 2, none⟩ (.int .i64 0)) = W3 at HT3 HR3 ⊢
                 clear hWW
                 generalize hAA : wr.heap.size + 1 = A at HT3 ⊢
                 have hA : wr.heap.size ≤ A := by omega
                 clear hAA)
            clear hcc hff
            obtain ⟨c0, c1, c2, f2⟩ := HT3.out
            go_wp2_with (first
              | (at_builtin
                 refine wpList_append_toks rfl (.tmp 35) (.tmp 37) rfl w.heap.size _ (acc' ++ [t]) ⟨kd, tx, k⟩ rfl rfl rfl (by simp) (HB.out.below (B := wr.heap.size) (HR3.out.setCell (p := ⟨A, 2, none⟩) hA _) (Nat.le_refl _)) (by have := HW.out.size; have := HR3.out.size; simp <;> omega) (by simp <;> omega) w (HW.out.trans (Below.mono (B := wr.heap.size) (HR3.out.setCell (p := ⟨A, 2, none⟩) hA _) HW.out.size)) ?_
                 intro v3 w3 hown hbel
                 have HB3 := Lib.hid hown
                 have HW3 := Lib.hid hbel
                 clear hown hbel)
              | (go_at_call 33; (with_reducible refine (CK.out _).mono ?_); rintro e w4 ⟨m, rfl, hm, hd2, hb4⟩
                 have HD2 := Lib.hid hd2
                 have HB4 := Lib.hid (HB3.out.below hb4 (Nat.le_refl _))
                 have HW4 := Lib.hid (HW3.out.trans (hb4.mono HW3.out.size))
                 clear hd2 hb4)
              | fail)
          all_goals
            go_roundw
            case rel =>
              have HS2 := Lib.hid (HS.out (k + n + m) (HD2.out.trans (congrArg (skipF false) HDN.out)))
              have HK2 : Hid (∀ t' ∈ (acc' ++ [t]) ++ [(⟨kd, tx, k⟩ : Tok)], t'.kind ≤ 3) := Lib.hid (fun t' ht => by
                rw [List.mem_append] at ht
                rcases ht with h | h
                · exact HK.out t' h
                · rw [List.mem_singleton] at h; subst h; exact HKD)
              refine ⟨k + n + m, _, hm, ?_, ?_, HB4, HW4, ?_, ?_⟩
              · simp <;> omega
              · go_num
              · exact HS2
              · exact HK2
            case measure => simp [intOf]; omega
    · have HF := Lib.hid (lex_stop HR.out (by rw [lxLen]; omega))
      go_wp2
      go_ret3
      rw [HT.out, HF.out]
      exact ⟨HW.out, _, rfl, HB.out⟩
end Go.Proofs.YtnanfmmafmcchaaGreatDoor
