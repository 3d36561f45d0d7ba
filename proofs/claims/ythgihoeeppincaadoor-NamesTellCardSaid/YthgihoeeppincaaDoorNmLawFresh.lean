/- The law NamesFresh returns true for every list and string. -/
import Derived.Test.YthgihoeeppincaaDoorNmFirst
namespace Go.Proofs.YthgihoeeppincaaDoor
open Go.RowKit Go.Sort

theorem quiet_at {P : Program} {f : FuncId} {args : Array Value} {w : World} {n : Nat} {v : Value} (h : Calls P f args (w.drewN n) fun e w' => e = .returned v ∧ w.drewN n = w') :
    Calls P f args (w.drewN n) fun e w' => e = .returned v ∧ ∃ m, w' = w.drewN m := h.mono fun _ _ ⟨he, hm⟩ => ⟨he, n, hm.symm⟩
theorem num_first (s : Str) (k : Nat) (hk : k < 100) (hs : 1 ≤ s.length) : 1 ≤ (numS s k).length ∧ (numS s k).getD 0 0 = s.getD 0 0 := by
  unfold numS
  obtain ⟨c, t, rfl⟩ : ∃ c t, s = c :: t := by
    cases s with
    | nil => simp at hs
    | cons c t => exact ⟨c, t, rfl⟩
  rcases dec_len k hk with e | e <;> rw [e] <;> exact ⟨by simp, rfl⟩
theorem fresh_law (ss : List Str) (s : Str) (hn : ss.length ≤ 40) : hasS ss (freshS ss s) = false ∧ hasS ss (freshS (freshS ss s :: ss) s) = false ∧ freshS ss s ≠ freshS (freshS ss s :: ss) s ∧
    (hasS ss s = false → freshS ss s = s) ∧ (may s = true → 1 ≤ (freshS ss s).length ∧ (freshS ss s).length ≤ 12 ∧ (freshS ss s).getD 0 0 = s.getD 0 0) := by
  have new : ∀ tt : List Str, tt.length ≤ 41 → freshS tt s ∉ tt := fun tt ht hm => by
    rcases freshS_cases tt s ht with ⟨h, e⟩ | ⟨m, _, _, _, e, h⟩
    · rw [e, ← hasS_iff, h] at hm; cases hm
    · rw [e, ← hasS_iff, h] at hm; cases hm
  have h1 := new ss (by omega)
  have h2 := new (freshS ss s :: ss) (by simp; omega)
  refine ⟨by rw [← Bool.not_eq_true, hasS_iff]; exact h1, by rw [← Bool.not_eq_true, hasS_iff]; exact fun h => h2 (by simp [h]), fun e => h2 (by rw [← e]; simp), fun h => ?_, fun h => ?_⟩
  · rcases freshS_cases ss s (by omega) with ⟨_, e⟩ | ⟨m, _, _, h', _⟩
    · exact e
    · rw [h] at h'; cases h'
  · have hs : 1 ≤ s.length ∧ s.length ≤ 12 := by
      unfold may at h
      simp only [Bool.and_eq_true, decide_eq_true_eq] at h
      exact ⟨h.1.1.1.1, h.1.1.1.2⟩
    rcases freshS_cases ss s (by omega) with ⟨_, e⟩ | ⟨m, _, hm, _, e, _⟩
    · rw [e]; exact ⟨hs.1, hs.2, rfl⟩
    · rw [e]
      have := num_first s m (by omega) hs.1
      exact ⟨this.1, num_len s m (by omega), this.2⟩
theorem own_one (w : World) (x : ByteArray) : (w.alloc (.cells #[.string x] 9)).ownsRow w.heap.size 9 1 (.slice (some ⟨w.heap.size, 0, none⟩) 1 1) 1 (([x.toList] : List Str).map encStr) :=
  ⟨rfl, .inr ⟨w.heap.size, 1, _, rfl, Nat.le_refl _, heap_alloc_new w _, Nat.le_refl _, by unfold maxLen; omega, rfl, by
    show [Value.string x] = [encStr x.toList]
    rw [show encStr x.toList = Value.string (baS x.toList) from rfl, baS_of]⟩⟩

set_option maxHeartbeats 2000000 in
theorem fresh_walk (a : Option Addr) (n c : Nat) (ss : List Str) (s : ByteArray) (w : World) (h : Strs w w.heap.size a n ss) (_ : n ≤ c) (hs : s.size ≤ maxLen) :
    Calls Tryd.prog 6 #[.slice a n c, .string s] w fun e w' => e = .returned (.bool true) ∧ Below w.heap.size w w' := by
  have hsn := h.2.1
  have hs' := hs
  unfold maxLen at hs'
  by_cases hbig : 40 < n
  · have d1 : decide ((40 : Int) < (n : Int)) = true := by simp; omega
    clear h
    go_enter Tryd.func6, Tryd.ntmps6
    go_wp2_with (go_at_call 8; refine (first_any _).mono ?_; rintro e w1 ⟨rfl, hb⟩)
    go_ret
    exact ⟨rfl, hb⟩
  have d1 : decide ((40 : Int) < (n : Int)) = false := by simp; omega
  by_cases hlong : 60 < s.size
  · have d2 : decide ((60 : Int) < (s.size : Int)) = true := by simp; omega
    clear h
    go_enter Tryd.func6, Tryd.ntmps6
    go_wp2_with (go_at_call 8; refine (first_any _).mono ?_; rintro e w1 ⟨rfl, hb⟩)
    go_ret
    exact ⟨rfl, hb⟩
  have d2 : decide ((60 : Int) < (s.size : Int)) = false := by simp; omega
  obtain ⟨f1, f2, f3, f4, f5⟩ := fresh_law ss s.toList (by rw [h.1]; omega)
  have fl : (freshS ss s.toList).length ≤ maxLen := by
    rcases freshS_cases ss s.toList (by rw [h.1]; omega) with ⟨_, e⟩ | ⟨m, _, hm, _, e, _⟩
    · rw [e, len_toList]; exact hs
    · rw [e]; have := num_len s.toList m (by omega); unfold maxLen; omega
  obtain ⟨f, hf⟩ : ∃ f, f = baS (freshS ss s.toList) := ⟨_, rfl⟩
  obtain ⟨g, hg⟩ : ∃ g, g = baS (freshS (freshS ss s.toList :: ss) s.toList) := ⟨_, rfl⟩
  have ef : f.toList = freshS ss s.toList := by rw [hf, baS_toList]
  have eg : g.toList = freshS (freshS ss s.toList :: ss) s.toList := by rw [hg, baS_toList]
  have F3 : (f.toList == g.toList) = false := by rw [ef, eg]; simpa using f3
  have HF := Lib.hid hf
  have HG := Lib.hid hg
  have EF := Lib.hid ef
  have FL := Lib.hid (show ∀ x ∈ [f.toList] ++ ss, x.length ≤ maxLen from fun x hx => by
    rcases List.mem_append.1 hx with hx | hx
    · rw [List.mem_singleton.1 hx, ef]; exact fl
    · exact h.max x hx)
  have cf : ∀ W, Below w.heap.size w W → Calls Tryd.prog 17 #[.slice a n c, .string f] W fun e w' => e = .returned (.bool false) ∧ W = w' := fun W hb => by
    have := has_any a n c ss f W _ (h.below hb)
    rwa [ef, f1] at this
  have cg : ∀ W, Below w.heap.size w W → Calls Tryd.prog 17 #[.slice a n c, .string g] W fun e w' => e = .returned (.bool false) ∧ W = w' := fun W hb => by
    have := has_any a n c ss g W _ (h.below hb)
    rwa [eg, f2] at this
  have CF := Lib.hid cf
  have CG := Lib.hid cg
  have H := Lib.hid h
  clear cf cg hf hg eg f1 f2 f3 h
  have fin : ∀ (b1 b2 : Bool), hasS ss s.toList = b1 → may s.toList = b2 → Calls Tryd.prog 6 #[.slice a n c, .string s] w fun e w' => e = .returned (.bool true) ∧ Below w.heap.size w w' := by
    intro b1 b2 hb1 hb2
    have cs : ∀ W, Below w.heap.size w W → Calls Tryd.prog 17 #[.slice a n c, .string s] W fun e w' => e = .returned (.bool b1) ∧ W = w' := fun W hb => by
      have := has_any a n c ss s W _ (H.out.below hb)
      rwa [hb1] at this
    have cm : ∀ W, Calls Tryd.prog 15 #[.string s] W fun e w' => e = .returned (.bool b2) ∧ W = w' := fun W => by
      have := may_any s W hs
      rwa [hb2] at this
    have CS := Lib.hid cs
    have CM := Lib.hid cm
    clear cs cm
    have F4 : b1 = false → (!(f.toList == s.toList)) = false := fun hh => by rw [ef, f4 (hb1.trans hh)]; simp
    have F5 : b2 = true → 0 < f.size ∧ f.size ≤ 12 ∧ 0 < s.size ∧ ∀ (p : 0 < f.size) (q : 0 < s.size), ((f[0].toNat : Int) == (s[0].toNat : Int)) = true := fun hh => by
      have h5 := f5 (hb2.trans hh)
      rw [← ef, len_toList] at h5
      have hm : 1 ≤ s.toList.length := by
        have := hb2.trans hh
        unfold may at this
        simp only [Bool.and_eq_true, decide_eq_true_eq] at this
        exact this.1.1.1.1
      rw [len_toList] at hm
      refine ⟨h5.1, h5.2.1, hm, fun p q => ?_⟩
      have e := h5.2.2
      rw [get_toList f 0 p, get_toList s 0 q] at e
      rw [e]; simp
    clear ef f4 f5 hb1 hb2
    cases b1
    · have F4 := F4 rfl
      cases b2
      · clear F5
        go_enter Tryd.func6, Tryd.ntmps6
        go_wp2_with (first
          | (go_at_call 8; refine (first_any _).mono ?_; rintro e w1 ⟨rfl, hb⟩
             have HB := Lib.hid hb
             clear hb
             have hfr := fresh_any a n c ss s w1 (by omega) hs ((H.out.below HB.out).more HB.out.size)
             rw [← HF.out] at hfr
             have C1 := Lib.hid hfr
             clear hfr)
          | (go_at_call 11; with_reducible refine C1.out.mono ?_
             rintro e w2 ⟨rfl, hb⟩
             have HB2 := Lib.hid (HB.out.trans (hb.mono HB.out.size))
             clear hb)
          | (at_builtin
             refine wpList_append_strs _ rfl (.tmp 21) (.tmp 22) _ rfl w2.heap.size 9 Tryd.underlying22 info9 _ 1 [f.toList] rfl (own_one w2 f) w.heap.size a n c ss rfl ((H.out.below HB2.out).alloc HB2.out.size _) (by omega) (by simp) ?_
             intro v3 w3 own3 gr3 at3
             have HB3 := Lib.hid ((HB2.out.alloc HB2.out.size _).grown gr3 (by have := HB2.out.size; simp; omega) (fun j hj => by injection hj with hj; rw [← hj]; exact HB2.out.size))
             obtain ⟨a3, c3, rfl, hs3, _⟩ := Strs.of_own own3 (by omega) FL.out
             have hfr := fresh_any a3 (1 + n) c3 _ s w3 (by omega) hs hs3
             rw [show [f.toList] ++ ss = freshS ss s.toList :: ss from by rw [EF.out]; rfl, ← HG.out] at hfr
             have C3 := Lib.hid hfr
             clear hfr own3 gr3 at3 hs3)
          | (go_at_call 11; with_reducible refine C3.out.mono ?_
             rintro e w4 ⟨rfl, hb⟩
             have HB4 := Lib.hid (HB3.out.trans (hb.mono HB3.out.size))
             clear hb)
          | (go_at_call 17; ((with_reducible refine (CF.out _ HB4.out).mono ?_); rintro e w5 ⟨rfl, rfl⟩))
          | (go_at_call 17; ((with_reducible refine (CG.out _ HB4.out).mono ?_); rintro e w5 ⟨rfl, rfl⟩))
          | (go_at_call 17; ((with_reducible refine (CS.out _ HB4.out).mono ?_); rintro e w5 ⟨rfl, rfl⟩)))
        go_quiet ((go_at_call 15; exact quiet_at (CM.out _)))
        go_wp2
        go_ret
        exact ⟨rfl, bel_drewN HB4.out _⟩
      · obtain ⟨g1, g2, g3, g4⟩ := F5 rfl
        have g4 := g4 g1 g3
        have g5 : decide ((f.size : Int) ≤ 12) = true := by simp; omega
        have g6 : decide ((1 : Int) ≤ (f.size : Int)) = true := by simp; omega
        go_enter Tryd.func6, Tryd.ntmps6
        go_wp2_with (first
          | (go_at_call 8; refine (first_any _).mono ?_; rintro e w1 ⟨rfl, hb⟩
             have HB := Lib.hid hb
             clear hb
             have hfr := fresh_any a n c ss s w1 (by omega) hs ((H.out.below HB.out).more HB.out.size)
             rw [← HF.out] at hfr
             have C1 := Lib.hid hfr
             clear hfr)
          | (go_at_call 11; with_reducible refine C1.out.mono ?_
             rintro e w2 ⟨rfl, hb⟩
             have HB2 := Lib.hid (HB.out.trans (hb.mono HB.out.size))
             clear hb)
          | (at_builtin
             refine wpList_append_strs _ rfl (.tmp 21) (.tmp 22) _ rfl w2.heap.size 9 Tryd.underlying22 info9 _ 1 [f.toList] rfl (own_one w2 f) w.heap.size a n c ss rfl ((H.out.below HB2.out).alloc HB2.out.size _) (by omega) (by simp) ?_
             intro v3 w3 own3 gr3 at3
             have HB3 := Lib.hid ((HB2.out.alloc HB2.out.size _).grown gr3 (by have := HB2.out.size; simp; omega) (fun j hj => by injection hj with hj; rw [← hj]; exact HB2.out.size))
             obtain ⟨a3, c3, rfl, hs3, _⟩ := Strs.of_own own3 (by omega) FL.out
             have hfr := fresh_any a3 (1 + n) c3 _ s w3 (by omega) hs hs3
             rw [show [f.toList] ++ ss = freshS ss s.toList :: ss from by rw [EF.out]; rfl, ← HG.out] at hfr
             have C3 := Lib.hid hfr
             clear hfr own3 gr3 at3 hs3)
          | (go_at_call 11; with_reducible refine C3.out.mono ?_
             rintro e w4 ⟨rfl, hb⟩
             have HB4 := Lib.hid (HB3.out.trans (hb.mono HB3.out.size))
             clear hb)
          | (go_at_call 17; ((with_reducible refine (CF.out _ HB4.out).mono ?_); rintro e w5 ⟨rfl, rfl⟩))
          | (go_at_call 17; ((with_reducible refine (CG.out _ HB4.out).mono ?_); rintro e w5 ⟨rfl, rfl⟩))
          | (go_at_call 17; ((with_reducible refine (CS.out _ HB4.out).mono ?_); rintro e w5 ⟨rfl, rfl⟩)))
        go_quiet ((go_at_call 15; exact quiet_at (CM.out _)))
        go_wp2
        go_ret
        exact ⟨rfl, bel_drewN HB4.out _⟩
    · clear F4
      cases b2
      · clear F5
        go_enter Tryd.func6, Tryd.ntmps6
        go_wp2_with (first
          | (go_at_call 8; refine (first_any _).mono ?_; rintro e w1 ⟨rfl, hb⟩
             have HB := Lib.hid hb
             clear hb
             have hfr := fresh_any a n c ss s w1 (by omega) hs ((H.out.below HB.out).more HB.out.size)
             rw [← HF.out] at hfr
             have C1 := Lib.hid hfr
             clear hfr)
          | (go_at_call 11; with_reducible refine C1.out.mono ?_
             rintro e w2 ⟨rfl, hb⟩
             have HB2 := Lib.hid (HB.out.trans (hb.mono HB.out.size))
             clear hb)
          | (at_builtin
             refine wpList_append_strs _ rfl (.tmp 21) (.tmp 22) _ rfl w2.heap.size 9 Tryd.underlying22 info9 _ 1 [f.toList] rfl (own_one w2 f) w.heap.size a n c ss rfl ((H.out.below HB2.out).alloc HB2.out.size _) (by omega) (by simp) ?_
             intro v3 w3 own3 gr3 at3
             have HB3 := Lib.hid ((HB2.out.alloc HB2.out.size _).grown gr3 (by have := HB2.out.size; simp; omega) (fun j hj => by injection hj with hj; rw [← hj]; exact HB2.out.size))
             obtain ⟨a3, c3, rfl, hs3, _⟩ := Strs.of_own own3 (by omega) FL.out
             have hfr := fresh_any a3 (1 + n) c3 _ s w3 (by omega) hs hs3
             rw [show [f.toList] ++ ss = freshS ss s.toList :: ss from by rw [EF.out]; rfl, ← HG.out] at hfr
             have C3 := Lib.hid hfr
             clear hfr own3 gr3 at3 hs3)
          | (go_at_call 11; with_reducible refine C3.out.mono ?_
             rintro e w4 ⟨rfl, hb⟩
             have HB4 := Lib.hid (HB3.out.trans (hb.mono HB3.out.size))
             clear hb)
          | (go_at_call 17; ((with_reducible refine (CF.out _ HB4.out).mono ?_); rintro e w5 ⟨rfl, rfl⟩))
          | (go_at_call 17; ((with_reducible refine (CG.out _ HB4.out).mono ?_); rintro e w5 ⟨rfl, rfl⟩))
          | (go_at_call 17; ((with_reducible refine (CS.out _ HB4.out).mono ?_); rintro e w5 ⟨rfl, rfl⟩)))
        go_quiet ((go_at_call 15; exact quiet_at (CM.out _)))
        go_wp2
        go_ret
        exact ⟨rfl, bel_drewN HB4.out _⟩
      · obtain ⟨g1, g2, g3, g4⟩ := F5 rfl
        have g4 := g4 g1 g3
        have g5 : decide ((f.size : Int) ≤ 12) = true := by simp; omega
        have g6 : decide ((1 : Int) ≤ (f.size : Int)) = true := by simp; omega
        go_enter Tryd.func6, Tryd.ntmps6
        go_wp2_with (first
          | (go_at_call 8; refine (first_any _).mono ?_; rintro e w1 ⟨rfl, hb⟩
             have HB := Lib.hid hb
             clear hb
             have hfr := fresh_any a n c ss s w1 (by omega) hs ((H.out.below HB.out).more HB.out.size)
             rw [← HF.out] at hfr
             have C1 := Lib.hid hfr
             clear hfr)
          | (go_at_call 11; with_reducible refine C1.out.mono ?_
             rintro e w2 ⟨rfl, hb⟩
             have HB2 := Lib.hid (HB.out.trans (hb.mono HB.out.size))
             clear hb)
          | (at_builtin
             refine wpList_append_strs _ rfl (.tmp 21) (.tmp 22) _ rfl w2.heap.size 9 Tryd.underlying22 info9 _ 1 [f.toList] rfl (own_one w2 f) w.heap.size a n c ss rfl ((H.out.below HB2.out).alloc HB2.out.size _) (by omega) (by simp) ?_
             intro v3 w3 own3 gr3 at3
             have HB3 := Lib.hid ((HB2.out.alloc HB2.out.size _).grown gr3 (by have := HB2.out.size; simp; omega) (fun j hj => by injection hj with hj; rw [← hj]; exact HB2.out.size))
             obtain ⟨a3, c3, rfl, hs3, _⟩ := Strs.of_own own3 (by omega) FL.out
             have hfr := fresh_any a3 (1 + n) c3 _ s w3 (by omega) hs hs3
             rw [show [f.toList] ++ ss = freshS ss s.toList :: ss from by rw [EF.out]; rfl, ← HG.out] at hfr
             have C3 := Lib.hid hfr
             clear hfr own3 gr3 at3 hs3)
          | (go_at_call 11; with_reducible refine C3.out.mono ?_
             rintro e w4 ⟨rfl, hb⟩
             have HB4 := Lib.hid (HB3.out.trans (hb.mono HB3.out.size))
             clear hb)
          | (go_at_call 17; ((with_reducible refine (CF.out _ HB4.out).mono ?_); rintro e w5 ⟨rfl, rfl⟩))
          | (go_at_call 17; ((with_reducible refine (CG.out _ HB4.out).mono ?_); rintro e w5 ⟨rfl, rfl⟩))
          | (go_at_call 17; ((with_reducible refine (CS.out _ HB4.out).mono ?_); rintro e w5 ⟨rfl, rfl⟩)))
        go_quiet ((go_at_call 15; exact quiet_at (CM.out _)))
        go_wp2
        go_ret
        exact ⟨rfl, bel_drewN HB4.out _⟩
  exact fin _ _ rfl rfl
end Go.Proofs.YthgihoeeppincaaDoor
