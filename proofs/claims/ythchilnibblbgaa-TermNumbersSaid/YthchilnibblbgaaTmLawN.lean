/- The law TermNumbers returns true, whatever its arguments. -/
import Derived.Test.YthchilnibblbgaaTmNum
namespace Go.Proofs.Ythchilnibblbgaa
open Go.RowKit

set_option maxHeartbeats 4000000 in
set_option maxRecDepth 20000 in
theorem termNumbers_walk (a b : Int) (ha : -9223372036854775808 ≤ a ∧ a ≤ 9223372036854775807) (hb : -9223372036854775808 ≤ b ∧ b ≤ 9223372036854775807) (w : World) :
    Calls Try.prog 9 #[.int .i64 a, .int .i64 b] w fun e w' => e = .returned (.bool true) ∧ Below w.heap.size w w' := by
  have CF := Lib.hid (first_any w)
  go_enter Try.func9, Try.ntmps9
  go_wp2_with (first | (go_at_call 13; (with_reducible refine CF.out.mono ?_); rintro e w1 ⟨rfl, hb1⟩; have HB := Lib.hid hb1; clear hb1) | fail)
  go_loopw [8] (fun v wr => ∃ i : Nat, i ≤ 6 ∧ v = .int .i64 i ∧ Hid (Below w.heap.size w wr) ∧ Hid (GotN wr a b w1.heap.size (w1.heap.size + 1) (w1.heap.size + 2) i)) (fun v _ => 6 - (intOf v).toNat)
  case atStart => exact ⟨0, by omega, rfl, Lib.hid (below_on (below_on (below_on HB.out (next_alloc _ _)) (next_alloc _ _)) (next_alloc _ _)), Lib.hid (GotN.start _ _ _ _ _ _ rfl rfl rfl)⟩
  case round =>
    obtain ⟨i, hi, rfl, HW, HN⟩ := hrel
    by_cases hi6 : i < 6
    · have CV := Lib.hid (fun (g : Nat) (W : World) (hT : Trms W W.heap.size (some ⟨g, 0, none⟩) 3 (rowN a b i)) => show Calls Try.prog 17 #[.slice (some ⟨g, 0, none⟩) 3 3, .int .i64 2, .slice none 0 0] W (PairRet W (calcV (kindN i) a b)) from numRow_val a b hi6 ▸ termEval_any (some ⟨g, 0, none⟩) 3 3 (rowN a b i) 2 none 0 0 [] W W.heap.size (Nat.le_refl _) hT (Binds.zero _ _ _))
      have q := HN.out.kind hi6
      go_wp2_with (first
        | (go_at_call 30; (with_reducible refine (num_any _ _).mono ?_)
           rintro e wn ⟨rfl, hbn⟩
           have HW := Lib.hid (show Below w.heap.size w wn from below_on HW.out ⟨hbn.os, hbn.tape, hbn.output, hbn.size, hbn.block⟩)
           have HN := Lib.hid (HN.out.on (W' := wn) ⟨hbn.os, hbn.tape, hbn.output, hbn.size, hbn.block⟩)
           have q := HN.out.kind hi6
           clear hbn)
        | (go_at_call 21; (with_reducible refine (two_any _ _ _ _).mono ?_)
           rintro e wn ⟨rfl, hbn⟩
           have HW := Lib.hid (show Below w.heap.size w wn from below_on HW.out ⟨hbn.os, hbn.tape, hbn.output, hbn.size, hbn.block⟩)
           have HN := Lib.hid (HN.out.on (W' := wn) ⟨hbn.os, hbn.tape, hbn.output, hbn.size, hbn.block⟩)
           have q := HN.out.kind hi6
           clear hbn)
        | fail)
      go_region_with (first
        | (go_at_call 30; (with_reducible refine (num_any _ _).mono ?_)
           rintro e wn ⟨rfl, hbn⟩
           have HW := Lib.hid (show Below w.heap.size w wn from below_on HW.out ⟨hbn.os, hbn.tape, hbn.output, hbn.size, hbn.block⟩)
           have HN := Lib.hid (HN.out.on (W' := wn) ⟨hbn.os, hbn.tape, hbn.output, hbn.size, hbn.block⟩)
           have q := HN.out.kind hi6
           clear hbn)
        | (go_at_call 21; (with_reducible refine (two_any _ _ _ _).mono ?_)
           rintro e wn ⟨rfl, hbn⟩
           have HW := Lib.hid (show Below w.heap.size w wn from below_on HW.out ⟨hbn.os, hbn.tape, hbn.output, hbn.size, hbn.block⟩)
           have HN := Lib.hid (HN.out.on (W' := wn) ⟨hbn.os, hbn.tape, hbn.output, hbn.size, hbn.block⟩)
           have q := HN.out.kind hi6
           clear hbn)
        | (go_at_call 17; (
           (with_reducible refine (CV.out _ _ ?_).mono ?_)
           · exact Trms.made wn #[.int .i64 1, .string ⟨#[]⟩, .int .i64 a, .string ⟨#[]⟩, .int .i64 (-1), .int .i64 (-1), .int .i64 1, .string ⟨#[]⟩, .int .i64 b, .string ⟨#[]⟩, .int .i64 (-1), .int .i64 (-1), .int .i64 (kindN i), .string ⟨#[]⟩, .int .i64 0, .string ⟨#[]⟩, .int .i64 0, .int .i64 1] (rowN a b i) 3 _ rfl rfl rfl (by omega) (short_trms rfl)
           rintro e we ⟨⟨s, la, ln, lc, rfl, hv, hf⟩, hbv⟩
           have HW := Lib.hid (show Below w.heap.size w we from below_on (below_on HW.out (next_alloc _ _)) hbv)
           have HN := Lib.hid (show GotN we a b w1.heap.size (w1.heap.size + 1) (w1.heap.size + 2) i from (HN.out.on (next_alloc _ _)).on hbv)
           obtain ⟨⟨v0, q0⟩, f0⟩ := HN.out.slot (j := i * 4) (by omega)
           obtain ⟨⟨v1, q1⟩, f1⟩ := HN.out.slot (j := i * 4 + 1) (by omega)
           obtain ⟨⟨v2, q2⟩, f2⟩ := HN.out.slot (j := i * 4 + 2) (by omega)
           obtain ⟨⟨v3, q3⟩, f3⟩ := HN.out.slot (j := i * 4 + 3) (by omega)
           obtain ⟨⟨v4, q4⟩, f4⟩ := HN.out.eslot (j := i) hi6
           clear hv hf hbv))
        | fail)
      all_goals
        have HN2 := Lib.hid (HN.out.step hi6 (by omega) (by omega) (by omega) (.string s) (.slice la ln lc))
        have HW2 := Lib.hid (((((HW.out.setCell (p := ⟨w1.heap.size, i * 4, none⟩) HB.out.size (.int .i64 (calcV (kindN i) a b).1.kind)).setCell (p := ⟨w1.heap.size, i * 4 + 1, none⟩) HB.out.size (.int .i64 (calcV (kindN i) a b).1.num)).setCell (p := ⟨w1.heap.size, i * 4 + 2, none⟩) HB.out.size (.string s)).setCell (p := ⟨w1.heap.size, i * 4 + 3, none⟩) HB.out.size (.slice la ln lc)).setCell (p := ⟨w1.heap.size + 1, i, none⟩) (Nat.le_succ_of_le HB.out.size) (.int .i64 (calcV (kindN i) a b).2))
        go_wp2
        go_roundw
        case rel => exact ⟨i + 1, by omega, by go_num, HW2, HN2⟩
        case measure => simp [intOf]; omega
    · obtain rfl : i = 6 := by omega
      have p0 : wr.cell? ⟨w1.heap.size, 1, none⟩ = some (.int .i64 (wrap64 (a + b))) := (HN.out.at_ 0 (by omega)).2.1
      have p1 : wr.cell? ⟨w1.heap.size, 5, none⟩ = some (.int .i64 (wrap64 (a - b))) := (HN.out.at_ 1 (by omega)).2.1
      have p2 : wr.cell? ⟨w1.heap.size, 9, none⟩ = some (.int .i64 (wrap64 (a * b))) := (HN.out.at_ 2 (by omega)).2.1
      have p5 : wr.cell? ⟨w1.heap.size, 20, none⟩ = some (.int .i64 2) := (HN.out.at_ 5 (by omega)).1
      have p6 : wr.cell? ⟨w1.heap.size, 21, none⟩ = some (.int .i64 (boolV (decide (a < b))).num) := (HN.out.at_ 5 (by omega)).2.1
      have e0 : wr.cell? ⟨w1.heap.size + 1, 0, none⟩ = some (.int .i64 0) := (HN.out.at_ 0 (by omega)).2.2
      have e1 : wr.cell? ⟨w1.heap.size + 1, 1, none⟩ = some (.int .i64 0) := (HN.out.at_ 1 (by omega)).2.2
      have e2 : wr.cell? ⟨w1.heap.size + 1, 2, none⟩ = some (.int .i64 0) := (HN.out.at_ 2 (by omega)).2.2
      have e5 : wr.cell? ⟨w1.heap.size + 1, 5, none⟩ = some (.int .i64 0) := (HN.out.at_ 5 (by omega)).2.2
      have HR := Lib.hid (HN.out.at_ 3 (by omega)).2
      have HS := Lib.hid (HN.out.at_ 4 (by omega)).2
      clear HN
      obtain ⟨dd, hdd⟩ : ∃ dd, decide (a < b) = dd := ⟨_, rfl⟩
      rw [hdd] at p6
      obtain ⟨ss, hss⟩ : ∃ ss, ss = wrap64 (a + b) := ⟨_, rfl⟩
      obtain ⟨mm, hmm⟩ : ∃ mm, mm = wrap64 (a - b) := ⟨_, rfl⟩
      obtain ⟨tt, htt⟩ : ∃ tt, tt = wrap64 (a * b) := ⟨_, rfl⟩
      by_cases hb0 : b = 0
      · have e3 : wr.cell? ⟨w1.heap.size + 1, 3, none⟩ = some (.int .i64 403) := by have := HR.out.2; rw [this, hb0]; rfl
        have e4 : wr.cell? ⟨w1.heap.size + 1, 4, none⟩ = some (.int .i64 403) := by have := HS.out.2; rw [this, hb0]; rfl
        have db : (b == 0) = true := by rw [hb0]; rfl
        clear HR HS hb0 hss hmm htt ha hb
        cases dd
        · have p7 : wr.cell? ⟨w1.heap.size, 21, none⟩ = some (.int .i64 0) := p6
          clear p6
          go_wp2
          go_ret
          exact ⟨rfl, HW.out⟩
        · have p7 : wr.cell? ⟨w1.heap.size, 21, none⟩ = some (.int .i64 1) := p6
          clear p6
          go_wp2
          go_ret
          exact ⟨rfl, HW.out⟩
      · have e3 : wr.cell? ⟨w1.heap.size + 1, 3, none⟩ = some (.int .i64 0) := by have := HR.out.2; rw [this]; simp [kindN, calcV, hb0]
        have e4 : wr.cell? ⟨w1.heap.size + 1, 4, none⟩ = some (.int .i64 0) := by have := HS.out.2; rw [this]; simp [kindN, calcV, hb0]
        have p3 : wr.cell? ⟨w1.heap.size, 13, none⟩ = some (.int .i64 (wrap64 (a.tdiv b))) := by have := HR.out.1; rw [this]; simp [kindN, calcV, hb0, intV]
        have p4 : wr.cell? ⟨w1.heap.size, 17, none⟩ = some (.int .i64 (a.tmod b)) := by have := HS.out.1; rw [this]; simp [kindN, calcV, hb0, intV]
        have db : (b == 0) = false := beq_eq_false_iff_ne.2 hb0
        have hs := mod_small (a := a) hb0
        have hd := div_back (b := b) ha
        have hz := mod_sign (a := a) (b := b)
        obtain ⟨r, hr⟩ : ∃ r, r = a.tmod b := ⟨_, rfl⟩
        obtain ⟨q, hq⟩ : ∃ q, q = wrap64 (a.tdiv b) := ⟨_, rfl⟩
        rw [← hr] at hs hd hz p4
        rw [← hq] at hd p3
        have dq : (wrap64 (wrap64 (q * b) + r) == a) = true := by rw [hd]; exact beq_self_eq_true a
        have HG := Lib.hid (And.intro hs (And.intro hz hb))
        clear hr hq HR HS hss hmm htt ha hb hs hz hd hb0
        cases dd
        all_goals
          first
            | (have p7 : wr.cell? ⟨w1.heap.size, 21, none⟩ = some (.int .i64 0) := p6
               clear p6)
            | (have p7 : wr.cell? ⟨w1.heap.size, 21, none⟩ = some (.int .i64 1) := p6
               clear p6)
          obtain ⟨hs, hz, hb⟩ := HG.out
          rcases hs with ⟨h1, ⟨h2, h3⟩ | ⟨h2, h3⟩⟩ | ⟨h1, ⟨h2, h3⟩ | ⟨h2, h3⟩⟩
          · have x1 : decide (0 < r) = true := decide_eq_true h1
            have x2 : decide (0 < b) = true := decide_eq_true h2
            have x3 : decide (r < b) = true := decide_eq_true h3
            have x4 : (r == 0) = false := beq_eq_false_iff_ne.2 (by omega)
            have x5 : decide (r < 0) = decide (a < 0) := hz.resolve_left (by omega)
            clear hz hb h1 h2 h3
            go_wp2
            go_region
            go_wp2
            go_ret
            exact ⟨rfl, HW.out.os, HW.out.tape, HW.out.output, HW.out.size, HW.out.block⟩
          · have x1 : decide (0 < r) = true := decide_eq_true h1
            have x2 : decide (0 < b) = false := decide_eq_false (by omega)
            have x3 : decide (b < 0) = true := decide_eq_true h2
            have x4 : (r == 0) = false := beq_eq_false_iff_ne.2 (by omega)
            have x5 : decide (r < 0) = decide (a < 0) := hz.resolve_left (by omega)
            have x6 : decide (r ≤ wrap64 (-(wrap64 (b + 1)))) = true := decide_eq_true (by unfold wrap64; omega)
            clear hz hb h1 h2 h3
            go_wp2
            go_region
            go_wp2
            go_ret
            exact ⟨rfl, HW.out.os, HW.out.tape, HW.out.output, HW.out.size, HW.out.block⟩
          · have x1 : decide (0 < r) = false := decide_eq_false (by omega)
            have x0 : decide (r ≤ 0) = true := decide_eq_true h1
            have x2 : decide (0 < b) = true := decide_eq_true h2
            have x3 : decide (wrap64 (-b) < r) = true := decide_eq_true (by unfold wrap64; omega)
            rcases hz with h | h
            · have x4 : (r == 0) = true := by rw [h]; rfl
              clear hb h1 h2 h3 h
              go_wp2
              go_region
              go_wp2
              go_ret
              exact ⟨rfl, HW.out.os, HW.out.tape, HW.out.output, HW.out.size, HW.out.block⟩
            · cases h0 : r == 0
              · clear hb h1 h2 h3
                go_wp2
                go_region
                go_wp2
                go_ret
                exact ⟨rfl, HW.out.os, HW.out.tape, HW.out.output, HW.out.size, HW.out.block⟩
              · clear hb h1 h2 h3
                go_wp2
                go_region
                go_wp2
                go_ret
                exact ⟨rfl, HW.out.os, HW.out.tape, HW.out.output, HW.out.size, HW.out.block⟩
          · have x1 : decide (0 < r) = false := decide_eq_false (by omega)
            have x0 : decide (r ≤ 0) = true := decide_eq_true h1
            have x2 : decide (0 < b) = false := decide_eq_false (by omega)
            have x6 : decide (b < 0) = true := decide_eq_true h2
            have x3 : decide (b < r) = true := decide_eq_true h3
            rcases hz with h | h
            · have x4 : (r == 0) = true := by rw [h]; rfl
              clear hb h1 h2 h3 h
              go_wp2
              go_region
              go_wp2
              go_ret
              exact ⟨rfl, HW.out.os, HW.out.tape, HW.out.output, HW.out.size, HW.out.block⟩
            · cases h0 : r == 0
              · clear hb h1 h2 h3
                go_wp2
                go_region
                go_wp2
                go_ret
                exact ⟨rfl, HW.out.os, HW.out.tape, HW.out.output, HW.out.size, HW.out.block⟩
              · clear hb h1 h2 h3
                go_wp2
                go_region
                go_wp2
                go_ret
                exact ⟨rfl, HW.out.os, HW.out.tape, HW.out.output, HW.out.size, HW.out.block⟩
end Go.Proofs.Ythchilnibblbgaa
