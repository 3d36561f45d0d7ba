/- Contract of the program's valid. -/
import Derived.Test.YthbakfceaaaamaaTmValid
import Derived.Deep.RegionHeld3
namespace Go.Proofs.Ythbakfceaaaamaa
open Go.RowKit

/-- Block A holds this term. -/
def BoxT (W : World) (A : Nat) (k : Int) (nm : ByteArray) (x : Int) (tx : ByteArray) (l r : Int) : Prop :=
  A < W.heap.size ∧ W.cell? ⟨A, 0, none⟩ = some (.int .i64 k) ∧ W.cell? ⟨A, 1, none⟩ = some (.string nm) ∧ W.cell? ⟨A, 2, none⟩ = some (.int .i64 x) ∧ W.cell? ⟨A, 3, none⟩ = some (.string tx) ∧ W.cell? ⟨A, 4, none⟩ = some (.int .i64 l) ∧ W.cell? ⟨A, 5, none⟩ = some (.int .i64 r)
theorem BoxT.below {W W' : World} {A : Nat} {k x l r : Int} {nm tx : ByteArray} {B : Nat} (h : BoxT W A k nm x tx l r) (hb : Below B W W') (hB : A < B) : BoxT W' A k nm x tx l r := by
  obtain ⟨h1, h2, h3, h4, h5, h6, h7⟩ := h
  exact ⟨Nat.lt_of_lt_of_le h1 hb.size, (hb.cell (p := ⟨A, 0, none⟩) hB).trans h2, (hb.cell (p := ⟨A, 1, none⟩) hB).trans h3, (hb.cell (p := ⟨A, 2, none⟩) hB).trans h4, (hb.cell (p := ⟨A, 3, none⟩) hB).trans h5, (hb.cell (p := ⟨A, 4, none⟩) hB).trans h6, (hb.cell (p := ⟨A, 5, none⟩) hB).trans h7⟩
theorem BoxT.on {W W' : World} {A : Nat} {k x l r : Int} {nm tx : ByteArray} (h : BoxT W A k nm x tx l r) (hb : Below W.heap.size W W') : BoxT W' A k nm x tx l r := h.below hb h.1
theorem BoxT.new (W : World) (k : Int) (nm : ByteArray) (x : Int) (tx : ByteArray) (l r : Int) : BoxT (W.alloc (.cells #[.int .i64 k, .string nm, .int .i64 x, .string tx, .int .i64 l, .int .i64 r] 49)) W.heap.size k nm x tx l r :=
  ⟨by simp, by simp, by simp, by simp, by simp, by simp, by simp⟩
/-- Does a term have the fields of its kind alone? -/
def OwnP (k : Int) (nm : ByteArray) (x : Int) (tx : ByteArray) (l r : Int) : Prop := nm = ownNm k nm ∧ x = ownNum k x ∧ tx = ownTx k tx ∧ l = ownL k l ∧ r = ownR k r
theorem sound_own (k : Int) (nm : ByteArray) (x : Int) (tx : ByteArray) (l r : Int) : soundT ⟨k, nm.toList, x, tx.toList, l, r⟩ = true ↔ OwnP k nm x tx l r ∧ boundsT ⟨k, nm.toList, x, tx.toList, l, r⟩ = true := by
  have e0 : ∀ s : ByteArray, s = (⟨#[]⟩ : ByteArray) ↔ s.toList = [] := fun s => by
    constructor
    · rintro rfl; simp [ByteArray.toList_eq]
    · intro h; exact toList_inj (by rw [h]; simp [ByteArray.toList_eq])
  unfold soundT OwnP boundsT ownNm ownNum ownTx ownL ownR
  simp only [Bool.and_eq_true, Bool.or_eq_true, decide_eq_true_eq, beq_iff_eq, List.isEmpty_iff]
  by_cases h0 : k = 0
  · subst h0
    have ha : arT 0 = 0 := rfl
    simp [ha, e0]
    grind
  by_cases h1 : k = 1
  · subst h1
    have ha : arT 1 = 0 := rfl
    simp [ha, e0]
    grind
  by_cases h2 : k = 2
  · subst h2
    have ha : arT 2 = 0 := rfl
    simp [ha, e0]
    grind
  by_cases h3 : k = 3
  · subst h3
    have ha : arT 3 = 0 := rfl
    simp [ha, e0]
    grind
  rcases arT_ways k with ha | ha | ha
  all_goals
    simp [ha, e0, h0, h1, h2, h3]
    grind

set_option maxHeartbeats 4000000 in
theorem valid_any (k : Int) (nm : ByteArray) (x : Int) (tx : ByteArray) (l r : Int) (i : Nat) (w : World) (hn : nm.size ≤ maxLen) :
    Calls Try.prog 28 #[.agg #[.int .i64 k, .string nm, .int .i64 x, .string tx, .int .i64 l, .int .i64 r], .int .i64 i] w fun e w' =>
      e = .returned (.bool (fitT ⟨k, nm.toList, x, tx.toList, l, r⟩ i)) ∧ Below w.heap.size w w' := by
  have HB := Lib.hid ((((Below.refl w.heap.size w).alloc (Nat.le_refl _) (.cells #[.int .i64 k, .string nm, .int .i64 x, .string tx, .int .i64 l, .int .i64 r] 49))))
  have HX := Lib.hid (BoxT.new w k nm x tx l r)
  have CO := Lib.hid (fun W => operands_any k nm x tx l r W)
  have CI := Lib.hid (fun W => bounds_any k nm x tx l r W hn)
  have CK := Lib.hid (fun W => ownKind_any k nm x tx l r W)
  have HS := Lib.hid (sound_own k nm x tx l r)
  have HF := Lib.hid (fitT_ops (t := ⟨k, nm.toList, x, tx.toList, l, r⟩) (i := i))
  obtain ⟨T, hT⟩ : ∃ T : Trm, T = ⟨k, nm.toList, x, tx.toList, l, r⟩ := ⟨_, rfl⟩
  rw [← hT] at CO CI HS HF ⊢
  clear hn hT
  go_enter Try.func28, Try.ntmps28
  go_wp2_with (first
    | (go_at_call 22; (with_reducible refine (CO.out _).mono ?_)
       rintro e w1 ⟨⟨a, n, c, rfl, hnums, _⟩, hb1⟩
       have HN := Lib.hid hnums
       have HX := Lib.hid (HX.out.below hb1 HX.out.1)
       have HB := Lib.hid (HB.out.trans (hb1.mono HB.out.size))
       have hns := hnums.2.1
       obtain ⟨z0, p0, p1, p2, p3, p4, p5⟩ := HX.out
       clear hnums hb1)
    | fail)
  go_loop [10, 6] (fun v _ => ∃ j : Nat, j ≤ n ∧ v = .int .i64 j ∧ Hid (∀ q, q < j → ∀ o, (opsT T)[q]? = some o → 0 ≤ o ∧ o < i)) (fun v _ => n - (intOf v).toNat)
  case atStart => exact ⟨0, Nat.zero_le _, rfl, Lib.hid (fun q hq => absurd hq (Nat.not_lt_zero _))⟩
  case round =>
    obtain ⟨j, hj, rfl, hpre⟩ := hrel
    by_cases hlt : j < n
    · obtain ⟨b1, o1, y, rfl, _, hy, x0⟩ := HN.out.at_ hlt
      have HY := Lib.hid hy
      clear hy
      cases c1 : decide (y < 0)
      · cases c2 : decide (y < (i : Int))
        · have g2 : decide ((i : Int) ≤ y) = true := decide_eq_true (by have := of_decide_eq_false c2; omega)
          have HG := Lib.hid (show fitT T i = false by
            rw [Bool.eq_false_iff]
            intro h
            have := (HF.out.1 h).1 y (List.mem_of_getElem? HY.out)
            have := of_decide_eq_false c2
            omega)
          go_wp2
          go_ret
          exact ⟨ret_bool HG.out.symm, HB.out⟩
        · have g2 : decide ((i : Int) ≤ y) = false := decide_eq_false (by have := of_decide_eq_true c2; omega)
          have HG := Lib.hid (show ∀ q, q < j + 1 → ∀ o, (opsT T)[q]? = some o → 0 ≤ o ∧ o < i from fun q hq o ho => by
            rcases Nat.lt_or_ge q j with h | h
            · exact hpre.out q h o ho
            · obtain rfl : q = j := by omega
              rw [HY.out] at ho
              injection ho with ho
              have := of_decide_eq_true c2
              have := of_decide_eq_false c1
              omega)
          clear c2
          go_wp2
          go_round
          case rel => exact ⟨j + 1, by omega, by go_num, HG⟩
          case measure => simp [intOf]; omega
      · have HG := Lib.hid (show fitT T i = false by
          rw [Bool.eq_false_iff]
          intro h
          have := (HF.out.1 h).1 y (List.mem_of_getElem? HY.out)
          have := of_decide_eq_true c1
          omega)
        go_wp2
        go_ret
        exact ⟨ret_bool HG.out.symm, HB.out⟩
    · have HG := Lib.hid (show fitT T i = true ↔ soundT T = true by
        rw [HF.out]
        refine ⟨fun h => h.2, fun h => ⟨fun o ho => ?_, h⟩⟩
        obtain ⟨q, hq, rfl⟩ := List.getElem_of_mem ho
        have := HN.out.1
        exact hpre.out q (by omega) _ (List.getElem?_eq_getElem hq))
      by_cases hown : OwnP k nm x tx l r
      · have HD := Lib.hid (show fitT T i = boundsT T by
          rw [Bool.eq_iff_iff, HG.out, HS.out]
          exact ⟨fun h => h.2, fun h => ⟨hown, h⟩⟩)
        have ck := CK.out
        obtain ⟨o1, o2, o3, o4, o5⟩ := hown
        rw [← o1, ← o2, ← o3, ← o4, ← o5] at ck
        have CK := Lib.hid ck
        clear ck o1 o2 o3 o4 o5
        go_wp2
        go_region_held3 (fun W => W.cell? ⟨w.heap.size, 0, none⟩ = some (.int .i64 k) ∧ W.cell? ⟨w.heap.size, 1, none⟩ = some (.string nm) ∧ W.cell? ⟨w.heap.size, 2, none⟩ = some (.int .i64 x) ∧ W.cell? ⟨w.heap.size, 3, none⟩ = some (.string tx) ∧ W.cell? ⟨w.heap.size, 4, none⟩ = some (.int .i64 l) ∧ W.cell? ⟨w.heap.size, 5, none⟩ = some (.int .i64 r)) (exact ⟨p0, p1, p2, p3, p4, p5⟩) (first
          | (go_at_call 47; (with_reducible refine (CK.out _).mono ?_)
             rintro e wn ⟨rfl, hbn⟩
             have HX := Lib.hid (HX.out.on (W' := wn) ⟨hbn.os, hbn.tape, hbn.output, hbn.size, hbn.block⟩)
             have HB := Lib.hid (show Below w.heap.size w wn from below_on HB.out ⟨hbn.os, hbn.tape, hbn.output, hbn.size, hbn.block⟩)
             obtain ⟨z0, p0, p1, p2, p3, p4, p5⟩ := HX.out
             clear hbn)
          | (go_at_call 48; (with_reducible refine (CI.out _).mono ?_)
             rintro e wn ⟨rfl, hbn⟩
             have HX := Lib.hid (HX.out.on (W' := wn) ⟨hbn.os, hbn.tape, hbn.output, hbn.size, hbn.block⟩)
             have HB := Lib.hid (show Below w.heap.size w wn from below_on HB.out ⟨hbn.os, hbn.tape, hbn.output, hbn.size, hbn.block⟩)
             obtain ⟨z0, p0, p1, p2, p3, p4, p5⟩ := HX.out
             clear hbn)
          | fail)
        all_goals go_wp2
        all_goals go_ret
        all_goals first
          | exact ⟨ret_bool HD.out.symm, HB.out⟩
          | exact ⟨ret_bool HD.out.symm, HB.out.drew⟩
          | fail
      · have HD := Lib.hid (show fitT T i = false by
          rw [Bool.eq_false_iff, Ne, HG.out, HS.out]
          exact fun h => hown h.1)
        have HO := Lib.hid (show ¬ (nm.toList = (ownNm k nm).toList ∧ x = ownNum k x ∧ tx.toList = (ownTx k tx).toList ∧ l = ownL k l ∧ r = ownR k r) from fun h => hown ⟨toList_inj h.1, h.2.1, toList_inj h.2.2.1, h.2.2.2⟩)
        clear hown
        generalize ownNm k nm = n' at HO CK
        generalize ownNum k x = x' at HO CK
        generalize ownTx k tx = t' at HO CK
        generalize ownL k l = l' at HO CK
        generalize ownR k r = r' at HO CK
        cases q1 : (nm.toList == n'.toList)
        · skip
          go_wp2
          go_region_with (first
            | (go_at_call 47; (with_reducible refine (CK.out _).mono ?_)
               rintro e wn ⟨rfl, hbn⟩
               have HX := Lib.hid (HX.out.on (W' := wn) ⟨hbn.os, hbn.tape, hbn.output, hbn.size, hbn.block⟩)
               have HB := Lib.hid (show Below w.heap.size w wn from below_on HB.out ⟨hbn.os, hbn.tape, hbn.output, hbn.size, hbn.block⟩)
               obtain ⟨z0, p0, p1, p2, p3, p4, p5⟩ := HX.out
               clear hbn)
            | fail)
          all_goals go_wp2
          all_goals go_ret
          all_goals first
            | exact ⟨ret_bool HD.out.symm, HB.out⟩
            | exact ⟨ret_bool HD.out.symm, HB.out.drew⟩
            | fail
        · obtain rfl := toList_inj (eq_of_beq q1)
          cases q2 : (x == x')
          · skip
            go_wp2
            go_region_with (first
              | (go_at_call 47; (with_reducible refine (CK.out _).mono ?_)
                 rintro e wn ⟨rfl, hbn⟩
                 have HX := Lib.hid (HX.out.on (W' := wn) ⟨hbn.os, hbn.tape, hbn.output, hbn.size, hbn.block⟩)
                 have HB := Lib.hid (show Below w.heap.size w wn from below_on HB.out ⟨hbn.os, hbn.tape, hbn.output, hbn.size, hbn.block⟩)
                 obtain ⟨z0, p0, p1, p2, p3, p4, p5⟩ := HX.out
                 clear hbn)
              | fail)
            all_goals go_wp2
            all_goals go_ret
            all_goals first
              | exact ⟨ret_bool HD.out.symm, HB.out⟩
              | exact ⟨ret_bool HD.out.symm, HB.out.drew⟩
              | fail
          · obtain rfl := eq_of_beq q2
            cases q3 : (tx.toList == t'.toList)
            · skip
              go_wp2
              go_region_with (first
                | (go_at_call 47; (with_reducible refine (CK.out _).mono ?_)
                   rintro e wn ⟨rfl, hbn⟩
                   have HX := Lib.hid (HX.out.on (W' := wn) ⟨hbn.os, hbn.tape, hbn.output, hbn.size, hbn.block⟩)
                   have HB := Lib.hid (show Below w.heap.size w wn from below_on HB.out ⟨hbn.os, hbn.tape, hbn.output, hbn.size, hbn.block⟩)
                   obtain ⟨z0, p0, p1, p2, p3, p4, p5⟩ := HX.out
                   clear hbn)
                | fail)
              all_goals go_wp2
              all_goals go_ret
              all_goals first
                | exact ⟨ret_bool HD.out.symm, HB.out⟩
                | exact ⟨ret_bool HD.out.symm, HB.out.drew⟩
                | fail
            · obtain rfl := toList_inj (eq_of_beq q3)
              cases q4 : (l == l')
              · skip
                go_wp2
                go_region_with (first
                  | (go_at_call 47; (with_reducible refine (CK.out _).mono ?_)
                     rintro e wn ⟨rfl, hbn⟩
                     have HX := Lib.hid (HX.out.on (W' := wn) ⟨hbn.os, hbn.tape, hbn.output, hbn.size, hbn.block⟩)
                     have HB := Lib.hid (show Below w.heap.size w wn from below_on HB.out ⟨hbn.os, hbn.tape, hbn.output, hbn.size, hbn.block⟩)
                     obtain ⟨z0, p0, p1, p2, p3, p4, p5⟩ := HX.out
                     clear hbn)
                  | fail)
                all_goals go_wp2
                all_goals go_ret
                all_goals first
                  | exact ⟨ret_bool HD.out.symm, HB.out⟩
                  | exact ⟨ret_bool HD.out.symm, HB.out.drew⟩
                  | fail
              · obtain rfl := eq_of_beq q4
                cases q5 : (r == r')
                · skip
                  go_wp2
                  go_region_with (first
                    | (go_at_call 47; (with_reducible refine (CK.out _).mono ?_)
                       rintro e wn ⟨rfl, hbn⟩
                       have HX := Lib.hid (HX.out.on (W' := wn) ⟨hbn.os, hbn.tape, hbn.output, hbn.size, hbn.block⟩)
                       have HB := Lib.hid (show Below w.heap.size w wn from below_on HB.out ⟨hbn.os, hbn.tape, hbn.output, hbn.size, hbn.block⟩)
                       obtain ⟨z0, p0, p1, p2, p3, p4, p5⟩ := HX.out
                       clear hbn)
                    | fail)
                  all_goals go_wp2
                  all_goals go_ret
                  all_goals first
                    | exact ⟨ret_bool HD.out.symm, HB.out⟩
                    | exact ⟨ret_bool HD.out.symm, HB.out.drew⟩
                    | fail
                · obtain rfl := eq_of_beq q5
                  exact absurd ⟨rfl, rfl, rfl, rfl, rfl⟩ HO.out
end Go.Proofs.Ythbakfceaaaamaa
