/- The law DataBack returns true, whatever its arguments. -/
import Derived.Test.YtnanfmmafmcchaaGreatDoorDtBox
import Derived.BigQuiet
namespace Go.Proofs.YtnanfmmafmcchaaGreatDoor
open Go.RowKit

theorem lxS_of (s : ByteArray) : lxS s.toList = s := lxS_inj (by rw [lxS_toList])
/-- What is shown of a value that is no end of a session is short. -/
theorem show_short {v : Val} (h5 : v.kind ≠ 5) (hn : okNums v) : (showV v).length ≤ 400 := by
  cases hm : mayV v
  · rw [showV_may hm]; simp
  · rw [showV_kind hm]
    obtain ⟨k, x, s, l⟩ := v
    dsimp only at h5 hn ⊢
    split
    · simp
    · split
      · have := itoa_short hn.1
        dsimp only at this
        omega
      · split
        · split <;> simp
        · split
          · rename_i h3
            have h1 := may_text hm h3
            have h2 := (quoted_len s).2
            omega
          · split
            · rename_i h4
              have h1 := may_list hm h4
              have h2 := showN_short hn.2
              dsimp only at h2
              unfold showN
              simp only [List.length_cons, List.length_append, List.length_nil]
              omega
            · rename_i h0 h1 h2 h3 h4
              have := may_five hm (by simpa using h0) (by simpa using h1) (by simpa using h2) (by simpa using h3) (by simpa using h4)
              exact absurd (eq_of_beq this) h5
theorem shown_same {A B : Val} (ha : mayV A = true) (hb : mayV B = true) (ka : A.kind ≠ 5) (kb : B.kind ≠ 5) : (showV A == showV B) = sameV A B := by
  cases h : sameV A B
  · rw [beq_eq_false_iff_ne]
    intro e
    rw [sameV_iff.2 (showV_inj ha hb ka kb e)] at h
    cases h
  · rw [sameV_iff] at h
    rw [h]
    exact beq_self_eq_true _

set_option maxHeartbeats 8000000 in
set_option maxRecDepth 20000 in
theorem dataBack_walk (k x : Int) (s : ByteArray) (a : Option Addr) (n c : Nat) (l : List Int) (k1 x1 : Int) (s1 : ByteArray) (a1 : Option Addr) (n1 c1 : Nat) (l1 : List Int) (t : ByteArray) (w : World) (h : Nums w w.heap.size a n l) (h1 : Nums w w.heap.size a1 n1 l1)
    (hx : inI64 x) (hi : ∀ y ∈ l, inI64 y) (hx1 : inI64 x1) (hi1 : ∀ y ∈ l1, inI64 y) (hm : Met w) :
    Calls Tryz.prog 4 #[.agg #[.int .i64 k, .int .i64 x, .string s, .slice a n c], .agg #[.int .i64 k1, .int .i64 x1, .string s1, .slice a1 n1 c1], .string t] w fun e w' => e = .returned (.bool true) ∧ Below w.heap.size w w' := by
  have HM := Lib.hid hm
  have HB0 := Lib.hid (((Below.refl w.heap.size w).alloc (Nat.le_refl _) (.cells #[.int .i64 k, .int .i64 x, .string s, .slice a n c] 24)).alloc (by simp) (.cells #[.int .i64 k1, .int .i64 x1, .string s1, .slice a1 n1 c1] 24))
  have HX0 := Lib.hid (show Box ((w.alloc (.cells #[.int .i64 k, .int .i64 x, .string s, .slice a n c] 24)).alloc (.cells #[.int .i64 k1, .int .i64 x1, .string s1, .slice a1 n1 c1] 24)) w.heap.size k x s a n c from (Box.new w _ rfl _ _ _ _ _ _).alloc _)
  have HX1 := Lib.hid (show Box ((w.alloc (.cells #[.int .i64 k, .int .i64 x, .string s, .slice a n c] 24)).alloc (.cells #[.int .i64 k1, .int .i64 x1, .string s1, .slice a1 n1 c1] 24)) (w.heap.size + 1) k1 x1 s1 a1 n1 c1 from Box.new _ _ (by simp) _ _ _ _ _ _)
  have CF := Lib.hid (dataFirst_any _ (HM.out.keep HB0.out))
  obtain ⟨A, hA⟩ : ∃ A : Val, A = ⟨k, x, s.toList, l⟩ := ⟨_, rfl⟩
  obtain ⟨B, hB⟩ : ∃ B : Val, B = ⟨k1, x1, s1.toList, l1⟩ := ⟨_, rfl⟩
  have cma : ∀ W, Below w.heap.size w W → Calls Tryz.prog 11 #[.agg #[.int .i64 k, .int .i64 x, .string s, .slice a n c]] W fun e w' => e = .returned (.bool (mayV A)) ∧ Below W.heap.size W w' := fun W hW => by
    rw [hA]
    exact may_any k x s a n c l W w.heap.size hW.size (h.below hW)
  have cmb : ∀ W, Below w.heap.size w W → Calls Tryz.prog 11 #[.agg #[.int .i64 k1, .int .i64 x1, .string s1, .slice a1 n1 c1]] W fun e w' => e = .returned (.bool (mayV B)) ∧ Below W.heap.size W w' := fun W hW => by
    rw [hB]
    exact may_any k1 x1 s1 a1 n1 c1 l1 W w.heap.size hW.size (h1.below hW)
  have csa : k ≠ 5 → ∀ W, Below w.heap.size w W → Calls Tryz.prog 17 #[.agg #[.int .i64 k, .int .i64 x, .string s, .slice a n c]] W fun e w' => e = .returned (.string (lxS (showV A))) ∧ Below W.heap.size W w' := fun h5 W hW => by
    rw [hA]
    exact show_any k x s a n c l W w.heap.size hW.size (h.below hW) hx hi (fun _ e => absurd e h5) (HM.out.keep hW).pow
  have csb : k1 ≠ 5 → ∀ W, Below w.heap.size w W → Calls Tryz.prog 17 #[.agg #[.int .i64 k1, .int .i64 x1, .string s1, .slice a1 n1 c1]] W fun e w' => e = .returned (.string (lxS (showV B))) ∧ Below W.heap.size W w' := fun h5 W hW => by
    rw [hB]
    exact show_any k1 x1 s1 a1 n1 c1 l1 W w.heap.size hW.size (h1.below hW) hx1 hi1 (fun _ e => absurd e h5) (HM.out.keep hW).pow
  have cab : ∀ W, Below w.heap.size w W → Calls Tryz.prog 13 #[.agg #[.int .i64 k, .int .i64 x, .string s, .slice a n c], .agg #[.int .i64 k1, .int .i64 x1, .string s1, .slice a1 n1 c1]] W fun e w' => e = .returned (.bool (sameV A B)) ∧ Below W.heap.size W w' := fun W hW => by
    rw [hA, hB]
    exact same_any k x s a n c l k1 x1 s1 a1 n1 c1 l1 W w.heap.size hW.size (h.below hW) (h1.below hW)
  have cxa : ∀ (a2 : Option Addr) (n2 c2 : Nat) W, Below w.heap.size w W → Nums W W.heap.size a2 n2 l → Calls Tryz.prog 13 #[.agg #[.int .i64 k, .int .i64 x, .string s, .slice a2 n2 c2], .agg #[.int .i64 k, .int .i64 x, .string s, .slice a n c]] W fun e w' => e = .returned (.bool true) ∧ Below W.heap.size W w' := fun a2 n2 c2 W hW hn => by
    have := same_any k x s a2 n2 c2 l k x s a n c l W W.heap.size (Nat.le_refl _) hn ((h.below hW).more hW.size)
    rw [sameV_iff.2 rfl] at this
    exact this
  have okA : okNums A := by rw [hA]; exact ⟨hx, hi⟩
  have kA : A.kind = k := by rw [hA]
  have kB : B.kind = k1 := by rw [hB]
  have crd : k ≠ 5 → mayV A = true → ∀ W, Met W → Calls Tryz.prog 9 #[.string (lxS (showV A))] W fun e w' => ∃ a2 n2 c2, e = .returned (.tuple #[.agg #[.int .i64 k, .int .i64 x, .string s, .slice a2 n2 c2], .int .i64 0]) ∧ Nums w' w'.heap.size a2 n2 l ∧ Below W.heap.size W w' := fun h5 hmA W hW => by
    have hsz : (lxS (showV A)).size ≤ 1100000 := by rw [← lxLen, lxS_toList]; have := show_short (by rw [kA]; exact h5) okA; omega
    refine (read_any (lxS (showV A)) W hsz hW).mono ?_
    rintro e w' ⟨ha, hb⟩
    rw [lxS_toList, readV_show hmA (by rw [kA]; exact h5) okA, hA] at ha
    obtain ⟨a2, c2, he, hn⟩ := ha
    dsimp only at he hn
    rw [lxS_of] at he
    exact ⟨a2, _, c2, he, hn, hb⟩
  have CXA := Lib.hid cxa
  clear h h1 hm hA hB cxa okA
  by_cases g : t.size ≤ 400
  · have b0 : decide ((400 : Int) < (t.size : Int)) = false := decide_eq_false (by omega)
    have b1 : decide (400 < t.size) = false := decide_eq_false (by omega)
    have crr := fun W (hW : Below w.heap.size w W) => read_any t W (by omega) (HM.out.keep hW)
    cases hr : readV t.toList with
    | none =>
      have crn : ∀ W, Below w.heap.size w W → Calls Tryz.prog 9 #[.string t] W fun e w' => e = .returned (.tuple #[.agg #[.int .i64 0, .int .i64 0, .string ⟨#[]⟩, .slice none 0 0], .int .i64 300]) ∧ Below W.heap.size W w' := fun W hW => by
        refine (crr W hW).mono ?_
        rintro e w' ⟨ha, hb⟩
        rw [hr] at ha
        exact ⟨ha, hb⟩
      have CRN := Lib.hid crn
      clear crr crn hr
      cases hma : mayV A
      · rw [hma] at cma
        have CMA := Lib.hid cma
        clear cma cmb csa csb cab crd hma kA kB
        go_enter Tryz.func4, Tryz.ntmps4
        go_wp2_with (first
          | (go_at_call 8; (with_reducible refine CF.out.mono ?_)
             rintro e w1 ⟨rfl, hb1⟩
             have HB := Lib.hid (HB0.out.trans (hb1.mono HB0.out.size))
             have HX0 := Lib.hid (HX0.out.next hb1)
             have HX1 := Lib.hid (HX1.out.next hb1)
             obtain ⟨z0, p0, q0, r0, t0⟩ := HX0.out
             obtain ⟨z1, p1, q1, r1, t1⟩ := HX1.out
             clear hb1)
          | (go_at_call 9; (with_reducible refine (CRN.out _ HB.out).mono ?_)
             rintro e w2 ⟨rfl, hb1⟩
             have HX0 := Lib.hid ((HX0.out.next hb1).alloc (.cells #[.int .i64 0, .int .i64 0, .string ⟨#[]⟩, .slice none 0 0] 24))
             have HX1 := Lib.hid ((HX1.out.next hb1).alloc (.cells #[.int .i64 0, .int .i64 0, .string ⟨#[]⟩, .slice none 0 0] 24))
             have HB2 := Lib.hid (below_next HB.out hb1)
             have HB := Lib.hid (HB2.out.alloc HB2.out.size (.cells #[.int .i64 0, .int .i64 0, .string ⟨#[]⟩, .slice none 0 0] 24))
             obtain ⟨z0, p0, q0, r0, t0⟩ := HX0.out
             obtain ⟨z1, p1, q1, r1, t1⟩ := HX1.out
             clear hb1)
          | (go_at_call 11; (with_reducible refine (CMA.out _ ?_).mono ?_)
             · first | exact HB.out | exact HB.out.drew | exact below_drewN HB.out _
             rintro e wn ⟨rfl, hbn⟩
             have HX0 := Lib.hid (HX0.out.below (show Below _ _ wn from ⟨hbn.os, hbn.tape, hbn.output, hbn.size, hbn.block⟩) HX0.out.1)
             have HX1 := Lib.hid (HX1.out.below (show Below _ _ wn from ⟨hbn.os, hbn.tape, hbn.output, hbn.size, hbn.block⟩) HX1.out.1)
             have HB := Lib.hid (show Below w.heap.size w wn from below_next HB.out ⟨hbn.os, hbn.tape, hbn.output, hbn.size, hbn.block⟩)
             obtain ⟨z0, p0, q0, r0, t0⟩ := HX0.out
             obtain ⟨z1, p1, q1, r1, t1⟩ := HX1.out
             clear hbn)
          | fail)
        go_ret
        exact ⟨rfl, HB.out⟩
      · rw [hma] at cma
        have CMA := Lib.hid cma
        cases hmb : mayV B
        · rw [hmb] at cmb
          have CMB := Lib.hid cmb
          clear cma cmb csa csb cab crd hma hmb kA kB
          go_enter Tryz.func4, Tryz.ntmps4
          go_wp2_with (first
            | (go_at_call 8; (with_reducible refine CF.out.mono ?_)
               rintro e w1 ⟨rfl, hb1⟩
               have HB := Lib.hid (HB0.out.trans (hb1.mono HB0.out.size))
               have HX0 := Lib.hid (HX0.out.next hb1)
               have HX1 := Lib.hid (HX1.out.next hb1)
               obtain ⟨z0, p0, q0, r0, t0⟩ := HX0.out
               obtain ⟨z1, p1, q1, r1, t1⟩ := HX1.out
               clear hb1)
            | (go_at_call 9; (with_reducible refine (CRN.out _ HB.out).mono ?_)
               rintro e w2 ⟨rfl, hb1⟩
               have HX0 := Lib.hid ((HX0.out.next hb1).alloc (.cells #[.int .i64 0, .int .i64 0, .string ⟨#[]⟩, .slice none 0 0] 24))
               have HX1 := Lib.hid ((HX1.out.next hb1).alloc (.cells #[.int .i64 0, .int .i64 0, .string ⟨#[]⟩, .slice none 0 0] 24))
               have HB2 := Lib.hid (below_next HB.out hb1)
               have HB := Lib.hid (HB2.out.alloc HB2.out.size (.cells #[.int .i64 0, .int .i64 0, .string ⟨#[]⟩, .slice none 0 0] 24))
               obtain ⟨z0, p0, q0, r0, t0⟩ := HX0.out
               obtain ⟨z1, p1, q1, r1, t1⟩ := HX1.out
               clear hb1)
            | (go_at_call 11; (with_reducible refine (CMA.out _ ?_).mono ?_)
               · first | exact HB.out | exact HB.out.drew | exact below_drewN HB.out _
               rintro e wn ⟨rfl, hbn⟩
               have HX0 := Lib.hid (HX0.out.below (show Below _ _ wn from ⟨hbn.os, hbn.tape, hbn.output, hbn.size, hbn.block⟩) HX0.out.1)
               have HX1 := Lib.hid (HX1.out.below (show Below _ _ wn from ⟨hbn.os, hbn.tape, hbn.output, hbn.size, hbn.block⟩) HX1.out.1)
               have HB := Lib.hid (show Below w.heap.size w wn from below_next HB.out ⟨hbn.os, hbn.tape, hbn.output, hbn.size, hbn.block⟩)
               obtain ⟨z0, p0, q0, r0, t0⟩ := HX0.out
               obtain ⟨z1, p1, q1, r1, t1⟩ := HX1.out
               clear hbn)
            | (go_at_call 11; (with_reducible refine (CMB.out _ ?_).mono ?_)
               · first | exact HB.out | exact HB.out.drew | exact below_drewN HB.out _
               rintro e wn ⟨rfl, hbn⟩
               have HX0 := Lib.hid (HX0.out.below (show Below _ _ wn from ⟨hbn.os, hbn.tape, hbn.output, hbn.size, hbn.block⟩) HX0.out.1)
               have HX1 := Lib.hid (HX1.out.below (show Below _ _ wn from ⟨hbn.os, hbn.tape, hbn.output, hbn.size, hbn.block⟩) HX1.out.1)
               have HB := Lib.hid (show Below w.heap.size w wn from below_next HB.out ⟨hbn.os, hbn.tape, hbn.output, hbn.size, hbn.block⟩)
               obtain ⟨z0, p0, q0, r0, t0⟩ := HX0.out
               obtain ⟨z1, p1, q1, r1, t1⟩ := HX1.out
               clear hbn)
            | fail)
          go_ret
          exact ⟨rfl, HB.out⟩
        · rw [hmb] at cmb
          have CMB := Lib.hid cmb
          cases e5 : (k == 5)
          · cases f5 : (k1 == 5)
            · have k5 : k ≠ 5 := by rw [beq_eq_false_iff_ne] at e5; exact e5
              have k15 : k1 ≠ 5 := by rw [beq_eq_false_iff_ne] at f5; exact f5
              have csa := csa k5
              have csb := csb k15
              have crd := crd k5 hma
              have hss : ((lxS (showV A)).toList == (lxS (showV B)).toList) = sameV A B := by
                rw [lxS_toList, lxS_toList]
                exact shown_same hma hmb (by rw [kA]; exact k5) (by rw [kB]; exact k15)
              obtain ⟨SA, hSA⟩ : ∃ SA, SA = lxS (showV A) := ⟨_, rfl⟩
              obtain ⟨SB, hSB⟩ : ∃ SB, SB = lxS (showV B) := ⟨_, rfl⟩
              rw [← hSA] at csa crd hss
              rw [← hSB] at csb hss
              have CSA := Lib.hid csa
              have CSB := Lib.hid csb
              have CRD := Lib.hid crd
              cases hs : sameV A B
              · rw [hs] at cab hss
                have CAB := Lib.hid cab
                clear cma cmb csa csb cab crd hma hmb kA kB k5 k15 hSA hSB hs
                go_enter Tryz.func4, Tryz.ntmps4
                go_wp2_with (first
                  | (go_at_call 8; (with_reducible refine CF.out.mono ?_)
                     rintro e w1 ⟨rfl, hb1⟩
                     have HB := Lib.hid (HB0.out.trans (hb1.mono HB0.out.size))
                     have HX0 := Lib.hid (HX0.out.next hb1)
                     have HX1 := Lib.hid (HX1.out.next hb1)
                     obtain ⟨z0, p0, q0, r0, t0⟩ := HX0.out
                     obtain ⟨z1, p1, q1, r1, t1⟩ := HX1.out
                     clear hb1)
                  | (go_at_call 9; (with_reducible refine (CRN.out _ HB.out).mono ?_)
                     rintro e w2 ⟨rfl, hb1⟩
                     have HX0 := Lib.hid ((HX0.out.next hb1).alloc (.cells #[.int .i64 0, .int .i64 0, .string ⟨#[]⟩, .slice none 0 0] 24))
                     have HX1 := Lib.hid ((HX1.out.next hb1).alloc (.cells #[.int .i64 0, .int .i64 0, .string ⟨#[]⟩, .slice none 0 0] 24))
                     have HB2 := Lib.hid (below_next HB.out hb1)
                     have HB := Lib.hid (HB2.out.alloc HB2.out.size (.cells #[.int .i64 0, .int .i64 0, .string ⟨#[]⟩, .slice none 0 0] 24))
                     obtain ⟨z0, p0, q0, r0, t0⟩ := HX0.out
                     obtain ⟨z1, p1, q1, r1, t1⟩ := HX1.out
                     clear hb1)
                  | (go_at_call 11; (with_reducible refine (CMA.out _ ?_).mono ?_)
                     · first | exact HB.out | exact HB.out.drew | exact below_drewN HB.out _
                     rintro e wn ⟨rfl, hbn⟩
                     have HX0 := Lib.hid (HX0.out.below (show Below _ _ wn from ⟨hbn.os, hbn.tape, hbn.output, hbn.size, hbn.block⟩) HX0.out.1)
                     have HX1 := Lib.hid (HX1.out.below (show Below _ _ wn from ⟨hbn.os, hbn.tape, hbn.output, hbn.size, hbn.block⟩) HX1.out.1)
                     have HB := Lib.hid (show Below w.heap.size w wn from below_next HB.out ⟨hbn.os, hbn.tape, hbn.output, hbn.size, hbn.block⟩)
                     obtain ⟨z0, p0, q0, r0, t0⟩ := HX0.out
                     obtain ⟨z1, p1, q1, r1, t1⟩ := HX1.out
                     clear hbn)
                  | (go_at_call 11; (with_reducible refine (CMB.out _ ?_).mono ?_)
                     · first | exact HB.out | exact HB.out.drew | exact below_drewN HB.out _
                     rintro e wn ⟨rfl, hbn⟩
                     have HX0 := Lib.hid (HX0.out.below (show Below _ _ wn from ⟨hbn.os, hbn.tape, hbn.output, hbn.size, hbn.block⟩) HX0.out.1)
                     have HX1 := Lib.hid (HX1.out.below (show Below _ _ wn from ⟨hbn.os, hbn.tape, hbn.output, hbn.size, hbn.block⟩) HX1.out.1)
                     have HB := Lib.hid (show Below w.heap.size w wn from below_next HB.out ⟨hbn.os, hbn.tape, hbn.output, hbn.size, hbn.block⟩)
                     obtain ⟨z0, p0, q0, r0, t0⟩ := HX0.out
                     obtain ⟨z1, p1, q1, r1, t1⟩ := HX1.out
                     clear hbn)
                  | (go_at_call 17; (with_reducible refine (CSA.out _ ?_).mono ?_)
                     · first | exact HB.out | exact HB.out.drew | exact below_drewN HB.out _
                     rintro e wn ⟨rfl, hbn⟩
                     have HX0 := Lib.hid (HX0.out.below (show Below _ _ wn from ⟨hbn.os, hbn.tape, hbn.output, hbn.size, hbn.block⟩) HX0.out.1)
                     have HX1 := Lib.hid (HX1.out.below (show Below _ _ wn from ⟨hbn.os, hbn.tape, hbn.output, hbn.size, hbn.block⟩) HX1.out.1)
                     have HB := Lib.hid (show Below w.heap.size w wn from below_next HB.out ⟨hbn.os, hbn.tape, hbn.output, hbn.size, hbn.block⟩)
                     obtain ⟨z0, p0, q0, r0, t0⟩ := HX0.out
                     obtain ⟨z1, p1, q1, r1, t1⟩ := HX1.out
                     clear hbn)
                  | (go_at_call 9; (with_reducible refine (CRD.out _ (HM.out.keep HB.out)).mono ?_)
                     rintro e wr ⟨a2, n2, c2, rfl, hn2, hb1⟩
                     have HX2 := Lib.hid (Box.new wr _ rfl k x s a2 n2 c2)
                     have HX0 := Lib.hid ((HX0.out.next hb1).alloc (.cells #[.int .i64 k, .int .i64 x, .string s, .slice a2 n2 c2] 24))
                     have HX1 := Lib.hid ((HX1.out.next hb1).alloc (.cells #[.int .i64 k, .int .i64 x, .string s, .slice a2 n2 c2] 24))
                     have HN2 := Lib.hid (show Nums (wr.alloc (.cells #[.int .i64 k, .int .i64 x, .string s, .slice a2 n2 c2] 24)) (wr.alloc (.cells #[.int .i64 k, .int .i64 x, .string s, .slice a2 n2 c2] 24)).heap.size a2 n2 l from (hn2.alloc (Nat.le_refl _) _).more (by simp))
                     have HB2 := Lib.hid (below_next HB.out hb1)
                     have HB := Lib.hid (HB2.out.alloc HB2.out.size (.cells #[.int .i64 k, .int .i64 x, .string s, .slice a2 n2 c2] 24))
                     obtain ⟨z0, p0, q0, r0, t0⟩ := HX0.out
                     obtain ⟨z1, p1, q1, r1, t1⟩ := HX1.out
                     obtain ⟨z2, p2, q2, r2, t2⟩ := HX2.out
                     clear hb1 hn2)
                  | fail)
                go_region_held3 (fun W => (W.cell? ⟨w.heap.size, 0, none⟩ = some (.int .i64 k) ∧ W.cell? ⟨w.heap.size, 1, none⟩ = some (.int .i64 x) ∧ W.cell? ⟨w.heap.size, 2, none⟩ = some (.string s) ∧ W.cell? ⟨w.heap.size, 3, none⟩ = some (.slice a n c)) ∧ (W.cell? ⟨w.heap.size + 1, 0, none⟩ = some (.int .i64 k1) ∧ W.cell? ⟨w.heap.size + 1, 1, none⟩ = some (.int .i64 x1) ∧ W.cell? ⟨w.heap.size + 1, 2, none⟩ = some (.string s1) ∧ W.cell? ⟨w.heap.size + 1, 3, none⟩ = some (.slice a1 n1 c1)) ∧ W.cell? ⟨wr.heap.size, 0, none⟩ = some (.int .i64 k) ∧ W.cell? ⟨wr.heap.size, 1, none⟩ = some (.int .i64 x) ∧ W.cell? ⟨wr.heap.size, 2, none⟩ = some (.string s) ∧ W.cell? ⟨wr.heap.size, 3, none⟩ = some (.slice a2 n2 c2)) (exact ⟨⟨p0, q0, r0, t0⟩, ⟨p1, q1, r1, t1⟩, p2, q2, r2, t2⟩) (first
                  | (go_at_call 13; (with_reducible refine (CXA.out _ _ _ _ ?_ ?_).mono ?_)
                     · first | exact HB.out | exact HB.out.drew | exact below_drewN HB.out _
                     · exact HN2.out
                     rintro e wn ⟨rfl, hbn⟩
                     have HX0 := Lib.hid (HX0.out.below (show Below _ _ wn from ⟨hbn.os, hbn.tape, hbn.output, hbn.size, hbn.block⟩) HX0.out.1)
                     have HX1 := Lib.hid (HX1.out.below (show Below _ _ wn from ⟨hbn.os, hbn.tape, hbn.output, hbn.size, hbn.block⟩) HX1.out.1)
                     have HX2 := Lib.hid (HX2.out.below (show Below _ _ wn from ⟨hbn.os, hbn.tape, hbn.output, hbn.size, hbn.block⟩) HX2.out.1)
                     have HN2 := Lib.hid ((HN2.out.below (show Below _ _ wn from ⟨hbn.os, hbn.tape, hbn.output, hbn.size, hbn.block⟩)).more hbn.size)
                     have HB := Lib.hid (show Below w.heap.size w wn from below_next HB.out ⟨hbn.os, hbn.tape, hbn.output, hbn.size, hbn.block⟩)
                     obtain ⟨z0, p0, q0, r0, t0⟩ := HX0.out
                     obtain ⟨z1, p1, q1, r1, t1⟩ := HX1.out
                     obtain ⟨z2, p2, q2, r2, t2⟩ := HX2.out
                     clear hbn)
                  | (go_at_call 17; (with_reducible refine (CSA.out _ ?_).mono ?_)
                     · first | exact HB.out | exact HB.out.drew | exact below_drewN HB.out _
                     rintro e wn ⟨rfl, hbn⟩
                     have HX0 := Lib.hid (HX0.out.below (show Below _ _ wn from ⟨hbn.os, hbn.tape, hbn.output, hbn.size, hbn.block⟩) HX0.out.1)
                     have HX1 := Lib.hid (HX1.out.below (show Below _ _ wn from ⟨hbn.os, hbn.tape, hbn.output, hbn.size, hbn.block⟩) HX1.out.1)
                     have HX2 := Lib.hid (HX2.out.below (show Below _ _ wn from ⟨hbn.os, hbn.tape, hbn.output, hbn.size, hbn.block⟩) HX2.out.1)
                     have HN2 := Lib.hid ((HN2.out.below (show Below _ _ wn from ⟨hbn.os, hbn.tape, hbn.output, hbn.size, hbn.block⟩)).more hbn.size)
                     have HB := Lib.hid (show Below w.heap.size w wn from below_next HB.out ⟨hbn.os, hbn.tape, hbn.output, hbn.size, hbn.block⟩)
                     obtain ⟨z0, p0, q0, r0, t0⟩ := HX0.out
                     obtain ⟨z1, p1, q1, r1, t1⟩ := HX1.out
                     obtain ⟨z2, p2, q2, r2, t2⟩ := HX2.out
                     clear hbn)
                  | (go_at_call 17; (with_reducible refine (CSB.out _ ?_).mono ?_)
                     · first | exact HB.out | exact HB.out.drew | exact below_drewN HB.out _
                     rintro e wn ⟨rfl, hbn⟩
                     have HX0 := Lib.hid (HX0.out.below (show Below _ _ wn from ⟨hbn.os, hbn.tape, hbn.output, hbn.size, hbn.block⟩) HX0.out.1)
                     have HX1 := Lib.hid (HX1.out.below (show Below _ _ wn from ⟨hbn.os, hbn.tape, hbn.output, hbn.size, hbn.block⟩) HX1.out.1)
                     have HX2 := Lib.hid (HX2.out.below (show Below _ _ wn from ⟨hbn.os, hbn.tape, hbn.output, hbn.size, hbn.block⟩) HX2.out.1)
                     have HN2 := Lib.hid ((HN2.out.below (show Below _ _ wn from ⟨hbn.os, hbn.tape, hbn.output, hbn.size, hbn.block⟩)).more hbn.size)
                     have HB := Lib.hid (show Below w.heap.size w wn from below_next HB.out ⟨hbn.os, hbn.tape, hbn.output, hbn.size, hbn.block⟩)
                     obtain ⟨z0, p0, q0, r0, t0⟩ := HX0.out
                     obtain ⟨z1, p1, q1, r1, t1⟩ := HX1.out
                     obtain ⟨z2, p2, q2, r2, t2⟩ := HX2.out
                     clear hbn)
                  | (go_at_call 13; (with_reducible refine (CAB.out _ ?_).mono ?_)
                     · first | exact HB.out | exact HB.out.drew | exact below_drewN HB.out _
                     rintro e wn ⟨rfl, hbn⟩
                     have HX0 := Lib.hid (HX0.out.below (show Below _ _ wn from ⟨hbn.os, hbn.tape, hbn.output, hbn.size, hbn.block⟩) HX0.out.1)
                     have HX1 := Lib.hid (HX1.out.below (show Below _ _ wn from ⟨hbn.os, hbn.tape, hbn.output, hbn.size, hbn.block⟩) HX1.out.1)
                     have HX2 := Lib.hid (HX2.out.below (show Below _ _ wn from ⟨hbn.os, hbn.tape, hbn.output, hbn.size, hbn.block⟩) HX2.out.1)
                     have HN2 := Lib.hid ((HN2.out.below (show Below _ _ wn from ⟨hbn.os, hbn.tape, hbn.output, hbn.size, hbn.block⟩)).more hbn.size)
                     have HB := Lib.hid (show Below w.heap.size w wn from below_next HB.out ⟨hbn.os, hbn.tape, hbn.output, hbn.size, hbn.block⟩)
                     obtain ⟨z0, p0, q0, r0, t0⟩ := HX0.out
                     obtain ⟨z1, p1, q1, r1, t1⟩ := HX1.out
                     obtain ⟨z2, p2, q2, r2, t2⟩ := HX2.out
                     clear hbn)
                  | fail)
                all_goals
                  go_wp2
                  go_ret
                  exact ⟨rfl, HB.out⟩
              · rw [hs] at cab hss
                have CAB := Lib.hid cab
                clear cma cmb csa csb cab crd hma hmb kA kB k5 k15 hSA hSB hs
                go_enter Tryz.func4, Tryz.ntmps4
                go_wp2_with (first
                  | (go_at_call 8; (with_reducible refine CF.out.mono ?_)
                     rintro e w1 ⟨rfl, hb1⟩
                     have HB := Lib.hid (HB0.out.trans (hb1.mono HB0.out.size))
                     have HX0 := Lib.hid (HX0.out.next hb1)
                     have HX1 := Lib.hid (HX1.out.next hb1)
                     obtain ⟨z0, p0, q0, r0, t0⟩ := HX0.out
                     obtain ⟨z1, p1, q1, r1, t1⟩ := HX1.out
                     clear hb1)
                  | (go_at_call 9; (with_reducible refine (CRN.out _ HB.out).mono ?_)
                     rintro e w2 ⟨rfl, hb1⟩
                     have HX0 := Lib.hid ((HX0.out.next hb1).alloc (.cells #[.int .i64 0, .int .i64 0, .string ⟨#[]⟩, .slice none 0 0] 24))
                     have HX1 := Lib.hid ((HX1.out.next hb1).alloc (.cells #[.int .i64 0, .int .i64 0, .string ⟨#[]⟩, .slice none 0 0] 24))
                     have HB2 := Lib.hid (below_next HB.out hb1)
                     have HB := Lib.hid (HB2.out.alloc HB2.out.size (.cells #[.int .i64 0, .int .i64 0, .string ⟨#[]⟩, .slice none 0 0] 24))
                     obtain ⟨z0, p0, q0, r0, t0⟩ := HX0.out
                     obtain ⟨z1, p1, q1, r1, t1⟩ := HX1.out
                     clear hb1)
                  | (go_at_call 11; (with_reducible refine (CMA.out _ ?_).mono ?_)
                     · first | exact HB.out | exact HB.out.drew | exact below_drewN HB.out _
                     rintro e wn ⟨rfl, hbn⟩
                     have HX0 := Lib.hid (HX0.out.below (show Below _ _ wn from ⟨hbn.os, hbn.tape, hbn.output, hbn.size, hbn.block⟩) HX0.out.1)
                     have HX1 := Lib.hid (HX1.out.below (show Below _ _ wn from ⟨hbn.os, hbn.tape, hbn.output, hbn.size, hbn.block⟩) HX1.out.1)
                     have HB := Lib.hid (show Below w.heap.size w wn from below_next HB.out ⟨hbn.os, hbn.tape, hbn.output, hbn.size, hbn.block⟩)
                     obtain ⟨z0, p0, q0, r0, t0⟩ := HX0.out
                     obtain ⟨z1, p1, q1, r1, t1⟩ := HX1.out
                     clear hbn)
                  | (go_at_call 11; (with_reducible refine (CMB.out _ ?_).mono ?_)
                     · first | exact HB.out | exact HB.out.drew | exact below_drewN HB.out _
                     rintro e wn ⟨rfl, hbn⟩
                     have HX0 := Lib.hid (HX0.out.below (show Below _ _ wn from ⟨hbn.os, hbn.tape, hbn.output, hbn.size, hbn.block⟩) HX0.out.1)
                     have HX1 := Lib.hid (HX1.out.below (show Below _ _ wn from ⟨hbn.os, hbn.tape, hbn.output, hbn.size, hbn.block⟩) HX1.out.1)
                     have HB := Lib.hid (show Below w.heap.size w wn from below_next HB.out ⟨hbn.os, hbn.tape, hbn.output, hbn.size, hbn.block⟩)
                     obtain ⟨z0, p0, q0, r0, t0⟩ := HX0.out
                     obtain ⟨z1, p1, q1, r1, t1⟩ := HX1.out
                     clear hbn)
                  | (go_at_call 17; (with_reducible refine (CSA.out _ ?_).mono ?_)
                     · first | exact HB.out | exact HB.out.drew | exact below_drewN HB.out _
                     rintro e wn ⟨rfl, hbn⟩
                     have HX0 := Lib.hid (HX0.out.below (show Below _ _ wn from ⟨hbn.os, hbn.tape, hbn.output, hbn.size, hbn.block⟩) HX0.out.1)
                     have HX1 := Lib.hid (HX1.out.below (show Below _ _ wn from ⟨hbn.os, hbn.tape, hbn.output, hbn.size, hbn.block⟩) HX1.out.1)
                     have HB := Lib.hid (show Below w.heap.size w wn from below_next HB.out ⟨hbn.os, hbn.tape, hbn.output, hbn.size, hbn.block⟩)
                     obtain ⟨z0, p0, q0, r0, t0⟩ := HX0.out
                     obtain ⟨z1, p1, q1, r1, t1⟩ := HX1.out
                     clear hbn)
                  | (go_at_call 9; (with_reducible refine (CRD.out _ (HM.out.keep HB.out)).mono ?_)
                     rintro e wr ⟨a2, n2, c2, rfl, hn2, hb1⟩
                     have HX2 := Lib.hid (Box.new wr _ rfl k x s a2 n2 c2)
                     have HX0 := Lib.hid ((HX0.out.next hb1).alloc (.cells #[.int .i64 k, .int .i64 x, .string s, .slice a2 n2 c2] 24))
                     have HX1 := Lib.hid ((HX1.out.next hb1).alloc (.cells #[.int .i64 k, .int .i64 x, .string s, .slice a2 n2 c2] 24))
                     have HN2 := Lib.hid (show Nums (wr.alloc (.cells #[.int .i64 k, .int .i64 x, .string s, .slice a2 n2 c2] 24)) (wr.alloc (.cells #[.int .i64 k, .int .i64 x, .string s, .slice a2 n2 c2] 24)).heap.size a2 n2 l from (hn2.alloc (Nat.le_refl _) _).more (by simp))
                     have HB2 := Lib.hid (below_next HB.out hb1)
                     have HB := Lib.hid (HB2.out.alloc HB2.out.size (.cells #[.int .i64 k, .int .i64 x, .string s, .slice a2 n2 c2] 24))
                     obtain ⟨z0, p0, q0, r0, t0⟩ := HX0.out
                     obtain ⟨z1, p1, q1, r1, t1⟩ := HX1.out
                     obtain ⟨z2, p2, q2, r2, t2⟩ := HX2.out
                     clear hb1 hn2)
                  | fail)
                go_region_held3 (fun W => (W.cell? ⟨w.heap.size, 0, none⟩ = some (.int .i64 k) ∧ W.cell? ⟨w.heap.size, 1, none⟩ = some (.int .i64 x) ∧ W.cell? ⟨w.heap.size, 2, none⟩ = some (.string s) ∧ W.cell? ⟨w.heap.size, 3, none⟩ = some (.slice a n c)) ∧ (W.cell? ⟨w.heap.size + 1, 0, none⟩ = some (.int .i64 k1) ∧ W.cell? ⟨w.heap.size + 1, 1, none⟩ = some (.int .i64 x1) ∧ W.cell? ⟨w.heap.size + 1, 2, none⟩ = some (.string s1) ∧ W.cell? ⟨w.heap.size + 1, 3, none⟩ = some (.slice a1 n1 c1)) ∧ W.cell? ⟨wr.heap.size, 0, none⟩ = some (.int .i64 k) ∧ W.cell? ⟨wr.heap.size, 1, none⟩ = some (.int .i64 x) ∧ W.cell? ⟨wr.heap.size, 2, none⟩ = some (.string s) ∧ W.cell? ⟨wr.heap.size, 3, none⟩ = some (.slice a2 n2 c2)) (exact ⟨⟨p0, q0, r0, t0⟩, ⟨p1, q1, r1, t1⟩, p2, q2, r2, t2⟩) (first
                  | (go_at_call 13; (with_reducible refine (CXA.out _ _ _ _ ?_ ?_).mono ?_)
                     · first | exact HB.out | exact HB.out.drew | exact below_drewN HB.out _
                     · exact HN2.out
                     rintro e wn ⟨rfl, hbn⟩
                     have HX0 := Lib.hid (HX0.out.below (show Below _ _ wn from ⟨hbn.os, hbn.tape, hbn.output, hbn.size, hbn.block⟩) HX0.out.1)
                     have HX1 := Lib.hid (HX1.out.below (show Below _ _ wn from ⟨hbn.os, hbn.tape, hbn.output, hbn.size, hbn.block⟩) HX1.out.1)
                     have HX2 := Lib.hid (HX2.out.below (show Below _ _ wn from ⟨hbn.os, hbn.tape, hbn.output, hbn.size, hbn.block⟩) HX2.out.1)
                     have HN2 := Lib.hid ((HN2.out.below (show Below _ _ wn from ⟨hbn.os, hbn.tape, hbn.output, hbn.size, hbn.block⟩)).more hbn.size)
                     have HB := Lib.hid (show Below w.heap.size w wn from below_next HB.out ⟨hbn.os, hbn.tape, hbn.output, hbn.size, hbn.block⟩)
                     obtain ⟨z0, p0, q0, r0, t0⟩ := HX0.out
                     obtain ⟨z1, p1, q1, r1, t1⟩ := HX1.out
                     obtain ⟨z2, p2, q2, r2, t2⟩ := HX2.out
                     clear hbn)
                  | (go_at_call 17; (with_reducible refine (CSA.out _ ?_).mono ?_)
                     · first | exact HB.out | exact HB.out.drew | exact below_drewN HB.out _
                     rintro e wn ⟨rfl, hbn⟩
                     have HX0 := Lib.hid (HX0.out.below (show Below _ _ wn from ⟨hbn.os, hbn.tape, hbn.output, hbn.size, hbn.block⟩) HX0.out.1)
                     have HX1 := Lib.hid (HX1.out.below (show Below _ _ wn from ⟨hbn.os, hbn.tape, hbn.output, hbn.size, hbn.block⟩) HX1.out.1)
                     have HX2 := Lib.hid (HX2.out.below (show Below _ _ wn from ⟨hbn.os, hbn.tape, hbn.output, hbn.size, hbn.block⟩) HX2.out.1)
                     have HN2 := Lib.hid ((HN2.out.below (show Below _ _ wn from ⟨hbn.os, hbn.tape, hbn.output, hbn.size, hbn.block⟩)).more hbn.size)
                     have HB := Lib.hid (show Below w.heap.size w wn from below_next HB.out ⟨hbn.os, hbn.tape, hbn.output, hbn.size, hbn.block⟩)
                     obtain ⟨z0, p0, q0, r0, t0⟩ := HX0.out
                     obtain ⟨z1, p1, q1, r1, t1⟩ := HX1.out
                     obtain ⟨z2, p2, q2, r2, t2⟩ := HX2.out
                     clear hbn)
                  | (go_at_call 17; (with_reducible refine (CSB.out _ ?_).mono ?_)
                     · first | exact HB.out | exact HB.out.drew | exact below_drewN HB.out _
                     rintro e wn ⟨rfl, hbn⟩
                     have HX0 := Lib.hid (HX0.out.below (show Below _ _ wn from ⟨hbn.os, hbn.tape, hbn.output, hbn.size, hbn.block⟩) HX0.out.1)
                     have HX1 := Lib.hid (HX1.out.below (show Below _ _ wn from ⟨hbn.os, hbn.tape, hbn.output, hbn.size, hbn.block⟩) HX1.out.1)
                     have HX2 := Lib.hid (HX2.out.below (show Below _ _ wn from ⟨hbn.os, hbn.tape, hbn.output, hbn.size, hbn.block⟩) HX2.out.1)
                     have HN2 := Lib.hid ((HN2.out.below (show Below _ _ wn from ⟨hbn.os, hbn.tape, hbn.output, hbn.size, hbn.block⟩)).more hbn.size)
                     have HB := Lib.hid (show Below w.heap.size w wn from below_next HB.out ⟨hbn.os, hbn.tape, hbn.output, hbn.size, hbn.block⟩)
                     obtain ⟨z0, p0, q0, r0, t0⟩ := HX0.out
                     obtain ⟨z1, p1, q1, r1, t1⟩ := HX1.out
                     obtain ⟨z2, p2, q2, r2, t2⟩ := HX2.out
                     clear hbn)
                  | (go_at_call 13; (with_reducible refine (CAB.out _ ?_).mono ?_)
                     · first | exact HB.out | exact HB.out.drew | exact below_drewN HB.out _
                     rintro e wn ⟨rfl, hbn⟩
                     have HX0 := Lib.hid (HX0.out.below (show Below _ _ wn from ⟨hbn.os, hbn.tape, hbn.output, hbn.size, hbn.block⟩) HX0.out.1)
                     have HX1 := Lib.hid (HX1.out.below (show Below _ _ wn from ⟨hbn.os, hbn.tape, hbn.output, hbn.size, hbn.block⟩) HX1.out.1)
                     have HX2 := Lib.hid (HX2.out.below (show Below _ _ wn from ⟨hbn.os, hbn.tape, hbn.output, hbn.size, hbn.block⟩) HX2.out.1)
                     have HN2 := Lib.hid ((HN2.out.below (show Below _ _ wn from ⟨hbn.os, hbn.tape, hbn.output, hbn.size, hbn.block⟩)).more hbn.size)
                     have HB := Lib.hid (show Below w.heap.size w wn from below_next HB.out ⟨hbn.os, hbn.tape, hbn.output, hbn.size, hbn.block⟩)
                     obtain ⟨z0, p0, q0, r0, t0⟩ := HX0.out
                     obtain ⟨z1, p1, q1, r1, t1⟩ := HX1.out
                     obtain ⟨z2, p2, q2, r2, t2⟩ := HX2.out
                     clear hbn)
                  | fail)
                all_goals
                  go_wp2
                  go_ret
                  exact ⟨rfl, HB.out⟩
            · clear cma cmb csa csb cab crd hma hmb kA kB
              go_enter Tryz.func4, Tryz.ntmps4
              go_wp2_with (first
                | (go_at_call 8; (with_reducible refine CF.out.mono ?_)
                   rintro e w1 ⟨rfl, hb1⟩
                   have HB := Lib.hid (HB0.out.trans (hb1.mono HB0.out.size))
                   have HX0 := Lib.hid (HX0.out.next hb1)
                   have HX1 := Lib.hid (HX1.out.next hb1)
                   obtain ⟨z0, p0, q0, r0, t0⟩ := HX0.out
                   obtain ⟨z1, p1, q1, r1, t1⟩ := HX1.out
                   clear hb1)
                | (go_at_call 9; (with_reducible refine (CRN.out _ HB.out).mono ?_)
                   rintro e w2 ⟨rfl, hb1⟩
                   have HX0 := Lib.hid ((HX0.out.next hb1).alloc (.cells #[.int .i64 0, .int .i64 0, .string ⟨#[]⟩, .slice none 0 0] 24))
                   have HX1 := Lib.hid ((HX1.out.next hb1).alloc (.cells #[.int .i64 0, .int .i64 0, .string ⟨#[]⟩, .slice none 0 0] 24))
                   have HB2 := Lib.hid (below_next HB.out hb1)
                   have HB := Lib.hid (HB2.out.alloc HB2.out.size (.cells #[.int .i64 0, .int .i64 0, .string ⟨#[]⟩, .slice none 0 0] 24))
                   obtain ⟨z0, p0, q0, r0, t0⟩ := HX0.out
                   obtain ⟨z1, p1, q1, r1, t1⟩ := HX1.out
                   clear hb1)
                | (go_at_call 11; (with_reducible refine (CMA.out _ ?_).mono ?_)
                   · first | exact HB.out | exact HB.out.drew | exact below_drewN HB.out _
                   rintro e wn ⟨rfl, hbn⟩
                   have HX0 := Lib.hid (HX0.out.below (show Below _ _ wn from ⟨hbn.os, hbn.tape, hbn.output, hbn.size, hbn.block⟩) HX0.out.1)
                   have HX1 := Lib.hid (HX1.out.below (show Below _ _ wn from ⟨hbn.os, hbn.tape, hbn.output, hbn.size, hbn.block⟩) HX1.out.1)
                   have HB := Lib.hid (show Below w.heap.size w wn from below_next HB.out ⟨hbn.os, hbn.tape, hbn.output, hbn.size, hbn.block⟩)
                   obtain ⟨z0, p0, q0, r0, t0⟩ := HX0.out
                   obtain ⟨z1, p1, q1, r1, t1⟩ := HX1.out
                   clear hbn)
                | (go_at_call 11; (with_reducible refine (CMB.out _ ?_).mono ?_)
                   · first | exact HB.out | exact HB.out.drew | exact below_drewN HB.out _
                   rintro e wn ⟨rfl, hbn⟩
                   have HX0 := Lib.hid (HX0.out.below (show Below _ _ wn from ⟨hbn.os, hbn.tape, hbn.output, hbn.size, hbn.block⟩) HX0.out.1)
                   have HX1 := Lib.hid (HX1.out.below (show Below _ _ wn from ⟨hbn.os, hbn.tape, hbn.output, hbn.size, hbn.block⟩) HX1.out.1)
                   have HB := Lib.hid (show Below w.heap.size w wn from below_next HB.out ⟨hbn.os, hbn.tape, hbn.output, hbn.size, hbn.block⟩)
                   obtain ⟨z0, p0, q0, r0, t0⟩ := HX0.out
                   obtain ⟨z1, p1, q1, r1, t1⟩ := HX1.out
                   clear hbn)
                | fail)
              go_ret
              exact ⟨rfl, HB.out⟩
          · clear cma cmb csa csb cab crd hma hmb kA kB
            go_enter Tryz.func4, Tryz.ntmps4
            go_wp2_with (first
              | (go_at_call 8; (with_reducible refine CF.out.mono ?_)
                 rintro e w1 ⟨rfl, hb1⟩
                 have HB := Lib.hid (HB0.out.trans (hb1.mono HB0.out.size))
                 have HX0 := Lib.hid (HX0.out.next hb1)
                 have HX1 := Lib.hid (HX1.out.next hb1)
                 obtain ⟨z0, p0, q0, r0, t0⟩ := HX0.out
                 obtain ⟨z1, p1, q1, r1, t1⟩ := HX1.out
                 clear hb1)
              | (go_at_call 9; (with_reducible refine (CRN.out _ HB.out).mono ?_)
                 rintro e w2 ⟨rfl, hb1⟩
                 have HX0 := Lib.hid ((HX0.out.next hb1).alloc (.cells #[.int .i64 0, .int .i64 0, .string ⟨#[]⟩, .slice none 0 0] 24))
                 have HX1 := Lib.hid ((HX1.out.next hb1).alloc (.cells #[.int .i64 0, .int .i64 0, .string ⟨#[]⟩, .slice none 0 0] 24))
                 have HB2 := Lib.hid (below_next HB.out hb1)
                 have HB := Lib.hid (HB2.out.alloc HB2.out.size (.cells #[.int .i64 0, .int .i64 0, .string ⟨#[]⟩, .slice none 0 0] 24))
                 obtain ⟨z0, p0, q0, r0, t0⟩ := HX0.out
                 obtain ⟨z1, p1, q1, r1, t1⟩ := HX1.out
                 clear hb1)
              | (go_at_call 11; (with_reducible refine (CMA.out _ ?_).mono ?_)
                 · first | exact HB.out | exact HB.out.drew | exact below_drewN HB.out _
                 rintro e wn ⟨rfl, hbn⟩
                 have HX0 := Lib.hid (HX0.out.below (show Below _ _ wn from ⟨hbn.os, hbn.tape, hbn.output, hbn.size, hbn.block⟩) HX0.out.1)
                 have HX1 := Lib.hid (HX1.out.below (show Below _ _ wn from ⟨hbn.os, hbn.tape, hbn.output, hbn.size, hbn.block⟩) HX1.out.1)
                 have HB := Lib.hid (show Below w.heap.size w wn from below_next HB.out ⟨hbn.os, hbn.tape, hbn.output, hbn.size, hbn.block⟩)
                 obtain ⟨z0, p0, q0, r0, t0⟩ := HX0.out
                 obtain ⟨z1, p1, q1, r1, t1⟩ := HX1.out
                 clear hbn)
              | (go_at_call 11; (with_reducible refine (CMB.out _ ?_).mono ?_)
                 · first | exact HB.out | exact HB.out.drew | exact below_drewN HB.out _
                 rintro e wn ⟨rfl, hbn⟩
                 have HX0 := Lib.hid (HX0.out.below (show Below _ _ wn from ⟨hbn.os, hbn.tape, hbn.output, hbn.size, hbn.block⟩) HX0.out.1)
                 have HX1 := Lib.hid (HX1.out.below (show Below _ _ wn from ⟨hbn.os, hbn.tape, hbn.output, hbn.size, hbn.block⟩) HX1.out.1)
                 have HB := Lib.hid (show Below w.heap.size w wn from below_next HB.out ⟨hbn.os, hbn.tape, hbn.output, hbn.size, hbn.block⟩)
                 obtain ⟨z0, p0, q0, r0, t0⟩ := HX0.out
                 obtain ⟨z1, p1, q1, r1, t1⟩ := HX1.out
                 clear hbn)
              | fail)
            go_ret
            exact ⟨rfl, HB.out⟩
    | some v =>
      obtain ⟨k3, x3, tx3, l3⟩ := v
      obtain ⟨g1, g2, g3, g4, g5⟩ := readV_is hr
      dsimp only at g2 g4 g5
      have k35 : (k3 == 5) = false := by rw [beq_eq_false_iff_ne]; exact g2
      have cs3 : ∀ (a3 : Option Addr) (n3 c3 : Nat) W, Below w.heap.size w W → Nums W W.heap.size a3 n3 l3 → Calls Tryz.prog 17 #[.agg #[.int .i64 k3, .int .i64 x3, .string (lxS tx3), .slice a3 n3 c3]] W fun e w' => e = .returned (.string t) ∧ Below W.heap.size W w' := fun a3 n3 c3 W hW hn => by
        have := show_any k3 x3 (lxS tx3) a3 n3 c3 l3 W W.heap.size (Nat.le_refl _) hn g4 g5 (fun _ e => absurd e g2) (HM.out.keep hW).pow
        rw [lxS_toList, g3, lxS_of] at this
        exact this
      have cm3 : ∀ (a3 : Option Addr) (n3 c3 : Nat) W, Below w.heap.size w W → Nums W W.heap.size a3 n3 l3 → Calls Tryz.prog 11 #[.agg #[.int .i64 k3, .int .i64 x3, .string (lxS tx3), .slice a3 n3 c3]] W fun e w' => e = .returned (.bool true) ∧ Below W.heap.size W w' := fun a3 n3 c3 W hW hn => by
        have := may_any k3 x3 (lxS tx3) a3 n3 c3 l3 W W.heap.size (Nat.le_refl _) hn
        rw [lxS_toList, g1] at this
        exact this
      have crs : ∀ W, Below w.heap.size w W → Calls Tryz.prog 9 #[.string t] W fun e w' => ∃ a3 n3 c3, e = .returned (.tuple #[.agg #[.int .i64 k3, .int .i64 x3, .string (lxS tx3), .slice a3 n3 c3], .int .i64 0]) ∧ Nums w' w'.heap.size a3 n3 l3 ∧ Below W.heap.size W w' := fun W hW => by
        refine (crr W hW).mono ?_
        rintro e w' ⟨ha, hb⟩
        rw [hr] at ha
        obtain ⟨a3, c3, he, hn⟩ := ha
        exact ⟨a3, _, c3, he, hn, hb⟩
      obtain ⟨s3, hs3⟩ : ∃ s3, s3 = lxS tx3 := ⟨_, rfl⟩
      rw [← hs3] at cs3 cm3 crs
      have CS3 := Lib.hid cs3
      have CM3 := Lib.hid cm3
      have CRS := Lib.hid crs
      clear crr crs cs3 cm3 hr g1 g2 g3 g4 g5 hs3
      cases hma : mayV A
      · rw [hma] at cma
        have CMA := Lib.hid cma
        clear cma cmb csa csb cab crd hma kA kB
        go_enter Tryz.func4, Tryz.ntmps4
        go_wp2_with (first
          | (go_at_call 8; (with_reducible refine CF.out.mono ?_)
             rintro e w1 ⟨rfl, hb1⟩
             have HB := Lib.hid (HB0.out.trans (hb1.mono HB0.out.size))
             have HX0 := Lib.hid (HX0.out.next hb1)
             have HX1 := Lib.hid (HX1.out.next hb1)
             obtain ⟨z0, p0, q0, r0, t0⟩ := HX0.out
             obtain ⟨z1, p1, q1, r1, t1⟩ := HX1.out
             clear hb1)
          | (go_at_call 9; (with_reducible refine (CRS.out _ HB.out).mono ?_)
             rintro e w2 ⟨a3, n3, c3, rfl, hn3, hb1⟩
             have HX3 := Lib.hid (Box.new w2 _ rfl k3 x3 s3 a3 n3 c3)
             have HX0 := Lib.hid ((HX0.out.next hb1).alloc (.cells #[.int .i64 k3, .int .i64 x3, .string s3, .slice a3 n3 c3] 24))
             have HX1 := Lib.hid ((HX1.out.next hb1).alloc (.cells #[.int .i64 k3, .int .i64 x3, .string s3, .slice a3 n3 c3] 24))
             have HN3 := Lib.hid (show Nums (w2.alloc (.cells #[.int .i64 k3, .int .i64 x3, .string s3, .slice a3 n3 c3] 24)) (w2.alloc (.cells #[.int .i64 k3, .int .i64 x3, .string s3, .slice a3 n3 c3] 24)).heap.size a3 n3 l3 from (hn3.alloc (Nat.le_refl _) _).more (by simp))
             have HB2 := Lib.hid (below_next HB.out hb1)
             have HB := Lib.hid (HB2.out.alloc HB2.out.size (.cells #[.int .i64 k3, .int .i64 x3, .string s3, .slice a3 n3 c3] 24))
             obtain ⟨z0, p0, q0, r0, t0⟩ := HX0.out
             obtain ⟨z1, p1, q1, r1, t1⟩ := HX1.out
             obtain ⟨z3, p3, q3, r3, t3⟩ := HX3.out
             clear hb1 hn3)
          | (go_at_call 11; (with_reducible refine (CM3.out _ _ _ _ ?_ HN3.out).mono ?_)
             · first | exact HB.out | exact HB.out.drew | exact below_drewN HB.out _
             rintro e wn ⟨rfl, hbn⟩
             have HX0 := Lib.hid (HX0.out.below (show Below _ _ wn from ⟨hbn.os, hbn.tape, hbn.output, hbn.size, hbn.block⟩) HX0.out.1)
             have HX1 := Lib.hid (HX1.out.below (show Below _ _ wn from ⟨hbn.os, hbn.tape, hbn.output, hbn.size, hbn.block⟩) HX1.out.1)
             have HX3 := Lib.hid (HX3.out.below (show Below _ _ wn from ⟨hbn.os, hbn.tape, hbn.output, hbn.size, hbn.block⟩) HX3.out.1)
             have HN3 := Lib.hid ((HN3.out.below (show Below _ _ wn from ⟨hbn.os, hbn.tape, hbn.output, hbn.size, hbn.block⟩)).more hbn.size)
             have HB := Lib.hid (show Below w.heap.size w wn from below_next HB.out ⟨hbn.os, hbn.tape, hbn.output, hbn.size, hbn.block⟩)
             obtain ⟨z0, p0, q0, r0, t0⟩ := HX0.out
             obtain ⟨z1, p1, q1, r1, t1⟩ := HX1.out
             obtain ⟨z3, p3, q3, r3, t3⟩ := HX3.out
             clear hbn)
          | (go_at_call 17; (with_reducible refine (CS3.out _ _ _ _ ?_ HN3.out).mono ?_)
             · first | exact HB.out | exact HB.out.drew | exact below_drewN HB.out _
             rintro e wn ⟨rfl, hbn⟩
             have HX0 := Lib.hid (HX0.out.below (show Below _ _ wn from ⟨hbn.os, hbn.tape, hbn.output, hbn.size, hbn.block⟩) HX0.out.1)
             have HX1 := Lib.hid (HX1.out.below (show Below _ _ wn from ⟨hbn.os, hbn.tape, hbn.output, hbn.size, hbn.block⟩) HX1.out.1)
             have HX3 := Lib.hid (HX3.out.below (show Below _ _ wn from ⟨hbn.os, hbn.tape, hbn.output, hbn.size, hbn.block⟩) HX3.out.1)
             have HN3 := Lib.hid ((HN3.out.below (show Below _ _ wn from ⟨hbn.os, hbn.tape, hbn.output, hbn.size, hbn.block⟩)).more hbn.size)
             have HB := Lib.hid (show Below w.heap.size w wn from below_next HB.out ⟨hbn.os, hbn.tape, hbn.output, hbn.size, hbn.block⟩)
             obtain ⟨z0, p0, q0, r0, t0⟩ := HX0.out
             obtain ⟨z1, p1, q1, r1, t1⟩ := HX1.out
             obtain ⟨z3, p3, q3, r3, t3⟩ := HX3.out
             clear hbn)
          | (go_at_call 11; (with_reducible refine (CMA.out _ ?_).mono ?_)
             · first | exact HB.out | exact HB.out.drew | exact below_drewN HB.out _
             rintro e wn ⟨rfl, hbn⟩
             have HX0 := Lib.hid (HX0.out.below (show Below _ _ wn from ⟨hbn.os, hbn.tape, hbn.output, hbn.size, hbn.block⟩) HX0.out.1)
             have HX1 := Lib.hid (HX1.out.below (show Below _ _ wn from ⟨hbn.os, hbn.tape, hbn.output, hbn.size, hbn.block⟩) HX1.out.1)
             have HX3 := Lib.hid (HX3.out.below (show Below _ _ wn from ⟨hbn.os, hbn.tape, hbn.output, hbn.size, hbn.block⟩) HX3.out.1)
             have HN3 := Lib.hid ((HN3.out.below (show Below _ _ wn from ⟨hbn.os, hbn.tape, hbn.output, hbn.size, hbn.block⟩)).more hbn.size)
             have HB := Lib.hid (show Below w.heap.size w wn from below_next HB.out ⟨hbn.os, hbn.tape, hbn.output, hbn.size, hbn.block⟩)
             obtain ⟨z0, p0, q0, r0, t0⟩ := HX0.out
             obtain ⟨z1, p1, q1, r1, t1⟩ := HX1.out
             obtain ⟨z3, p3, q3, r3, t3⟩ := HX3.out
             clear hbn)
          | fail)
        go_ret
        exact ⟨rfl, HB.out⟩
      · rw [hma] at cma
        have CMA := Lib.hid cma
        cases hmb : mayV B
        · rw [hmb] at cmb
          have CMB := Lib.hid cmb
          clear cma cmb csa csb cab crd hma hmb kA kB
          go_enter Tryz.func4, Tryz.ntmps4
          go_wp2_with (first
            | (go_at_call 8; (with_reducible refine CF.out.mono ?_)
               rintro e w1 ⟨rfl, hb1⟩
               have HB := Lib.hid (HB0.out.trans (hb1.mono HB0.out.size))
               have HX0 := Lib.hid (HX0.out.next hb1)
               have HX1 := Lib.hid (HX1.out.next hb1)
               obtain ⟨z0, p0, q0, r0, t0⟩ := HX0.out
               obtain ⟨z1, p1, q1, r1, t1⟩ := HX1.out
               clear hb1)
            | (go_at_call 9; (with_reducible refine (CRS.out _ HB.out).mono ?_)
               rintro e w2 ⟨a3, n3, c3, rfl, hn3, hb1⟩
               have HX3 := Lib.hid (Box.new w2 _ rfl k3 x3 s3 a3 n3 c3)
               have HX0 := Lib.hid ((HX0.out.next hb1).alloc (.cells #[.int .i64 k3, .int .i64 x3, .string s3, .slice a3 n3 c3] 24))
               have HX1 := Lib.hid ((HX1.out.next hb1).alloc (.cells #[.int .i64 k3, .int .i64 x3, .string s3, .slice a3 n3 c3] 24))
               have HN3 := Lib.hid (show Nums (w2.alloc (.cells #[.int .i64 k3, .int .i64 x3, .string s3, .slice a3 n3 c3] 24)) (w2.alloc (.cells #[.int .i64 k3, .int .i64 x3, .string s3, .slice a3 n3 c3] 24)).heap.size a3 n3 l3 from (hn3.alloc (Nat.le_refl _) _).more (by simp))
               have HB2 := Lib.hid (below_next HB.out hb1)
               have HB := Lib.hid (HB2.out.alloc HB2.out.size (.cells #[.int .i64 k3, .int .i64 x3, .string s3, .slice a3 n3 c3] 24))
               obtain ⟨z0, p0, q0, r0, t0⟩ := HX0.out
               obtain ⟨z1, p1, q1, r1, t1⟩ := HX1.out
               obtain ⟨z3, p3, q3, r3, t3⟩ := HX3.out
               clear hb1 hn3)
            | (go_at_call 11; (with_reducible refine (CM3.out _ _ _ _ ?_ HN3.out).mono ?_)
               · first | exact HB.out | exact HB.out.drew | exact below_drewN HB.out _
               rintro e wn ⟨rfl, hbn⟩
               have HX0 := Lib.hid (HX0.out.below (show Below _ _ wn from ⟨hbn.os, hbn.tape, hbn.output, hbn.size, hbn.block⟩) HX0.out.1)
               have HX1 := Lib.hid (HX1.out.below (show Below _ _ wn from ⟨hbn.os, hbn.tape, hbn.output, hbn.size, hbn.block⟩) HX1.out.1)
               have HX3 := Lib.hid (HX3.out.below (show Below _ _ wn from ⟨hbn.os, hbn.tape, hbn.output, hbn.size, hbn.block⟩) HX3.out.1)
               have HN3 := Lib.hid ((HN3.out.below (show Below _ _ wn from ⟨hbn.os, hbn.tape, hbn.output, hbn.size, hbn.block⟩)).more hbn.size)
               have HB := Lib.hid (show Below w.heap.size w wn from below_next HB.out ⟨hbn.os, hbn.tape, hbn.output, hbn.size, hbn.block⟩)
               obtain ⟨z0, p0, q0, r0, t0⟩ := HX0.out
               obtain ⟨z1, p1, q1, r1, t1⟩ := HX1.out
               obtain ⟨z3, p3, q3, r3, t3⟩ := HX3.out
               clear hbn)
            | (go_at_call 17; (with_reducible refine (CS3.out _ _ _ _ ?_ HN3.out).mono ?_)
               · first | exact HB.out | exact HB.out.drew | exact below_drewN HB.out _
               rintro e wn ⟨rfl, hbn⟩
               have HX0 := Lib.hid (HX0.out.below (show Below _ _ wn from ⟨hbn.os, hbn.tape, hbn.output, hbn.size, hbn.block⟩) HX0.out.1)
               have HX1 := Lib.hid (HX1.out.below (show Below _ _ wn from ⟨hbn.os, hbn.tape, hbn.output, hbn.size, hbn.block⟩) HX1.out.1)
               have HX3 := Lib.hid (HX3.out.below (show Below _ _ wn from ⟨hbn.os, hbn.tape, hbn.output, hbn.size, hbn.block⟩) HX3.out.1)
               have HN3 := Lib.hid ((HN3.out.below (show Below _ _ wn from ⟨hbn.os, hbn.tape, hbn.output, hbn.size, hbn.block⟩)).more hbn.size)
               have HB := Lib.hid (show Below w.heap.size w wn from below_next HB.out ⟨hbn.os, hbn.tape, hbn.output, hbn.size, hbn.block⟩)
               obtain ⟨z0, p0, q0, r0, t0⟩ := HX0.out
               obtain ⟨z1, p1, q1, r1, t1⟩ := HX1.out
               obtain ⟨z3, p3, q3, r3, t3⟩ := HX3.out
               clear hbn)
            | (go_at_call 11; (with_reducible refine (CMA.out _ ?_).mono ?_)
               · first | exact HB.out | exact HB.out.drew | exact below_drewN HB.out _
               rintro e wn ⟨rfl, hbn⟩
               have HX0 := Lib.hid (HX0.out.below (show Below _ _ wn from ⟨hbn.os, hbn.tape, hbn.output, hbn.size, hbn.block⟩) HX0.out.1)
               have HX1 := Lib.hid (HX1.out.below (show Below _ _ wn from ⟨hbn.os, hbn.tape, hbn.output, hbn.size, hbn.block⟩) HX1.out.1)
               have HX3 := Lib.hid (HX3.out.below (show Below _ _ wn from ⟨hbn.os, hbn.tape, hbn.output, hbn.size, hbn.block⟩) HX3.out.1)
               have HN3 := Lib.hid ((HN3.out.below (show Below _ _ wn from ⟨hbn.os, hbn.tape, hbn.output, hbn.size, hbn.block⟩)).more hbn.size)
               have HB := Lib.hid (show Below w.heap.size w wn from below_next HB.out ⟨hbn.os, hbn.tape, hbn.output, hbn.size, hbn.block⟩)
               obtain ⟨z0, p0, q0, r0, t0⟩ := HX0.out
               obtain ⟨z1, p1, q1, r1, t1⟩ := HX1.out
               obtain ⟨z3, p3, q3, r3, t3⟩ := HX3.out
               clear hbn)
            | (go_at_call 11; (with_reducible refine (CMB.out _ ?_).mono ?_)
               · first | exact HB.out | exact HB.out.drew | exact below_drewN HB.out _
               rintro e wn ⟨rfl, hbn⟩
               have HX0 := Lib.hid (HX0.out.below (show Below _ _ wn from ⟨hbn.os, hbn.tape, hbn.output, hbn.size, hbn.block⟩) HX0.out.1)
               have HX1 := Lib.hid (HX1.out.below (show Below _ _ wn from ⟨hbn.os, hbn.tape, hbn.output, hbn.size, hbn.block⟩) HX1.out.1)
               have HX3 := Lib.hid (HX3.out.below (show Below _ _ wn from ⟨hbn.os, hbn.tape, hbn.output, hbn.size, hbn.block⟩) HX3.out.1)
               have HN3 := Lib.hid ((HN3.out.below (show Below _ _ wn from ⟨hbn.os, hbn.tape, hbn.output, hbn.size, hbn.block⟩)).more hbn.size)
               have HB := Lib.hid (show Below w.heap.size w wn from below_next HB.out ⟨hbn.os, hbn.tape, hbn.output, hbn.size, hbn.block⟩)
               obtain ⟨z0, p0, q0, r0, t0⟩ := HX0.out
               obtain ⟨z1, p1, q1, r1, t1⟩ := HX1.out
               obtain ⟨z3, p3, q3, r3, t3⟩ := HX3.out
               clear hbn)
            | fail)
          go_ret
          exact ⟨rfl, HB.out⟩
        · rw [hmb] at cmb
          have CMB := Lib.hid cmb
          cases e5 : (k == 5)
          · cases f5 : (k1 == 5)
            · have k5 : k ≠ 5 := by rw [beq_eq_false_iff_ne] at e5; exact e5
              have k15 : k1 ≠ 5 := by rw [beq_eq_false_iff_ne] at f5; exact f5
              have csa := csa k5
              have csb := csb k15
              have crd := crd k5 hma
              have hss : ((lxS (showV A)).toList == (lxS (showV B)).toList) = sameV A B := by
                rw [lxS_toList, lxS_toList]
                exact shown_same hma hmb (by rw [kA]; exact k5) (by rw [kB]; exact k15)
              obtain ⟨SA, hSA⟩ : ∃ SA, SA = lxS (showV A) := ⟨_, rfl⟩
              obtain ⟨SB, hSB⟩ : ∃ SB, SB = lxS (showV B) := ⟨_, rfl⟩
              rw [← hSA] at csa crd hss
              rw [← hSB] at csb hss
              have CSA := Lib.hid csa
              have CSB := Lib.hid csb
              have CRD := Lib.hid crd
              cases hs : sameV A B
              · rw [hs] at cab hss
                have CAB := Lib.hid cab
                clear cma cmb csa csb cab crd hma hmb kA kB k5 k15 hSA hSB hs
                go_enter Tryz.func4, Tryz.ntmps4
                go_wp2_with (first
                  | (go_at_call 8; (with_reducible refine CF.out.mono ?_)
                     rintro e w1 ⟨rfl, hb1⟩
                     have HB := Lib.hid (HB0.out.trans (hb1.mono HB0.out.size))
                     have HX0 := Lib.hid (HX0.out.next hb1)
                     have HX1 := Lib.hid (HX1.out.next hb1)
                     obtain ⟨z0, p0, q0, r0, t0⟩ := HX0.out
                     obtain ⟨z1, p1, q1, r1, t1⟩ := HX1.out
                     clear hb1)
                  | (go_at_call 9; (with_reducible refine (CRS.out _ HB.out).mono ?_)
                     rintro e w2 ⟨a3, n3, c3, rfl, hn3, hb1⟩
                     have HX3 := Lib.hid (Box.new w2 _ rfl k3 x3 s3 a3 n3 c3)
                     have HX0 := Lib.hid ((HX0.out.next hb1).alloc (.cells #[.int .i64 k3, .int .i64 x3, .string s3, .slice a3 n3 c3] 24))
                     have HX1 := Lib.hid ((HX1.out.next hb1).alloc (.cells #[.int .i64 k3, .int .i64 x3, .string s3, .slice a3 n3 c3] 24))
                     have HN3 := Lib.hid (show Nums (w2.alloc (.cells #[.int .i64 k3, .int .i64 x3, .string s3, .slice a3 n3 c3] 24)) (w2.alloc (.cells #[.int .i64 k3, .int .i64 x3, .string s3, .slice a3 n3 c3] 24)).heap.size a3 n3 l3 from (hn3.alloc (Nat.le_refl _) _).more (by simp))
                     have HB2 := Lib.hid (below_next HB.out hb1)
                     have HB := Lib.hid (HB2.out.alloc HB2.out.size (.cells #[.int .i64 k3, .int .i64 x3, .string s3, .slice a3 n3 c3] 24))
                     obtain ⟨z0, p0, q0, r0, t0⟩ := HX0.out
                     obtain ⟨z1, p1, q1, r1, t1⟩ := HX1.out
                     obtain ⟨z3, p3, q3, r3, t3⟩ := HX3.out
                     clear hb1 hn3)
                  | (go_at_call 11; (with_reducible refine (CM3.out _ _ _ _ ?_ HN3.out).mono ?_)
                     · first | exact HB.out | exact HB.out.drew | exact below_drewN HB.out _
                     rintro e wn ⟨rfl, hbn⟩
                     have HX0 := Lib.hid (HX0.out.below (show Below _ _ wn from ⟨hbn.os, hbn.tape, hbn.output, hbn.size, hbn.block⟩) HX0.out.1)
                     have HX1 := Lib.hid (HX1.out.below (show Below _ _ wn from ⟨hbn.os, hbn.tape, hbn.output, hbn.size, hbn.block⟩) HX1.out.1)
                     have HX3 := Lib.hid (HX3.out.below (show Below _ _ wn from ⟨hbn.os, hbn.tape, hbn.output, hbn.size, hbn.block⟩) HX3.out.1)
                     have HN3 := Lib.hid ((HN3.out.below (show Below _ _ wn from ⟨hbn.os, hbn.tape, hbn.output, hbn.size, hbn.block⟩)).more hbn.size)
                     have HB := Lib.hid (show Below w.heap.size w wn from below_next HB.out ⟨hbn.os, hbn.tape, hbn.output, hbn.size, hbn.block⟩)
                     obtain ⟨z0, p0, q0, r0, t0⟩ := HX0.out
                     obtain ⟨z1, p1, q1, r1, t1⟩ := HX1.out
                     obtain ⟨z3, p3, q3, r3, t3⟩ := HX3.out
                     clear hbn)
                  | (go_at_call 17; (with_reducible refine (CS3.out _ _ _ _ ?_ HN3.out).mono ?_)
                     · first | exact HB.out | exact HB.out.drew | exact below_drewN HB.out _
                     rintro e wn ⟨rfl, hbn⟩
                     have HX0 := Lib.hid (HX0.out.below (show Below _ _ wn from ⟨hbn.os, hbn.tape, hbn.output, hbn.size, hbn.block⟩) HX0.out.1)
                     have HX1 := Lib.hid (HX1.out.below (show Below _ _ wn from ⟨hbn.os, hbn.tape, hbn.output, hbn.size, hbn.block⟩) HX1.out.1)
                     have HX3 := Lib.hid (HX3.out.below (show Below _ _ wn from ⟨hbn.os, hbn.tape, hbn.output, hbn.size, hbn.block⟩) HX3.out.1)
                     have HN3 := Lib.hid ((HN3.out.below (show Below _ _ wn from ⟨hbn.os, hbn.tape, hbn.output, hbn.size, hbn.block⟩)).more hbn.size)
                     have HB := Lib.hid (show Below w.heap.size w wn from below_next HB.out ⟨hbn.os, hbn.tape, hbn.output, hbn.size, hbn.block⟩)
                     obtain ⟨z0, p0, q0, r0, t0⟩ := HX0.out
                     obtain ⟨z1, p1, q1, r1, t1⟩ := HX1.out
                     obtain ⟨z3, p3, q3, r3, t3⟩ := HX3.out
                     clear hbn)
                  | (go_at_call 11; (with_reducible refine (CMA.out _ ?_).mono ?_)
                     · first | exact HB.out | exact HB.out.drew | exact below_drewN HB.out _
                     rintro e wn ⟨rfl, hbn⟩
                     have HX0 := Lib.hid (HX0.out.below (show Below _ _ wn from ⟨hbn.os, hbn.tape, hbn.output, hbn.size, hbn.block⟩) HX0.out.1)
                     have HX1 := Lib.hid (HX1.out.below (show Below _ _ wn from ⟨hbn.os, hbn.tape, hbn.output, hbn.size, hbn.block⟩) HX1.out.1)
                     have HX3 := Lib.hid (HX3.out.below (show Below _ _ wn from ⟨hbn.os, hbn.tape, hbn.output, hbn.size, hbn.block⟩) HX3.out.1)
                     have HN3 := Lib.hid ((HN3.out.below (show Below _ _ wn from ⟨hbn.os, hbn.tape, hbn.output, hbn.size, hbn.block⟩)).more hbn.size)
                     have HB := Lib.hid (show Below w.heap.size w wn from below_next HB.out ⟨hbn.os, hbn.tape, hbn.output, hbn.size, hbn.block⟩)
                     obtain ⟨z0, p0, q0, r0, t0⟩ := HX0.out
                     obtain ⟨z1, p1, q1, r1, t1⟩ := HX1.out
                     obtain ⟨z3, p3, q3, r3, t3⟩ := HX3.out
                     clear hbn)
                  | (go_at_call 11; (with_reducible refine (CMB.out _ ?_).mono ?_)
                     · first | exact HB.out | exact HB.out.drew | exact below_drewN HB.out _
                     rintro e wn ⟨rfl, hbn⟩
                     have HX0 := Lib.hid (HX0.out.below (show Below _ _ wn from ⟨hbn.os, hbn.tape, hbn.output, hbn.size, hbn.block⟩) HX0.out.1)
                     have HX1 := Lib.hid (HX1.out.below (show Below _ _ wn from ⟨hbn.os, hbn.tape, hbn.output, hbn.size, hbn.block⟩) HX1.out.1)
                     have HX3 := Lib.hid (HX3.out.below (show Below _ _ wn from ⟨hbn.os, hbn.tape, hbn.output, hbn.size, hbn.block⟩) HX3.out.1)
                     have HN3 := Lib.hid ((HN3.out.below (show Below _ _ wn from ⟨hbn.os, hbn.tape, hbn.output, hbn.size, hbn.block⟩)).more hbn.size)
                     have HB := Lib.hid (show Below w.heap.size w wn from below_next HB.out ⟨hbn.os, hbn.tape, hbn.output, hbn.size, hbn.block⟩)
                     obtain ⟨z0, p0, q0, r0, t0⟩ := HX0.out
                     obtain ⟨z1, p1, q1, r1, t1⟩ := HX1.out
                     obtain ⟨z3, p3, q3, r3, t3⟩ := HX3.out
                     clear hbn)
                  | (go_at_call 17; (with_reducible refine (CSA.out _ ?_).mono ?_)
                     · first | exact HB.out | exact HB.out.drew | exact below_drewN HB.out _
                     rintro e wn ⟨rfl, hbn⟩
                     have HX0 := Lib.hid (HX0.out.below (show Below _ _ wn from ⟨hbn.os, hbn.tape, hbn.output, hbn.size, hbn.block⟩) HX0.out.1)
                     have HX1 := Lib.hid (HX1.out.below (show Below _ _ wn from ⟨hbn.os, hbn.tape, hbn.output, hbn.size, hbn.block⟩) HX1.out.1)
                     have HX3 := Lib.hid (HX3.out.below (show Below _ _ wn from ⟨hbn.os, hbn.tape, hbn.output, hbn.size, hbn.block⟩) HX3.out.1)
                     have HN3 := Lib.hid ((HN3.out.below (show Below _ _ wn from ⟨hbn.os, hbn.tape, hbn.output, hbn.size, hbn.block⟩)).more hbn.size)
                     have HB := Lib.hid (show Below w.heap.size w wn from below_next HB.out ⟨hbn.os, hbn.tape, hbn.output, hbn.size, hbn.block⟩)
                     obtain ⟨z0, p0, q0, r0, t0⟩ := HX0.out
                     obtain ⟨z1, p1, q1, r1, t1⟩ := HX1.out
                     obtain ⟨z3, p3, q3, r3, t3⟩ := HX3.out
                     clear hbn)
                  | (go_at_call 9; (with_reducible refine (CRD.out _ (HM.out.keep HB.out)).mono ?_)
                     rintro e wr ⟨a2, n2, c2, rfl, hn2, hb1⟩
                     have HX2 := Lib.hid (Box.new wr _ rfl k x s a2 n2 c2)
                     have HX0 := Lib.hid ((HX0.out.next hb1).alloc (.cells #[.int .i64 k, .int .i64 x, .string s, .slice a2 n2 c2] 24))
                     have HX1 := Lib.hid ((HX1.out.next hb1).alloc (.cells #[.int .i64 k, .int .i64 x, .string s, .slice a2 n2 c2] 24))
                     have HX3 := Lib.hid ((HX3.out.next hb1).alloc (.cells #[.int .i64 k, .int .i64 x, .string s, .slice a2 n2 c2] 24))
                     have HN2 := Lib.hid (show Nums (wr.alloc (.cells #[.int .i64 k, .int .i64 x, .string s, .slice a2 n2 c2] 24)) (wr.alloc (.cells #[.int .i64 k, .int .i64 x, .string s, .slice a2 n2 c2] 24)).heap.size a2 n2 l from (hn2.alloc (Nat.le_refl _) _).more (by simp))
                     have HB2 := Lib.hid (below_next HB.out hb1)
                     have HB := Lib.hid (HB2.out.alloc HB2.out.size (.cells #[.int .i64 k, .int .i64 x, .string s, .slice a2 n2 c2] 24))
                     obtain ⟨z0, p0, q0, r0, t0⟩ := HX0.out
                     obtain ⟨z1, p1, q1, r1, t1⟩ := HX1.out
                     obtain ⟨z2, p2, q2, r2, t2⟩ := HX2.out
                     clear hb1 hn2)
                  | fail)
                go_region_held3 (fun W => (W.cell? ⟨w.heap.size, 0, none⟩ = some (.int .i64 k) ∧ W.cell? ⟨w.heap.size, 1, none⟩ = some (.int .i64 x) ∧ W.cell? ⟨w.heap.size, 2, none⟩ = some (.string s) ∧ W.cell? ⟨w.heap.size, 3, none⟩ = some (.slice a n c)) ∧ (W.cell? ⟨w.heap.size + 1, 0, none⟩ = some (.int .i64 k1) ∧ W.cell? ⟨w.heap.size + 1, 1, none⟩ = some (.int .i64 x1) ∧ W.cell? ⟨w.heap.size + 1, 2, none⟩ = some (.string s1) ∧ W.cell? ⟨w.heap.size + 1, 3, none⟩ = some (.slice a1 n1 c1)) ∧ W.cell? ⟨wr.heap.size, 0, none⟩ = some (.int .i64 k) ∧ W.cell? ⟨wr.heap.size, 1, none⟩ = some (.int .i64 x) ∧ W.cell? ⟨wr.heap.size, 2, none⟩ = some (.string s) ∧ W.cell? ⟨wr.heap.size, 3, none⟩ = some (.slice a2 n2 c2)) (exact ⟨⟨p0, q0, r0, t0⟩, ⟨p1, q1, r1, t1⟩, p2, q2, r2, t2⟩) (first
                  | (go_at_call 13; (with_reducible refine (CXA.out _ _ _ _ ?_ ?_).mono ?_)
                     · first | exact HB.out | exact HB.out.drew | exact below_drewN HB.out _
                     · exact HN2.out
                     rintro e wn ⟨rfl, hbn⟩
                     have HX0 := Lib.hid (HX0.out.below (show Below _ _ wn from ⟨hbn.os, hbn.tape, hbn.output, hbn.size, hbn.block⟩) HX0.out.1)
                     have HX1 := Lib.hid (HX1.out.below (show Below _ _ wn from ⟨hbn.os, hbn.tape, hbn.output, hbn.size, hbn.block⟩) HX1.out.1)
                     have HX2 := Lib.hid (HX2.out.below (show Below _ _ wn from ⟨hbn.os, hbn.tape, hbn.output, hbn.size, hbn.block⟩) HX2.out.1)
                     have HN2 := Lib.hid ((HN2.out.below (show Below _ _ wn from ⟨hbn.os, hbn.tape, hbn.output, hbn.size, hbn.block⟩)).more hbn.size)
                     have HB := Lib.hid (show Below w.heap.size w wn from below_next HB.out ⟨hbn.os, hbn.tape, hbn.output, hbn.size, hbn.block⟩)
                     obtain ⟨z0, p0, q0, r0, t0⟩ := HX0.out
                     obtain ⟨z1, p1, q1, r1, t1⟩ := HX1.out
                     obtain ⟨z2, p2, q2, r2, t2⟩ := HX2.out
                     clear hbn)
                  | (go_at_call 17; (with_reducible refine (CSA.out _ ?_).mono ?_)
                     · first | exact HB.out | exact HB.out.drew | exact below_drewN HB.out _
                     rintro e wn ⟨rfl, hbn⟩
                     have HX0 := Lib.hid (HX0.out.below (show Below _ _ wn from ⟨hbn.os, hbn.tape, hbn.output, hbn.size, hbn.block⟩) HX0.out.1)
                     have HX1 := Lib.hid (HX1.out.below (show Below _ _ wn from ⟨hbn.os, hbn.tape, hbn.output, hbn.size, hbn.block⟩) HX1.out.1)
                     have HX2 := Lib.hid (HX2.out.below (show Below _ _ wn from ⟨hbn.os, hbn.tape, hbn.output, hbn.size, hbn.block⟩) HX2.out.1)
                     have HN2 := Lib.hid ((HN2.out.below (show Below _ _ wn from ⟨hbn.os, hbn.tape, hbn.output, hbn.size, hbn.block⟩)).more hbn.size)
                     have HB := Lib.hid (show Below w.heap.size w wn from below_next HB.out ⟨hbn.os, hbn.tape, hbn.output, hbn.size, hbn.block⟩)
                     obtain ⟨z0, p0, q0, r0, t0⟩ := HX0.out
                     obtain ⟨z1, p1, q1, r1, t1⟩ := HX1.out
                     obtain ⟨z2, p2, q2, r2, t2⟩ := HX2.out
                     clear hbn)
                  | (go_at_call 17; (with_reducible refine (CSB.out _ ?_).mono ?_)
                     · first | exact HB.out | exact HB.out.drew | exact below_drewN HB.out _
                     rintro e wn ⟨rfl, hbn⟩
                     have HX0 := Lib.hid (HX0.out.below (show Below _ _ wn from ⟨hbn.os, hbn.tape, hbn.output, hbn.size, hbn.block⟩) HX0.out.1)
                     have HX1 := Lib.hid (HX1.out.below (show Below _ _ wn from ⟨hbn.os, hbn.tape, hbn.output, hbn.size, hbn.block⟩) HX1.out.1)
                     have HX2 := Lib.hid (HX2.out.below (show Below _ _ wn from ⟨hbn.os, hbn.tape, hbn.output, hbn.size, hbn.block⟩) HX2.out.1)
                     have HN2 := Lib.hid ((HN2.out.below (show Below _ _ wn from ⟨hbn.os, hbn.tape, hbn.output, hbn.size, hbn.block⟩)).more hbn.size)
                     have HB := Lib.hid (show Below w.heap.size w wn from below_next HB.out ⟨hbn.os, hbn.tape, hbn.output, hbn.size, hbn.block⟩)
                     obtain ⟨z0, p0, q0, r0, t0⟩ := HX0.out
                     obtain ⟨z1, p1, q1, r1, t1⟩ := HX1.out
                     obtain ⟨z2, p2, q2, r2, t2⟩ := HX2.out
                     clear hbn)
                  | (go_at_call 13; (with_reducible refine (CAB.out _ ?_).mono ?_)
                     · first | exact HB.out | exact HB.out.drew | exact below_drewN HB.out _
                     rintro e wn ⟨rfl, hbn⟩
                     have HX0 := Lib.hid (HX0.out.below (show Below _ _ wn from ⟨hbn.os, hbn.tape, hbn.output, hbn.size, hbn.block⟩) HX0.out.1)
                     have HX1 := Lib.hid (HX1.out.below (show Below _ _ wn from ⟨hbn.os, hbn.tape, hbn.output, hbn.size, hbn.block⟩) HX1.out.1)
                     have HX2 := Lib.hid (HX2.out.below (show Below _ _ wn from ⟨hbn.os, hbn.tape, hbn.output, hbn.size, hbn.block⟩) HX2.out.1)
                     have HN2 := Lib.hid ((HN2.out.below (show Below _ _ wn from ⟨hbn.os, hbn.tape, hbn.output, hbn.size, hbn.block⟩)).more hbn.size)
                     have HB := Lib.hid (show Below w.heap.size w wn from below_next HB.out ⟨hbn.os, hbn.tape, hbn.output, hbn.size, hbn.block⟩)
                     obtain ⟨z0, p0, q0, r0, t0⟩ := HX0.out
                     obtain ⟨z1, p1, q1, r1, t1⟩ := HX1.out
                     obtain ⟨z2, p2, q2, r2, t2⟩ := HX2.out
                     clear hbn)
                  | fail)
                all_goals
                  go_wp2
                  go_ret
                  exact ⟨rfl, HB.out⟩
              · rw [hs] at cab hss
                have CAB := Lib.hid cab
                clear cma cmb csa csb cab crd hma hmb kA kB k5 k15 hSA hSB hs
                go_enter Tryz.func4, Tryz.ntmps4
                go_wp2_with (first
                  | (go_at_call 8; (with_reducible refine CF.out.mono ?_)
                     rintro e w1 ⟨rfl, hb1⟩
                     have HB := Lib.hid (HB0.out.trans (hb1.mono HB0.out.size))
                     have HX0 := Lib.hid (HX0.out.next hb1)
                     have HX1 := Lib.hid (HX1.out.next hb1)
                     obtain ⟨z0, p0, q0, r0, t0⟩ := HX0.out
                     obtain ⟨z1, p1, q1, r1, t1⟩ := HX1.out
                     clear hb1)
                  | (go_at_call 9; (with_reducible refine (CRS.out _ HB.out).mono ?_)
                     rintro e w2 ⟨a3, n3, c3, rfl, hn3, hb1⟩
                     have HX3 := Lib.hid (Box.new w2 _ rfl k3 x3 s3 a3 n3 c3)
                     have HX0 := Lib.hid ((HX0.out.next hb1).alloc (.cells #[.int .i64 k3, .int .i64 x3, .string s3, .slice a3 n3 c3] 24))
                     have HX1 := Lib.hid ((HX1.out.next hb1).alloc (.cells #[.int .i64 k3, .int .i64 x3, .string s3, .slice a3 n3 c3] 24))
                     have HN3 := Lib.hid (show Nums (w2.alloc (.cells #[.int .i64 k3, .int .i64 x3, .string s3, .slice a3 n3 c3] 24)) (w2.alloc (.cells #[.int .i64 k3, .int .i64 x3, .string s3, .slice a3 n3 c3] 24)).heap.size a3 n3 l3 from (hn3.alloc (Nat.le_refl _) _).more (by simp))
                     have HB2 := Lib.hid (below_next HB.out hb1)
                     have HB := Lib.hid (HB2.out.alloc HB2.out.size (.cells #[.int .i64 k3, .int .i64 x3, .string s3, .slice a3 n3 c3] 24))
                     obtain ⟨z0, p0, q0, r0, t0⟩ := HX0.out
                     obtain ⟨z1, p1, q1, r1, t1⟩ := HX1.out
                     obtain ⟨z3, p3, q3, r3, t3⟩ := HX3.out
                     clear hb1 hn3)
                  | (go_at_call 11; (with_reducible refine (CM3.out _ _ _ _ ?_ HN3.out).mono ?_)
                     · first | exact HB.out | exact HB.out.drew | exact below_drewN HB.out _
                     rintro e wn ⟨rfl, hbn⟩
                     have HX0 := Lib.hid (HX0.out.below (show Below _ _ wn from ⟨hbn.os, hbn.tape, hbn.output, hbn.size, hbn.block⟩) HX0.out.1)
                     have HX1 := Lib.hid (HX1.out.below (show Below _ _ wn from ⟨hbn.os, hbn.tape, hbn.output, hbn.size, hbn.block⟩) HX1.out.1)
                     have HX3 := Lib.hid (HX3.out.below (show Below _ _ wn from ⟨hbn.os, hbn.tape, hbn.output, hbn.size, hbn.block⟩) HX3.out.1)
                     have HN3 := Lib.hid ((HN3.out.below (show Below _ _ wn from ⟨hbn.os, hbn.tape, hbn.output, hbn.size, hbn.block⟩)).more hbn.size)
                     have HB := Lib.hid (show Below w.heap.size w wn from below_next HB.out ⟨hbn.os, hbn.tape, hbn.output, hbn.size, hbn.block⟩)
                     obtain ⟨z0, p0, q0, r0, t0⟩ := HX0.out
                     obtain ⟨z1, p1, q1, r1, t1⟩ := HX1.out
                     obtain ⟨z3, p3, q3, r3, t3⟩ := HX3.out
                     clear hbn)
                  | (go_at_call 17; (with_reducible refine (CS3.out _ _ _ _ ?_ HN3.out).mono ?_)
                     · first | exact HB.out | exact HB.out.drew | exact below_drewN HB.out _
                     rintro e wn ⟨rfl, hbn⟩
                     have HX0 := Lib.hid (HX0.out.below (show Below _ _ wn from ⟨hbn.os, hbn.tape, hbn.output, hbn.size, hbn.block⟩) HX0.out.1)
                     have HX1 := Lib.hid (HX1.out.below (show Below _ _ wn from ⟨hbn.os, hbn.tape, hbn.output, hbn.size, hbn.block⟩) HX1.out.1)
                     have HX3 := Lib.hid (HX3.out.below (show Below _ _ wn from ⟨hbn.os, hbn.tape, hbn.output, hbn.size, hbn.block⟩) HX3.out.1)
                     have HN3 := Lib.hid ((HN3.out.below (show Below _ _ wn from ⟨hbn.os, hbn.tape, hbn.output, hbn.size, hbn.block⟩)).more hbn.size)
                     have HB := Lib.hid (show Below w.heap.size w wn from below_next HB.out ⟨hbn.os, hbn.tape, hbn.output, hbn.size, hbn.block⟩)
                     obtain ⟨z0, p0, q0, r0, t0⟩ := HX0.out
                     obtain ⟨z1, p1, q1, r1, t1⟩ := HX1.out
                     obtain ⟨z3, p3, q3, r3, t3⟩ := HX3.out
                     clear hbn)
                  | (go_at_call 11; (with_reducible refine (CMA.out _ ?_).mono ?_)
                     · first | exact HB.out | exact HB.out.drew | exact below_drewN HB.out _
                     rintro e wn ⟨rfl, hbn⟩
                     have HX0 := Lib.hid (HX0.out.below (show Below _ _ wn from ⟨hbn.os, hbn.tape, hbn.output, hbn.size, hbn.block⟩) HX0.out.1)
                     have HX1 := Lib.hid (HX1.out.below (show Below _ _ wn from ⟨hbn.os, hbn.tape, hbn.output, hbn.size, hbn.block⟩) HX1.out.1)
                     have HX3 := Lib.hid (HX3.out.below (show Below _ _ wn from ⟨hbn.os, hbn.tape, hbn.output, hbn.size, hbn.block⟩) HX3.out.1)
                     have HN3 := Lib.hid ((HN3.out.below (show Below _ _ wn from ⟨hbn.os, hbn.tape, hbn.output, hbn.size, hbn.block⟩)).more hbn.size)
                     have HB := Lib.hid (show Below w.heap.size w wn from below_next HB.out ⟨hbn.os, hbn.tape, hbn.output, hbn.size, hbn.block⟩)
                     obtain ⟨z0, p0, q0, r0, t0⟩ := HX0.out
                     obtain ⟨z1, p1, q1, r1, t1⟩ := HX1.out
                     obtain ⟨z3, p3, q3, r3, t3⟩ := HX3.out
                     clear hbn)
                  | (go_at_call 11; (with_reducible refine (CMB.out _ ?_).mono ?_)
                     · first | exact HB.out | exact HB.out.drew | exact below_drewN HB.out _
                     rintro e wn ⟨rfl, hbn⟩
                     have HX0 := Lib.hid (HX0.out.below (show Below _ _ wn from ⟨hbn.os, hbn.tape, hbn.output, hbn.size, hbn.block⟩) HX0.out.1)
                     have HX1 := Lib.hid (HX1.out.below (show Below _ _ wn from ⟨hbn.os, hbn.tape, hbn.output, hbn.size, hbn.block⟩) HX1.out.1)
                     have HX3 := Lib.hid (HX3.out.below (show Below _ _ wn from ⟨hbn.os, hbn.tape, hbn.output, hbn.size, hbn.block⟩) HX3.out.1)
                     have HN3 := Lib.hid ((HN3.out.below (show Below _ _ wn from ⟨hbn.os, hbn.tape, hbn.output, hbn.size, hbn.block⟩)).more hbn.size)
                     have HB := Lib.hid (show Below w.heap.size w wn from below_next HB.out ⟨hbn.os, hbn.tape, hbn.output, hbn.size, hbn.block⟩)
                     obtain ⟨z0, p0, q0, r0, t0⟩ := HX0.out
                     obtain ⟨z1, p1, q1, r1, t1⟩ := HX1.out
                     obtain ⟨z3, p3, q3, r3, t3⟩ := HX3.out
                     clear hbn)
                  | (go_at_call 17; (with_reducible refine (CSA.out _ ?_).mono ?_)
                     · first | exact HB.out | exact HB.out.drew | exact below_drewN HB.out _
                     rintro e wn ⟨rfl, hbn⟩
                     have HX0 := Lib.hid (HX0.out.below (show Below _ _ wn from ⟨hbn.os, hbn.tape, hbn.output, hbn.size, hbn.block⟩) HX0.out.1)
                     have HX1 := Lib.hid (HX1.out.below (show Below _ _ wn from ⟨hbn.os, hbn.tape, hbn.output, hbn.size, hbn.block⟩) HX1.out.1)
                     have HX3 := Lib.hid (HX3.out.below (show Below _ _ wn from ⟨hbn.os, hbn.tape, hbn.output, hbn.size, hbn.block⟩) HX3.out.1)
                     have HN3 := Lib.hid ((HN3.out.below (show Below _ _ wn from ⟨hbn.os, hbn.tape, hbn.output, hbn.size, hbn.block⟩)).more hbn.size)
                     have HB := Lib.hid (show Below w.heap.size w wn from below_next HB.out ⟨hbn.os, hbn.tape, hbn.output, hbn.size, hbn.block⟩)
                     obtain ⟨z0, p0, q0, r0, t0⟩ := HX0.out
                     obtain ⟨z1, p1, q1, r1, t1⟩ := HX1.out
                     obtain ⟨z3, p3, q3, r3, t3⟩ := HX3.out
                     clear hbn)
                  | (go_at_call 9; (with_reducible refine (CRD.out _ (HM.out.keep HB.out)).mono ?_)
                     rintro e wr ⟨a2, n2, c2, rfl, hn2, hb1⟩
                     have HX2 := Lib.hid (Box.new wr _ rfl k x s a2 n2 c2)
                     have HX0 := Lib.hid ((HX0.out.next hb1).alloc (.cells #[.int .i64 k, .int .i64 x, .string s, .slice a2 n2 c2] 24))
                     have HX1 := Lib.hid ((HX1.out.next hb1).alloc (.cells #[.int .i64 k, .int .i64 x, .string s, .slice a2 n2 c2] 24))
                     have HX3 := Lib.hid ((HX3.out.next hb1).alloc (.cells #[.int .i64 k, .int .i64 x, .string s, .slice a2 n2 c2] 24))
                     have HN2 := Lib.hid (show Nums (wr.alloc (.cells #[.int .i64 k, .int .i64 x, .string s, .slice a2 n2 c2] 24)) (wr.alloc (.cells #[.int .i64 k, .int .i64 x, .string s, .slice a2 n2 c2] 24)).heap.size a2 n2 l from (hn2.alloc (Nat.le_refl _) _).more (by simp))
                     have HB2 := Lib.hid (below_next HB.out hb1)
                     have HB := Lib.hid (HB2.out.alloc HB2.out.size (.cells #[.int .i64 k, .int .i64 x, .string s, .slice a2 n2 c2] 24))
                     obtain ⟨z0, p0, q0, r0, t0⟩ := HX0.out
                     obtain ⟨z1, p1, q1, r1, t1⟩ := HX1.out
                     obtain ⟨z2, p2, q2, r2, t2⟩ := HX2.out
                     clear hb1 hn2)
                  | fail)
                go_region_held3 (fun W => (W.cell? ⟨w.heap.size, 0, none⟩ = some (.int .i64 k) ∧ W.cell? ⟨w.heap.size, 1, none⟩ = some (.int .i64 x) ∧ W.cell? ⟨w.heap.size, 2, none⟩ = some (.string s) ∧ W.cell? ⟨w.heap.size, 3, none⟩ = some (.slice a n c)) ∧ (W.cell? ⟨w.heap.size + 1, 0, none⟩ = some (.int .i64 k1) ∧ W.cell? ⟨w.heap.size + 1, 1, none⟩ = some (.int .i64 x1) ∧ W.cell? ⟨w.heap.size + 1, 2, none⟩ = some (.string s1) ∧ W.cell? ⟨w.heap.size + 1, 3, none⟩ = some (.slice a1 n1 c1)) ∧ W.cell? ⟨wr.heap.size, 0, none⟩ = some (.int .i64 k) ∧ W.cell? ⟨wr.heap.size, 1, none⟩ = some (.int .i64 x) ∧ W.cell? ⟨wr.heap.size, 2, none⟩ = some (.string s) ∧ W.cell? ⟨wr.heap.size, 3, none⟩ = some (.slice a2 n2 c2)) (exact ⟨⟨p0, q0, r0, t0⟩, ⟨p1, q1, r1, t1⟩, p2, q2, r2, t2⟩) (first
                  | (go_at_call 13; (with_reducible refine (CXA.out _ _ _ _ ?_ ?_).mono ?_)
                     · first | exact HB.out | exact HB.out.drew | exact below_drewN HB.out _
                     · exact HN2.out
                     rintro e wn ⟨rfl, hbn⟩
                     have HX0 := Lib.hid (HX0.out.below (show Below _ _ wn from ⟨hbn.os, hbn.tape, hbn.output, hbn.size, hbn.block⟩) HX0.out.1)
                     have HX1 := Lib.hid (HX1.out.below (show Below _ _ wn from ⟨hbn.os, hbn.tape, hbn.output, hbn.size, hbn.block⟩) HX1.out.1)
                     have HX2 := Lib.hid (HX2.out.below (show Below _ _ wn from ⟨hbn.os, hbn.tape, hbn.output, hbn.size, hbn.block⟩) HX2.out.1)
                     have HN2 := Lib.hid ((HN2.out.below (show Below _ _ wn from ⟨hbn.os, hbn.tape, hbn.output, hbn.size, hbn.block⟩)).more hbn.size)
                     have HB := Lib.hid (show Below w.heap.size w wn from below_next HB.out ⟨hbn.os, hbn.tape, hbn.output, hbn.size, hbn.block⟩)
                     obtain ⟨z0, p0, q0, r0, t0⟩ := HX0.out
                     obtain ⟨z1, p1, q1, r1, t1⟩ := HX1.out
                     obtain ⟨z2, p2, q2, r2, t2⟩ := HX2.out
                     clear hbn)
                  | (go_at_call 17; (with_reducible refine (CSA.out _ ?_).mono ?_)
                     · first | exact HB.out | exact HB.out.drew | exact below_drewN HB.out _
                     rintro e wn ⟨rfl, hbn⟩
                     have HX0 := Lib.hid (HX0.out.below (show Below _ _ wn from ⟨hbn.os, hbn.tape, hbn.output, hbn.size, hbn.block⟩) HX0.out.1)
                     have HX1 := Lib.hid (HX1.out.below (show Below _ _ wn from ⟨hbn.os, hbn.tape, hbn.output, hbn.size, hbn.block⟩) HX1.out.1)
                     have HX2 := Lib.hid (HX2.out.below (show Below _ _ wn from ⟨hbn.os, hbn.tape, hbn.output, hbn.size, hbn.block⟩) HX2.out.1)
                     have HN2 := Lib.hid ((HN2.out.below (show Below _ _ wn from ⟨hbn.os, hbn.tape, hbn.output, hbn.size, hbn.block⟩)).more hbn.size)
                     have HB := Lib.hid (show Below w.heap.size w wn from below_next HB.out ⟨hbn.os, hbn.tape, hbn.output, hbn.size, hbn.block⟩)
                     obtain ⟨z0, p0, q0, r0, t0⟩ := HX0.out
                     obtain ⟨z1, p1, q1, r1, t1⟩ := HX1.out
                     obtain ⟨z2, p2, q2, r2, t2⟩ := HX2.out
                     clear hbn)
                  | (go_at_call 17; (with_reducible refine (CSB.out _ ?_).mono ?_)
                     · first | exact HB.out | exact HB.out.drew | exact below_drewN HB.out _
                     rintro e wn ⟨rfl, hbn⟩
                     have HX0 := Lib.hid (HX0.out.below (show Below _ _ wn from ⟨hbn.os, hbn.tape, hbn.output, hbn.size, hbn.block⟩) HX0.out.1)
                     have HX1 := Lib.hid (HX1.out.below (show Below _ _ wn from ⟨hbn.os, hbn.tape, hbn.output, hbn.size, hbn.block⟩) HX1.out.1)
                     have HX2 := Lib.hid (HX2.out.below (show Below _ _ wn from ⟨hbn.os, hbn.tape, hbn.output, hbn.size, hbn.block⟩) HX2.out.1)
                     have HN2 := Lib.hid ((HN2.out.below (show Below _ _ wn from ⟨hbn.os, hbn.tape, hbn.output, hbn.size, hbn.block⟩)).more hbn.size)
                     have HB := Lib.hid (show Below w.heap.size w wn from below_next HB.out ⟨hbn.os, hbn.tape, hbn.output, hbn.size, hbn.block⟩)
                     obtain ⟨z0, p0, q0, r0, t0⟩ := HX0.out
                     obtain ⟨z1, p1, q1, r1, t1⟩ := HX1.out
                     obtain ⟨z2, p2, q2, r2, t2⟩ := HX2.out
                     clear hbn)
                  | (go_at_call 13; (with_reducible refine (CAB.out _ ?_).mono ?_)
                     · first | exact HB.out | exact HB.out.drew | exact below_drewN HB.out _
                     rintro e wn ⟨rfl, hbn⟩
                     have HX0 := Lib.hid (HX0.out.below (show Below _ _ wn from ⟨hbn.os, hbn.tape, hbn.output, hbn.size, hbn.block⟩) HX0.out.1)
                     have HX1 := Lib.hid (HX1.out.below (show Below _ _ wn from ⟨hbn.os, hbn.tape, hbn.output, hbn.size, hbn.block⟩) HX1.out.1)
                     have HX2 := Lib.hid (HX2.out.below (show Below _ _ wn from ⟨hbn.os, hbn.tape, hbn.output, hbn.size, hbn.block⟩) HX2.out.1)
                     have HN2 := Lib.hid ((HN2.out.below (show Below _ _ wn from ⟨hbn.os, hbn.tape, hbn.output, hbn.size, hbn.block⟩)).more hbn.size)
                     have HB := Lib.hid (show Below w.heap.size w wn from below_next HB.out ⟨hbn.os, hbn.tape, hbn.output, hbn.size, hbn.block⟩)
                     obtain ⟨z0, p0, q0, r0, t0⟩ := HX0.out
                     obtain ⟨z1, p1, q1, r1, t1⟩ := HX1.out
                     obtain ⟨z2, p2, q2, r2, t2⟩ := HX2.out
                     clear hbn)
                  | fail)
                all_goals
                  go_wp2
                  go_ret
                  exact ⟨rfl, HB.out⟩
            · clear cma cmb csa csb cab crd hma hmb kA kB
              go_enter Tryz.func4, Tryz.ntmps4
              go_wp2_with (first
                | (go_at_call 8; (with_reducible refine CF.out.mono ?_)
                   rintro e w1 ⟨rfl, hb1⟩
                   have HB := Lib.hid (HB0.out.trans (hb1.mono HB0.out.size))
                   have HX0 := Lib.hid (HX0.out.next hb1)
                   have HX1 := Lib.hid (HX1.out.next hb1)
                   obtain ⟨z0, p0, q0, r0, t0⟩ := HX0.out
                   obtain ⟨z1, p1, q1, r1, t1⟩ := HX1.out
                   clear hb1)
                | (go_at_call 9; (with_reducible refine (CRS.out _ HB.out).mono ?_)
                   rintro e w2 ⟨a3, n3, c3, rfl, hn3, hb1⟩
                   have HX3 := Lib.hid (Box.new w2 _ rfl k3 x3 s3 a3 n3 c3)
                   have HX0 := Lib.hid ((HX0.out.next hb1).alloc (.cells #[.int .i64 k3, .int .i64 x3, .string s3, .slice a3 n3 c3] 24))
                   have HX1 := Lib.hid ((HX1.out.next hb1).alloc (.cells #[.int .i64 k3, .int .i64 x3, .string s3, .slice a3 n3 c3] 24))
                   have HN3 := Lib.hid (show Nums (w2.alloc (.cells #[.int .i64 k3, .int .i64 x3, .string s3, .slice a3 n3 c3] 24)) (w2.alloc (.cells #[.int .i64 k3, .int .i64 x3, .string s3, .slice a3 n3 c3] 24)).heap.size a3 n3 l3 from (hn3.alloc (Nat.le_refl _) _).more (by simp))
                   have HB2 := Lib.hid (below_next HB.out hb1)
                   have HB := Lib.hid (HB2.out.alloc HB2.out.size (.cells #[.int .i64 k3, .int .i64 x3, .string s3, .slice a3 n3 c3] 24))
                   obtain ⟨z0, p0, q0, r0, t0⟩ := HX0.out
                   obtain ⟨z1, p1, q1, r1, t1⟩ := HX1.out
                   obtain ⟨z3, p3, q3, r3, t3⟩ := HX3.out
                   clear hb1 hn3)
                | (go_at_call 11; (with_reducible refine (CM3.out _ _ _ _ ?_ HN3.out).mono ?_)
                   · first | exact HB.out | exact HB.out.drew | exact below_drewN HB.out _
                   rintro e wn ⟨rfl, hbn⟩
                   have HX0 := Lib.hid (HX0.out.below (show Below _ _ wn from ⟨hbn.os, hbn.tape, hbn.output, hbn.size, hbn.block⟩) HX0.out.1)
                   have HX1 := Lib.hid (HX1.out.below (show Below _ _ wn from ⟨hbn.os, hbn.tape, hbn.output, hbn.size, hbn.block⟩) HX1.out.1)
                   have HX3 := Lib.hid (HX3.out.below (show Below _ _ wn from ⟨hbn.os, hbn.tape, hbn.output, hbn.size, hbn.block⟩) HX3.out.1)
                   have HN3 := Lib.hid ((HN3.out.below (show Below _ _ wn from ⟨hbn.os, hbn.tape, hbn.output, hbn.size, hbn.block⟩)).more hbn.size)
                   have HB := Lib.hid (show Below w.heap.size w wn from below_next HB.out ⟨hbn.os, hbn.tape, hbn.output, hbn.size, hbn.block⟩)
                   obtain ⟨z0, p0, q0, r0, t0⟩ := HX0.out
                   obtain ⟨z1, p1, q1, r1, t1⟩ := HX1.out
                   obtain ⟨z3, p3, q3, r3, t3⟩ := HX3.out
                   clear hbn)
                | (go_at_call 17; (with_reducible refine (CS3.out _ _ _ _ ?_ HN3.out).mono ?_)
                   · first | exact HB.out | exact HB.out.drew | exact below_drewN HB.out _
                   rintro e wn ⟨rfl, hbn⟩
                   have HX0 := Lib.hid (HX0.out.below (show Below _ _ wn from ⟨hbn.os, hbn.tape, hbn.output, hbn.size, hbn.block⟩) HX0.out.1)
                   have HX1 := Lib.hid (HX1.out.below (show Below _ _ wn from ⟨hbn.os, hbn.tape, hbn.output, hbn.size, hbn.block⟩) HX1.out.1)
                   have HX3 := Lib.hid (HX3.out.below (show Below _ _ wn from ⟨hbn.os, hbn.tape, hbn.output, hbn.size, hbn.block⟩) HX3.out.1)
                   have HN3 := Lib.hid ((HN3.out.below (show Below _ _ wn from ⟨hbn.os, hbn.tape, hbn.output, hbn.size, hbn.block⟩)).more hbn.size)
                   have HB := Lib.hid (show Below w.heap.size w wn from below_next HB.out ⟨hbn.os, hbn.tape, hbn.output, hbn.size, hbn.block⟩)
                   obtain ⟨z0, p0, q0, r0, t0⟩ := HX0.out
                   obtain ⟨z1, p1, q1, r1, t1⟩ := HX1.out
                   obtain ⟨z3, p3, q3, r3, t3⟩ := HX3.out
                   clear hbn)
                | (go_at_call 11; (with_reducible refine (CMA.out _ ?_).mono ?_)
                   · first | exact HB.out | exact HB.out.drew | exact below_drewN HB.out _
                   rintro e wn ⟨rfl, hbn⟩
                   have HX0 := Lib.hid (HX0.out.below (show Below _ _ wn from ⟨hbn.os, hbn.tape, hbn.output, hbn.size, hbn.block⟩) HX0.out.1)
                   have HX1 := Lib.hid (HX1.out.below (show Below _ _ wn from ⟨hbn.os, hbn.tape, hbn.output, hbn.size, hbn.block⟩) HX1.out.1)
                   have HX3 := Lib.hid (HX3.out.below (show Below _ _ wn from ⟨hbn.os, hbn.tape, hbn.output, hbn.size, hbn.block⟩) HX3.out.1)
                   have HN3 := Lib.hid ((HN3.out.below (show Below _ _ wn from ⟨hbn.os, hbn.tape, hbn.output, hbn.size, hbn.block⟩)).more hbn.size)
                   have HB := Lib.hid (show Below w.heap.size w wn from below_next HB.out ⟨hbn.os, hbn.tape, hbn.output, hbn.size, hbn.block⟩)
                   obtain ⟨z0, p0, q0, r0, t0⟩ := HX0.out
                   obtain ⟨z1, p1, q1, r1, t1⟩ := HX1.out
                   obtain ⟨z3, p3, q3, r3, t3⟩ := HX3.out
                   clear hbn)
                | (go_at_call 11; (with_reducible refine (CMB.out _ ?_).mono ?_)
                   · first | exact HB.out | exact HB.out.drew | exact below_drewN HB.out _
                   rintro e wn ⟨rfl, hbn⟩
                   have HX0 := Lib.hid (HX0.out.below (show Below _ _ wn from ⟨hbn.os, hbn.tape, hbn.output, hbn.size, hbn.block⟩) HX0.out.1)
                   have HX1 := Lib.hid (HX1.out.below (show Below _ _ wn from ⟨hbn.os, hbn.tape, hbn.output, hbn.size, hbn.block⟩) HX1.out.1)
                   have HX3 := Lib.hid (HX3.out.below (show Below _ _ wn from ⟨hbn.os, hbn.tape, hbn.output, hbn.size, hbn.block⟩) HX3.out.1)
                   have HN3 := Lib.hid ((HN3.out.below (show Below _ _ wn from ⟨hbn.os, hbn.tape, hbn.output, hbn.size, hbn.block⟩)).more hbn.size)
                   have HB := Lib.hid (show Below w.heap.size w wn from below_next HB.out ⟨hbn.os, hbn.tape, hbn.output, hbn.size, hbn.block⟩)
                   obtain ⟨z0, p0, q0, r0, t0⟩ := HX0.out
                   obtain ⟨z1, p1, q1, r1, t1⟩ := HX1.out
                   obtain ⟨z3, p3, q3, r3, t3⟩ := HX3.out
                   clear hbn)
                | fail)
              go_ret
              exact ⟨rfl, HB.out⟩
          · clear cma cmb csa csb cab crd hma hmb kA kB
            go_enter Tryz.func4, Tryz.ntmps4
            go_wp2_with (first
              | (go_at_call 8; (with_reducible refine CF.out.mono ?_)
                 rintro e w1 ⟨rfl, hb1⟩
                 have HB := Lib.hid (HB0.out.trans (hb1.mono HB0.out.size))
                 have HX0 := Lib.hid (HX0.out.next hb1)
                 have HX1 := Lib.hid (HX1.out.next hb1)
                 obtain ⟨z0, p0, q0, r0, t0⟩ := HX0.out
                 obtain ⟨z1, p1, q1, r1, t1⟩ := HX1.out
                 clear hb1)
              | (go_at_call 9; (with_reducible refine (CRS.out _ HB.out).mono ?_)
                 rintro e w2 ⟨a3, n3, c3, rfl, hn3, hb1⟩
                 have HX3 := Lib.hid (Box.new w2 _ rfl k3 x3 s3 a3 n3 c3)
                 have HX0 := Lib.hid ((HX0.out.next hb1).alloc (.cells #[.int .i64 k3, .int .i64 x3, .string s3, .slice a3 n3 c3] 24))
                 have HX1 := Lib.hid ((HX1.out.next hb1).alloc (.cells #[.int .i64 k3, .int .i64 x3, .string s3, .slice a3 n3 c3] 24))
                 have HN3 := Lib.hid (show Nums (w2.alloc (.cells #[.int .i64 k3, .int .i64 x3, .string s3, .slice a3 n3 c3] 24)) (w2.alloc (.cells #[.int .i64 k3, .int .i64 x3, .string s3, .slice a3 n3 c3] 24)).heap.size a3 n3 l3 from (hn3.alloc (Nat.le_refl _) _).more (by simp))
                 have HB2 := Lib.hid (below_next HB.out hb1)
                 have HB := Lib.hid (HB2.out.alloc HB2.out.size (.cells #[.int .i64 k3, .int .i64 x3, .string s3, .slice a3 n3 c3] 24))
                 obtain ⟨z0, p0, q0, r0, t0⟩ := HX0.out
                 obtain ⟨z1, p1, q1, r1, t1⟩ := HX1.out
                 obtain ⟨z3, p3, q3, r3, t3⟩ := HX3.out
                 clear hb1 hn3)
              | (go_at_call 11; (with_reducible refine (CM3.out _ _ _ _ ?_ HN3.out).mono ?_)
                 · first | exact HB.out | exact HB.out.drew | exact below_drewN HB.out _
                 rintro e wn ⟨rfl, hbn⟩
                 have HX0 := Lib.hid (HX0.out.below (show Below _ _ wn from ⟨hbn.os, hbn.tape, hbn.output, hbn.size, hbn.block⟩) HX0.out.1)
                 have HX1 := Lib.hid (HX1.out.below (show Below _ _ wn from ⟨hbn.os, hbn.tape, hbn.output, hbn.size, hbn.block⟩) HX1.out.1)
                 have HX3 := Lib.hid (HX3.out.below (show Below _ _ wn from ⟨hbn.os, hbn.tape, hbn.output, hbn.size, hbn.block⟩) HX3.out.1)
                 have HN3 := Lib.hid ((HN3.out.below (show Below _ _ wn from ⟨hbn.os, hbn.tape, hbn.output, hbn.size, hbn.block⟩)).more hbn.size)
                 have HB := Lib.hid (show Below w.heap.size w wn from below_next HB.out ⟨hbn.os, hbn.tape, hbn.output, hbn.size, hbn.block⟩)
                 obtain ⟨z0, p0, q0, r0, t0⟩ := HX0.out
                 obtain ⟨z1, p1, q1, r1, t1⟩ := HX1.out
                 obtain ⟨z3, p3, q3, r3, t3⟩ := HX3.out
                 clear hbn)
              | (go_at_call 17; (with_reducible refine (CS3.out _ _ _ _ ?_ HN3.out).mono ?_)
                 · first | exact HB.out | exact HB.out.drew | exact below_drewN HB.out _
                 rintro e wn ⟨rfl, hbn⟩
                 have HX0 := Lib.hid (HX0.out.below (show Below _ _ wn from ⟨hbn.os, hbn.tape, hbn.output, hbn.size, hbn.block⟩) HX0.out.1)
                 have HX1 := Lib.hid (HX1.out.below (show Below _ _ wn from ⟨hbn.os, hbn.tape, hbn.output, hbn.size, hbn.block⟩) HX1.out.1)
                 have HX3 := Lib.hid (HX3.out.below (show Below _ _ wn from ⟨hbn.os, hbn.tape, hbn.output, hbn.size, hbn.block⟩) HX3.out.1)
                 have HN3 := Lib.hid ((HN3.out.below (show Below _ _ wn from ⟨hbn.os, hbn.tape, hbn.output, hbn.size, hbn.block⟩)).more hbn.size)
                 have HB := Lib.hid (show Below w.heap.size w wn from below_next HB.out ⟨hbn.os, hbn.tape, hbn.output, hbn.size, hbn.block⟩)
                 obtain ⟨z0, p0, q0, r0, t0⟩ := HX0.out
                 obtain ⟨z1, p1, q1, r1, t1⟩ := HX1.out
                 obtain ⟨z3, p3, q3, r3, t3⟩ := HX3.out
                 clear hbn)
              | (go_at_call 11; (with_reducible refine (CMA.out _ ?_).mono ?_)
                 · first | exact HB.out | exact HB.out.drew | exact below_drewN HB.out _
                 rintro e wn ⟨rfl, hbn⟩
                 have HX0 := Lib.hid (HX0.out.below (show Below _ _ wn from ⟨hbn.os, hbn.tape, hbn.output, hbn.size, hbn.block⟩) HX0.out.1)
                 have HX1 := Lib.hid (HX1.out.below (show Below _ _ wn from ⟨hbn.os, hbn.tape, hbn.output, hbn.size, hbn.block⟩) HX1.out.1)
                 have HX3 := Lib.hid (HX3.out.below (show Below _ _ wn from ⟨hbn.os, hbn.tape, hbn.output, hbn.size, hbn.block⟩) HX3.out.1)
                 have HN3 := Lib.hid ((HN3.out.below (show Below _ _ wn from ⟨hbn.os, hbn.tape, hbn.output, hbn.size, hbn.block⟩)).more hbn.size)
                 have HB := Lib.hid (show Below w.heap.size w wn from below_next HB.out ⟨hbn.os, hbn.tape, hbn.output, hbn.size, hbn.block⟩)
                 obtain ⟨z0, p0, q0, r0, t0⟩ := HX0.out
                 obtain ⟨z1, p1, q1, r1, t1⟩ := HX1.out
                 obtain ⟨z3, p3, q3, r3, t3⟩ := HX3.out
                 clear hbn)
              | (go_at_call 11; (with_reducible refine (CMB.out _ ?_).mono ?_)
                 · first | exact HB.out | exact HB.out.drew | exact below_drewN HB.out _
                 rintro e wn ⟨rfl, hbn⟩
                 have HX0 := Lib.hid (HX0.out.below (show Below _ _ wn from ⟨hbn.os, hbn.tape, hbn.output, hbn.size, hbn.block⟩) HX0.out.1)
                 have HX1 := Lib.hid (HX1.out.below (show Below _ _ wn from ⟨hbn.os, hbn.tape, hbn.output, hbn.size, hbn.block⟩) HX1.out.1)
                 have HX3 := Lib.hid (HX3.out.below (show Below _ _ wn from ⟨hbn.os, hbn.tape, hbn.output, hbn.size, hbn.block⟩) HX3.out.1)
                 have HN3 := Lib.hid ((HN3.out.below (show Below _ _ wn from ⟨hbn.os, hbn.tape, hbn.output, hbn.size, hbn.block⟩)).more hbn.size)
                 have HB := Lib.hid (show Below w.heap.size w wn from below_next HB.out ⟨hbn.os, hbn.tape, hbn.output, hbn.size, hbn.block⟩)
                 obtain ⟨z0, p0, q0, r0, t0⟩ := HX0.out
                 obtain ⟨z1, p1, q1, r1, t1⟩ := HX1.out
                 obtain ⟨z3, p3, q3, r3, t3⟩ := HX3.out
                 clear hbn)
              | fail)
            go_ret
            exact ⟨rfl, HB.out⟩
  · have b0 : decide ((400 : Int) < (t.size : Int)) = true := decide_eq_true (by omega)
    have b1 : decide (400 < t.size) = true := decide_eq_true (by omega)
    clear cma cmb csa csb cab crd kA kB
    go_enter Tryz.func4, Tryz.ntmps4
    go_wp2_with (first
      | (go_at_call 8; (with_reducible refine CF.out.mono ?_)
         rintro e w1 ⟨rfl, hb1⟩
         have HB := Lib.hid (HB0.out.trans (hb1.mono HB0.out.size))
         have HX0 := Lib.hid (HX0.out.next hb1)
         have HX1 := Lib.hid (HX1.out.next hb1)
         obtain ⟨z0, p0, q0, r0, t0⟩ := HX0.out
         obtain ⟨z1, p1, q1, r1, t1⟩ := HX1.out
         clear hb1)
      | fail)
    go_ret
    exact ⟨rfl, HB.out⟩
end Go.Proofs.YtnanfmmafmcchaaGreatDoor
