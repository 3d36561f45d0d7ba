/- Contract of the reference's readList. -/
import Derived.Test.YtnanfmmafmcchaaGreatDoorDtRefInt
import Derived.Test.YtnanfmmafmcchaaGreatDoorDtGuess
import Derived.Deep.RegionHeld3
import Derived.Deep.RegionLaw
import Derived.Laws.Concat
import Derived.WalkSpells
namespace Go.Proofs.YtnanfmmafmcchaaGreatDoor
open Go.RowKit

/-- Blocks A and A + 1 hold the answer yet to be given and the list that is being read. -/
def LB (W : World) (A : Nat) (v : Value) : Prop :=
  A + 1 < W.heap.size ∧
  (W.cell? ⟨A, 0, none⟩ = some (.int .i64 0) ∧ W.cell? ⟨A, 1, none⟩ = some (.int .i64 0) ∧ W.cell? ⟨A, 2, none⟩ = some (.string ⟨#[]⟩) ∧ W.cell? ⟨A, 3, none⟩ = some (.slice none 0 0)) ∧
  (W.frozen? ⟨A, 0, none⟩ = false ∧ W.frozen? ⟨A, 1, none⟩ = false ∧ W.frozen? ⟨A, 2, none⟩ = false ∧ W.frozen? ⟨A, 3, none⟩ = false) ∧
  (W.cell? ⟨A + 1, 0, none⟩ = some (.int .i64 4) ∧ W.cell? ⟨A + 1, 1, none⟩ = some (.int .i64 0) ∧ W.cell? ⟨A + 1, 2, none⟩ = some (.string ⟨#[]⟩) ∧ W.cell? ⟨A + 1, 3, none⟩ = some v) ∧
  W.frozen? ⟨A + 1, 3, none⟩ = false
theorem LB.new (w : World) : LB ((w.alloc (.cells #[.int .i64 0, .int .i64 0, .string ⟨#[]⟩, .slice none 0 0] 24)).alloc (.cells #[.int .i64 4, .int .i64 0, .string ⟨#[]⟩, .slice none 0 0] 24)) w.heap.size (.slice none 0 0) := by
  refine ⟨by simp, ⟨?_, ?_, ?_, ?_⟩, ⟨?_, ?_, ?_, ?_⟩, ⟨?_, ?_, ?_, ?_⟩, ?_⟩ <;> simp
theorem LB.below {W W' : World} {A B : Nat} {v : Value} (h : LB W A v) (hb : Below B W W') (hB : A + 1 < B) : LB W' A v := by
  obtain ⟨h0, ⟨c0, c1, c2, c3⟩, ⟨f0, f1, f2, f3⟩, ⟨d0, d1, d2, d3⟩, g⟩ := h
  have C : ∀ b j, b < B → W'.cell? ⟨b, j, none⟩ = W.cell? ⟨b, j, none⟩ := fun b j hbb => hb.cell (p := ⟨b, j, none⟩) hbb
  have Fz : ∀ b j, b < B → W'.frozen? ⟨b, j, none⟩ = W.frozen? ⟨b, j, none⟩ := fun b j hbb => hb.frozen (p := ⟨b, j, none⟩) hbb
  exact ⟨Nat.lt_of_lt_of_le h0 hb.size, ⟨(C _ _ (by omega)).trans c0, (C _ _ (by omega)).trans c1, (C _ _ (by omega)).trans c2, (C _ _ (by omega)).trans c3⟩,
    ⟨(Fz _ _ (by omega)).trans f0, (Fz _ _ (by omega)).trans f1, (Fz _ _ (by omega)).trans f2, (Fz _ _ (by omega)).trans f3⟩,
    ⟨(C _ _ hB).trans d0, (C _ _ hB).trans d1, (C _ _ hB).trans d2, (C _ _ hB).trans d3⟩, (Fz _ _ hB).trans g⟩
theorem LB.set {W : World} {A : Nat} {v : Value} (h : LB W A v) (v' : Value) : LB (W.setCell ⟨A + 1, 3, none⟩ v') A v' := by
  obtain ⟨h0, ⟨c0, c1, c2, c3⟩, ⟨f0, f1, f2, f3⟩, ⟨d0, d1, d2, d3⟩, g⟩ := h
  have ne1 : ∀ j : Nat, (⟨A + 1, 3, none⟩ : Addr) ≠ ⟨A, j, none⟩ := fun j e => by injection e with e _ _; omega
  have ne2 : ∀ j : Nat, j < 3 → (⟨A + 1, 3, none⟩ : Addr) ≠ ⟨A + 1, j, none⟩ := fun j hj e => by injection e with _ e _; omega
  refine ⟨by simpa using h0, ⟨?_, ?_, ?_, ?_⟩, ⟨?_, ?_, ?_, ?_⟩, ⟨?_, ?_, ?_, ?_⟩, ?_⟩
  · rw [World.cell?_setCell_other _ _ _ _ (ne1 0)]; exact c0
  · rw [World.cell?_setCell_other _ _ _ _ (ne1 1)]; exact c1
  · rw [World.cell?_setCell_other _ _ _ _ (ne1 2)]; exact c2
  · rw [World.cell?_setCell_other _ _ _ _ (ne1 3)]; exact c3
  · rw [World.frozen?_setCell]; exact f0
  · rw [World.frozen?_setCell]; exact f1
  · rw [World.frozen?_setCell]; exact f2
  · rw [World.frozen?_setCell]; exact f3
  · rw [World.cell?_setCell_other _ _ _ _ (ne2 0 (by omega))]; exact d0
  · rw [World.cell?_setCell_other _ _ _ _ (ne2 1 (by omega))]; exact d1
  · rw [World.cell?_setCell_other _ _ _ _ (ne2 2 (by omega))]; exact d2
  · exact World.cell?_setCell_same' _ _ _ (by rw [d3]; rfl)
  · rw [World.frozen?_setCell]; exact g
theorem numsF_word {s : ByteArray} {k : Nat} (h : k < s.size) (acc : List Int) (wd : Str) (h1 : (s[k] == 32) = false) (h2 : (s[k] == 93) = false) : numsF acc wd (s.toList.drop k) = numsF acc (wd ++ [s[k]]) (s.toList.drop (k + 1)) := by
  rw [lxDrop s k h, numsF, if_pos (by unfold bne; rw [h1, h2]; rfl)]
theorem numsF_sep {s : ByteArray} {k : Nat} (h : k < s.size) (acc : List Int) (wd : Str) (h1 : (s[k] == 32 || s[k] == 93) = true) : numsF acc wd (s.toList.drop k) = numsF (if wd != [] && decide (acc.length ≤ 16) then acc ++ [intS wd] else acc) [] (s.toList.drop (k + 1)) := by
  rw [lxDrop s k h, numsF, if_neg (by
    unfold bne
    intro e
    rw [Bool.and_eq_true, Bool.not_eq_true', Bool.not_eq_true'] at e
    rw [e.1, e.2] at h1
    cases h1)]
theorem word_cat (s WD : ByteArray) (k : Nat) (h : k < s.size) {wd : Str} (hw : WD.toList = wd) : (WD ++ s.extract k (k + 1)).toList = wd ++ [s[k]] := by
  have he : (s.extract k (k + 1)).toList = [s[k]] := by
    rw [ByteArray.toList_eq, Lib.extract_data]
    have h2 : s.data.toList.drop k = s[k] :: s.data.toList.drop (k + 1) := by
      have := lxDrop s k h
      rwa [ByteArray.toList_eq] at this
    rw [h2, show k + 1 - k = 1 by omega]
    rfl
  rw [ByteArray.toList_eq, ByteArray.data_append, Array.toList_append, ← ByteArray.toList_eq, ← ByteArray.toList_eq, hw, he]
/-- An append of one number at a step of a region that draws its order. -/
theorem step_append_ints {ops : Array Oper} {o : Oper} {a : Act} {K : Act → World → Prop} {Q : Exit → Act → World → Prop} {E : Prop} {w1 : World} (W : World) (hgd : o.guard = none) (s x : Operand)
    (ho : o.op = .call { callee := .builtin .append, args := #[s, x], argTypes := #[22, 22] }) (base : Nat) (v : Value) (l : List Int) (n : Int)
    (hw1 : w1 = W.alloc (.cells #[.int .i64 n] 2))
    (hs : a.eval s = v) (hx : a.eval x = .slice (some ⟨W.heap.size, 0, none⟩) 1 1) (hB : Ints W base v l) (hb : base ≤ W.heap.size) (hlen : l.length ≤ 1000000000000)
    (w0 : World) (hw : Below base w0 W)
    (h : ∀ v' w', Ints w' base v' (l ++ [n]) → Below base w0 w' → K (a.put o.dst v') w') : if Region.wanted o (yielded ops a.tmps) = true then Oper.wp Tryz.prog o a w1 K Q else E := by
  have hwant : Region.wanted o (yielded ops a.tmps) = true := by simp [Region.wanted, hgd]
  rw [if_pos hwant]
  subst hw1
  obtain ⟨v', w', hrun, hown, hbel⟩ := hB.more hb [n] (by simp; omega) o.type
  have hrun' : (Builtin.append_ #[22, 22] o.type #[v, .slice (some ⟨W.heap.size, 0, none⟩) 1 1]).run Tryz.prog (W.alloc (.cells #[.int .i64 n] 2)) = .ok v' w' := hrun
  unfold Oper.wp execOp
  simp only [ho, resolve, invoke, builtin, Sem.run_bind, Sem.run_pure, Result.andThen_ok, List.map_toArray, List.map_cons, List.map_nil, hs, hx, hrun']
  exact h v' w' hown (hbel base (Nat.le_refl _) w0 hw)

set_option maxHeartbeats 8000000 in
set_option maxRecDepth 20000 in
theorem refReadList_any (s : ByteArray) (w : World) (hs : s.size ≤ 1100000) : Calls Tryz.prog 23 #[.string s] w fun e w' => GuessAns w' w.heap.size ⟨4, 0, [], numsF [] [] (s.toList.drop 1)⟩ e ∧ Below w.heap.size w w' := by
  have HB0 := Lib.hid (((Below.refl w.heap.size w).alloc (Nat.le_refl _) (.cells #[.int .i64 0, .int .i64 0, .string ⟨#[]⟩, .slice none 0 0] 24)).alloc (by simp) (.cells #[.int .i64 4, .int .i64 0, .string ⟨#[]⟩, .slice none 0 0] 24))
  have HL0 := Lib.hid (LB.new w)
  go_enter Tryz.func23, Tryz.ntmps23
  go_wp2
  go_loopw [4, 5] (fun u i wr => ∃ (k : Nat) (WD : ByteArray) (acc : List Int) (v : Value), 1 ≤ k ∧ WD.size ≤ k ∧ acc.length ≤ 17 ∧ i = .int .i64 k ∧ u = .string WD ∧ Hid (numsF [] [] (s.toList.drop 1) = numsF acc WD.toList (s.toList.drop k)) ∧ Hid (Ints wr (w.heap.size + 2) v acc) ∧ Hid (LB wr w.heap.size v) ∧ Hid (Below w.heap.size w wr)) (fun _ i _ => s.size - (intOf i).toNat)
  case atStart => exact ⟨1, _, [], _, Nat.le_refl _, by show 0 ≤ 1; omega, by simp, rfl, rfl, Lib.hid (by rw [empty_list]), Lib.hid (Ints.zero _ _), HL0, HB0⟩
  case round =>
    obtain ⟨k, WD, acc, v, hk1, hwk, hac, rfl, rfl, HR, HI, HL, HW⟩ := hrel
    obtain ⟨z0, ⟨c0, c1, c2, c3⟩, ⟨f0, f1, f2, f3⟩, ⟨d0, d1, d2, d3⟩, g3⟩ := HL.out
    by_cases hlt : k < s.size
    · by_cases hsep : (s[k] == 32 || s[k] == 93) = true
      · have HS := numsF_sep hlt acc WD.toList hsep
        have HSEP := Lib.hid hsep
        cases hz : WD.toList.isEmpty
        · have hne : (WD.toList != []) = true := by
            rw [bne_iff_ne]; intro e; rw [e] at hz; cases hz
          obtain ⟨sa, sc, hv⟩ : ∃ sa sc, v = .slice sa acc.length sc := by
            obtain ⟨sa, sc, h, _⟩ := HI.out.sees
            exact ⟨sa, sc, h⟩
          obtain ⟨m, hm⟩ : ∃ m, m = acc.length := ⟨_, rfl⟩
          rw [← hm] at hv hac
          rw [hne, ← hm] at HS
          by_cases h16 : m ≤ 16
          · rw [decide_eq_true h16] at HS
            have HN := Lib.hid (show numsF [] [] (s.toList.drop 1) = numsF (acc ++ [intS WD.toList]) (⟨#[]⟩ : ByteArray).toList (s.toList.drop (k + 1)) by rw [HR.out, HS, empty_list]; rfl)
            have CI := Lib.hid (fun W => refInt_any WD W (by omega))
            obtain ⟨nv, hnv⟩ : ∃ nv, nv = intS WD.toList := ⟨_, rfl⟩
            rw [← hnv] at HN CI
            have b16 : decide ((m : Int) ≤ 16) = true := decide_eq_true (by omega)
            have hwz : w.heap.size + 2 ≤ wr.heap.size := by omega
            have HM := Lib.hid hm
            subst hv
            clear hnv hsep HS hne hm
            cases h32 : (s[k] == 32)
            · have e32 : (((s[k].toNat : Nat) : Int) == 32) = false := by rw [← h32]; exact byte_is s[k] 32 (by omega)
              have n32 : (((s[k].toNat : Nat) : Int) != 32) = true := by unfold bne; rw [e32]; rfl
              have e93 : (((s[k].toNat : Nat) : Int) == 93) = true := by
                have h := HSEP.out
                rw [h32, Bool.false_or] at h
                rw [← h]; exact byte_is s[k] 93 (by omega)
              have n93 : (((s[k].toNat : Nat) : Int) != 93) = false := by unfold bne; rw [e93]; rfl
              clear h32
              go_wp2
              go_region_law (first
                | (refine step_append_ints wr.drew (by rfl) (.tmp 39) (.tmp 42) (by rfl) (w.heap.size + 2) (.slice sa m sc) acc nv (by rfl) (by rfl) (by rfl) HI.out (by simpa using hwz) (by rw [← HM.out]; omega) wr.drew (Below.refl _ _) ?_
                   intro v' w' hown hbel
                   obtain ⟨sa', sc', hv', _⟩ := hown.sees
                   obtain ⟨m', hm'⟩ : ∃ m', m' = (acc ++ [nv]).length := ⟨_, rfl⟩
                   rw [← hm'] at hv'
                   clear hm'
                   subst hv'
                   have HO := Lib.hid hown
                   have HE := Lib.hid (show Below (w.heap.size + 2) wr w' from ⟨hbel.os, hbel.tape, hbel.output, hbel.size, hbel.block⟩)
                   have y3 : w'.cell? ⟨w.heap.size + 1, 3, none⟩ = some (.slice sa m sc) := (HE.out.cell (p := ⟨w.heap.size + 1, 3, none⟩) (by simp)).trans d3
                   have y4 : w'.frozen? ⟨w.heap.size + 1, 3, none⟩ = false := (HE.out.frozen (p := ⟨w.heap.size + 1, 3, none⟩) (by simp)).trans g3
                   clear hown hbel)
                | (go_simp; go_at_call 24; (with_reducible refine (CI.out _).mono ?_); rintro e wn ⟨rfl, rfl⟩)
                | fail)
              all_goals
                go_wp2
                go_roundw
                case rel => exact ⟨k + 1, _, acc ++ [nv], (.slice sa' m' sc'), by omega, by show 0 ≤ k + 1; omega, by rw [List.length_append, ← HM.out]; show m + 1 ≤ 17; omega, by go_num, rfl, HN, Lib.hid (HO.out.setOther ⟨w.heap.size + 1, 3, none⟩ (.slice sa' m' sc') (by simp)), Lib.hid ((HL.out.below HE.out (by omega)).set (.slice sa' m' sc')), Lib.hid ((HW.out.trans (show Below w.heap.size wr w' from HE.out.mono (by omega))).setCell (by simp) (.slice sa' m' sc'))⟩
                case measure => simp [intOf]; omega
            · have e32 : (((s[k].toNat : Nat) : Int) == 32) = true := by rw [← h32]; exact byte_is s[k] 32 (by omega)
              have n32 : (((s[k].toNat : Nat) : Int) != 32) = false := by unfold bne; rw [e32]; rfl
              clear h32
              go_wp2
              go_region_law (first
                | (refine step_append_ints wr.drew (by rfl) (.tmp 39) (.tmp 42) (by rfl) (w.heap.size + 2) (.slice sa m sc) acc nv (by rfl) (by rfl) (by rfl) HI.out (by simpa using hwz) (by rw [← HM.out]; omega) wr.drew (Below.refl _ _) ?_
                   intro v' w' hown hbel
                   obtain ⟨sa', sc', hv', _⟩ := hown.sees
                   obtain ⟨m', hm'⟩ : ∃ m', m' = (acc ++ [nv]).length := ⟨_, rfl⟩
                   rw [← hm'] at hv'
                   clear hm'
                   subst hv'
                   have HO := Lib.hid hown
                   have HE := Lib.hid (show Below (w.heap.size + 2) wr w' from ⟨hbel.os, hbel.tape, hbel.output, hbel.size, hbel.block⟩)
                   have y3 : w'.cell? ⟨w.heap.size + 1, 3, none⟩ = some (.slice sa m sc) := (HE.out.cell (p := ⟨w.heap.size + 1, 3, none⟩) (by simp)).trans d3
                   have y4 : w'.frozen? ⟨w.heap.size + 1, 3, none⟩ = false := (HE.out.frozen (p := ⟨w.heap.size + 1, 3, none⟩) (by simp)).trans g3
                   clear hown hbel)
                | (go_simp; go_at_call 24; (with_reducible refine (CI.out _).mono ?_); rintro e wn ⟨rfl, rfl⟩)
                | fail)
              all_goals
                go_wp2
                go_roundw
                case rel => exact ⟨k + 1, _, acc ++ [nv], (.slice sa' m' sc'), by omega, by show 0 ≤ k + 1; omega, by rw [List.length_append, ← HM.out]; show m + 1 ≤ 17; omega, by go_num, rfl, HN, Lib.hid (HO.out.setOther ⟨w.heap.size + 1, 3, none⟩ (.slice sa' m' sc') (by simp)), Lib.hid ((HL.out.below HE.out (by omega)).set (.slice sa' m' sc')), Lib.hid ((HW.out.trans (show Below w.heap.size wr w' from HE.out.mono (by omega))).setCell (by simp) (.slice sa' m' sc'))⟩
                case measure => simp [intOf]; omega
          · rw [decide_eq_false h16] at HS
            have HN := Lib.hid (show numsF [] [] (s.toList.drop 1) = numsF acc (⟨#[]⟩ : ByteArray).toList (s.toList.drop (k + 1)) by rw [HR.out, HS, empty_list]; rfl)
            have b16 : decide ((m : Int) ≤ 16) = false := decide_eq_false (by omega)
            have hac2 : acc.length ≤ 17 := by omega
            subst hv
            clear hsep HS hne hm
            cases h32 : (s[k] == 32)
            · have e32 : (((s[k].toNat : Nat) : Int) == 32) = false := by rw [← h32]; exact byte_is s[k] 32 (by omega)
              have n32 : (((s[k].toNat : Nat) : Int) != 32) = true := by unfold bne; rw [e32]; rfl
              have e93 : (((s[k].toNat : Nat) : Int) == 93) = true := by
                have h := HSEP.out
                rw [h32, Bool.false_or] at h
                rw [← h]; exact byte_is s[k] 93 (by omega)
              have n93 : (((s[k].toNat : Nat) : Int) != 93) = false := by unfold bne; rw [e93]; rfl
              clear h32
              go_wp2
              go_roundw
              case rel => exact ⟨k + 1, _, acc, _, by omega, by show 0 ≤ k + 1; omega, hac2, by go_num, rfl, HN, HI, HL, HW⟩
              case measure => simp [intOf]; omega
            · have e32 : (((s[k].toNat : Nat) : Int) == 32) = true := by rw [← h32]; exact byte_is s[k] 32 (by omega)
              have n32 : (((s[k].toNat : Nat) : Int) != 32) = false := by unfold bne; rw [e32]; rfl
              clear h32
              go_wp2
              go_roundw
              case rel => exact ⟨k + 1, _, acc, _, by omega, by show 0 ≤ k + 1; omega, hac2, by go_num, rfl, HN, HI, HL, HW⟩
              case measure => simp [intOf]; omega
        · have HN := Lib.hid (show numsF [] [] (s.toList.drop 1) = numsF acc (⟨#[]⟩ : ByteArray).toList (s.toList.drop (k + 1)) by
            rw [HR.out, HS, nil_of_empty hz, empty_list]; rfl)
          have hac2 : acc.length ≤ 17 := hac
          clear hsep HS
          cases h32 : (s[k] == 32)
          · have e32 : (((s[k].toNat : Nat) : Int) == 32) = false := by rw [← h32]; exact byte_is s[k] 32 (by omega)
            have n32 : (((s[k].toNat : Nat) : Int) != 32) = true := by unfold bne; rw [e32]; rfl
            have e93 : (((s[k].toNat : Nat) : Int) == 93) = true := by
              have h := HSEP.out
              rw [h32, Bool.false_or] at h
              rw [← h]; exact byte_is s[k] 93 (by omega)
            have n93 : (((s[k].toNat : Nat) : Int) != 93) = false := by unfold bne; rw [e93]; rfl
            clear h32
            go_wp2
            go_roundw
            case rel => exact ⟨k + 1, _, acc, _, by omega, by show 0 ≤ k + 1; omega, hac2, by go_num, rfl, HN, HI, HL, HW⟩
            case measure => simp [intOf]; omega
          · have e32 : (((s[k].toNat : Nat) : Int) == 32) = true := by rw [← h32]; exact byte_is s[k] 32 (by omega)
            have n32 : (((s[k].toNat : Nat) : Int) != 32) = false := by unfold bne; rw [e32]; rfl
            clear h32
            go_wp2
            go_roundw
            case rel => exact ⟨k + 1, _, acc, _, by omega, by show 0 ≤ k + 1; omega, hac2, by go_num, rfl, HN, HI, HL, HW⟩
            case measure => simp [intOf]; omega
      · have h32 : (s[k] == 32) = false := by cases h : (s[k] == 32) <;> simp_all
        have h93 : (s[k] == 93) = false := by cases h : (s[k] == 93) <;> simp_all
        have HS := numsF_word hlt acc WD.toList h32 h93
        have HN := Lib.hid (show numsF [] [] (s.toList.drop 1) = numsF acc (WD ++ s.extract k (k + 1)).toList (s.toList.drop (k + 1)) by rw [HR.out, HS, word_cat s WD k hlt rfl])
        have e32 : (((s[k].toNat : Nat) : Int) == 32) = false := by rw [← h32]; exact byte_is s[k] 32 (by omega)
        have n32 : (((s[k].toNat : Nat) : Int) != 32) = true := by unfold bne; rw [e32]; rfl
        have e93 : (((s[k].toNat : Nat) : Int) == 93) = false := by rw [← h93]; exact byte_is s[k] 93 (by omega)
        have n93 : (((s[k].toNat : Nat) : Int) != 93) = true := by unfold bne; rw [e93]; rfl
        have hes : (s.extract k (k + 1)).size = 1 := by simp; omega
        have has : (WD ++ s.extract k (k + 1)).size ≤ k + 1 := by rw [ByteArray.size_append, hes]; omega
        have ka := fun W : World => run_string_add_sum (P := Tryz.prog) W WD (s.extract k (k + 1)) (by omega)
        have hsl := fun (W : World) => (run_slice_string_if (P := Tryz.prog) W 9 s .i64 .i64 (k : Int) ((k : Int) + 1) (by rfl)).trans (by
          rw [if_pos (show (0:Int) ≤ (k:Int) + 1 ∧ (k:Int) + 1 ≤ (s.size : Int) by omega), if_pos (show (0:Int) ≤ (k:Int) ∧ (k:Int) ≤ (k:Int) + 1 by omega)]
          rfl : _ = Result.ok (Value.string (s.extract k (k + 1))) W)
        clear hsep HS h32 h93 hes
        go_wp2
        go_roundw
        case rel => exact ⟨k + 1, _, acc, v, by omega, has, hac, by go_num, rfl, HN, HI, HL, HW⟩
        case measure => simp [intOf]; omega
    · have HF := Lib.hid (show numsF [] [] (s.toList.drop 1) = acc by
        rw [HR.out, lxEnd s k (by omega)]
        rfl)
      obtain ⟨sa, sc, hv, _, _, hfr, hnn⟩ := HI.out.sees
      obtain ⟨m, hm⟩ : ∃ m, m = acc.length := ⟨_, rfl⟩
      rw [← hm] at hv hfr hnn
      have HM := Lib.hid hm
      have HFR := Lib.hid hfr
      have HNN := Lib.hid hnn
      subst hv
      clear hfr hnn hm
      go_wp2
      refine bodyPost_ret (v := .agg #[.int .i64 4, .int .i64 0, .string ⟨#[]⟩, .slice sa m sc]) (by simp [results, go_sem, c0, c1, c2, c3]) rfl ?_
      refine ⟨?_, (((HW.out.setCell (Nat.le_refl _) _).setCell (Nat.le_refl _) _).setCell (Nat.le_refl _) _).setCell (Nat.le_refl _) _⟩
      have hn := (((HNN.out.setOther HFR.out ⟨w.heap.size, 0, none⟩ (.int .i64 4) (by simp)).setOther HFR.out ⟨w.heap.size, 1, none⟩ (.int .i64 0) (by simp)).setOther HFR.out ⟨w.heap.size, 2, none⟩ (.string ⟨#[]⟩) (by simp)).setOther HFR.out ⟨w.heap.size, 3, none⟩ (.slice sa m sc) (by simp)
      rw [HF.out]
      refine ⟨sa, sc, by rw [HM.out]; rfl, ?_, ?_⟩
      · show From _ sa acc.length
        rw [← HM.out]
        exact fun h0 => (by obtain ⟨b, o, eb, hb⟩ := HFR.out h0; exact ⟨b, o, eb, by omega⟩)
      · show Nums _ _ sa acc.length acc
        rw [← HM.out]
        exact hn.more (by simp)
end Go.Proofs.YtnanfmmafmcchaaGreatDoor
