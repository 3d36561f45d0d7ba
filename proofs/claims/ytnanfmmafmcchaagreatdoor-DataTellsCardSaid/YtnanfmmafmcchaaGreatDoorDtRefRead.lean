/- Contract of the reference's ReadValue. -/
import Derived.Test.YtnanfmmafmcchaaGreatDoorDtRefList
import Derived.Test.YtnanfmmafmcchaaGreatDoorDtRefShow
import Derived.Test.YtnanfmmafmcchaaGreatDoorDtReadO
import Derived.Test.YtnanfmmafmcchaaGreatDoorPlain
import Derived.Test.YtnanfmmafmcchaaGreatDoorLxRefE
import Derived.OwnWalk
namespace Go.Proofs.YtnanfmmafmcchaaGreatDoor
open Go.RowKit

theorem asI64_in {u : Nat} (hu : u < 18446744073709551616) : inI64 (asI64 u) := by
  unfold asI64 inI64
  split <;> omega
theorem intS_in (l : Str) : inI64 (intS l) := by
  unfold intS
  apply asI64_in
  split
  · exact negU_lt _ (mag_lt _)
  · exact mag_lt _
theorem numsF_in : ∀ (s : Str) (acc : List Int) (wd : Str), (∀ y ∈ acc, inI64 y) → ∀ y ∈ numsF acc wd s, inI64 y
  | [], acc, wd, h => h
  | c :: r, acc, wd, h => by
    rw [numsF]
    split
    · exact numsF_in r acc _ h
    · refine numsF_in r _ _ ?_
      split
      · intro y hy
        rw [List.mem_append] at hy
        rcases hy with hy | hy
        · exact h y hy
        · rw [List.mem_singleton] at hy; rw [hy]; exact intS_in _
      · exact h
theorem in_zero : inI64 0 := by unfold inI64; decide
theorem in_one : inI64 1 := by unfold inI64; decide
theorem guess_ok {s : Str} {g : Val} (h : guessS s = some g) : inI64 g.num ∧ (∀ y ∈ g.list, inI64 y) ∧ g.kind ≠ 5 := by
  unfold guessS at h
  split at h
  · injection h with h; subst h; exact ⟨in_one, by simp, (by decide : (2 : Int) ≠ 5)⟩
  · split at h
    · injection h with h; subst h; exact ⟨in_zero, by simp, (by decide : (2 : Int) ≠ 5)⟩
    · split at h
      · obtain ⟨q, _, h'⟩ := Option.bind_eq_some_iff.mp h
        split at h'
        · injection h' with h'; subst h'; exact ⟨in_zero, by simp, (by decide : (3 : Int) ≠ 5)⟩
        · cases h'
      · injection h with h; subst h
        exact ⟨in_zero, numsF_in _ _ _ (by simp), (by decide : (4 : Int) ≠ 5)⟩
      · split at h
        · injection h with h; subst h; exact ⟨in_zero, by simp, (by decide : (0 : Int) ≠ 5)⟩
        · injection h with h; subst h; exact ⟨intS_in _, by simp, (by decide : (1 : Int) ≠ 5)⟩
theorem readV_ref {s : Str} {g : Val} (h : guessS s = some g) : readV s = if showV g == s then some g else none := by
  obtain ⟨h1, h2, h3⟩ := guess_ok h
  by_cases hs : showV g = s
  · rw [if_pos (by rw [beq_iff_eq]; exact hs)]
    have hm : mayV g = true := by
      cases hm : mayV g
      · exfalso
        rw [showV_may hm] at hs
        rw [← hs] at h
        have e : g = ⟨1, 0, [], []⟩ := by
          have h0 : guessS [] = some ⟨1, 0, [], []⟩ := rfl
          rw [h0] at h
          injection h with h
          exact h.symm
        rw [e] at hm
        cases hm
      · rfl
    exact readV_of ⟨hm, h3, hs, ⟨h1, h2⟩⟩
  · rw [if_neg (by rw [beq_iff_eq]; exact hs)]
    exact readV_none fun v hv => hs (by
      have e := guess_right hv
      rw [h] at e
      injection e with e
      rw [e]
      exact hv.2.2.1)
theorem readV_no {s : Str} (h : guessS s = none) : readV s = none := readV_none fun v hv => by
  have e := guess_right hv
  rw [h] at e
  cases e

theorem bytes_is {s : ByteArray} {l : Str} (h : s.toList = l) : s = lxS l := lxS_inj (by rw [lxS_toList]; exact h)
theorem guess_quote (r : Str) : guessS (34 :: r) = (quoteS r).bind fun p => if p.2 = [] then some ⟨3, 0, p.1, []⟩ else none := by
  unfold guessS
  rw [if_neg (fun h => by injection h with h _; cases h), if_neg (fun h => by injection h with h _; cases h)]
  rfl
theorem guess_list (r : Str) : guessS (91 :: r) = some ⟨4, 0, [], numsF [] [] r⟩ := by
  unfold guessS
  rw [if_neg (fun h => by injection h with h _; cases h), if_neg (fun h => by injection h with h _; cases h)]
  rfl
theorem guess_num {c : UInt8} {r : Str} (h1 : c :: r ≠ [116, 114, 117, 101]) (h2 : c :: r ≠ [102, 97, 108, 115, 101]) (h3 : c :: r ≠ [117, 110, 105, 116]) (n3 : c ≠ 34) (n4 : c ≠ 91) : guessS (c :: r) = some ⟨1, intS (c :: r), [], []⟩ := by
  unfold guessS
  rw [if_neg h1, if_neg h2]
  split
  · rename_i h; injection h with h; exact absurd h n3
  · rename_i h; injection h with h; exact absurd h n4
  · rw [if_neg h3]

theorem set4_ne {A i j : Nat} : (⟨A + 1, i, none⟩ : Addr) ≠ ⟨A, j, none⟩ := fun e => by injection e with e _ _; omega
theorem set4_neo {A i j : Nat} (h : i ≠ j) : (⟨A, i, none⟩ : Addr) ≠ ⟨A, j, none⟩ := fun e => by injection e with _ e _; exact h e
theorem set4_other (w1 : World) (A j : Nat) (v0 v1 v2 v3 : Value) : ((((w1.setCell ⟨A + 1, 0, none⟩ v0).setCell ⟨A + 1, 1, none⟩ v1).setCell ⟨A + 1, 2, none⟩ v2).setCell ⟨A + 1, 3, none⟩ v3).cell? ⟨A, j, none⟩ = w1.cell? ⟨A, j, none⟩ := by
  rw [World.cell?_setCell_other _ _ _ _ set4_ne, World.cell?_setCell_other _ _ _ _ set4_ne, World.cell?_setCell_other _ _ _ _ set4_ne, World.cell?_setCell_other _ _ _ _ set4_ne]
theorem set4_at {w1 : World} {A : Nat} {u0 u1 u2 u3 : Value} (v0 v1 v2 v3 : Value) (a0 : w1.cell? ⟨A, 0, none⟩ = some u0) (a1 : w1.cell? ⟨A, 1, none⟩ = some u1) (a2 : w1.cell? ⟨A, 2, none⟩ = some u2) (a3 : w1.cell? ⟨A, 3, none⟩ = some u3) :
    ((((w1.setCell ⟨A, 0, none⟩ v0).setCell ⟨A, 1, none⟩ v1).setCell ⟨A, 2, none⟩ v2).setCell ⟨A, 3, none⟩ v3).cell? ⟨A, 0, none⟩ = some v0 ∧
    ((((w1.setCell ⟨A, 0, none⟩ v0).setCell ⟨A, 1, none⟩ v1).setCell ⟨A, 2, none⟩ v2).setCell ⟨A, 3, none⟩ v3).cell? ⟨A, 1, none⟩ = some v1 ∧
    ((((w1.setCell ⟨A, 0, none⟩ v0).setCell ⟨A, 1, none⟩ v1).setCell ⟨A, 2, none⟩ v2).setCell ⟨A, 3, none⟩ v3).cell? ⟨A, 2, none⟩ = some v2 ∧
    ((((w1.setCell ⟨A, 0, none⟩ v0).setCell ⟨A, 1, none⟩ v1).setCell ⟨A, 2, none⟩ v2).setCell ⟨A, 3, none⟩ v3).cell? ⟨A, 3, none⟩ = some v3 := by
  have n01 := set4_neo (A := A) (show 0 ≠ 1 by decide)
  have n02 := set4_neo (A := A) (show 0 ≠ 2 by decide)
  have n03 := set4_neo (A := A) (show 0 ≠ 3 by decide)
  have n12 := set4_neo (A := A) (show 1 ≠ 2 by decide)
  have n13 := set4_neo (A := A) (show 1 ≠ 3 by decide)
  have n23 := set4_neo (A := A) (show 2 ≠ 3 by decide)
  refine ⟨?_, ?_, ?_, ?_⟩
  · rw [World.cell?_setCell_other _ _ _ _ n03.symm, World.cell?_setCell_other _ _ _ _ n02.symm, World.cell?_setCell_other _ _ _ _ n01.symm]
    exact World.cell?_setCell_same' _ _ _ (by rw [a0]; rfl)
  · rw [World.cell?_setCell_other _ _ _ _ n13.symm, World.cell?_setCell_other _ _ _ _ n12.symm]
    exact World.cell?_setCell_same' _ _ _ (by rw [World.cell?_setCell_other _ _ _ _ n01, a1]; rfl)
  · rw [World.cell?_setCell_other _ _ _ _ n23.symm]
    exact World.cell?_setCell_same' _ _ _ (by rw [World.cell?_setCell_other _ _ _ _ n12, World.cell?_setCell_other _ _ _ _ n02, a2]; rfl)
  · exact World.cell?_setCell_same' _ _ _ (by rw [World.cell?_setCell_other _ _ _ _ n23, World.cell?_setCell_other _ _ _ _ n13, World.cell?_setCell_other _ _ _ _ n03, a3]; rfl)
theorem set4_size (w1 : World) (A : Nat) (v0 v1 v2 v3 : Value) : ((((w1.setCell ⟨A + 1, 0, none⟩ v0).setCell ⟨A + 1, 1, none⟩ v1).setCell ⟨A + 1, 2, none⟩ v2).setCell ⟨A + 1, 3, none⟩ v3).heap.size = w1.heap.size := by simp

set_option maxHeartbeats 8000000 in
set_option maxRecDepth 20000 in
theorem refReadValue_any (s : ByteArray) (w : World) (hs : s.size ≤ 1100000) : Calls Tryz.prog 10 #[.string s] w fun e w' => ReadAns w' (readV s.toList) e ∧ Below w.heap.size w w' := by
  have CS := Lib.hid (fun (k x : Int) (t : ByteArray) (hx : inI64 x) (h5 : k ≠ 5) (W : World) => refShow_any k x t none 0 0 [] W W.heap.size (Nat.le_refl _) (Nums.zero _ _ _) hx (by simp) (fun _ h => absurd h h5))
  have HB0 := Lib.hid (((Below.refl w.heap.size w).alloc (Nat.le_refl _) (.cells #[.int .i64 0, .int .i64 0, .string ⟨#[]⟩, .slice none 0 0] 24)).alloc (by simp) (.cells #[.int .i64 0, .int .i64 0, .string ⟨#[]⟩, .slice none 0 0] 24))
  by_cases hT : s = ⟨#[116, 114, 117, 101]⟩
  · subst hT
    have C1 := Lib.hid (fun W => CS.out 2 1 ⟨#[]⟩ (in_one) (by decide) W)
    have hl : lxS (showV ⟨2, 1, (⟨#[]⟩ : ByteArray).toList, []⟩) = ⟨#[116, 114, 117, 101]⟩ := by rw [empty_list]; decide +kernel
    rw [hl] at C1
    have HR := Lib.hid (show readV (⟨#[116, 114, 117, 101]⟩ : ByteArray).toList = some ⟨2, 1, [], []⟩ by rw [ByteArray.toList_eq, readV_ref (g := ⟨2, 1, [], []⟩) (by rfl), if_pos (by decide +kernel)])
    clear hl
    go_enter Tryz.func10, Tryz.ntmps10
    go_wp2_with (first
      | (go_at_call 18; (with_reducible refine (C1.out _).mono ?_)
         rintro e w2 ⟨rfl, hb2⟩
         have HB2 := Lib.hid (show Below w.heap.size w w2 from Below.trans (by first | exact ((Below.refl w.heap.size w).alloc (Nat.le_refl _) _).alloc (by simp) _ | exact HB1.out.setCell (by simp) _ | exact (HB1.out.setCell (by simp) _).setCell (by simp) _ | exact ((HB1.out.setCell (by simp) _).setCell (by simp) _).setCell (by simp) _ | exact (((HB1.out.setCell (by simp) _).setCell (by simp) _).setCell (by simp) _).setCell (by simp) _) (hb2.mono (by simp; omega)))
         obtain ⟨hcc2, hff2⟩ := bcell hb2
         have p0 : w2.cell? ⟨w.heap.size, 0, none⟩ = some (.int .i64 0) := by rw [hcc2 _ _ (by simp <;> omega)]; simp [*]
         have p1 : w2.cell? ⟨w.heap.size, 1, none⟩ = some (.int .i64 0) := by rw [hcc2 _ _ (by simp <;> omega)]; simp [*]
         have p2 : w2.cell? ⟨w.heap.size, 2, none⟩ = some (.string ⟨#[]⟩) := by rw [hcc2 _ _ (by simp <;> omega)]; simp [*]
         have p3 : w2.cell? ⟨w.heap.size, 3, none⟩ = some (.slice none 0 0) := by rw [hcc2 _ _ (by simp <;> omega)]; simp [*]
         clear hb2)
      | fail)
    refine bodyPost_ret (v := .tuple #[.agg #[.int .i64 2, .int .i64 1, .string ⟨#[]⟩, .slice none 0 0], .int .i64 0]) (by simp [results, go_sem, p0, p1, p2, p3]) rfl ?_
    exact ⟨by rw [HR.out]; exact ⟨none, 0, by first | rfl | (rw [HTT.out]; rfl) | (rw [HNL.out]; rfl), Nums.zero _ _ _⟩, ((((HB2.out.setCell (Nat.le_refl _) _).setCell (Nat.le_refl _) _).setCell (Nat.le_refl _) _).setCell (Nat.le_refl _) _)⟩
  · have _ := trivial
    by_cases hF : s = ⟨#[102, 97, 108, 115, 101]⟩
    · subst hF
      have C1 := Lib.hid (fun W => CS.out 2 0 ⟨#[]⟩ (in_zero) (by decide) W)
      have hl : lxS (showV ⟨2, 0, (⟨#[]⟩ : ByteArray).toList, []⟩) = ⟨#[102, 97, 108, 115, 101]⟩ := by rw [empty_list]; decide +kernel
      rw [hl] at C1
      have HR := Lib.hid (show readV (⟨#[102, 97, 108, 115, 101]⟩ : ByteArray).toList = some ⟨2, 0, [], []⟩ by rw [ByteArray.toList_eq, readV_ref (g := ⟨2, 0, [], []⟩) (by rfl), if_pos (by decide +kernel)])
      clear hl
      go_enter Tryz.func10, Tryz.ntmps10
      go_wp2_with (first
        | (go_at_call 18; (with_reducible refine (C1.out _).mono ?_)
           rintro e w2 ⟨rfl, hb2⟩
           have HB2 := Lib.hid (show Below w.heap.size w w2 from Below.trans (by first | exact ((Below.refl w.heap.size w).alloc (Nat.le_refl _) _).alloc (by simp) _ | exact HB1.out.setCell (by simp) _ | exact (HB1.out.setCell (by simp) _).setCell (by simp) _ | exact ((HB1.out.setCell (by simp) _).setCell (by simp) _).setCell (by simp) _ | exact (((HB1.out.setCell (by simp) _).setCell (by simp) _).setCell (by simp) _).setCell (by simp) _) (hb2.mono (by simp; omega)))
           obtain ⟨hcc2, hff2⟩ := bcell hb2
           have p0 : w2.cell? ⟨w.heap.size, 0, none⟩ = some (.int .i64 0) := by rw [hcc2 _ _ (by simp <;> omega)]; simp [*]
           have p1 : w2.cell? ⟨w.heap.size, 1, none⟩ = some (.int .i64 0) := by rw [hcc2 _ _ (by simp <;> omega)]; simp [*]
           have p2 : w2.cell? ⟨w.heap.size, 2, none⟩ = some (.string ⟨#[]⟩) := by rw [hcc2 _ _ (by simp <;> omega)]; simp [*]
           have p3 : w2.cell? ⟨w.heap.size, 3, none⟩ = some (.slice none 0 0) := by rw [hcc2 _ _ (by simp <;> omega)]; simp [*]
           clear hb2)
        | fail)
      refine bodyPost_ret (v := .tuple #[.agg #[.int .i64 2, .int .i64 0, .string ⟨#[]⟩, .slice none 0 0], .int .i64 0]) (by simp [results, go_sem, p0, p1, p2, p3]) rfl ?_
      exact ⟨by rw [HR.out]; exact ⟨none, 0, by first | rfl | (rw [HTT.out]; rfl) | (rw [HNL.out]; rfl), Nums.zero _ _ _⟩, ((((HB2.out.setCell (Nat.le_refl _) _).setCell (Nat.le_refl _) _).setCell (Nat.le_refl _) _).setCell (Nat.le_refl _) _)⟩
    · have _ := trivial
      by_cases hU : s = ⟨#[117, 110, 105, 116]⟩
      · subst hU
        have C1 := Lib.hid (fun W => CS.out 0 0 ⟨#[]⟩ (in_zero) (by decide) W)
        have hl : lxS (showV ⟨0, 0, (⟨#[]⟩ : ByteArray).toList, []⟩) = ⟨#[117, 110, 105, 116]⟩ := by rw [empty_list]; decide +kernel
        rw [hl] at C1
        have HR := Lib.hid (show readV (⟨#[117, 110, 105, 116]⟩ : ByteArray).toList = some ⟨0, 0, [], []⟩ by rw [ByteArray.toList_eq, readV_ref (g := ⟨0, 0, [], []⟩) (by rfl), if_pos (by decide +kernel)])
        clear hl
        go_enter Tryz.func10, Tryz.ntmps10
        go_wp2_with (first
          | (go_at_call 18; (with_reducible refine (C1.out _).mono ?_)
             rintro e w2 ⟨rfl, hb2⟩
             have HB2 := Lib.hid (show Below w.heap.size w w2 from Below.trans (by first | exact ((Below.refl w.heap.size w).alloc (Nat.le_refl _) _).alloc (by simp) _ | exact HB1.out.setCell (by simp) _ | exact (HB1.out.setCell (by simp) _).setCell (by simp) _ | exact ((HB1.out.setCell (by simp) _).setCell (by simp) _).setCell (by simp) _ | exact (((HB1.out.setCell (by simp) _).setCell (by simp) _).setCell (by simp) _).setCell (by simp) _) (hb2.mono (by simp; omega)))
             obtain ⟨hcc2, hff2⟩ := bcell hb2
             have p0 : w2.cell? ⟨w.heap.size, 0, none⟩ = some (.int .i64 0) := by rw [hcc2 _ _ (by simp <;> omega)]; simp [*]
             have p1 : w2.cell? ⟨w.heap.size, 1, none⟩ = some (.int .i64 0) := by rw [hcc2 _ _ (by simp <;> omega)]; simp [*]
             have p2 : w2.cell? ⟨w.heap.size, 2, none⟩ = some (.string ⟨#[]⟩) := by rw [hcc2 _ _ (by simp <;> omega)]; simp [*]
             have p3 : w2.cell? ⟨w.heap.size, 3, none⟩ = some (.slice none 0 0) := by rw [hcc2 _ _ (by simp <;> omega)]; simp [*]
             clear hb2)
          | fail)
        refine bodyPost_ret (v := .tuple #[.agg #[.int .i64 0, .int .i64 0, .string ⟨#[]⟩, .slice none 0 0], .int .i64 0]) (by simp [results, go_sem, p0, p1, p2, p3]) rfl ?_
        exact ⟨by rw [HR.out]; exact ⟨none, 0, by first | rfl | (rw [HTT.out]; rfl) | (rw [HNL.out]; rfl), Nums.zero _ _ _⟩, ((((HB2.out.setCell (Nat.le_refl _) _).setCell (Nat.le_refl _) _).setCell (Nat.le_refl _) _).setCell (Nat.le_refl _) _)⟩
      · have _ := trivial
        by_cases hE : s = ⟨#[]⟩
        · subst hE
          have C1 := Lib.hid (fun W => CS.out 1 0 ⟨#[]⟩ (in_zero) (by decide) W)
          have hl : lxS (showV ⟨1, 0, (⟨#[]⟩ : ByteArray).toList, []⟩) = ⟨#[48]⟩ := by rw [empty_list]; decide +kernel
          rw [hl] at C1
          have HR := Lib.hid (show readV (⟨#[]⟩ : ByteArray).toList = none by rw [ByteArray.toList_eq, readV_ref (g := ⟨1, 0, [], []⟩) (by rfl), if_neg (by decide +kernel)])
          clear hl
          go_enter Tryz.func10, Tryz.ntmps10
          go_wp2_with (first
            | (go_at_call 24; (with_reducible refine (refInt_any ⟨#[]⟩ _ (by decide)).mono ?_)
               rintro e w1 ⟨rfl, rfl⟩
               rw [show intS (⟨#[]⟩ : ByteArray).toList = 0 by rw [empty_list]; rfl])
            | (go_at_call 18; (with_reducible refine (C1.out _).mono ?_)
               rintro e w2 ⟨rfl, hb2⟩
               have HB2 := Lib.hid (show Below w.heap.size w w2 from Below.trans (by first | exact ((Below.refl w.heap.size w).alloc (Nat.le_refl _) _).alloc (by simp) _ | exact HB1.out.setCell (by simp) _ | exact (HB1.out.setCell (by simp) _).setCell (by simp) _ | exact ((HB1.out.setCell (by simp) _).setCell (by simp) _).setCell (by simp) _ | exact (((HB1.out.setCell (by simp) _).setCell (by simp) _).setCell (by simp) _).setCell (by simp) _) (hb2.mono (by simp; omega)))
               obtain ⟨hcc2, hff2⟩ := bcell hb2
               have p0 : w2.cell? ⟨w.heap.size, 0, none⟩ = some (.int .i64 0) := by rw [hcc2 _ _ (by simp <;> omega)]; simp [*]
               have p1 : w2.cell? ⟨w.heap.size, 1, none⟩ = some (.int .i64 0) := by rw [hcc2 _ _ (by simp <;> omega)]; simp [*]
               have p2 : w2.cell? ⟨w.heap.size, 2, none⟩ = some (.string ⟨#[]⟩) := by rw [hcc2 _ _ (by simp <;> omega)]; simp [*]
               have p3 : w2.cell? ⟨w.heap.size, 3, none⟩ = some (.slice none 0 0) := by rw [hcc2 _ _ (by simp <;> omega)]; simp [*]
               clear hb2)
            | fail)
          refine bodyPost_ret (v := .tuple #[.agg #[.int .i64 0, .int .i64 0, .string ⟨#[]⟩, .slice none 0 0], .int .i64 300]) (by simp [results, go_sem, p0, p1, p2, p3]) rfl ?_
          exact ⟨by rw [HR.out]; rfl, ((((HB2.out.setCell (Nat.le_refl _) _).setCell (Nat.le_refl _) _).setCell (Nat.le_refl _) _).setCell (Nat.le_refl _) _)⟩
        · have _ := trivial
          have e1 : (s.toList == [116, 114, 117, 101]) = false := by rw [beq_eq_false_iff_ne]; exact fun h => hT (bytes_is h)
          have e2 : (s.toList == [102, 97, 108, 115, 101]) = false := by rw [beq_eq_false_iff_ne]; exact fun h => hF (bytes_is h)
          have e3 : (s.toList == [117, 110, 105, 116]) = false := by rw [beq_eq_false_iff_ne]; exact fun h => hU (bytes_is h)
          have e4 : (s.toList == []) = false := by rw [beq_eq_false_iff_ne]; exact fun h => hE (bytes_is h)
          have h0 : 0 < s.size := by
            rcases Nat.eq_zero_or_pos s.size with h | h
            · exfalso
              rw [beq_eq_false_iff_ne] at e4
              exact e4 (List.eq_nil_of_length_eq_zero (by rw [lxLen]; exact h))
            · exact h
          have hcons : s.toList = s[0] :: s.toList.drop 1 := lxDrop s 0 h0
          have HC := Lib.hid hcons
          have i34 : (((s[0].toNat : Nat) : Int) == 34) = (s[0] == 34) := byte_is s[0] 34 (by omega)
          have i91 : (((s[0].toNat : Nat) : Int) == 91) = (s[0] == 91) := byte_is s[0] 91 (by omega)
          have HT := Lib.hid hT
          have HF := Lib.hid hF
          have HU := Lib.hid hU
          clear hT hF hU hE hcons
          cases z34 : (s[0] == 34)
          · rw [z34] at i34
            cases z91 : (s[0] == 91)
            · rw [z91] at i91
              have HG : guessS s.toList = some ⟨1, intS s.toList, [], []⟩ := by
                have hc := HC.out
                have h1 := beq_eq_false_iff_ne.mp e1
                have h2 := beq_eq_false_iff_ne.mp e2
                have h3 := beq_eq_false_iff_ne.mp e3
                rw [hc] at h1 h2 h3 ⊢
                exact guess_num h1 h2 h3 (beq_eq_false_iff_ne.mp z34) (beq_eq_false_iff_ne.mp z91)
              have CI := Lib.hid (fun W => refInt_any s W hs)
              have hin := intS_in s.toList
              generalize intS s.toList = nv at *
              have C0 := fun W => CS.out 1 nv ⟨#[]⟩ hin (by decide) W
              rw [empty_list] at C0
              have hrd := readV_ref HG
              obtain ⟨S, hS⟩ : ∃ S, S = lxS (showV ⟨1, nv, [], []⟩) := ⟨_, rfl⟩
              have hSl : S.toList = showV ⟨1, nv, [], []⟩ := by rw [hS, lxS_toList]
              rw [← hSl] at hrd
              rw [← hS] at C0
              have C1 := Lib.hid C0
              clear C0 hin z34 z91
              cases es : (S.toList == s.toList)
              · have HR := Lib.hid (show readV s.toList = none by rw [hrd, es]; rfl)
                clear hrd hSl hS HG
                go_enter Tryz.func10, Tryz.ntmps10
                go_wp2_with (first
                  | (go_at_call 24; (with_reducible refine (CI.out _).mono ?_)
                     rintro e w1 ⟨rfl, rfl⟩)
                  | (go_at_call 18; (with_reducible refine (C1.out _).mono ?_)
                     rintro e w2 ⟨rfl, hb2⟩
                     have HB2 := Lib.hid (show Below w.heap.size w w2 from Below.trans (by first | exact ((Below.refl w.heap.size w).alloc (Nat.le_refl _) _).alloc (by simp) _ | exact HB1.out.setCell (by simp) _ | exact (HB1.out.setCell (by simp) _).setCell (by simp) _ | exact ((HB1.out.setCell (by simp) _).setCell (by simp) _).setCell (by simp) _ | exact (((HB1.out.setCell (by simp) _).setCell (by simp) _).setCell (by simp) _).setCell (by simp) _) (hb2.mono (by simp; omega)))
                     obtain ⟨hcc2, hff2⟩ := bcell hb2
                     have p0 : w2.cell? ⟨w.heap.size, 0, none⟩ = some (.int .i64 0) := by rw [hcc2 _ _ (by simp <;> omega)]; simp [*]
                     have p1 : w2.cell? ⟨w.heap.size, 1, none⟩ = some (.int .i64 0) := by rw [hcc2 _ _ (by simp <;> omega)]; simp [*]
                     have p2 : w2.cell? ⟨w.heap.size, 2, none⟩ = some (.string ⟨#[]⟩) := by rw [hcc2 _ _ (by simp <;> omega)]; simp [*]
                     have p3 : w2.cell? ⟨w.heap.size, 3, none⟩ = some (.slice none 0 0) := by rw [hcc2 _ _ (by simp <;> omega)]; simp [*]
                     clear hb2)
                  | fail)
                refine bodyPost_ret (v := .tuple #[.agg #[.int .i64 0, .int .i64 0, .string ⟨#[]⟩, .slice none 0 0], .int .i64 300]) (by simp [results, go_sem, p0, p1, p2, p3]) rfl ?_
                exact ⟨by rw [HR.out]; rfl, ((((HB2.out.setCell (Nat.le_refl _) _).setCell (Nat.le_refl _) _).setCell (Nat.le_refl _) _).setCell (Nat.le_refl _) _)⟩
              · have HR := Lib.hid (show readV s.toList = some ⟨1, nv, [], []⟩ by rw [hrd, es]; rfl)
                clear hrd hSl hS HG
                go_enter Tryz.func10, Tryz.ntmps10
                go_wp2_with (first
                  | (go_at_call 24; (with_reducible refine (CI.out _).mono ?_)
                     rintro e w1 ⟨rfl, rfl⟩)
                  | (go_at_call 18; (with_reducible refine (C1.out _).mono ?_)
                     rintro e w2 ⟨rfl, hb2⟩
                     have HB2 := Lib.hid (show Below w.heap.size w w2 from Below.trans (by first | exact ((Below.refl w.heap.size w).alloc (Nat.le_refl _) _).alloc (by simp) _ | exact HB1.out.setCell (by simp) _ | exact (HB1.out.setCell (by simp) _).setCell (by simp) _ | exact ((HB1.out.setCell (by simp) _).setCell (by simp) _).setCell (by simp) _ | exact (((HB1.out.setCell (by simp) _).setCell (by simp) _).setCell (by simp) _).setCell (by simp) _) (hb2.mono (by simp; omega)))
                     obtain ⟨hcc2, hff2⟩ := bcell hb2
                     have p0 : w2.cell? ⟨w.heap.size, 0, none⟩ = some (.int .i64 0) := by rw [hcc2 _ _ (by simp <;> omega)]; simp [*]
                     have p1 : w2.cell? ⟨w.heap.size, 1, none⟩ = some (.int .i64 0) := by rw [hcc2 _ _ (by simp <;> omega)]; simp [*]
                     have p2 : w2.cell? ⟨w.heap.size, 2, none⟩ = some (.string ⟨#[]⟩) := by rw [hcc2 _ _ (by simp <;> omega)]; simp [*]
                     have p3 : w2.cell? ⟨w.heap.size, 3, none⟩ = some (.slice none 0 0) := by rw [hcc2 _ _ (by simp <;> omega)]; simp [*]
                     clear hb2)
                  | fail)
                refine bodyPost_ret (v := .tuple #[.agg #[.int .i64 1, .int .i64 nv, .string ⟨#[]⟩, .slice none 0 0], .int .i64 0]) (by simp [results, go_sem, p0, p1, p2, p3]) rfl ?_
                exact ⟨by rw [HR.out]; exact ⟨none, 0, by first | rfl | (rw [HTT.out]; rfl) | (rw [HNL.out]; rfl), Nums.zero _ _ _⟩, ((((HB2.out.setCell (Nat.le_refl _) _).setCell (Nat.le_refl _) _).setCell (Nat.le_refl _) _).setCell (Nat.le_refl _) _)⟩
            · rw [z91] at i91
              have HG : guessS s.toList = some ⟨4, 0, [], numsF [] [] (s.toList.drop 1)⟩ := by
                have hc := HC.out
                rw [eq_of_beq z91] at hc
                rw [hc]
                exact guess_list _
              have CI := Lib.hid (fun W => refReadList_any s W hs)
              have hin := numsF_in (s.toList.drop 1) [] [] (by simp)
              generalize numsF [] [] (s.toList.drop 1) = l at *
              have C0 := fun (a : Option Addr) (n c : Nat) (W : World) (hn : Nums W W.heap.size a n l) => refShow_any 4 0 ⟨#[]⟩ a n c l W W.heap.size (Nat.le_refl _) hn in_zero hin (fun _ h => absurd h (by decide))
              rw [empty_list] at C0
              have hrd := readV_ref HG
              obtain ⟨S, hS⟩ : ∃ S, S = lxS (showV ⟨4, 0, [], l⟩) := ⟨_, rfl⟩
              have hSl : S.toList = showV ⟨4, 0, [], l⟩ := by rw [hS, lxS_toList]
              rw [← hSl] at hrd
              rw [← hS] at C0
              have C1 := Lib.hid C0
              clear C0 hin z34 z91
              cases es : (S.toList == s.toList)
              · have HR := Lib.hid (show readV s.toList = none by rw [hrd, es]; rfl)
                clear hrd hSl hS HG
                go_enter Tryz.func10, Tryz.ntmps10
                go_wp2_with (first
                  | (go_at_call 23; (with_reducible refine (CI.out _).mono ?_)
                     rintro e w1 ⟨⟨a, c, rfl, hfr, hn⟩, hb1⟩
                     dsimp only at hn hfr ⊢
                     rw [show lxS [] = (⟨#[]⟩ : ByteArray) from rfl]
                     obtain ⟨nl, hnl⟩ : ∃ nl, nl = l.length := ⟨_, rfl⟩
                     rw [← hnl] at hn hfr ⊢
                     have HFR := Lib.hid hfr
                     have HNL := Lib.hid hnl
                     have HB1 := Lib.hid (HB0.out.trans (hb1.mono HB0.out.size))
                     obtain ⟨hcc, hff⟩ := bcell hb1
                     have hzz : w.heap.size + 1 < w1.heap.size := by have := hb1.size; simp at this; omega
                     have hz0 : w.heap.size < w1.heap.size := by omega
                     have o0 : w1.cell? ⟨w.heap.size, 0, none⟩ = some (.int .i64 0) := by rw [hcc _ _ (by simp <;> omega)]; simp
                     have of0 : w1.frozen? ⟨w.heap.size, 0, none⟩ = false := by rw [hff _ _ (by simp <;> omega)]; simp
                     have o1 : w1.cell? ⟨w.heap.size, 1, none⟩ = some (.int .i64 0) := by rw [hcc _ _ (by simp <;> omega)]; simp
                     have of1 : w1.frozen? ⟨w.heap.size, 1, none⟩ = false := by rw [hff _ _ (by simp <;> omega)]; simp
                     have o2 : w1.cell? ⟨w.heap.size, 2, none⟩ = some (.string ⟨#[]⟩) := by rw [hcc _ _ (by simp <;> omega)]; simp
                     have of2 : w1.frozen? ⟨w.heap.size, 2, none⟩ = false := by rw [hff _ _ (by simp <;> omega)]; simp
                     have o3 : w1.cell? ⟨w.heap.size, 3, none⟩ = some (.slice none 0 0) := by rw [hcc _ _ (by simp <;> omega)]; simp
                     have of3 : w1.frozen? ⟨w.heap.size, 3, none⟩ = false := by rw [hff _ _ (by simp <;> omega)]; simp
                     have a0 : w1.cell? ⟨w.heap.size + 1, 0, none⟩ = some (.int .i64 0) := by rw [hcc _ _ (by simp <;> omega)]; simp
                     have af0 : w1.frozen? ⟨w.heap.size + 1, 0, none⟩ = false := by rw [hff _ _ (by simp <;> omega)]; simp
                     have a1 : w1.cell? ⟨w.heap.size + 1, 1, none⟩ = some (.int .i64 0) := by rw [hcc _ _ (by simp <;> omega)]; simp
                     have af1 : w1.frozen? ⟨w.heap.size + 1, 1, none⟩ = false := by rw [hff _ _ (by simp <;> omega)]; simp
                     have a2 : w1.cell? ⟨w.heap.size + 1, 2, none⟩ = some (.string ⟨#[]⟩) := by rw [hcc _ _ (by simp <;> omega)]; simp
                     have af2 : w1.frozen? ⟨w.heap.size + 1, 2, none⟩ = false := by rw [hff _ _ (by simp <;> omega)]; simp
                     have a3 : w1.cell? ⟨w.heap.size + 1, 3, none⟩ = some (.slice none 0 0) := by rw [hcc _ _ (by simp <;> omega)]; simp
                     have af3 : w1.frozen? ⟨w.heap.size + 1, 3, none⟩ = false := by rw [hff _ _ (by simp <;> omega)]; simp
                     clear hb1 hcc hff
                     have HN2 := Lib.hid (show Nums ((((w1.setCell ⟨w.heap.size + 1, 0, none⟩ (.int .i64 4)).setCell ⟨w.heap.size + 1, 1, none⟩ (.int .i64 0)).setCell ⟨w.heap.size + 1, 2, none⟩ (.string ⟨#[]⟩)).setCell ⟨w.heap.size + 1, 3, none⟩ (.slice a nl c)) (((((w1.setCell ⟨w.heap.size + 1, 0, none⟩ (.int .i64 4)).setCell ⟨w.heap.size + 1, 1, none⟩ (.int .i64 0)).setCell ⟨w.heap.size + 1, 2, none⟩ (.string ⟨#[]⟩)).setCell ⟨w.heap.size + 1, 3, none⟩ (.slice a nl c))).heap.size a nl l from ((((hn.setOther hfr _ _ (by simp)).setOther hfr _ _ (by simp)).setOther hfr _ _ (by simp)).setOther hfr _ _ (by simp)).more (by simp))
                     clear hn hfr hnl)
                  | (go_at_call 18; (with_reducible refine (C1.out _ _ _ _ HN2.out).mono ?_)
                     rintro e w2 ⟨rfl, hb2⟩
                     have hsz : (((((w1.setCell ⟨w.heap.size + 1, 0, none⟩ (.int .i64 4)).setCell ⟨w.heap.size + 1, 1, none⟩ (.int .i64 0)).setCell ⟨w.heap.size + 1, 2, none⟩ (.string ⟨#[]⟩)).setCell ⟨w.heap.size + 1, 3, none⟩ (.slice a nl c))).heap.size = w1.heap.size := set4_size _ _ _ _ _ _
                     have hbW : Below w.heap.size w ((((w1.setCell ⟨w.heap.size + 1, 0, none⟩ (.int .i64 4)).setCell ⟨w.heap.size + 1, 1, none⟩ (.int .i64 0)).setCell ⟨w.heap.size + 1, 2, none⟩ (.string ⟨#[]⟩)).setCell ⟨w.heap.size + 1, 3, none⟩ (.slice a nl c)) := (((HB1.out.setCell (Nat.le_succ _) _).setCell (Nat.le_succ _) _).setCell (Nat.le_succ _) _).setCell (Nat.le_succ _) _
                     have HB2 := Lib.hid (hbW.trans (hb2.mono (by rw [hsz]; omega)))
                     obtain ⟨hcc2, hff2⟩ := bcell hb2
                     have hq4 := set4_at (.int .i64 4) (.int .i64 0) (.string ⟨#[]⟩) (.slice a nl c) a0 a1 a2 a3
                     have hk0 : w.heap.size < (((((w1.setCell ⟨w.heap.size + 1, 0, none⟩ (.int .i64 4)).setCell ⟨w.heap.size + 1, 1, none⟩ (.int .i64 0)).setCell ⟨w.heap.size + 1, 2, none⟩ (.string ⟨#[]⟩)).setCell ⟨w.heap.size + 1, 3, none⟩ (.slice a nl c))).heap.size := by rw [hsz]; exact hz0
                     have hk1 : w.heap.size + 1 < (((((w1.setCell ⟨w.heap.size + 1, 0, none⟩ (.int .i64 4)).setCell ⟨w.heap.size + 1, 1, none⟩ (.int .i64 0)).setCell ⟨w.heap.size + 1, 2, none⟩ (.string ⟨#[]⟩)).setCell ⟨w.heap.size + 1, 3, none⟩ (.slice a nl c))).heap.size := by rw [hsz]; exact hzz
                     have p0 : w2.cell? ⟨w.heap.size, 0, none⟩ = some (.int .i64 0) := by rw [hcc2 _ _ hk0, set4_other]; exact o0
                     have pf0 : w2.frozen? ⟨w.heap.size, 0, none⟩ = false := by rw [hff2 _ _ hk0, World.frozen?_setCell, World.frozen?_setCell, World.frozen?_setCell, World.frozen?_setCell]; exact of0
                     have q0 : w2.cell? ⟨w.heap.size + 1, 0, none⟩ = some (.int .i64 4) := by rw [hcc2 _ _ hk1]; exact hq4.1
                     have p1 : w2.cell? ⟨w.heap.size, 1, none⟩ = some (.int .i64 0) := by rw [hcc2 _ _ hk0, set4_other]; exact o1
                     have pf1 : w2.frozen? ⟨w.heap.size, 1, none⟩ = false := by rw [hff2 _ _ hk0, World.frozen?_setCell, World.frozen?_setCell, World.frozen?_setCell, World.frozen?_setCell]; exact of1
                     have q1 : w2.cell? ⟨w.heap.size + 1, 1, none⟩ = some (.int .i64 0) := by rw [hcc2 _ _ hk1]; exact hq4.2.1
                     have p2 : w2.cell? ⟨w.heap.size, 2, none⟩ = some (.string ⟨#[]⟩) := by rw [hcc2 _ _ hk0, set4_other]; exact o2
                     have pf2 : w2.frozen? ⟨w.heap.size, 2, none⟩ = false := by rw [hff2 _ _ hk0, World.frozen?_setCell, World.frozen?_setCell, World.frozen?_setCell, World.frozen?_setCell]; exact of2
                     have q2 : w2.cell? ⟨w.heap.size + 1, 2, none⟩ = some (.string ⟨#[]⟩) := by rw [hcc2 _ _ hk1]; exact hq4.2.2.1
                     have p3 : w2.cell? ⟨w.heap.size, 3, none⟩ = some (.slice none 0 0) := by rw [hcc2 _ _ hk0, set4_other]; exact o3
                     have pf3 : w2.frozen? ⟨w.heap.size, 3, none⟩ = false := by rw [hff2 _ _ hk0, World.frozen?_setCell, World.frozen?_setCell, World.frozen?_setCell, World.frozen?_setCell]; exact of3
                     have q3 : w2.cell? ⟨w.heap.size + 1, 3, none⟩ = some (.slice a nl c) := by rw [hcc2 _ _ hk1]; exact hq4.2.2.2
                     have HN3 := Lib.hid ((HN2.out.below hb2).more hb2.size)
                     clear hb2 hcc2 hff2 hk0 hk1 hsz hq4 hbW)
                  | fail)
                refine bodyPost_ret (v := .tuple #[.agg #[.int .i64 0, .int .i64 0, .string ⟨#[]⟩, .slice none 0 0], .int .i64 300]) (by simp [results, go_sem, p0, p1, p2, p3]) rfl ?_
                exact ⟨by rw [HR.out]; rfl, ((((HB2.out.setCell (Nat.le_refl _) _).setCell (Nat.le_refl _) _).setCell (Nat.le_refl _) _).setCell (Nat.le_refl _) _)⟩
              · have HR := Lib.hid (show readV s.toList = some ⟨4, 0, [], l⟩ by rw [hrd, es]; rfl)
                clear hrd hSl hS HG
                go_enter Tryz.func10, Tryz.ntmps10
                go_wp2_with (first
                  | (go_at_call 23; (with_reducible refine (CI.out _).mono ?_)
                     rintro e w1 ⟨⟨a, c, rfl, hfr, hn⟩, hb1⟩
                     dsimp only at hn hfr ⊢
                     rw [show lxS [] = (⟨#[]⟩ : ByteArray) from rfl]
                     obtain ⟨nl, hnl⟩ : ∃ nl, nl = l.length := ⟨_, rfl⟩
                     rw [← hnl] at hn hfr ⊢
                     have HFR := Lib.hid hfr
                     have HNL := Lib.hid hnl
                     have HB1 := Lib.hid (HB0.out.trans (hb1.mono HB0.out.size))
                     obtain ⟨hcc, hff⟩ := bcell hb1
                     have hzz : w.heap.size + 1 < w1.heap.size := by have := hb1.size; simp at this; omega
                     have hz0 : w.heap.size < w1.heap.size := by omega
                     have o0 : w1.cell? ⟨w.heap.size, 0, none⟩ = some (.int .i64 0) := by rw [hcc _ _ (by simp <;> omega)]; simp
                     have of0 : w1.frozen? ⟨w.heap.size, 0, none⟩ = false := by rw [hff _ _ (by simp <;> omega)]; simp
                     have o1 : w1.cell? ⟨w.heap.size, 1, none⟩ = some (.int .i64 0) := by rw [hcc _ _ (by simp <;> omega)]; simp
                     have of1 : w1.frozen? ⟨w.heap.size, 1, none⟩ = false := by rw [hff _ _ (by simp <;> omega)]; simp
                     have o2 : w1.cell? ⟨w.heap.size, 2, none⟩ = some (.string ⟨#[]⟩) := by rw [hcc _ _ (by simp <;> omega)]; simp
                     have of2 : w1.frozen? ⟨w.heap.size, 2, none⟩ = false := by rw [hff _ _ (by simp <;> omega)]; simp
                     have o3 : w1.cell? ⟨w.heap.size, 3, none⟩ = some (.slice none 0 0) := by rw [hcc _ _ (by simp <;> omega)]; simp
                     have of3 : w1.frozen? ⟨w.heap.size, 3, none⟩ = false := by rw [hff _ _ (by simp <;> omega)]; simp
                     have a0 : w1.cell? ⟨w.heap.size + 1, 0, none⟩ = some (.int .i64 0) := by rw [hcc _ _ (by simp <;> omega)]; simp
                     have af0 : w1.frozen? ⟨w.heap.size + 1, 0, none⟩ = false := by rw [hff _ _ (by simp <;> omega)]; simp
                     have a1 : w1.cell? ⟨w.heap.size + 1, 1, none⟩ = some (.int .i64 0) := by rw [hcc _ _ (by simp <;> omega)]; simp
                     have af1 : w1.frozen? ⟨w.heap.size + 1, 1, none⟩ = false := by rw [hff _ _ (by simp <;> omega)]; simp
                     have a2 : w1.cell? ⟨w.heap.size + 1, 2, none⟩ = some (.string ⟨#[]⟩) := by rw [hcc _ _ (by simp <;> omega)]; simp
                     have af2 : w1.frozen? ⟨w.heap.size + 1, 2, none⟩ = false := by rw [hff _ _ (by simp <;> omega)]; simp
                     have a3 : w1.cell? ⟨w.heap.size + 1, 3, none⟩ = some (.slice none 0 0) := by rw [hcc _ _ (by simp <;> omega)]; simp
                     have af3 : w1.frozen? ⟨w.heap.size + 1, 3, none⟩ = false := by rw [hff _ _ (by simp <;> omega)]; simp
                     clear hb1 hcc hff
                     have HN2 := Lib.hid (show Nums ((((w1.setCell ⟨w.heap.size + 1, 0, none⟩ (.int .i64 4)).setCell ⟨w.heap.size + 1, 1, none⟩ (.int .i64 0)).setCell ⟨w.heap.size + 1, 2, none⟩ (.string ⟨#[]⟩)).setCell ⟨w.heap.size + 1, 3, none⟩ (.slice a nl c)) (((((w1.setCell ⟨w.heap.size + 1, 0, none⟩ (.int .i64 4)).setCell ⟨w.heap.size + 1, 1, none⟩ (.int .i64 0)).setCell ⟨w.heap.size + 1, 2, none⟩ (.string ⟨#[]⟩)).setCell ⟨w.heap.size + 1, 3, none⟩ (.slice a nl c))).heap.size a nl l from ((((hn.setOther hfr _ _ (by simp)).setOther hfr _ _ (by simp)).setOther hfr _ _ (by simp)).setOther hfr _ _ (by simp)).more (by simp))
                     clear hn hfr hnl)
                  | (go_at_call 18; (with_reducible refine (C1.out _ _ _ _ HN2.out).mono ?_)
                     rintro e w2 ⟨rfl, hb2⟩
                     have hsz : (((((w1.setCell ⟨w.heap.size + 1, 0, none⟩ (.int .i64 4)).setCell ⟨w.heap.size + 1, 1, none⟩ (.int .i64 0)).setCell ⟨w.heap.size + 1, 2, none⟩ (.string ⟨#[]⟩)).setCell ⟨w.heap.size + 1, 3, none⟩ (.slice a nl c))).heap.size = w1.heap.size := set4_size _ _ _ _ _ _
                     have hbW : Below w.heap.size w ((((w1.setCell ⟨w.heap.size + 1, 0, none⟩ (.int .i64 4)).setCell ⟨w.heap.size + 1, 1, none⟩ (.int .i64 0)).setCell ⟨w.heap.size + 1, 2, none⟩ (.string ⟨#[]⟩)).setCell ⟨w.heap.size + 1, 3, none⟩ (.slice a nl c)) := (((HB1.out.setCell (Nat.le_succ _) _).setCell (Nat.le_succ _) _).setCell (Nat.le_succ _) _).setCell (Nat.le_succ _) _
                     have HB2 := Lib.hid (hbW.trans (hb2.mono (by rw [hsz]; omega)))
                     obtain ⟨hcc2, hff2⟩ := bcell hb2
                     have hq4 := set4_at (.int .i64 4) (.int .i64 0) (.string ⟨#[]⟩) (.slice a nl c) a0 a1 a2 a3
                     have hk0 : w.heap.size < (((((w1.setCell ⟨w.heap.size + 1, 0, none⟩ (.int .i64 4)).setCell ⟨w.heap.size + 1, 1, none⟩ (.int .i64 0)).setCell ⟨w.heap.size + 1, 2, none⟩ (.string ⟨#[]⟩)).setCell ⟨w.heap.size + 1, 3, none⟩ (.slice a nl c))).heap.size := by rw [hsz]; exact hz0
                     have hk1 : w.heap.size + 1 < (((((w1.setCell ⟨w.heap.size + 1, 0, none⟩ (.int .i64 4)).setCell ⟨w.heap.size + 1, 1, none⟩ (.int .i64 0)).setCell ⟨w.heap.size + 1, 2, none⟩ (.string ⟨#[]⟩)).setCell ⟨w.heap.size + 1, 3, none⟩ (.slice a nl c))).heap.size := by rw [hsz]; exact hzz
                     have p0 : w2.cell? ⟨w.heap.size, 0, none⟩ = some (.int .i64 0) := by rw [hcc2 _ _ hk0, set4_other]; exact o0
                     have pf0 : w2.frozen? ⟨w.heap.size, 0, none⟩ = false := by rw [hff2 _ _ hk0, World.frozen?_setCell, World.frozen?_setCell, World.frozen?_setCell, World.frozen?_setCell]; exact of0
                     have q0 : w2.cell? ⟨w.heap.size + 1, 0, none⟩ = some (.int .i64 4) := by rw [hcc2 _ _ hk1]; exact hq4.1
                     have p1 : w2.cell? ⟨w.heap.size, 1, none⟩ = some (.int .i64 0) := by rw [hcc2 _ _ hk0, set4_other]; exact o1
                     have pf1 : w2.frozen? ⟨w.heap.size, 1, none⟩ = false := by rw [hff2 _ _ hk0, World.frozen?_setCell, World.frozen?_setCell, World.frozen?_setCell, World.frozen?_setCell]; exact of1
                     have q1 : w2.cell? ⟨w.heap.size + 1, 1, none⟩ = some (.int .i64 0) := by rw [hcc2 _ _ hk1]; exact hq4.2.1
                     have p2 : w2.cell? ⟨w.heap.size, 2, none⟩ = some (.string ⟨#[]⟩) := by rw [hcc2 _ _ hk0, set4_other]; exact o2
                     have pf2 : w2.frozen? ⟨w.heap.size, 2, none⟩ = false := by rw [hff2 _ _ hk0, World.frozen?_setCell, World.frozen?_setCell, World.frozen?_setCell, World.frozen?_setCell]; exact of2
                     have q2 : w2.cell? ⟨w.heap.size + 1, 2, none⟩ = some (.string ⟨#[]⟩) := by rw [hcc2 _ _ hk1]; exact hq4.2.2.1
                     have p3 : w2.cell? ⟨w.heap.size, 3, none⟩ = some (.slice none 0 0) := by rw [hcc2 _ _ hk0, set4_other]; exact o3
                     have pf3 : w2.frozen? ⟨w.heap.size, 3, none⟩ = false := by rw [hff2 _ _ hk0, World.frozen?_setCell, World.frozen?_setCell, World.frozen?_setCell, World.frozen?_setCell]; exact of3
                     have q3 : w2.cell? ⟨w.heap.size + 1, 3, none⟩ = some (.slice a nl c) := by rw [hcc2 _ _ hk1]; exact hq4.2.2.2
                     have HN3 := Lib.hid ((HN2.out.below hb2).more hb2.size)
                     clear hb2 hcc2 hff2 hk0 hk1 hsz hq4 hbW)
                  | fail)
                refine bodyPost_ret (v := .tuple #[.agg #[.int .i64 4, .int .i64 0, .string ⟨#[]⟩, .slice a nl c], .int .i64 0]) (by simp [results, go_sem, p0, p1, p2, p3]) rfl ?_
                exact ⟨by rw [HR.out]; exact ⟨a, c, by first | rfl | (rw [HTT.out]; rfl) | (rw [HNL.out]; rfl), by rw [← HNL.out]; exact ((((HN3.out.setOther HFR.out ⟨w.heap.size, 0, none⟩ (.int .i64 4) (by simp; omega)).setOther HFR.out ⟨w.heap.size, 1, none⟩ (.int .i64 0) (by simp; omega)).setOther HFR.out ⟨w.heap.size, 2, none⟩ (.string ⟨#[]⟩) (by simp; omega)).setOther HFR.out ⟨w.heap.size, 3, none⟩ (.slice a nl c) (by simp; omega)).more (by simp)⟩, ((((HB2.out.setCell (Nat.le_refl _) _).setCell (Nat.le_refl _) _).setCell (Nat.le_refl _) _).setCell (Nat.le_refl _) _)⟩
          · rw [z34] at i34
            have z91 : (s[0] == 91) = false := by rw [eq_of_beq z34]; rfl
            rw [z91] at i91
            have HQ0 : guessS s.toList = (quoteS (s.toList.drop 1)).bind fun p => if p.2 = [] then some ⟨3, 0, p.1, []⟩ else none := by
              have hc := HC.out
              rw [eq_of_beq z34] at hc
              rw [hc]
              exact guess_quote _
            have cq : ∀ W, Calls Tryz.prog 22 #[.string s, .int .i64 0] W fun e w' => Below W.heap.size W w' ∧ QuoteAns s 0 (quoteS (s.toList.drop (0 + 1))) e := fun W => refQuote_any s 0 W h0 hs
            have CQ := Lib.hid cq
            clear cq z34 z91
            cases hq : quoteS (s.toList.drop (0 + 1))
            · have HR := Lib.hid (show readV s.toList = none from readV_no (by rw [HQ0]; show (quoteS (s.toList.drop (0 + 1))).bind _ = none; rw [hq]; rfl))
              rw [hq] at CQ
              clear HQ0 hq
              go_enter Tryz.func10, Tryz.ntmps10
              go_wp2_with (first
                | (go_at_call 22; (with_reducible refine (CQ.out _).mono ?_)
                   rintro e w1 ⟨hb1, rfl⟩
                   have HB1 := Lib.hid (HB0.out.trans (hb1.mono HB0.out.size))
                   obtain ⟨hcc, hff⟩ := bcell hb1
                   have hzz : w.heap.size + 1 < w1.heap.size := by have := hb1.size; simp at this; omega
                   have hz0 : w.heap.size < w1.heap.size := by omega
                   have o0 : w1.cell? ⟨w.heap.size, 0, none⟩ = some (.int .i64 0) := by rw [hcc _ _ (by simp <;> omega)]; simp
                   have of0 : w1.frozen? ⟨w.heap.size, 0, none⟩ = false := by rw [hff _ _ (by simp <;> omega)]; simp
                   have o1 : w1.cell? ⟨w.heap.size, 1, none⟩ = some (.int .i64 0) := by rw [hcc _ _ (by simp <;> omega)]; simp
                   have of1 : w1.frozen? ⟨w.heap.size, 1, none⟩ = false := by rw [hff _ _ (by simp <;> omega)]; simp
                   have o2 : w1.cell? ⟨w.heap.size, 2, none⟩ = some (.string ⟨#[]⟩) := by rw [hcc _ _ (by simp <;> omega)]; simp
                   have of2 : w1.frozen? ⟨w.heap.size, 2, none⟩ = false := by rw [hff _ _ (by simp <;> omega)]; simp
                   have o3 : w1.cell? ⟨w.heap.size, 3, none⟩ = some (.slice none 0 0) := by rw [hcc _ _ (by simp <;> omega)]; simp
                   have of3 : w1.frozen? ⟨w.heap.size, 3, none⟩ = false := by rw [hff _ _ (by simp <;> omega)]; simp
                   have a0 : w1.cell? ⟨w.heap.size + 1, 0, none⟩ = some (.int .i64 0) := by rw [hcc _ _ (by simp <;> omega)]; simp
                   have af0 : w1.frozen? ⟨w.heap.size + 1, 0, none⟩ = false := by rw [hff _ _ (by simp <;> omega)]; simp
                   have a1 : w1.cell? ⟨w.heap.size + 1, 1, none⟩ = some (.int .i64 0) := by rw [hcc _ _ (by simp <;> omega)]; simp
                   have af1 : w1.frozen? ⟨w.heap.size + 1, 1, none⟩ = false := by rw [hff _ _ (by simp <;> omega)]; simp
                   have a2 : w1.cell? ⟨w.heap.size + 1, 2, none⟩ = some (.string ⟨#[]⟩) := by rw [hcc _ _ (by simp <;> omega)]; simp
                   have af2 : w1.frozen? ⟨w.heap.size + 1, 2, none⟩ = false := by rw [hff _ _ (by simp <;> omega)]; simp
                   have a3 : w1.cell? ⟨w.heap.size + 1, 3, none⟩ = some (.slice none 0 0) := by rw [hcc _ _ (by simp <;> omega)]; simp
                   have af3 : w1.frozen? ⟨w.heap.size + 1, 3, none⟩ = false := by rw [hff _ _ (by simp <;> omega)]; simp
                   clear hb1 hcc hff)
                | fail)
              have p0 := o0
              have p1 := o1
              have p2 := o2
              have p3 := o3
              have HB2 := HB1
              refine bodyPost_ret (v := .tuple #[.agg #[.int .i64 0, .int .i64 0, .string ⟨#[]⟩, .slice none 0 0], .int .i64 300]) (by simp [results, go_sem, p0, p1, p2, p3]) rfl ?_
              exact ⟨by rw [HR.out]; rfl, ((((HB2.out.setCell (Nat.le_refl _) _).setCell (Nat.le_refl _) _).setCell (Nat.le_refl _) _).setCell (Nat.le_refl _) _)⟩
            · rename_i q
              obtain ⟨t, rest⟩ := q
              rw [hq] at CQ
              cases rest with
              | cons d rest =>
                have HR := Lib.hid (show readV s.toList = none from readV_no (by rw [HQ0]; show (quoteS (s.toList.drop (0 + 1))).bind _ = none; rw [hq]; rfl))
                clear HQ0 hq
                go_enter Tryz.func10, Tryz.ntmps10
                go_wp2_with (first
                  | (go_at_call 22; (with_reducible refine (CQ.out _).mono ?_)
                     rintro e w1 ⟨hb1, r, rfl, hr0, hr1, hr2⟩
                     dsimp only at hr2 ⊢
                     have er : (((r : Nat) : Int) == ((s.size : Nat) : Int)) = false := by
                       rw [beq_eq_false_iff_ne]
                       intro h
                       have h' : r = s.size := by omega
                       rw [lxEnd s r (by omega)] at hr2
                       cases hr2
                     clear hr0 hr1 hr2
                     have HB1 := Lib.hid (HB0.out.trans (hb1.mono HB0.out.size))
                     obtain ⟨hcc, hff⟩ := bcell hb1
                     have hzz : w.heap.size + 1 < w1.heap.size := by have := hb1.size; simp at this; omega
                     have hz0 : w.heap.size < w1.heap.size := by omega
                     have o0 : w1.cell? ⟨w.heap.size, 0, none⟩ = some (.int .i64 0) := by rw [hcc _ _ (by simp <;> omega)]; simp
                     have of0 : w1.frozen? ⟨w.heap.size, 0, none⟩ = false := by rw [hff _ _ (by simp <;> omega)]; simp
                     have o1 : w1.cell? ⟨w.heap.size, 1, none⟩ = some (.int .i64 0) := by rw [hcc _ _ (by simp <;> omega)]; simp
                     have of1 : w1.frozen? ⟨w.heap.size, 1, none⟩ = false := by rw [hff _ _ (by simp <;> omega)]; simp
                     have o2 : w1.cell? ⟨w.heap.size, 2, none⟩ = some (.string ⟨#[]⟩) := by rw [hcc _ _ (by simp <;> omega)]; simp
                     have of2 : w1.frozen? ⟨w.heap.size, 2, none⟩ = false := by rw [hff _ _ (by simp <;> omega)]; simp
                     have o3 : w1.cell? ⟨w.heap.size, 3, none⟩ = some (.slice none 0 0) := by rw [hcc _ _ (by simp <;> omega)]; simp
                     have of3 : w1.frozen? ⟨w.heap.size, 3, none⟩ = false := by rw [hff _ _ (by simp <;> omega)]; simp
                     have a0 : w1.cell? ⟨w.heap.size + 1, 0, none⟩ = some (.int .i64 0) := by rw [hcc _ _ (by simp <;> omega)]; simp
                     have af0 : w1.frozen? ⟨w.heap.size + 1, 0, none⟩ = false := by rw [hff _ _ (by simp <;> omega)]; simp
                     have a1 : w1.cell? ⟨w.heap.size + 1, 1, none⟩ = some (.int .i64 0) := by rw [hcc _ _ (by simp <;> omega)]; simp
                     have af1 : w1.frozen? ⟨w.heap.size + 1, 1, none⟩ = false := by rw [hff _ _ (by simp <;> omega)]; simp
                     have a2 : w1.cell? ⟨w.heap.size + 1, 2, none⟩ = some (.string ⟨#[]⟩) := by rw [hcc _ _ (by simp <;> omega)]; simp
                     have af2 : w1.frozen? ⟨w.heap.size + 1, 2, none⟩ = false := by rw [hff _ _ (by simp <;> omega)]; simp
                     have a3 : w1.cell? ⟨w.heap.size + 1, 3, none⟩ = some (.slice none 0 0) := by rw [hcc _ _ (by simp <;> omega)]; simp
                     have af3 : w1.frozen? ⟨w.heap.size + 1, 3, none⟩ = false := by rw [hff _ _ (by simp <;> omega)]; simp
                     clear hb1 hcc hff)
                  | fail)
                have p0 := o0
                have p1 := o1
                have p2 := o2
                have p3 := o3
                have HB2 := HB1
                refine bodyPost_ret (v := .tuple #[.agg #[.int .i64 0, .int .i64 0, .string ⟨#[]⟩, .slice none 0 0], .int .i64 300]) (by simp [results, go_sem, p0, p1, p2, p3]) rfl ?_
                exact ⟨by rw [HR.out]; rfl, ((((HB2.out.setCell (Nat.le_refl _) _).setCell (Nat.le_refl _) _).setCell (Nat.le_refl _) _).setCell (Nat.le_refl _) _)⟩
              | nil =>
                have HG : guessS s.toList = some ⟨3, 0, t, []⟩ := by rw [HQ0]; show (quoteS (s.toList.drop (0 + 1))).bind _ = _; rw [hq]; rfl
                obtain ⟨T, hT⟩ : ∃ T, T = lxS t := ⟨_, rfl⟩
                have C0 := fun W => CS.out 3 0 T in_zero (by decide) W
                rw [show T.toList = t by rw [hT, lxS_toList]] at C0
                have hrd := readV_ref HG
                obtain ⟨S, hS⟩ : ∃ S, S = lxS (showV ⟨3, 0, t, []⟩) := ⟨_, rfl⟩
                have hSl : S.toList = showV ⟨3, 0, t, []⟩ := by rw [hS, lxS_toList]
                rw [← hSl] at hrd
                rw [← hS] at C0
                have C1 := Lib.hid C0
                have HTT := Lib.hid hT
                clear C0 HQ0 hq hT
                cases es : (S.toList == s.toList)
                · have HR := Lib.hid (show readV s.toList = none by rw [hrd, es]; rfl)
                  clear hrd hSl hS HG
                  go_enter Tryz.func10, Tryz.ntmps10
                  go_wp2_with (first
                    | (go_at_call 22; (with_reducible refine (CQ.out _).mono ?_)
                       rintro e w1 ⟨hb1, r, rfl, hr0, hr1, hr2⟩
                       dsimp only at hr2 ⊢
                       rw [← HTT.out]
                       have er : (((r : Nat) : Int) == ((s.size : Nat) : Int)) = true := by
                         rw [beq_iff_eq]
                         have h := congrArg List.length hr2
                         rw [List.length_drop, lxLen] at h
                         simp only [List.length_nil] at h
                         omega
                       clear hr0 hr1 hr2
                       have HB1 := Lib.hid (HB0.out.trans (hb1.mono HB0.out.size))
                       obtain ⟨hcc, hff⟩ := bcell hb1
                       have hzz : w.heap.size + 1 < w1.heap.size := by have := hb1.size; simp at this; omega
                       have hz0 : w.heap.size < w1.heap.size := by omega
                       have o0 : w1.cell? ⟨w.heap.size, 0, none⟩ = some (.int .i64 0) := by rw [hcc _ _ (by simp <;> omega)]; simp
                       have of0 : w1.frozen? ⟨w.heap.size, 0, none⟩ = false := by rw [hff _ _ (by simp <;> omega)]; simp
                       have o1 : w1.cell? ⟨w.heap.size, 1, none⟩ = some (.int .i64 0) := by rw [hcc _ _ (by simp <;> omega)]; simp
                       have of1 : w1.frozen? ⟨w.heap.size, 1, none⟩ = false := by rw [hff _ _ (by simp <;> omega)]; simp
                       have o2 : w1.cell? ⟨w.heap.size, 2, none⟩ = some (.string ⟨#[]⟩) := by rw [hcc _ _ (by simp <;> omega)]; simp
                       have of2 : w1.frozen? ⟨w.heap.size, 2, none⟩ = false := by rw [hff _ _ (by simp <;> omega)]; simp
                       have o3 : w1.cell? ⟨w.heap.size, 3, none⟩ = some (.slice none 0 0) := by rw [hcc _ _ (by simp <;> omega)]; simp
                       have of3 : w1.frozen? ⟨w.heap.size, 3, none⟩ = false := by rw [hff _ _ (by simp <;> omega)]; simp
                       have a0 : w1.cell? ⟨w.heap.size + 1, 0, none⟩ = some (.int .i64 0) := by rw [hcc _ _ (by simp <;> omega)]; simp
                       have af0 : w1.frozen? ⟨w.heap.size + 1, 0, none⟩ = false := by rw [hff _ _ (by simp <;> omega)]; simp
                       have a1 : w1.cell? ⟨w.heap.size + 1, 1, none⟩ = some (.int .i64 0) := by rw [hcc _ _ (by simp <;> omega)]; simp
                       have af1 : w1.frozen? ⟨w.heap.size + 1, 1, none⟩ = false := by rw [hff _ _ (by simp <;> omega)]; simp
                       have a2 : w1.cell? ⟨w.heap.size + 1, 2, none⟩ = some (.string ⟨#[]⟩) := by rw [hcc _ _ (by simp <;> omega)]; simp
                       have af2 : w1.frozen? ⟨w.heap.size + 1, 2, none⟩ = false := by rw [hff _ _ (by simp <;> omega)]; simp
                       have a3 : w1.cell? ⟨w.heap.size + 1, 3, none⟩ = some (.slice none 0 0) := by rw [hcc _ _ (by simp <;> omega)]; simp
                       have af3 : w1.frozen? ⟨w.heap.size + 1, 3, none⟩ = false := by rw [hff _ _ (by simp <;> omega)]; simp
                       clear hb1 hcc hff)
                    | (go_at_call 18; (with_reducible refine (C1.out _).mono ?_)
                       rintro e w2 ⟨rfl, hb2⟩
                       have hsz : (((((w1.setCell ⟨w.heap.size + 1, 0, none⟩ (.int .i64 3)).setCell ⟨w.heap.size + 1, 1, none⟩ (.int .i64 0)).setCell ⟨w.heap.size + 1, 2, none⟩ (.string T)).setCell ⟨w.heap.size + 1, 3, none⟩ (.slice none 0 0))).heap.size = w1.heap.size := set4_size _ _ _ _ _ _
                       have hbW : Below w.heap.size w ((((w1.setCell ⟨w.heap.size + 1, 0, none⟩ (.int .i64 3)).setCell ⟨w.heap.size + 1, 1, none⟩ (.int .i64 0)).setCell ⟨w.heap.size + 1, 2, none⟩ (.string T)).setCell ⟨w.heap.size + 1, 3, none⟩ (.slice none 0 0)) := (((HB1.out.setCell (Nat.le_succ _) _).setCell (Nat.le_succ _) _).setCell (Nat.le_succ _) _).setCell (Nat.le_succ _) _
                       have HB2 := Lib.hid (hbW.trans (hb2.mono (by rw [hsz]; omega)))
                       obtain ⟨hcc2, hff2⟩ := bcell hb2
                       have hq4 := set4_at (.int .i64 3) (.int .i64 0) (.string T) (.slice none 0 0) a0 a1 a2 a3
                       have hk0 : w.heap.size < (((((w1.setCell ⟨w.heap.size + 1, 0, none⟩ (.int .i64 3)).setCell ⟨w.heap.size + 1, 1, none⟩ (.int .i64 0)).setCell ⟨w.heap.size + 1, 2, none⟩ (.string T)).setCell ⟨w.heap.size + 1, 3, none⟩ (.slice none 0 0))).heap.size := by rw [hsz]; exact hz0
                       have hk1 : w.heap.size + 1 < (((((w1.setCell ⟨w.heap.size + 1, 0, none⟩ (.int .i64 3)).setCell ⟨w.heap.size + 1, 1, none⟩ (.int .i64 0)).setCell ⟨w.heap.size + 1, 2, none⟩ (.string T)).setCell ⟨w.heap.size + 1, 3, none⟩ (.slice none 0 0))).heap.size := by rw [hsz]; exact hzz
                       have p0 : w2.cell? ⟨w.heap.size, 0, none⟩ = some (.int .i64 0) := by rw [hcc2 _ _ hk0, set4_other]; exact o0
                       have pf0 : w2.frozen? ⟨w.heap.size, 0, none⟩ = false := by rw [hff2 _ _ hk0, World.frozen?_setCell, World.frozen?_setCell, World.frozen?_setCell, World.frozen?_setCell]; exact of0
                       have q0 : w2.cell? ⟨w.heap.size + 1, 0, none⟩ = some (.int .i64 3) := by rw [hcc2 _ _ hk1]; exact hq4.1
                       have p1 : w2.cell? ⟨w.heap.size, 1, none⟩ = some (.int .i64 0) := by rw [hcc2 _ _ hk0, set4_other]; exact o1
                       have pf1 : w2.frozen? ⟨w.heap.size, 1, none⟩ = false := by rw [hff2 _ _ hk0, World.frozen?_setCell, World.frozen?_setCell, World.frozen?_setCell, World.frozen?_setCell]; exact of1
                       have q1 : w2.cell? ⟨w.heap.size + 1, 1, none⟩ = some (.int .i64 0) := by rw [hcc2 _ _ hk1]; exact hq4.2.1
                       have p2 : w2.cell? ⟨w.heap.size, 2, none⟩ = some (.string ⟨#[]⟩) := by rw [hcc2 _ _ hk0, set4_other]; exact o2
                       have pf2 : w2.frozen? ⟨w.heap.size, 2, none⟩ = false := by rw [hff2 _ _ hk0, World.frozen?_setCell, World.frozen?_setCell, World.frozen?_setCell, World.frozen?_setCell]; exact of2
                       have q2 : w2.cell? ⟨w.heap.size + 1, 2, none⟩ = some (.string T) := by rw [hcc2 _ _ hk1]; exact hq4.2.2.1
                       have p3 : w2.cell? ⟨w.heap.size, 3, none⟩ = some (.slice none 0 0) := by rw [hcc2 _ _ hk0, set4_other]; exact o3
                       have pf3 : w2.frozen? ⟨w.heap.size, 3, none⟩ = false := by rw [hff2 _ _ hk0, World.frozen?_setCell, World.frozen?_setCell, World.frozen?_setCell, World.frozen?_setCell]; exact of3
                       have q3 : w2.cell? ⟨w.heap.size + 1, 3, none⟩ = some (.slice none 0 0) := by rw [hcc2 _ _ hk1]; exact hq4.2.2.2
                       clear hb2 hcc2 hff2 hk0 hk1 hsz hq4 hbW)
                    | fail)
                  refine bodyPost_ret (v := .tuple #[.agg #[.int .i64 0, .int .i64 0, .string ⟨#[]⟩, .slice none 0 0], .int .i64 300]) (by simp [results, go_sem, p0, p1, p2, p3]) rfl ?_
                  exact ⟨by rw [HR.out]; rfl, ((((HB2.out.setCell (Nat.le_refl _) _).setCell (Nat.le_refl _) _).setCell (Nat.le_refl _) _).setCell (Nat.le_refl _) _)⟩
                · have HR := Lib.hid (show readV s.toList = some ⟨3, 0, t, []⟩ by rw [hrd, es]; rfl)
                  clear hrd hSl hS HG
                  go_enter Tryz.func10, Tryz.ntmps10
                  go_wp2_with (first
                    | (go_at_call 22; (with_reducible refine (CQ.out _).mono ?_)
                       rintro e w1 ⟨hb1, r, rfl, hr0, hr1, hr2⟩
                       dsimp only at hr2 ⊢
                       rw [← HTT.out]
                       have er : (((r : Nat) : Int) == ((s.size : Nat) : Int)) = true := by
                         rw [beq_iff_eq]
                         have h := congrArg List.length hr2
                         rw [List.length_drop, lxLen] at h
                         simp only [List.length_nil] at h
                         omega
                       clear hr0 hr1 hr2
                       have HB1 := Lib.hid (HB0.out.trans (hb1.mono HB0.out.size))
                       obtain ⟨hcc, hff⟩ := bcell hb1
                       have hzz : w.heap.size + 1 < w1.heap.size := by have := hb1.size; simp at this; omega
                       have hz0 : w.heap.size < w1.heap.size := by omega
                       have o0 : w1.cell? ⟨w.heap.size, 0, none⟩ = some (.int .i64 0) := by rw [hcc _ _ (by simp <;> omega)]; simp
                       have of0 : w1.frozen? ⟨w.heap.size, 0, none⟩ = false := by rw [hff _ _ (by simp <;> omega)]; simp
                       have o1 : w1.cell? ⟨w.heap.size, 1, none⟩ = some (.int .i64 0) := by rw [hcc _ _ (by simp <;> omega)]; simp
                       have of1 : w1.frozen? ⟨w.heap.size, 1, none⟩ = false := by rw [hff _ _ (by simp <;> omega)]; simp
                       have o2 : w1.cell? ⟨w.heap.size, 2, none⟩ = some (.string ⟨#[]⟩) := by rw [hcc _ _ (by simp <;> omega)]; simp
                       have of2 : w1.frozen? ⟨w.heap.size, 2, none⟩ = false := by rw [hff _ _ (by simp <;> omega)]; simp
                       have o3 : w1.cell? ⟨w.heap.size, 3, none⟩ = some (.slice none 0 0) := by rw [hcc _ _ (by simp <;> omega)]; simp
                       have of3 : w1.frozen? ⟨w.heap.size, 3, none⟩ = false := by rw [hff _ _ (by simp <;> omega)]; simp
                       have a0 : w1.cell? ⟨w.heap.size + 1, 0, none⟩ = some (.int .i64 0) := by rw [hcc _ _ (by simp <;> omega)]; simp
                       have af0 : w1.frozen? ⟨w.heap.size + 1, 0, none⟩ = false := by rw [hff _ _ (by simp <;> omega)]; simp
                       have a1 : w1.cell? ⟨w.heap.size + 1, 1, none⟩ = some (.int .i64 0) := by rw [hcc _ _ (by simp <;> omega)]; simp
                       have af1 : w1.frozen? ⟨w.heap.size + 1, 1, none⟩ = false := by rw [hff _ _ (by simp <;> omega)]; simp
                       have a2 : w1.cell? ⟨w.heap.size + 1, 2, none⟩ = some (.string ⟨#[]⟩) := by rw [hcc _ _ (by simp <;> omega)]; simp
                       have af2 : w1.frozen? ⟨w.heap.size + 1, 2, none⟩ = false := by rw [hff _ _ (by simp <;> omega)]; simp
                       have a3 : w1.cell? ⟨w.heap.size + 1, 3, none⟩ = some (.slice none 0 0) := by rw [hcc _ _ (by simp <;> omega)]; simp
                       have af3 : w1.frozen? ⟨w.heap.size + 1, 3, none⟩ = false := by rw [hff _ _ (by simp <;> omega)]; simp
                       clear hb1 hcc hff)
                    | (go_at_call 18; (with_reducible refine (C1.out _).mono ?_)
                       rintro e w2 ⟨rfl, hb2⟩
                       have hsz : (((((w1.setCell ⟨w.heap.size + 1, 0, none⟩ (.int .i64 3)).setCell ⟨w.heap.size + 1, 1, none⟩ (.int .i64 0)).setCell ⟨w.heap.size + 1, 2, none⟩ (.string T)).setCell ⟨w.heap.size + 1, 3, none⟩ (.slice none 0 0))).heap.size = w1.heap.size := set4_size _ _ _ _ _ _
                       have hbW : Below w.heap.size w ((((w1.setCell ⟨w.heap.size + 1, 0, none⟩ (.int .i64 3)).setCell ⟨w.heap.size + 1, 1, none⟩ (.int .i64 0)).setCell ⟨w.heap.size + 1, 2, none⟩ (.string T)).setCell ⟨w.heap.size + 1, 3, none⟩ (.slice none 0 0)) := (((HB1.out.setCell (Nat.le_succ _) _).setCell (Nat.le_succ _) _).setCell (Nat.le_succ _) _).setCell (Nat.le_succ _) _
                       have HB2 := Lib.hid (hbW.trans (hb2.mono (by rw [hsz]; omega)))
                       obtain ⟨hcc2, hff2⟩ := bcell hb2
                       have hq4 := set4_at (.int .i64 3) (.int .i64 0) (.string T) (.slice none 0 0) a0 a1 a2 a3
                       have hk0 : w.heap.size < (((((w1.setCell ⟨w.heap.size + 1, 0, none⟩ (.int .i64 3)).setCell ⟨w.heap.size + 1, 1, none⟩ (.int .i64 0)).setCell ⟨w.heap.size + 1, 2, none⟩ (.string T)).setCell ⟨w.heap.size + 1, 3, none⟩ (.slice none 0 0))).heap.size := by rw [hsz]; exact hz0
                       have hk1 : w.heap.size + 1 < (((((w1.setCell ⟨w.heap.size + 1, 0, none⟩ (.int .i64 3)).setCell ⟨w.heap.size + 1, 1, none⟩ (.int .i64 0)).setCell ⟨w.heap.size + 1, 2, none⟩ (.string T)).setCell ⟨w.heap.size + 1, 3, none⟩ (.slice none 0 0))).heap.size := by rw [hsz]; exact hzz
                       have p0 : w2.cell? ⟨w.heap.size, 0, none⟩ = some (.int .i64 0) := by rw [hcc2 _ _ hk0, set4_other]; exact o0
                       have pf0 : w2.frozen? ⟨w.heap.size, 0, none⟩ = false := by rw [hff2 _ _ hk0, World.frozen?_setCell, World.frozen?_setCell, World.frozen?_setCell, World.frozen?_setCell]; exact of0
                       have q0 : w2.cell? ⟨w.heap.size + 1, 0, none⟩ = some (.int .i64 3) := by rw [hcc2 _ _ hk1]; exact hq4.1
                       have p1 : w2.cell? ⟨w.heap.size, 1, none⟩ = some (.int .i64 0) := by rw [hcc2 _ _ hk0, set4_other]; exact o1
                       have pf1 : w2.frozen? ⟨w.heap.size, 1, none⟩ = false := by rw [hff2 _ _ hk0, World.frozen?_setCell, World.frozen?_setCell, World.frozen?_setCell, World.frozen?_setCell]; exact of1
                       have q1 : w2.cell? ⟨w.heap.size + 1, 1, none⟩ = some (.int .i64 0) := by rw [hcc2 _ _ hk1]; exact hq4.2.1
                       have p2 : w2.cell? ⟨w.heap.size, 2, none⟩ = some (.string ⟨#[]⟩) := by rw [hcc2 _ _ hk0, set4_other]; exact o2
                       have pf2 : w2.frozen? ⟨w.heap.size, 2, none⟩ = false := by rw [hff2 _ _ hk0, World.frozen?_setCell, World.frozen?_setCell, World.frozen?_setCell, World.frozen?_setCell]; exact of2
                       have q2 : w2.cell? ⟨w.heap.size + 1, 2, none⟩ = some (.string T) := by rw [hcc2 _ _ hk1]; exact hq4.2.2.1
                       have p3 : w2.cell? ⟨w.heap.size, 3, none⟩ = some (.slice none 0 0) := by rw [hcc2 _ _ hk0, set4_other]; exact o3
                       have pf3 : w2.frozen? ⟨w.heap.size, 3, none⟩ = false := by rw [hff2 _ _ hk0, World.frozen?_setCell, World.frozen?_setCell, World.frozen?_setCell, World.frozen?_setCell]; exact of3
                       have q3 : w2.cell? ⟨w.heap.size + 1, 3, none⟩ = some (.slice none 0 0) := by rw [hcc2 _ _ hk1]; exact hq4.2.2.2
                       clear hb2 hcc2 hff2 hk0 hk1 hsz hq4 hbW)
                    | fail)
                  refine bodyPost_ret (v := .tuple #[.agg #[.int .i64 3, .int .i64 0, .string T, .slice none 0 0], .int .i64 0]) (by simp [results, go_sem, p0, p1, p2, p3]) rfl ?_
                  exact ⟨by rw [HR.out]; exact ⟨none, 0, by first | rfl | (rw [HTT.out]; rfl) | (rw [HNL.out]; rfl), Nums.zero _ _ _⟩, ((((HB2.out.setCell (Nat.le_refl _) _).setCell (Nat.le_refl _) _).setCell (Nat.le_refl _) _).setCell (Nat.le_refl _) _)⟩
end Go.Proofs.YtnanfmmafmcchaaGreatDoor
