/- Contract of the laws' first: the chapter's examples come out as it says. -/
import Derived.Test.YtnanfmmafmcchaaGreatDoorDtReadO
namespace Go.Proofs.YtnanfmmafmcchaaGreatDoor
open Go.RowKit

theorem show12 : showV ⟨4, 0, [], [1, -2]⟩ = [91, 49, 32, 45, 50, 93] := by
  have h1 : Lib.itoa 1 = [49] := by
    show Lib.decDigits 1 = [49]
    rw [Lib.decDigits_one (by decide)]
    rfl
  have h2 : Lib.itoa (-2) = [45, 50] := by
    show 45 :: Lib.decDigits 2 = [45, 50]
    rw [Lib.decDigits_one (by decide)]
    rfl
  show showN [1, -2] = _
  unfold showN
  rw [List.map_cons, List.map_cons, List.map_nil, h1, h2]
  rfl
theorem in0 : inI64 0 := by unfold inI64; omega
theorem read0 : readV [91, 93] = some ⟨4, 0, [], []⟩ := readV_of ⟨rfl, by decide, rfl, in0, fun n h => by cases h⟩

set_option maxHeartbeats 4000000 in
set_option maxRecDepth 20000 in
theorem dataFirst_any (w : World) (hm : Met w) : Calls Tryz.prog 8 #[] w fun e w' => e = .returned (.bool true) ∧ Below w.heap.size w w' := by
  have HM := Lib.hid hm
  have cr : Calls Tryz.prog 9 #[.string ⟨#[91, 93]⟩] w fun e w' => ∃ a c, e = .returned (.tuple #[.agg #[.int .i64 4, .int .i64 0, .string ⟨#[]⟩, .slice a 0 c], .int .i64 0]) ∧ Below w.heap.size w w' := by
    refine (read_any ⟨#[91, 93]⟩ w (by show 2 ≤ 1100000; omega) hm).mono ?_
    rintro e w' ⟨ha, hb⟩
    rw [lit_is [91, 93] ⟨#[91, 93]⟩ rfl, read0] at ha
    obtain ⟨a, c, he, _⟩ := ha
    exact ⟨a, c, he, hb⟩
  have cs : ∀ (b : Nat) (W0 : World), W0.heap.size = b → Met W0 → Calls Tryz.prog 17 #[.agg #[.int .i64 4, .int .i64 0, .string ⟨#[]⟩, .slice (some ⟨b, 0, none⟩) 2 2]] (W0.alloc (.cells #[.int .i64 1, .int .i64 (-2)] 2))
      fun e w' => e = .returned (.string ⟨#[91, 49, 32, 45, 50, 93]⟩) ∧ Below (W0.heap.size + 1) (W0.alloc (.cells #[.int .i64 1, .int .i64 (-2)] 2)) w' := fun b W0 hb hm0 => by
    subst hb
    have h := show_any 4 0 ⟨#[]⟩ (some ⟨W0.heap.size, 0, none⟩) 2 2 [1, -2] (W0.alloc (.cells #[.int .i64 1, .int .i64 (-2)] 2)) (W0.heap.size + 1) (by simp) (Nums.made W0 _ [1, -2] 2 rfl rfl (by omega)) in0
      (fun y hy => by simp only [List.mem_cons, List.not_mem_nil, or_false] at hy; unfold inI64; omega) (fun _ h => by cases h) (hm0.alloc _).pow
    rw [lit_is [] ⟨#[]⟩ rfl, show12] at h
    refine h.mono ?_
    rintro e w' ⟨he, hb⟩
    exact ⟨he, by simpa using hb⟩
  have cm : ∀ (a : Option Addr) (c : Nat) (W : World), Calls Tryz.prog 11 #[.agg #[.int .i64 4, .int .i64 0, .string ⟨#[]⟩, .slice a 0 c]] W fun e w' => e = .returned (.bool true) ∧ Below W.heap.size W w' := fun a c W => by
    have h := may_any 4 0 ⟨#[]⟩ a 0 c [] W W.heap.size (Nat.le_refl _) (Nums.zero _ _ _)
    rw [lit_is [] ⟨#[]⟩ rfl] at h
    exact h
  have cm9 : ∀ (W : World), Calls Tryz.prog 11 #[.agg #[.int .i64 9, .int .i64 0, .string ⟨#[]⟩, .slice none 0 0]] W fun e w' => e = .returned (.bool false) ∧ Below W.heap.size W w' := fun W => by
    have h := may_any 9 0 ⟨#[]⟩ none 0 0 [] W W.heap.size (Nat.le_refl _) (Nums.zero _ _ _)
    rw [lit_is [] ⟨#[]⟩ rfl] at h
    exact h
  have CR := Lib.hid cr
  have CS := Lib.hid cs
  have CM := Lib.hid cm
  have CM9 := Lib.hid cm9
  clear hm cr cs cm cm9
  go_enter Tryz.func8, Tryz.ntmps8
  go_wp2_with (first
    | (go_at_call 9; (with_reducible refine CR.out.mono ?_)
       rintro e w1 ⟨a, c, rfl, hb1⟩
       have HB1 := Lib.hid hb1
       have HB2 := Lib.hid (hb1.alloc hb1.size (.cells #[.int .i64 4, .int .i64 0, .string ⟨#[]⟩, .slice a 0 c] 24))
       have S1 := Lib.hid (CS.out (w1.heap.size + 1) (w1.alloc (.cells #[.int .i64 4, .int .i64 0, .string ⟨#[]⟩, .slice a 0 c] 24)) (by simp) (HM.out.keep HB2.out))
       have HB3 := Lib.hid (HB2.out.alloc HB2.out.size (.cells #[.int .i64 1, .int .i64 (-2)] 2))
       clear hb1)
    | (go_at_call 17; (with_reducible refine S1.out.mono ?_)
       rintro e w2 ⟨rfl, hb2⟩
       have HB4 := Lib.hid (HB3.out.trans (hb2.mono (by have := HB2.out.size; omega)))
       have q0 : w2.cell? ⟨w1.heap.size, 0, none⟩ = some (.int .i64 4) := by rw [hb2.cell (p := ⟨w1.heap.size, 0, none⟩) (by simp; omega), two_alloc _ _ _ _ _ _ rfl]; rfl
       have q1 : w2.cell? ⟨w1.heap.size, 1, none⟩ = some (.int .i64 0) := by rw [hb2.cell (p := ⟨w1.heap.size, 1, none⟩) (by simp; omega), two_alloc _ _ _ _ _ _ rfl]; rfl
       have q2 : w2.cell? ⟨w1.heap.size, 2, none⟩ = some (.string ⟨#[]⟩) := by rw [hb2.cell (p := ⟨w1.heap.size, 2, none⟩) (by simp; omega), two_alloc _ _ _ _ _ _ rfl]; rfl
       have q3 : w2.cell? ⟨w1.heap.size, 3, none⟩ = some (.slice a 0 c) := by rw [hb2.cell (p := ⟨w1.heap.size, 3, none⟩) (by simp; omega), two_alloc _ _ _ _ _ _ rfl]; rfl
       clear hb2)
    | (go_at_call 11; (with_reducible refine (CM.out _ _ _).mono ?_); rintro e w3 ⟨rfl, hb3⟩
       have HB5 := Lib.hid (HB4.out.trans (hb3.mono HB4.out.size))
       clear hb3)
    | (go_at_call 11; (with_reducible refine (CM9.out _).mono ?_); rintro e w4 ⟨rfl, hb4⟩
       have HB6 := Lib.hid (HB5.out.trans (hb4.mono HB5.out.size))
       clear hb4)
    | fail)
  go_ret
  exact ⟨rfl, HB6.out⟩
end Go.Proofs.YtnanfmmafmcchaaGreatDoor
