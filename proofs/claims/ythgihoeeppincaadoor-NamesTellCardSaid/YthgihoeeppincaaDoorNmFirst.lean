/- Contract of first: the chapter's examples come out as it says. -/
import Derived.Test.YthgihoeeppincaaDoorNmPutPlain
import Derived.Test.YthgihoeeppincaaDoorNmFresh
import Derived.Test.YthgihoeeppincaaDoorNmMay
namespace Go.Proofs.YthgihoeeppincaaDoor
open Go.RowKit Go.Sort

/-- A slice of some strings, as a call makes it of its elements. -/
theorem strs_new (w : World) (cs : Array Value) (ss : List Str) (n : Nat) (hc : cs = (ss.map encStr).toArray) (hn : ss.length = n) (hl : n ≤ 1000) (hm : ∀ s ∈ ss, s.length ≤ 1000) :
    Strs (w.alloc (.cells cs 9)) (w.alloc (.cells cs 9)).heap.size (some ⟨w.heap.size, 0, none⟩) n ss :=
  ⟨hn, by omega, fun s hs => Nat.le_trans (hm s hs) (by unfold maxLen; omega), fun _ => ⟨w.heap.size, 0, rfl, by simp, fun j s hj => by
    rw [cell_of_row _ _ _ _ _ _ (heap_alloc_new w _), hc, Nat.zero_add]
    simp [hj]⟩⟩
theorem bel_drewN {B : Nat} {a w : World} (h : Below B a w) (n : Nat) : Below B a (w.drewN n) := ⟨h.os, h.tape, h.output, h.size, h.block⟩
theorem strs_at (w : World) (b : Nat) (hb : w.heap.size = b) (cs : Array Value) (ss : List Str) (n : Nat) (hc : cs = (ss.map encStr).toArray) (hn : ss.length = n) (hl : n ≤ 1000) (hm : ∀ s ∈ ss, s.length ≤ 1000) :
    Strs (w.alloc (.cells cs 9)) (w.alloc (.cells cs 9)).heap.size (some ⟨b, 0, none⟩) n ss := by
  subst hb; exact strs_new w cs ss n hc hn hl hm
theorem lit_list (l : Str) (x : ByteArray) (h : x = baS l) : x.toList = l := by rw [h, baS_toList]
theorem dec_one (k : Nat) (h : k < 10) : Lib.decDigits k = [UInt8.ofNat (48 + k)] := by unfold Lib.decDigits; rw [dif_pos h]

theorem may1 (w : World) : Calls Tryd.prog 15 #[.string ⟨#[115, 101, 108, 108, 101, 114, 50]⟩] w fun e w' => e = .returned (.bool true) ∧ w = w' := by
  have h := may_any ⟨#[115, 101, 108, 108, 101, 114, 50]⟩ w (by simp [maxLen, ByteArray.size])
  rwa [lit_list [115, 101, 108, 108, 101, 114, 50] ⟨#[115, 101, 108, 108, 101, 114, 50]⟩ rfl, show may [115, 101, 108, 108, 101, 114, 50] = true by decide] at h
theorem may2 (w : World) : Calls Tryd.prog 15 #[.string ⟨#[115, 97, 121]⟩] w fun e w' => e = .returned (.bool false) ∧ w = w' := by
  have h := may_any ⟨#[115, 97, 121]⟩ w (by simp [maxLen, ByteArray.size])
  rwa [lit_list [115, 97, 121] ⟨#[115, 97, 121]⟩ rfl, show may [115, 97, 121] = false by decide] at h
theorem may3 (w : World) : Calls Tryd.prog 15 #[.string ⟨#[]⟩] w fun e w' => e = .returned (.bool false) ∧ w = w' := by
  have h := may_any ⟨#[]⟩ w (by simp [maxLen, ByteArray.size])
  rwa [lit_list [] ⟨#[]⟩ rfl, show may [] = false by decide] at h
theorem kw1 (w : World) : Calls Tryd.prog 13 #[.string ⟨#[115, 97, 121]⟩] w fun e w' => e = .returned (.bool true) ∧ w = w' := by
  have h := keyword_any ⟨#[115, 97, 121]⟩ w
  rwa [lit_list [115, 97, 121] ⟨#[115, 97, 121]⟩ rfl, show isKw [115, 97, 121] = true by decide] at h
theorem fresh1 (a : Option Addr) (c : Nat) (w : World) (h : Strs w w.heap.size a 2 [[120], [120, 50]]) :
    Calls Tryd.prog 11 #[.slice a 2 c, .string ⟨#[120]⟩] w fun e w' => e = .returned (.string ⟨#[120, 51]⟩) ∧ Below w.heap.size w w' := by
  have h := fresh_any a 2 c _ ⟨#[120]⟩ w (by omega) (by simp [maxLen, ByteArray.size]) h
  have h2 : numS [120] 2 = [120, 50] := by unfold numS; rw [dec_one 2 (by omega)]; rfl
  have h3 : numS [120] 3 = [120, 51] := by unfold numS; rw [dec_one 3 (by omega)]; rfl
  have hf : freshS [[120], [120, 50]] [120] = [120, 51] := by
    unfold freshS
    rw [if_pos (by decide), show (50 : Nat) = 52 - 2 from rfl, fresh_step (by omega) (by rw [h2]; decide), fresh_stop (by rw [h3]; decide), h3]
  rw [lit_list [120] ⟨#[120]⟩ rfl, hf] at h
  exact h
theorem put1 : putS [[98], [97], [98]] [99] = [[97], [98], [99]] :=
  putS_only (ss := [[98], [97], [98]]) (l := [[97], [98], [99]]) (by decide) (fun x => by
    simp only [List.mem_cons, List.not_mem_nil, or_false]
    constructor
    · rintro (h | h | h) <;> simp [h]
    · rintro ((h | h | h) | h) <;> simp [h])
theorem place1 (a : Option Addr) (c : Nat) (w : World) (h : Strs w w.heap.size a 2 [[97], [98]]) :
    Calls Tryd.prog 19 #[.slice a 2 c, .string ⟨#[98]⟩] w fun e w' => e = .returned (.int .i64 1) ∧ w = w' := by
  have h := place_any a 2 c _ ⟨#[98]⟩ w _ h
  rwa [lit_list [98] ⟨#[98]⟩ rfl, show plc [[97], [98]] [98] = 1 by decide] at h
theorem put2 (w : World) (a : Option Addr) (c : Nat) (h : Strs w w.heap.size a 3 [[98], [97], [98]]) :
    Calls Tryd.prog 9 #[.slice a 3 c, .string ⟨#[99]⟩] w fun e w' => ∃ a1 c1, e = .returned (.slice a1 3 c1) ∧ Strs w' w'.heap.size a1 3 [[97], [98], [99]] ∧ Below w.heap.size w w' := by
  refine (put_any a 3 c _ ⟨#[99]⟩ w (by omega) (by simp [maxLen, ByteArray.size]) h).mono ?_
  rintro e w' ⟨v, rfl, hown, hb⟩
  rw [lit_list [99] ⟨#[99]⟩ rfl, put1] at hown
  obtain ⟨a1, c1, rfl, hs, _⟩ := Strs.of_own hown (by decide) (by intro s hs; simp at hs; rcases hs with rfl | rfl | rfl <;> simp [maxLen])
  exact ⟨a1, c1, rfl, hs, hb⟩

/-- The slice that the walk makes of three strings beside one that holds the same three. -/
theorem same1 (w : World) (a : Option Addr) (c : Nat) {bound : Nat} (h : Strs w bound a 3 [[97], [98], [99]]) (hb : bound ≤ w.heap.size) :
    Calls Tryd.prog 23 #[.slice a 3 c, .slice (some ⟨w.heap.size, 0, none⟩) 3 3] (w.alloc (.cells #[.string ⟨#[97]⟩, .string ⟨#[98]⟩, .string ⟨#[99]⟩] 9)) fun e w' =>
      e = .returned (.bool true) ∧ ∃ q, w' = (w.alloc (.cells #[.string ⟨#[97]⟩, .string ⟨#[98]⟩, .string ⟨#[99]⟩] 9)).drewN q :=
  same_any a _ 3 3 c 3 [[97], [98], [99]] [[97], [98], [99]] _ _ ((h.alloc hb _).more (by simp; omega)) (strs_new w #[.string ⟨#[97]⟩, .string ⟨#[98]⟩, .string ⟨#[99]⟩] [[97], [98], [99]] 3 rfl rfl (by omega) (by decide))

set_option maxHeartbeats 1000000 in
theorem first_any (w : World) : Calls Tryd.prog 8 #[] w fun e w' => e = .returned (.bool true) ∧ Below w.heap.size w w' := by
  go_enter Tryd.func8, Tryd.ntmps8
  go_wp2_with (first
    | (go_at_call 9; refine (put2 _ _ 3 (strs_new w _ _ _ rfl rfl (by omega) (by decide))).mono ?_
       rintro e w1 ⟨a1, c1, rfl, hs, hb⟩
       have HS := Lib.hid hs
       have HB := Lib.hid hb
       clear hs hb)
    | (go_at_call 15; ((with_reducible refine (may1 _).mono ?_); rintro e w2 ⟨rfl, rfl⟩))
    | (go_at_call 15; ((with_reducible refine (may2 _).mono ?_); rintro e w2 ⟨rfl, rfl⟩))
    | (go_at_call 15; ((with_reducible refine (may3 _).mono ?_); rintro e w2 ⟨rfl, rfl⟩))
    | (go_at_call 13; ((with_reducible refine (kw1 _).mono ?_); rintro e w2 ⟨rfl, rfl⟩))
    | (go_at_call 11; refine (fresh1 _ 2 _ (strs_new _ _ _ _ rfl rfl (by omega) (by decide))).mono ?_
       rintro e w3 ⟨rfl, hb3⟩
       have HB3 := Lib.hid hb3
       clear hb3)
    | (go_at_call 23
       refine (same1 w3 a1 c1 (by exact (HS.out.below ((Below.refl _ _).alloc (Nat.le_refl _) _)).below (HB3.out.mono (by simp))) (by have := HB3.out.size; simp at this; omega)).mono ?_
       rintro e w4 ⟨rfl, q, rfl⟩)
    | (go_at_call 19; refine (place1 _ 2 _ (by exact strs_at _ _ (by simp) _ _ _ rfl rfl (by omega) (by decide))).mono ?_
       rintro e w5 ⟨rfl, rfl⟩))
  go_ret
  have b1 := ((Below.refl w.heap.size w).alloc (Nat.le_refl _) _).trans (HB.out.mono (by simp))
  have b3 := (b1.alloc b1.size _).trans (HB3.out.mono (by have := b1.size; simp; omega))
  have b4 := bel_drewN (b3.alloc b3.size (.cells #[.string ⟨#[97]⟩, .string ⟨#[98]⟩, .string ⟨#[99]⟩] 9)) q
  exact ⟨rfl, b4.alloc b4.size _⟩
end Go.Proofs.YthgihoeeppincaaDoor
