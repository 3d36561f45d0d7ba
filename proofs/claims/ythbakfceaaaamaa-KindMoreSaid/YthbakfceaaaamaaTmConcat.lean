/- Contracts of slices.Concat of two slices, and of the program's push. -/
import Derived.Test.YthbakfceaaaamaaTmPush
namespace Go.Proofs.Ythbakfceaaaamaa
open Go.RowKit

set_option maxHeartbeats 2000000 in
theorem concat_any (b0 : Nat) (a1 a2 : Option Addr) (n1 n2 k1 k2 : Nat) (l1 l2 : List Int) (w : World) (bound : Nat) (hb : bound ≤ w.heap.size) (hb0 : b0 < w.heap.size)
    (c0 : w.cell? ⟨b0, 0, none⟩ = some (.slice a1 n1 k1)) (c1 : w.cell? ⟨b0, 1, none⟩ = some (.slice a2 n2 k2)) (h1 : Nums w bound a1 n1 l1) (h2 : Nums w bound a2 n2 l2) (hpos : 0 < n1 + n2) (hsm : n1 + n2 ≤ 1000) :
    Calls Try.prog 73 #[.slice (some ⟨b0, 0, none⟩) 2 2] w fun e w' => (∃ v, e = .returned v ∧ Ints w' w.heap.size v (l1 ++ l2)) ∧ Below w.heap.size w w' := by
  have H1 := Lib.hid h1
  have H2 := Lib.hid h2
  have HL1 := Lib.hid h1.1
  have HC := Lib.hid (And.intro c0 c1)
  have CG := Lib.hid (growNil_any (n1 + n2) w hpos hsm)
  have e12 : ((n1 + n2 : Nat) : Int) = (n1 : Int) + (n2 : Int) := by omega
  rw [e12] at CG
  clear h1 h2 e12
  go_enter Try.func73, Try.ntmps73
  go_wp2
  go_loop [11, 3, 5] (fun j s _ => (j = .int .i64 0 ∧ s = .int .i64 0) ∨ (j = .int .i64 1 ∧ s = .int .i64 n1) ∨ (j = .int .i64 2 ∧ s = .int .i64 ((n1 : Int) + (n2 : Int)))) (fun j _ _ => 2 - (intOf j).toNat)
  case atStart => exact .inl ⟨rfl, rfl⟩
  case round =>
    rcases hrel with ⟨rfl, rfl⟩ | ⟨rfl, rfl⟩ | ⟨rfl, rfl⟩
    · go_wp2
      go_round
      case rel => exact .inr (.inl ⟨rfl, by go_num⟩)
      case measure => simp [intOf]
    · go_wp2
      go_round
      case rel => exact .inr (.inr ⟨rfl, by go_num⟩)
      case measure => simp [intOf]
    · go_wp2_with (first
        | (go_at_call 91; (with_reducible refine CG.out.mono ?_)
           rintro e w1 ⟨⟨v, rfl, hi⟩, hb1⟩
           have HI := Lib.hid hi
           have HB1 := Lib.hid hb1
           clear hi hb1)
        | fail)
      go_loopw [27, 6, 8] (fun j v _ wr => Hid (Below w.heap.size w wr) ∧ ((j = .int .i64 0 ∧ Hid (Ints wr w.heap.size v [])) ∨ (j = .int .i64 1 ∧ Hid (Ints wr w.heap.size v l1)) ∨ (j = .int .i64 2 ∧ Hid (Ints wr w.heap.size v (l1 ++ l2))))) (fun j _ _ _ => 2 - (intOf j).toNat)
      case atStart => exact ⟨HB1, .inl ⟨rfl, HI⟩⟩
      case round =>
        obtain ⟨HW, hrel⟩ := hrel
        have q0 : wr.cell? ⟨b0, 0, none⟩ = some (.slice a1 n1 k1) := (HW.out.cell (p := ⟨b0, 0, none⟩) hb0).trans HC.out.1
        have q1 : wr.cell? ⟨b0, 1, none⟩ = some (.slice a2 n2 k2) := (HW.out.cell (p := ⟨b0, 1, none⟩) hb0).trans HC.out.2
        clear c0 c1
        rcases hrel with ⟨rfl, HI⟩ | ⟨rfl, HI⟩ | ⟨rfl, HI⟩
        · skip
          go_wp2_with (first
          | (at_builtin
             refine wpList_append_nums rfl (.tmp 31) (.tmp 32) rfl w.heap.size _ [] _ _ _ l1 bound rfl rfl HI.out (H1.out.below (HW.out.mono hb)) HW.out.size (by simp <;> omega) w HW.out ?_
             intro v' w' hi' hb'
             have HI' := Lib.hid hi'
             have HB' := Lib.hid hb'
             clear hi' hb')
          | fail)
          go_roundw
          case rel => exact ⟨HB', .inr (.inl ⟨rfl, HI'⟩)⟩
          case measure => simp [intOf]
        · have hl1 := Lib.hid (show l1.length + n2 ≤ 7000000000000 by have := HL1.out; omega)
          go_wp2_with (first
          | (at_builtin
             refine wpList_append_nums rfl (.tmp 31) (.tmp 32) rfl w.heap.size _ l1 _ _ _ l2 bound rfl rfl HI.out (H2.out.below (HW.out.mono hb)) HW.out.size hl1.out w HW.out ?_
             intro v' w' hi' hb'
             have HI' := Lib.hid hi'
             have HB' := Lib.hid hb'
             clear hi' hb')
          | fail)
          go_roundw
          case rel => exact ⟨HB', .inr (.inr ⟨rfl, HI'⟩)⟩
          case measure => simp [intOf]
        · go_wp2
          go_ret
          exact ⟨⟨_, rfl, HI.out⟩, HW.out⟩

/-- The world in which push concatenates. -/
def pushW (w : World) (a : Option Addr) (n c : Nat) (x : Int) : World :=
  ((w.alloc (.cells #[.int .i64 0, .int .i64 0, .string ⟨#[]⟩, .slice none 0 0] 33)).alloc (.cells #[.int .i64 x] 2)).alloc (.cells #[.slice a n c, .slice (some ⟨w.heap.size + 1, 0, none⟩) 1 1] 31)
theorem pushW_size (w : World) (a : Option Addr) (n c : Nat) (x : Int) : (pushW w a n c x).heap.size = w.heap.size + 1 + 1 + 1 := by simp [pushW]
theorem pushW_below (w : World) (a : Option Addr) (n c : Nat) (x : Int) : Below w.heap.size w (pushW w a n c x) := by
  refine Below.alloc (Below.alloc (Below.alloc (Below.refl _ _) (Nat.le_refl _) _) ?_ _) ?_ _
  all_goals simp <;> omega
theorem push_concat (a : Option Addr) (n c : Nat) (l : List Int) (x : Int) (w : World) (bound : Nat) (hb : bound ≤ w.heap.size) (h : Nums w bound a n l) (hn : n ≤ 900) :
    Calls Try.prog 73 #[.slice (some ⟨w.heap.size + 1 + 1, 0, none⟩) 2 2] (pushW w a n c x) fun e w' =>
      (∃ a' n' c', e = .returned (.slice a' n' c') ∧ Nums w' w'.heap.size a' n' (l ++ [x]) ∧ From (w.heap.size + 1) a' n') ∧ Below w.heap.size w w' ∧ Slot w' w.heap.size := by
  have hs := pushW_size w a n c x
  have hbl := pushW_below w a n c x
  have hx : Nums (pushW w a n c x) (w.heap.size + 1 + 1) (some ⟨w.heap.size + 1, 0, none⟩) 1 [x] := by
    have h0 := Nums.made (w.alloc (.cells #[.int .i64 0, .int .i64 0, .string ⟨#[]⟩, .slice none 0 0] 33)) #[.int .i64 x] [x] 1 rfl rfl (by omega)
    rw [World.size_alloc] at h0
    exact h0.alloc (by simp) _
  have c0 : (pushW w a n c x).cell? ⟨w.heap.size + 1 + 1, 0, none⟩ = some (.slice a n c) := by unfold pushW; rw [cell_of_row _ _ _ _ _ _ (by rw [← World.size_alloc w (.cells #[.int .i64 0, .int .i64 0, .string ⟨#[]⟩, .slice none 0 0] 33), ← World.size_alloc _ (.cells #[.int .i64 x] 2)]; exact heap_alloc_new _ _)]; rfl
  have c1 : (pushW w a n c x).cell? ⟨w.heap.size + 1 + 1, 1, none⟩ = some (.slice (some ⟨w.heap.size + 1, 0, none⟩) 1 1) := by unfold pushW; rw [cell_of_row _ _ _ _ _ _ (by rw [← World.size_alloc w (.cells #[.int .i64 0, .int .i64 0, .string ⟨#[]⟩, .slice none 0 0] 33), ← World.size_alloc _ (.cells #[.int .i64 x] 2)]; exact heap_alloc_new _ _)]; simp
  refine (concat_any (w.heap.size + 1 + 1) a (some ⟨w.heap.size + 1, 0, none⟩) n 1 c 1 l [x] (pushW w a n c x) (w.heap.size + 1 + 1) (by omega) (by omega) c0 c1 ((h.below (hbl.mono hb)).more (by omega)) hx (by omega) (by omega)).mono ?_
  rintro e w' ⟨⟨v, rfl, hi⟩, hb'⟩
  obtain ⟨a', c', rfl, _, _, hf, hnn⟩ := hi.sees
  refine ⟨⟨a', _, c', rfl, hnn, hf.low (by omega)⟩, below_on hbl hb', ?_⟩
  exact (((Slot.new w).alloc _).alloc _).on (W := pushW w a n c x) hb'

theorem push_any (a : Option Addr) (n c : Nat) (l : List Int) (x : Int) (w : World) (bound : Nat) (hb : bound ≤ w.heap.size) (h : Nums w bound a n l) (hn : n ≤ 900) :
    Calls Try.prog 63 #[.slice a n c, .int .i64 x] w (PairRet w (pushV l x)) := by
  have HB := Lib.hid ((Below.refl w.heap.size w).alloc (Nat.le_refl _) (.cells #[.int .i64 0, .int .i64 0, .string ⟨#[]⟩, .slice none 0 0] 33))
  have HS := Lib.hid (Slot.new w)
  have hl := h.1
  by_cases h16 : 16 ≤ n
  · have d : decide ((16 : Int) ≤ (n : Int)) = true := decide_eq_true (by omega)
    have HG := Lib.hid (show pushV l x = (zeroV, 405) by unfold pushV; rw [hl, if_pos h16])
    clear hl h
    go_enter Try.func63, Try.ntmps63
    go_wp2_with fail
    refine bodyPost_ret (v := .tuple #[.agg #[.int .i64 0, .int .i64 0, .string ⟨#[]⟩, .slice none 0 0], .int .i64 405]) (by simp [results, go_sem]) rfl ?_
    exact PairRet.is (PairRet.flat0 HB.out) HG.out
  · have d : decide ((16 : Int) ≤ (n : Int)) = false := decide_eq_false (by omega)
    have HG := Lib.hid (show pushV l x = (⟨4, 0, [], l ++ [x]⟩, 0) by unfold pushV; rw [hl, if_neg h16]; rfl)
    have cw := push_concat a n c l x w bound hb h hn
    unfold pushW at cw
    have CW := Lib.hid cw
    clear hl h cw
    go_enter Try.func63, Try.ntmps63
    go_wp2_with (first
      | (go_at_call 73; (with_reducible refine CW.out.mono ?_)
         rintro e w1 ⟨⟨a', n', c', rfl, hn1, hf1⟩, hb1, hs1⟩
         have HN1 := Lib.hid hn1
         have HF1 := Lib.hid hf1
         have HB1 := Lib.hid hb1
         have HS1 := Lib.hid hs1
         clear hn1 hf1 hb1 hs1)
      | (go_at_call 41; (with_reducible refine (list_any _ _ _ _).mono ?_)
         rintro e w2 ⟨rfl, hb2⟩
         have HS2 := Lib.hid (HS1.out.on hb2)
         have HB2 := Lib.hid (below_on HB1.out hb2)
         have HN2 := Lib.hid ((HN1.out.below hb2).more hb2.size)
         obtain ⟨⟨c0, c1, c2, c3⟩, f0, f1, f2, f3⟩ := HS2.out.cells
         clear hb2)
      | fail)
    (try simp only [Exit.inBlock, Exit.then])
    refine end_pair rfl rfl rfl HS2.out ?_
    refine PairRet.is ?_ HG.out
    exact ⟨⟨_, _, _, _, rfl, ⟨empty_toList, (HN2.out.set HF1.out (Nat.lt_succ_self _) _ _ _ _).more (by simp)⟩, HF1.out.low (by omega)⟩, below_set HB2.out (Nat.le_refl _) _ _ _ _⟩
end Go.Proofs.Ythbakfceaaaamaa
