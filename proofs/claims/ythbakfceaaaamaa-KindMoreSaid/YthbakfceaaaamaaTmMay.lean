/- Contract of the program's May. -/
import Derived.Test.YthbakfceaaaamaaTmWalk
import Derived.Laws.NewBlocks
import Derived.Laws.EntriesVeiled
namespace Go.Proofs.Ythbakfceaaaamaa
open Go.RowKit

theorem info_bool : (Try.prog.info? 4).map (fun i => (i.zero, i.size, i.bytes)) = some (some (.bool false), 1, 1) := by kernel_rfl
theorem made_bools (n : Nat) (hn : n ≤ 1000) (W : World) : (Instr.makeSlice 62 (.int .i64 (n : Int)) (.int .i64 (n : Int))).run Try.prog W =
    .ok (.slice (some ⟨W.heap.size, 0, none⟩) n n) (W.alloc (.cells (madeCells #[.bool false] n) 4)) := by
  obtain ⟨i, hi, hzz⟩ := Option.map_eq_some_iff.1 info_bool
  simp only [Prod.mk.injEq] at hzz
  obtain ⟨hz, hs, hb⟩ := hzz
  have hr := run_make (P := Try.prog) W 62 4 i _ Try.underlying62 hi hz .i64 .i64 (n : Int) (n : Int) (by omega) (by omega) (by rw [hb]; omega) (by omega)
  rw [hs, show ((n : Int).toNat) = n from by omega, Nat.mul_one] at hr
  exact hr
theorem seen_made (w : World) (n : Nat) : Seen (w.alloc (.cells (madeCells #[.bool false] n) 4)) w.heap.size n (fun _ => false) := by
  refine ⟨by simp, fun j hj => ⟨?_, ?_⟩⟩
  · rw [cell_of_row _ _ _ _ _ _ (heap_alloc_new w _)]
    simp [madeCells, hj, Nat.mod_one]
  · unfold World.frozen?
    rw [heap_alloc_new w _]
    simp
theorem mayF_short {L : List Trm} {root : Int} {n : Nat} (hn : L.length = n) (h : 160 < n ∨ root < 0 ∨ (n : Int) ≤ root) : mayF L root = false := by
  unfold mayF
  rw [hn]
  rcases h with h | h | h
  · rw [decide_eq_false (by omega)]; rfl
  · rw [decide_eq_false (p := 0 ≤ root) (by omega), Bool.and_false]; rfl
  · rw [decide_eq_false (p := root < (n : Int)) (by omega), Bool.and_false]; rfl
theorem mayF_long {L : List Trm} {r n : Nat} (hn : L.length = n) (h1 : n ≤ 160) (h2 : r < n) : mayF L (r : Int) = (walkF L n r 1 (fun _ => false)).isSome := by
  unfold mayF
  rw [hn, decide_eq_true h1, decide_eq_true (show (0 : Int) ≤ (r : Int) by omega), decide_eq_true (show (r : Int) < (n : Int) by omega)]
  simp

theorem cell_top {W : World} {cs : Array Value} {t : TypeId} {B j : Nat} (hB : B = W.heap.size) : (W.alloc (.cells cs t)).cell? ⟨B, j, none⟩ = cs[j]? := by
  subst hB
  rw [cell_of_row _ _ _ _ _ _ (heap_alloc_new W _)]
/-- The world in which May begins its walk. -/
def mayW (w : World) (a : Option Addr) (n c : Nat) : World :=
  (((w.alloc (.cells #[.slice a n c] 22)).alloc (.cells (madeCells #[.bool false] n) 4)).alloc (.cells #[.slice (some ⟨w.heap.size + 1, 0, none⟩) n n] 62)).alloc
    (.cells #[.func (.func 27) #[] #[.pointer (some ⟨w.heap.size + 1 + 1, 0, none⟩), .pointer (some ⟨w.heap.size, 0, none⟩), .pointer (some ⟨w.heap.size + 1 + 1 + 1, 0, none⟩)]] 63)
theorem mayW_size (w : World) (a : Option Addr) (n c : Nat) : (mayW w a n c).heap.size = w.heap.size + 1 + 1 + 1 + 1 := by simp [mayW]
theorem mayW_below (w : World) (a : Option Addr) (n c : Nat) : Below w.heap.size w (mayW w a n c) := by
  refine Below.alloc (Below.alloc (Below.alloc (Below.alloc (Below.refl _ _) (Nat.le_refl _) _) ?_ _) ?_ _) ?_ _
  all_goals simp <;> omega
theorem mayW_ready {w : World} {L : List Trm} {a : Option Addr} {n c bound : Nat} (h : Trms w bound a n L) (hb : bound ≤ w.heap.size) (hn : n ≤ 160) :
    Ready (mayW w a n c) L a n c (w.heap.size + 1) bound (w.heap.size + 1 + 1) w.heap.size (w.heap.size + 1 + 1 + 1) := by
  have hs := mayW_size w a n c
  refine ⟨h.below ((mayW_below w a n c).mono hb), by omega, by omega, hn, ⟨by omega, by omega⟩, ⟨by omega, by omega⟩, ⟨by omega, by omega⟩, ?_, ?_, ?_⟩
  · unfold mayW
    rw [World.cell?_alloc_lt _ _ _ (by simp), cell_top (by simp)]
    rfl
  · unfold mayW
    rw [World.cell?_alloc_lt _ _ _ (by simp <;> omega), World.cell?_alloc_lt _ _ _ (by simp <;> omega), World.cell?_alloc_lt _ _ _ (by simp <;> omega), cell_top rfl]
    rfl
  · unfold mayW
    rw [cell_top (by simp)]
    rfl
theorem mayW_seen (w : World) (a : Option Addr) (n c : Nat) : Seen (mayW w a n c) (w.heap.size + 1) n (fun _ => false) := by
  have h := ((seen_made (w.alloc (.cells #[.slice a n c] 22)) n).below ((Below.refl _ _).alloc (Nat.le_refl _) (.cells #[.slice (some ⟨w.heap.size + 1, 0, none⟩) n n] 62))).below ((Below.refl _ _).alloc (Nat.le_refl _) (.cells #[.func (.func 27) #[] #[.pointer (some ⟨w.heap.size + 1 + 1, 0, none⟩), .pointer (some ⟨w.heap.size, 0, none⟩), .pointer (some ⟨w.heap.size + 1 + 1 + 1, 0, none⟩)]] 63))
  rw [World.size_alloc] at h
  exact h

set_option maxHeartbeats 2000000 in
theorem termMay_any (a : Option Addr) (n c : Nat) (L : List Trm) (root : Int) (w : World) (bound : Nat) (hb : bound ≤ w.heap.size) (h : Trms w bound a n L) :
    Calls Try.prog 16 #[.slice a n c, .int .i64 root] w fun e w' => e = .returned (.bool (mayF L root)) ∧ Below w.heap.size w w' := by
  have hmf : ∀ (fn : Fn) (first cap : Array Value) (w : World), (Instr.makeFunc fn first cap).run Try.prog w = .ok (.func fn first cap) w := fun _ _ _ _ => rfl
  have HB := Lib.hid ((Below.refl w.heap.size w).alloc (Nat.le_refl _) (.cells #[.slice a n c] 22))
  have hl := h.1
  have hsm := h.2.1
  have HT := Lib.hid h
  clear h
  by_cases h1 : 160 < n
  · have HG := Lib.hid (mayF_short (root := root) hl (.inl h1))
    have d1 : decide ((160 : Int) < (n : Int)) = true := decide_eq_true (by omega)
    clear hl
    go_enter Try.func16, Try.ntmps16
    go_wp2_with fail
    go_ret
    exact ⟨ret_bool HG.out.symm, HB.out⟩
  have d1 : decide ((160 : Int) < (n : Int)) = false := decide_eq_false (by omega)
  by_cases h2 : root < 0
  · have HG := Lib.hid (mayF_short (root := root) hl (.inr (.inl h2)))
    clear hl
    go_enter Try.func16, Try.ntmps16
    go_wp2_with fail
    go_ret
    exact ⟨ret_bool HG.out.symm, HB.out⟩
  by_cases h3 : (n : Int) ≤ root
  · have HG := Lib.hid (mayF_short hl (.inr (.inr h3)))
    clear hl
    go_enter Try.func16, Try.ntmps16
    go_wp2_with fail
    go_ret
    exact ⟨ret_bool HG.out.symm, HB.out⟩
  obtain ⟨r, rfl⟩ : ∃ r : Nat, root = (r : Int) := ⟨root.toNat, by omega⟩
  have hrn : r < n := by omega
  have HG := Lib.hid (mayF_long (r := r) hl (by omega) hrn)
  have hmk := fun W => made_bools n (by omega) W
  have cw : Calls Try.prog 27 #[.int .i64 r, .int .i64 1, .pointer (some ⟨w.heap.size + 1 + 1, 0, none⟩), .pointer (some ⟨w.heap.size, 0, none⟩), .pointer (some ⟨w.heap.size + 1 + 1 + 1, 0, none⟩)] (mayW w a n c) (fun e w' => e = .returned (.bool (walkF L n r 1 (fun _ => false)).isSome) ∧ Below w.heap.size w w') :=
    (walk_any L a n c _ bound _ _ _ n r 1 (fun _ => false) (mayW w a n c) hrn hrn (by omega) (mayW_ready HT.out hb (by omega)) (mayW_seen w a n c)).mono fun e w' h => ⟨h.1, (mayW_below w a n c).trans (h.2.1.below (by omega) (by rw [mayW_size]; omega))⟩
  unfold mayW at cw
  have CW := Lib.hid cw
  clear cw
  clear hl
  go_enter Try.func16, Try.ntmps16
  go_wp2_with (first
    | (go_at_call 27; (with_reducible refine CW.out.mono ?_); rintro e w1 ⟨rfl, hb1⟩; have HB1 := Lib.hid hb1; clear hb1)
    | fail)
  go_ret
  exact ⟨ret_bool HG.out.symm, HB1.out⟩
end Go.Proofs.Ythbakfceaaaamaa
