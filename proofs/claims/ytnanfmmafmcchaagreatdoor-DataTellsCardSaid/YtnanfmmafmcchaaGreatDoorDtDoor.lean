/- What the program's texts of values need of the listed variables: two errors' variables, a table of powers. -/
import Derived.Test.YtnanfmmafmcchaaGreatDoorLxOwnC
import Derived.Test.YtnanfmmafmcchaaGreatDoorDtMay
import Derived.Test.YtnanfmmafmcchaaGreatDoorShelfTab
import Derived.Lib.LaidTab
import Derived.Lib.AppendIntMem
namespace Go.Proofs.YtnanfmmafmcchaaGreatDoor
open Go.RowKit

/-- The table of powers of ten holds what its initialiser lays. -/
def Pow (w : World) : Prop := Lib.TabIs Tryz.prog w "internal/strconv.uint64pow10" .u64 Lib.pow10Tab
theorem pow_named : Tryz.prog.globalNamed "internal/strconv.uint64pow10" = some 0 := by kernel_rfl
theorem Pow.keep {w w' : World} (h : Pow w) (hb : Below w.heap.size w w') : Pow w' := by
  unfold Pow Lib.TabIs World.var? at h ⊢
  rw [pow_named] at h ⊢
  simp only [Option.bind_some] at h ⊢
  have hlt : 0 < w.heap.size := by
    rcases Nat.lt_or_ge 0 w.heap.size with h' | h'
    · exact h'
    · rw [Array.getElem?_eq_none h'] at h; cases h
  rw [hb.block _ hlt]
  exact h
/-- The variable that an error of form is made with holds an error. -/
def SynCell (w : World) : Prop := 1 < w.heap.size ∧ ∃ te pe, w.cell? ⟨1, 0, none⟩ = some (.iface te pe)
theorem SynCell.keep {w w' : World} (h : SynCell w) (hb : Below w.heap.size w w') : SynCell w' := by
  obtain ⟨h1, te, pe, h2⟩ := h
  exact ⟨Nat.lt_of_lt_of_le h1 hb.size, te, pe, by rw [hb.cell h1]; exact h2⟩
/-- All that is listed. -/
structure Met (w : World) : Prop where
  err : ErrCell w
  syn : SynCell w
  pow : Pow w
theorem Met.keep {w w' : World} (h : Met w) (hb : Below w.heap.size w w') : Met w' := ⟨h.err.keep hb, h.syn.keep hb, h.pow.keep hb⟩
theorem Met.alloc {w : World} (h : Met w) (o : Obj) : Met (w.alloc o) := h.keep ((Below.refl _ w).alloc (Nat.le_refl _) o)

/-- The text of a number. -/
theorem fmtInt_any (n : Int) (w : World) (h0 : -9223372036854775808 ≤ n) (h1 : n ≤ 9223372036854775807) (hp : Pow w) :
    Calls Tryz.prog 48 #[.int .i64 n, .int .i64 10] w fun e w' => e = .returned (.string (lxS (Lib.itoa n))) ∧ Below w.heap.size w w' :=
  (Tryz.strconv_FormatInt_10 n h0 h1 w hp).mono fun e w' h => by
    obtain ⟨he, k, os, hw⟩ := h
    refine ⟨he, ?_⟩
    rw [hw]
    exact Lib.below_grow _ w (Nat.le_refl _) k os
theorem digits_any (n : Int) (w : World) (h0 : -9223372036854775808 ≤ n) (h1 : n ≤ 9223372036854775807) (hp : Pow w) :
    Calls Tryz.prog 28 #[.int .i64 n] w fun e w' => e = .returned (.string (lxS (Lib.itoa n))) ∧ Below w.heap.size w w' := by
  have C := Lib.hid (fmtInt_any n w h0 h1 hp)
  go_enter Tryz.func28, Tryz.ntmps28
  go_wp2_with (first | (go_at_call 48; (with_reducible refine C.out.mono ?_); rintro e w1 ⟨rfl, hb1⟩) | fail)
  go_ret
  exact ⟨rfl, hb1⟩
theorem fmtBoolIn_any (b : Bool) (w : World) : Calls Tryz.prog 49 #[.bool b] w fun e w' => e = .returned (.string (if b then ⟨#[116, 114, 117, 101]⟩ else ⟨#[102, 97, 108, 115, 101]⟩)) ∧ w' = w := by
  cases b
  · go_enter Tryz.func49, Tryz.ntmps49
    go_wp2
    go_ret
    exact ⟨rfl, rfl⟩
  · go_enter Tryz.func49, Tryz.ntmps49
    go_wp2
    go_ret
    exact ⟨rfl, rfl⟩
theorem fmtBool_any (b : Bool) (w : World) : Calls Tryz.prog 29 #[.bool b] w fun e w' => e = .returned (.string (if b then ⟨#[116, 114, 117, 101]⟩ else ⟨#[102, 97, 108, 115, 101]⟩)) ∧ w' = w := by
  have C := Lib.hid (fmtBoolIn_any b w)
  cases b
  · go_enter Tryz.func29, Tryz.ntmps29
    go_wp2_with (first | (go_at_call 49; (with_reducible refine C.out.mono ?_); rintro e w1 ⟨rfl, rfl⟩) | fail)
    go_ret
    exact ⟨rfl, rfl⟩
  · go_enter Tryz.func29, Tryz.ntmps29
    go_wp2_with (first | (go_at_call 49; (with_reducible refine C.out.mono ?_); rintro e w1 ⟨rfl, rfl⟩) | fail)
    go_ret
    exact ⟨rfl, rfl⟩
end Go.Proofs.YtnanfmmafmcchaaGreatDoor
