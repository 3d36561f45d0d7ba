/- Slices of numbers in memory that may be read; contracts of the program's comparisons. -/
import Derived.Test.YtiofpeckcfdilaaGreatDoorPlain
import Derived.Test.YtiofpeckcfdilaaGreatDoorRef0
import Derived.Sort.Walk0
import Derived.Laws.Cover1
namespace Go.Proofs.YtiofpeckcfdilaaGreatDoor
open Go.RowKit

/-- The slice with this address and length reads as these numbers; its cells lie in a block below bound. -/
def Nums (w : World) (bound : Nat) (a : Option Addr) (n : Nat) (l : List Int) : Prop :=
  l.length = n ∧ n ≤ 9223372036854775807 ∧ (0 < n → ∃ b off, a = some ⟨b, off, none⟩ ∧ b < bound ∧ ∀ (j : Nat) (x : Int), l[j]? = some x → w.cell? ⟨b, off + j, none⟩ = some (.int .i64 x))
section
variable {w w' : World} {bound bound' : Nat} {a : Option Addr} {n : Nat} {l : List Int}
theorem Nums.keep (h : Nums w bound a n l) (hk : ∀ p : Addr, p.block < bound → w'.cell? p = w.cell? p) : Nums w' bound a n l :=
  ⟨h.1, h.2.1, fun hn => by
    obtain ⟨b, off, e, hb, hc⟩ := h.2.2 hn
    exact ⟨b, off, e, hb, fun j t hj => (hk _ hb).trans (hc j t hj)⟩⟩
theorem Nums.below (h : Nums w bound a n l) (hb : Below bound w w') : Nums w' bound a n l := h.keep fun _ hp => hb.cell hp
theorem Nums.more (h : Nums w bound a n l) (hb : bound ≤ bound') : Nums w bound' a n l :=
  ⟨h.1, h.2.1, fun hn => by
    obtain ⟨b, off, e, hlt, hc⟩ := h.2.2 hn
    exact ⟨b, off, e, by omega, hc⟩⟩
theorem Nums.drewN (h : Nums w bound a n l) (k : Nat) : Nums (w.drewN k) bound a n l := h
theorem Nums.alloc (h : Nums w bound a n l) (hB : bound ≤ w.heap.size) (o : Obj) : Nums (w.alloc o) bound a n l := h.keep fun p hp => World.cell?_alloc_lt w o p (by omega)
theorem Nums.zero (w : World) (bound : Nat) (a : Option Addr) : Nums w bound a 0 [] := ⟨rfl, by omega, fun h => absurd h (Nat.lt_irrefl 0)⟩
theorem Nums.at_ (h : Nums w bound a n l) {k : Nat} (hk : k < n) : ∃ b off x, a = some ⟨b, off, none⟩ ∧ b < bound ∧ l[k]? = some x ∧ w.cell? ⟨b, off + k, none⟩ = some (.int .i64 x) := by
  obtain ⟨b, off, e, hb, hc⟩ := h.2.2 (by omega)
  have hk' : k < l.length := by rw [h.1]; exact hk
  exact ⟨b, off, l[k], e, hb, List.getElem?_eq_getElem hk', hc k _ (List.getElem?_eq_getElem hk')⟩
end

theorem isNaN_string (a : ByteArray) (w : World) : Calls Tryz.prog 123 #[.string a] w fun e w' => e = .returned (.bool false) ∧ w' = w := by
  have h : (a.toList != a.toList) = false := by simp
  go_enter Tryz.func123, Tryz.ntmps123
  go_wp2
  go_ret
  exact ⟨rfl, rfl⟩
theorem cmpStr_any (a b : ByteArray) (w : World) : Calls Tryz.prog 96 #[.string a, .string b] w fun e w' => e = .returned (.int .i64 (cmpS a.toList b.toList)) ∧ w' = w := by
  cases h1 : Op.bytesLess a.toList b.toList
  · cases h2 : (a.toList == b.toList)
    · have HF := Lib.hid (show cmpS a.toList b.toList = 1 by unfold cmpS; rw [h1, h2]; rfl)
      go_enter Tryz.func96, Tryz.ntmps96
      go_wp2_with (first | (go_at_call 123; (with_reducible refine (isNaN_string _ _).mono ?_); rintro e w1 ⟨rfl, rfl⟩) | fail)
      go_ret
      exact ⟨ret_int HF.out.symm, rfl⟩
    · have HF := Lib.hid (show cmpS a.toList b.toList = 0 by unfold cmpS; rw [h1, h2]; rfl)
      go_enter Tryz.func96, Tryz.ntmps96
      go_wp2_with (first | (go_at_call 123; (with_reducible refine (isNaN_string _ _).mono ?_); rintro e w1 ⟨rfl, rfl⟩) | fail)
      go_ret
      exact ⟨ret_int HF.out.symm, rfl⟩
  · have HF := Lib.hid (show cmpS a.toList b.toList = -1 by unfold cmpS; rw [h1]; rfl)
    go_enter Tryz.func96, Tryz.ntmps96
    go_wp2_with (first | (go_at_call 123; (with_reducible refine (isNaN_string _ _).mono ?_); rintro e w1 ⟨rfl, rfl⟩) | fail)
    go_ret
    exact ⟨ret_int HF.out.symm, rfl⟩
end Go.Proofs.YtiofpeckcfdilaaGreatDoor
