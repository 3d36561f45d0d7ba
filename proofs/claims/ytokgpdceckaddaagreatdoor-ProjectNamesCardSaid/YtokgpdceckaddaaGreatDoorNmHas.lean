/- Contracts of Has, Place and of the reference's SameNames. -/
import Derived.Test.YtokgpdceckaddaaGreatDoorChecked
import Derived.Test.YtokgpdceckaddaaGreatDoorNmStrs
import Derived.Test.YtokgpdceckaddaaGreatDoorShelf
import Derived.WalkKit
import Derived.Lib.Hide
import Derived.Lib.SlicesS
import Derived.Deep.QuietTactic
import Derived.BigQuiet
namespace Go.Proofs.YtokgpdceckaddaaGreatDoor
open Go.RowKit Go.Sort

def baS (l : Str) : ByteArray := ⟨l.toArray⟩
theorem baS_toList (l : Str) : (baS l).toList = l := by rw [ByteArray.toList_eq]; simp [baS]
theorem toList_inj {x y : ByteArray} (h : x.toList = y.toList) : x = y := by
  rw [ByteArray.toList_eq, ByteArray.toList_eq] at h
  exact Go.WideShapes.bytes_inj h
theorem baS_of (x : ByteArray) : baS x.toList = x := toList_inj (baS_toList _)

def plcFrom : List Str → Str → Nat → Int
  | [], _, _ => -1
  | z :: zs, x, i => if z = x then (i : Int) else plcFrom zs x (i + 1)
/-- The least place of a string in a list, or -1. -/
def plc (ss : List Str) (x : Str) : Int := plcFrom ss x 0

theorem idx_plc (x : ByteArray) : ∀ (ss : List Str) (i : Nat), Lib.idxFromS (ss.map baS) x i = plcFrom ss x.toList i
  | [], _ => rfl
  | s :: ss, i => by
    simp only [List.map_cons, Lib.idxFromS, plcFrom, idx_plc x ss (i + 1)]
    by_cases h : baS s = x
    · rw [if_pos h, if_pos (by rw [← h, baS_toList])]
    · rw [if_neg h, if_neg (fun e => h (by rw [e, baS_of]))]

/-- Is a string in a list? (A name of its own, so that no walk takes it apart.) -/
def hasS (ss : List Str) (x : Str) : Bool := ss.contains x
theorem contains_eq (ss : List Str) (x : ByteArray) : Lib.containsS (ss.map baS) x = hasS ss x.toList := by
  unfold hasS
  rw [Bool.eq_iff_iff, Lib.containsS_iff, List.contains_iff_mem, List.mem_map]
  constructor
  · rintro ⟨s, hs, rfl⟩; rw [baS_toList]; exact hs
  · intro h; exact ⟨_, h, baS_of x⟩

theorem Strs.cells {w : World} {bound : Nat} {a : Option Addr} {n : Nat} {ss : List Str} (h : Strs w bound a n ss) (hn : 0 < n) :
    ∃ b off, a = some ⟨b, off, none⟩ ∧ b < bound ∧ ∀ j, j < (ss.map baS).length → w.cell? ⟨b, off + j, none⟩ = some (.string ((ss.map baS).getD j ByteArray.empty)) := by
  obtain ⟨b, off, e, hb, hc⟩ := h.2.2.2 hn
  refine ⟨b, off, e, hb, fun j hj => ?_⟩
  rw [List.length_map] at hj
  rw [hc j ss[j] (List.getElem?_eq_getElem hj)]
  simp [List.getElem?_eq_getElem hj, encStr, baS]

theorem has_any (a : Option Addr) (n c : Nat) (ss : List Str) (x : ByteArray) (w : World) (bound : Nat) (h : Strs w bound a n ss) :
    Calls Tryz.prog 29 #[.slice a n c, .string x] w fun e w' => e = .returned (.bool (hasS ss x.toList)) ∧ w = w' := by
  rcases Nat.eq_zero_or_pos n with h0 | h0
  · have hs : ss = [] := List.eq_nil_of_length_eq_zero (by rw [h.1, h0])
    subst h0 hs
    clear h
    go_enter Tryz.func29, Tryz.ntmps29
    go_wp2_with (go_at_call 36; refine (Tryz.slices_Contains_string_empty a c x _).mono ?_; rintro e w' ⟨rfl, rfl⟩)
    go_ret
    exact ⟨rfl, rfl⟩
  · obtain ⟨b, off, rfl, _, hc⟩ := h.cells h0
    have hl : (ss.map baS).take n = ss.map baS := List.take_of_length_le (by simp [h.1])
    have HC := Lib.hid (Tryz.slices_Contains_string b off n c (ss.map baS) x w (by simp [h.1]) (by have := h.2.1; omega) hc)
    rw [hl, contains_eq] at HC
    clear h hc hl
    go_enter Tryz.func29, Tryz.ntmps29
    go_wp2_with (go_at_call 36; refine HC.out.mono ?_; rintro e w' ⟨rfl, rfl⟩)
    go_ret
    exact ⟨rfl, rfl⟩

theorem take_more (ss : List Str) (k : Nat) (hk : k < ss.length) : ss.take (k + 1) = ss.take k ++ [ss.getD k []] := by
  rw [List.take_succ_eq_append_getElem hk]
  simp [List.getElem?_eq_getElem hk]

end Go.Proofs.YtokgpdceckaddaaGreatDoor
