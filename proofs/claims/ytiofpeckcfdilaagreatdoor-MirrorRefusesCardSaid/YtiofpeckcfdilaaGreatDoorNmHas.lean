/- Contracts of Has, Place and of the reference's SameNames. -/
import Derived.Test.YtiofpeckcfdilaaGreatDoorChecked
import Derived.Test.YtiofpeckcfdilaaGreatDoorNmStrs
import Derived.Test.YtiofpeckcfdilaaGreatDoorShelf
import Derived.WalkKit
import Derived.Lib.Hide
import Derived.Lib.SlicesS
import Derived.Deep.QuietTactic
import Derived.BigQuiet
namespace Go.Proofs.YtiofpeckcfdilaaGreatDoor
open Go.RowKit Go.Sort

def baS (l : Str) : ByteArray := ⟨l.toArray⟩
theorem baS_toList (l : Str) : (baS l).toList = l := by rw [ByteArray.toList_eq]; simp [baS]
theorem toList_inj {x y : ByteArray} (h : x.toList = y.toList) : x = y := by
  rw [ByteArray.toList_eq, ByteArray.toList_eq] at h
  exact Go.WideShapes.bytes_inj h
theorem baS_of (x : ByteArray) : baS x.toList = x := toList_inj (baS_toList _)

def plcFrom : List Str → Str → Nat → Int
  | [], _, _ => -1
  | z :: zs, x, i => if z = x then (i : Int) else plcFrom zs x (i + 1)
/-- The least place of a string in a list, or -1. -/
def plc (ss : List Str) (x : Str) : Int := plcFrom ss x 0

theorem idx_plc (x : ByteArray) : ∀ (ss : List Str) (i : Nat), Lib.idxFromS (ss.map baS) x i = plcFrom ss x.toList i
  | [], _ => rfl
  | s :: ss, i => by
    simp only [List.map_cons, Lib.idxFromS, plcFrom, idx_plc x ss (i + 1)]
    by_cases h : baS s = x
    · rw [if_pos h, if_pos (by rw [← h, baS_toList])]
    · rw [if_neg h, if_neg (fun e => h (by rw [e, baS_of]))]

/-- Is a string in a list? (A name of its own, so that no walk takes it apart.) -/
def hasS (ss : List Str) (x : Str) : Bool := ss.contains x
theorem contains_eq (ss : List Str) (x : ByteArray) : Lib.containsS (ss.map baS) x = hasS ss x.toList := by
  unfold hasS
  rw [Bool.eq_iff_iff, Lib.containsS_iff, List.contains_iff_mem, List.mem_map]
  constructor
  · rintro ⟨s, hs, rfl⟩; rw [baS_toList]; exact hs
  · intro h; exact ⟨_, h, baS_of x⟩

theorem Strs.cells {w : World} {bound : Nat} {a : Option Addr} {n : Nat} {ss : List Str} (h : Strs w bound a n ss) (hn : 0 < n) :
    ∃ b off, a = some ⟨b, off, none⟩ ∧ b < bound ∧ ∀ j, j < (ss.map baS).length → w.cell? ⟨b, off + j, none⟩ = some (.string ((ss.map baS).getD j ByteArray.empty)) := by
  obtain ⟨b, off, e, hb, hc⟩ := h.2.2.2 hn
  refine ⟨b, off, e, hb, fun j hj => ?_⟩
  rw [List.length_map] at hj
  rw [hc j ss[j] (List.getElem?_eq_getElem hj)]
  simp [List.getElem?_eq_getElem hj, encStr, baS]

theorem has_any (a : Option Addr) (n c : Nat) (ss : List Str) (x : ByteArray) (w : World) (bound : Nat) (h : Strs w bound a n ss) :
    Calls Tryz.prog 27 #[.slice a n c, .string x] w fun e w' => e = .returned (.bool (hasS ss x.toList)) ∧ w = w' := by
  rcases Nat.eq_zero_or_pos n with h0 | h0
  · have hs : ss = [] := List.eq_nil_of_length_eq_zero (by rw [h.1, h0])
    subst h0 hs
    clear h
    go_enter Tryz.func27, Tryz.ntmps27
    go_wp2_with (go_at_call 49; refine (Tryz.slices_Contains_string_empty a c x _).mono ?_; rintro e w' ⟨rfl, rfl⟩)
    go_ret
    exact ⟨rfl, rfl⟩
  · obtain ⟨b, off, rfl, _, hc⟩ := h.cells h0
    have hl : (ss.map baS).take n = ss.map baS := List.take_of_length_le (by simp [h.1])
    have HC := Lib.hid (Tryz.slices_Contains_string b off n c (ss.map baS) x w (by simp [h.1]) (by have := h.2.1; omega) hc)
    rw [hl, contains_eq] at HC
    clear h hc hl
    go_enter Tryz.func27, Tryz.ntmps27
    go_wp2_with (go_at_call 49; refine HC.out.mono ?_; rintro e w' ⟨rfl, rfl⟩)
    go_ret
    exact ⟨rfl, rfl⟩

theorem take_more (ss : List Str) (k : Nat) (hk : k < ss.length) : ss.take (k + 1) = ss.take k ++ [ss.getD k []] := by
  rw [List.take_succ_eq_append_getElem hk]
  simp [List.getElem?_eq_getElem hk]

set_option maxHeartbeats 400000 in
theorem same_any (a b : Option Addr) (n m ca cb : Nat) (ss ts : List Str) (w : World) (bound : Nat) (ha : Strs w bound a n ss) (hb : Strs w bound b m ts) :
    Calls Tryz.prog 16 #[.slice a n ca, .slice b m cb] w fun e w' => e = .returned (.bool (decide (ss = ts))) ∧ ∃ q, w' = w.drewN q := by
  have hn := ha.1
  have hm := hb.1
  have hsn := ha.2.1
  have hsm := hb.2.1
  have HA := Lib.hid ha
  have HB := Lib.hid hb
  clear ha hb
  by_cases hnm : n = m
  · subst hnm
    have HN := Lib.hid hn
    have HM := Lib.hid hm
    clear hn hm
    go_enter Tryz.func16, Tryz.ntmps16
    go_wp2
    go_loopw [5] (fun i wr => ∃ k : Nat, k ≤ n ∧ i = .int .i64 k ∧ Hid (ss.take k = ts.take k) ∧ ∃ q, wr = w.drewN q) (fun i _ => n - (intOf i).toNat)
    case atStart => exact ⟨0, Nat.zero_le _, rfl, rfl, 0, rfl⟩
    case round =>
      obtain ⟨k, hk, rfl, hpre, q, rfl⟩ := hrel
      by_cases hlt : k < n
      · obtain ⟨b1, o1, rfl, _, hc1⟩ := HA.out.at_ hlt
        obtain ⟨b2, o2, rfl, _, hc2⟩ := HB.out.at_ hlt
        obtain ⟨x, hx⟩ : ∃ x, x = baS (ss.getD k []) := ⟨_, rfl⟩
        obtain ⟨y, hy⟩ : ∃ y, y = baS (ts.getD k []) := ⟨_, rfl⟩
        replace hc1 : w.cell? { block := b1, off := o1 + k } = some (Value.string x) := by rw [hx]; exact hc1
        replace hc2 : w.cell? { block := b2, off := o2 + k } = some (Value.string y) := by rw [hy]; exact hc2
        have HX := Lib.hid hx
        have HY := Lib.hid hy
        clear hx hy
        go_wp2
        go_quiet (fail)
        go_wp2
        · have hne : decide (ss = ts) = false := by
            rename_i h1
            rw [decide_eq_false_iff_not]
            intro e
            rw [HX.out, HY.out, e] at h1
            simp at h1
          go_ret
          exact ⟨ret_bool hne.symm, q + nq, World.drewN_drewN _ _ _⟩
        · have heq : ss.getD k [] = ts.getD k [] := by
            rename_i h1
            rw [HX.out, HY.out, baS_toList, baS_toList] at h1
            simpa using h1
          refine ⟨⟨k + 1, by omega, by go_num, Lib.hid ?_, q + nq, rfl⟩, by simp [intOf]; omega⟩
          rw [take_more ss k (by rw [HN.out]; exact hlt), take_more ts k (by rw [HM.out]; exact hlt), hpre.out, heq]
      · have he : decide (ss = ts) = true := by
          have hk' : k = n := by omega
          rw [decide_eq_true_eq, ← List.take_of_length_le (l := ss) (Nat.le_of_eq HN.out), ← List.take_of_length_le (l := ts) (Nat.le_of_eq HM.out), ← hk']
          exact hpre.out
        have HE := Lib.hid he
        clear he
        go_wp2
        go_ret
        exact ⟨ret_bool HE.out.symm, q, rfl⟩
  · have hne : ((n : Int) != (m : Int)) = true := by rw [bne_iff_ne]; omega
    have hd : decide (ss = ts) = false := by
      rw [decide_eq_false_iff_not]; rintro rfl; exact hnm (hn.symm.trans hm)
    have HD := Lib.hid hd
    clear hd hn hm
    go_enter Tryz.func16, Tryz.ntmps16
    go_wp2
    go_ret
    exact ⟨ret_bool HD.out.symm, 0, rfl⟩
end Go.Proofs.YtiofpeckcfdilaaGreatDoor
