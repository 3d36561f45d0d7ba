/- Contracts of Has, Place and of the reference's SameNames. -/
import Derived.Test.YtgefhgcpnfbigaaChecked
import Derived.Test.YtgefhgcpnfbigaaNmStrs
import Derived.Test.YtgefhgcpnfbigaaShelf
import Derived.WalkKit
import Derived.Lib.Hide
import Derived.Lib.SlicesS
import Derived.Deep.QuietTactic
import Derived.BigQuiet
import Derived.Lib.SlicesCompact
import Derived.Test.YtgefhgcpnfbigaaRef0
import Derived.Maps.OwnOps
import Derived.Maps.OwnSet
import Derived.Maps.Views
import Derived.LoopTactic
import Derived.Laws.Entries
import Derived.Laws.Cover1
import Derived.Sort.Walk0
namespace Go.Proofs.Ytgefhgcpnfbigaa
open Go.RowKit Go.Sort

def baS (l : Str) : ByteArray := ⟨l.toArray⟩
theorem baS_toList (l : Str) : (baS l).toList = l := by rw [ByteArray.toList_eq]; simp [baS]
theorem toList_inj {x y : ByteArray} (h : x.toList = y.toList) : x = y := by
  rw [ByteArray.toList_eq, ByteArray.toList_eq] at h
  exact Go.WideShapes.bytes_inj h
theorem baS_of (x : ByteArray) : baS x.toList = x := toList_inj (baS_toList _)

def plcFrom : List Str → Str → Nat → Int
  | [], _, _ => -1
  | z :: zs, x, i => if z = x then (i : Int) else plcFrom zs x (i + 1)
/-- The least place of a string in a list, or -1. -/
def plc (ss : List Str) (x : Str) : Int := plcFrom ss x 0

theorem idx_plc (x : ByteArray) : ∀ (ss : List Str) (i : Nat), Lib.idxFromS (ss.map baS) x i = plcFrom ss x.toList i
  | [], _ => rfl
  | s :: ss, i => by
    simp only [List.map_cons, Lib.idxFromS, plcFrom, idx_plc x ss (i + 1)]
    by_cases h : baS s = x
    · rw [if_pos h, if_pos (by rw [← h, baS_toList])]
    · rw [if_neg h, if_neg (fun e => h (by rw [e, baS_of]))]

/-- Is a string in a list? (A name of its own, so that no walk takes it apart.) -/
def hasS (ss : List Str) (x : Str) : Bool := ss.contains x
theorem contains_eq (ss : List Str) (x : ByteArray) : Lib.containsS (ss.map baS) x = hasS ss x.toList := by
  unfold hasS
  rw [Bool.eq_iff_iff, Lib.containsS_iff, List.contains_iff_mem, List.mem_map]
  constructor
  · rintro ⟨s, hs, rfl⟩; rw [baS_toList]; exact hs
  · intro h; exact ⟨_, h, baS_of x⟩

theorem Strs.cells {w : World} {bound : Nat} {a : Option Addr} {n : Nat} {ss : List Str} (h : Strs w bound a n ss) (hn : 0 < n) :
    ∃ b off, a = some ⟨b, off, none⟩ ∧ b < bound ∧ ∀ j, j < (ss.map baS).length → w.cell? ⟨b, off + j, none⟩ = some (.string ((ss.map baS).getD j ByteArray.empty)) := by
  obtain ⟨b, off, e, hb, hc⟩ := h.2.2.2 hn
  refine ⟨b, off, e, hb, fun j hj => ?_⟩
  rw [List.length_map] at hj
  rw [hc j ss[j] (List.getElem?_eq_getElem hj)]
  simp [List.getElem?_eq_getElem hj, encStr, baS]

theorem take_more (ss : List Str) (k : Nat) (hk : k < ss.length) : ss.take (k + 1) = ss.take k ++ [ss.getD k []] := by
  rw [List.take_succ_eq_append_getElem hk]
  simp [List.getElem?_eq_getElem hk]

set_option maxHeartbeats 400000 in
theorem same_any (a b : Option Addr) (n m ca cb : Nat) (ss ts : List Str) (w : World) (bound : Nat) (ha : Strs w bound a n ss) (hb : Strs w bound b m ts) :
    Calls Try.prog 52 #[.slice a n ca, .slice b m cb] w fun e w' => e = .returned (.bool (decide (ss = ts))) ∧ ∃ q, w' = w.drewN q := by
  have hn := ha.1
  have hm := hb.1
  have hsn := ha.2.1
  have hsm := hb.2.1
  have HA := Lib.hid ha
  have HB := Lib.hid hb
  clear ha hb
  by_cases hnm : n = m
  · subst hnm
    have HN := Lib.hid hn
    have HM := Lib.hid hm
    clear hn hm
    go_enter Try.func52, Try.ntmps52
    go_wp2
    go_loopw [5] (fun i wr => ∃ k : Nat, k ≤ n ∧ i = .int .i64 k ∧ Hid (ss.take k = ts.take k) ∧ ∃ q, wr = w.drewN q) (fun i _ => n - (intOf i).toNat)
    case atStart => exact ⟨0, Nat.zero_le _, rfl, rfl, 0, rfl⟩
    case round =>
      obtain ⟨k, hk, rfl, hpre, q, rfl⟩ := hrel
      by_cases hlt : k < n
      · obtain ⟨b1, o1, rfl, _, hc1⟩ := HA.out.at_ hlt
        obtain ⟨b2, o2, rfl, _, hc2⟩ := HB.out.at_ hlt
        obtain ⟨x, hx⟩ : ∃ x, x = baS (ss.getD k []) := ⟨_, rfl⟩
        obtain ⟨y, hy⟩ : ∃ y, y = baS (ts.getD k []) := ⟨_, rfl⟩
        replace hc1 : w.cell? { block := b1, off := o1 + k } = some (Value.string x) := by rw [hx]; exact hc1
        replace hc2 : w.cell? { block := b2, off := o2 + k } = some (Value.string y) := by rw [hy]; exact hc2
        have HX := Lib.hid hx
        have HY := Lib.hid hy
        clear hx hy
        go_wp2
        go_quiet (fail)
        go_wp2
        · have hne : decide (ss = ts) = false := by
            rename_i h1
            rw [decide_eq_false_iff_not]
            intro e
            rw [HX.out, HY.out, e] at h1
            simp at h1
          go_ret
          exact ⟨ret_bool hne.symm, q + nq, World.drewN_drewN _ _ _⟩
        · have heq : ss.getD k [] = ts.getD k [] := by
            rename_i h1
            rw [HX.out, HY.out, baS_toList, baS_toList] at h1
            simpa using h1
          refine ⟨⟨k + 1, by omega, by go_num, Lib.hid ?_, q + nq, rfl⟩, by simp [intOf]; omega⟩
          rw [take_more ss k (by rw [HN.out]; exact hlt), take_more ts k (by rw [HM.out]; exact hlt), hpre.out, heq]
      · have he : decide (ss = ts) = true := by
          have hk' : k = n := by omega
          rw [decide_eq_true_eq, ← List.take_of_length_le (l := ss) (Nat.le_of_eq HN.out), ← List.take_of_length_le (l := ts) (Nat.le_of_eq HM.out), ← hk']
          exact hpre.out
        have HE := Lib.hid he
        clear he
        go_wp2
        go_ret
        exact ⟨ret_bool HE.out.symm, q, rfl⟩
  · have hne : ((n : Int) != (m : Int)) = true := by rw [bne_iff_ne]; omega
    have hd : decide (ss = ts) = false := by
      rw [decide_eq_false_iff_not]; rintro rfl; exact hnm (hn.symm.trans hm)
    have HD := Lib.hid hd
    clear hd hn hm
    go_enter Try.func52, Try.ntmps52
    go_wp2
    go_ret
    exact ⟨ret_bool HD.out.symm, 0, rfl⟩
end Go.Proofs.Ytgefhgcpnfbigaa

/- Contract of Put: a new slice with the strings sorted, each once. -/
namespace Go.Proofs.Ytgefhgcpnfbigaa
open Go.RowKit Go.Sort

def sortS (ss : List Str) : List Str := ss.mergeSort fun x y => decide (x ≤ y)
/-- What Put returns. -/
def putS (ss : List Str) (s : Str) : List Str := Lib.compact (sortS (ss ++ [s]))

theorem info9 : (Try.prog.info? 9).map (fun i => (i.zero, i.size, i.bytes)) = some (some (.string ByteArray.empty), 1, 16) := by kernel_rfl
theorem made_strs (n : Nat) (hn : n ≤ 1000) (W : World) : (Instr.makeSlice 23 (.int .i64 0) (.int .i64 ((n : Int) + 1))).run Try.prog W =
    .ok (.slice (some ⟨W.heap.size, 0, none⟩) 0 (n + 1)) (W.alloc (.cells (madeCells #[.string ByteArray.empty] (n + 1)) 9)) := by
  obtain ⟨i, hi, hzz⟩ := Option.map_eq_some_iff.1 info9
  simp only [Prod.mk.injEq] at hzz
  obtain ⟨hz, hs, hb⟩ := hzz
  have hr := run_make (P := Try.prog) W 23 9 i _ Try.underlying23 hi hz .i64 .i64 0 ((n : Int) + 1) (Int.le_refl 0) (by omega) (by rw [hb]; omega) (by omega)
  rw [hs, show (((n : Int) + 1).toNat) = n + 1 from by omega, Nat.mul_one] at hr
  exact hr
theorem own_made (w : World) (n : Nat) (hn : n ≤ 1000) : (w.alloc (.cells (madeCells #[.string ByteArray.empty] (n + 1)) 9)).ownsRow w.heap.size 9 1 (.slice (some ⟨w.heap.size, 0, none⟩) 0 (n + 1)) 0 (([] : List Str).map encStr) :=
  ⟨rfl, .inr ⟨w.heap.size, n + 1, _, rfl, Nat.le_refl _, heap_alloc_new w _, by omega, by unfold maxLen; omega, by simp [madeCells], rfl⟩⟩
/-- A slice of one string, made for a call. -/
theorem strs_one (w : World) (s : ByteArray) (hs : s.size ≤ maxLen) : Strs (w.alloc (.cells #[.string s] 9)) (w.heap.size + 1) (some ⟨w.heap.size, 0, none⟩) 1 [s.toList] :=
  ⟨rfl, by omega, by intro x hx; rw [List.mem_singleton] at hx; rw [hx, ByteArray.toList_eq]; simpa using hs, fun _ => ⟨w.heap.size, 0, rfl, by omega, fun j x hj => by
    have h0 : j = 0 := by
      rcases Nat.eq_zero_or_pos j with h | h
      · exact h
      · rw [List.getElem?_eq_none (by simp; omega)] at hj; cases hj
    subst h0
    have hx : s.toList = x := by simpa using hj
    subst hx
    rw [cell_of_row _ _ _ _ _ _ (heap_alloc_new w _)]
    show some (Value.string s) = some (encStr s.toList)
    rw [show encStr s.toList = Value.string (baS s.toList) from rfl, baS_of]⟩⟩

/-- From what the appends leave: the slice is not nil, its cells hold the strings. -/
theorem put_mid {w w1 w2 : World} {n : Nat} {ss : List Str} {s : ByteArray} {v1 v2 : Value}
    (O2 : w2.ownsRow w.heap.size 9 1 v2 (0 + n + 1) (List.map encStr ([] ++ ss ++ [s.toList])))
    (O1 : w1.ownsRow w.heap.size 9 1 v1 (0 + n) (List.map encStr ([] ++ ss)))
    (G1 : (w.alloc (Obj.cells (madeCells #[Value.string ByteArray.empty] (n + 1)) 9)).grownBy w1 (Value.slice (some ⟨w.heap.size, 0, none⟩) 0 (n + 1)).ownBlock)
    (G2 : (w1.alloc (Obj.cells #[Value.string s] 9)).grownBy w2 v1.ownBlock) :
    ∃ g cap m, ∃ all : List Str, Hid (all = ss ++ [s.toList]) ∧ Hid (all.length = m) ∧ m = n + 1 ∧ v2 = .slice (some ⟨g, 0, none⟩) m cap ∧ w.heap.size ≤ g ∧ g < w2.heap.size ∧ m ≤ cap ∧
      w2.ownsRow w.heap.size 9 1 (.slice (some ⟨g, 0, none⟩) m cap) m (all.map encStr) ∧
      Holds encStr w2 g 0 all.toArray ∧ Below w.heap.size w w2 := by
  have hl : (ss ++ [s.toList]).length = 0 + n + 1 := by have := O2.1; simpa using this
  rw [List.nil_append, ← hl] at O2
  have hnn : v2 ≠ .slice none 0 0 := by
    rintro rfl
    rcases O2.2 with ⟨_, h0⟩ | ⟨g, cap, cur, h0, _⟩
    · simp at h0
    · cases h0
  obtain ⟨g, cap, rfl, hbg, hgl, hncap, hcm, hlen, hH⟩ := Lib.holds_of_ownsRow O2 hnn
  refine ⟨g, cap, _, ss ++ [s.toList], Lib.hid rfl, Lib.hid rfl, by omega, rfl, hbg, hgl, hncap, O2, hH, ?_⟩
  have b0 : Below w.heap.size w (w.alloc (Obj.cells (madeCells #[Value.string ByteArray.empty] (n + 1)) 9)) := (Below.refl _ _).alloc (Nat.le_refl _) _
  have b1 := b0.grown G1 b0.size (fun j hj => by simp [Value.ownBlock] at hj; omega)
  exact (b1.alloc b1.size _).grown G2 (by have := b1.size; simp; omega) (fun j hj => (O1.lt j hj).1)

/-- From what Sort and Compact leave to the contract. -/
theorem put_end {w w2 : World} {g cap nn q m : Nat} {os : Array Obj} {all : List Str} (hm : all.length = m)
    (hown : w2.ownsRow w.heap.size 9 1 (.slice (some ⟨g, 0, none⟩) m cap) m (all.map encStr)) (hbel : Below w.heap.size w w2) (hbg : w.heap.size ≤ g) :
    (putRow encStr (Sort.ahead (grow (putRow encStr (Sort.ahead w2 nn) g 0 (sortS all).toArray) os) q) g 0 (Lib.compact (sortS all) ++ List.replicate (m - (Lib.compact (sortS all)).length) []).toArray).ownsRow w.heap.size 9 1 (.slice (some ⟨g, 0, none⟩) (Lib.compact (sortS all)).length cap) (Lib.compact (sortS all)).length ((Lib.compact (sortS all)).map encStr) ∧
    Below w.heap.size w (putRow encStr (Sort.ahead (grow (putRow encStr (Sort.ahead w2 nn) g 0 (sortS all).toArray) os) q) g 0 (Lib.compact (sortS all) ++ List.replicate (m - (Lib.compact (sortS all)).length) []).toArray) := by
  have hl2 : (sortS all).length = all.length := List.length_mergeSort all
  have hle := Lib.compact_length_le (sortS all)
  subst hm
  rcases hown.2 with ⟨h0, _⟩ | ⟨g', cap', cur, hv, hbase, hb, h1, h2, h3, h4⟩
  · cases h0
  cases hv
  have hs := ownsRow_sorted (n := nn) (os := os) (ts := sortS all) hl2 hbase hb h1 h2 h3
  have hc := Lib.ownsRow_putRow (q := q) (k := (Lib.compact (sortS all)).length) (ys := Lib.compact (sortS all) ++ List.replicate (all.length - (Lib.compact (sortS all)).length) []) hs (by simp; omega) (by omega)
  rw [List.take_left] at hc
  exact ⟨hc, Lib.below_putRow (hbel.grown (grownBy_sorted _) hbel.size (fun j hj => by cases hj; exact hbase)) hbg⟩

end Go.Proofs.Ytgefhgcpnfbigaa

/- Contracts of May and of the reference's NameMay. -/
namespace Go.Proofs.Ytgefhgcpnfbigaa
open Go.RowKit Go.Sort

theorem len_toList (s : ByteArray) : s.toList.length = s.size := by rw [ByteArray.toList_eq]; simp
theorem get_toList (s : ByteArray) (k : Nat) (hk : k < s.size) : s.toList.getD k 0 = s[k] := by
  rw [ByteArray.toList_eq]
  have h : k < s.data.toList.length := by simpa using hk
  rw [List.getD_eq_getElem?_getD, List.getElem?_eq_getElem h]
  rfl
theorem may_short {l : Str} (h : l.length < 1) : may l = false := by
  have : decide (1 ≤ l.length) = false := decide_eq_false (by omega)
  simp [may, this]
theorem may_long {l : Str} (h : 12 < l.length) : may l = false := by
  have : decide (l.length ≤ 12) = false := decide_eq_false (by omega)
  simp [may, this]
theorem may_first {l : Str} (h : isLet ((l.getD 0 0).toNat : Int) = false) : may l = false := by simp only [may, h, Bool.and_false, Bool.false_and]
theorem may_bad {l : Str} {k : Nat} (hk : k < l.length) (h : okB (l.getD k 0) = false) : may l = false := by
  have : l.all okB = false := by
    rw [Bool.eq_false_iff]
    intro ha
    have := List.all_eq_true.1 ha l[k] (List.getElem_mem hk)
    rw [List.getD_eq_getElem?_getD, List.getElem?_eq_getElem hk] at h
    simp only [Option.getD_some] at h
    rw [h] at this
    cases this
  simp only [may, this, Bool.and_false, Bool.false_and]
theorem may_all {l : Str} (h1 : 1 ≤ l.length) (h2 : l.length ≤ 12) (hf : isLet ((l.getD 0 0).toNat : Int) = true) (h : ∀ k, k < l.length → okB (l.getD k 0) = true) : may l = !isKw l := by
  have : l.all okB = true := by
    rw [List.all_eq_true]
    intro c hc
    obtain ⟨k, hk, rfl⟩ := List.getElem_of_mem hc
    have := h k hk
    rwa [List.getD_eq_getElem?_getD, List.getElem?_eq_getElem hk] at this
  unfold may
  rw [this, hf, decide_eq_true h1, decide_eq_true h2]
  simp

set_option maxHeartbeats 1000000 in
theorem may_any (s : ByteArray) (w : World) (hs : s.size ≤ maxLen) : Calls Try.prog 94 #[.string s] w fun e w' => e = .returned (.bool (may s.toList)) ∧ w = w' := by
  unfold maxLen at hs
  have hlen := Lib.hid (len_toList s)
  by_cases h0 : s.size < 1
  · have hm := Lib.hid (may_short (l := s.toList) (by rw [len_toList]; exact h0))
    have d1 : decide ((s.size : Int) < 1) = true := by simp; omega
    go_enter Try.func94, Try.ntmps94
    go_wp2
    go_ret
    exact ⟨ret_bool hm.out.symm, rfl⟩
  have d1 : decide ((s.size : Int) < 1) = false := by simp; omega
  by_cases hbig : 12 < s.size
  · have hm := Lib.hid (may_long (l := s.toList) (by rw [len_toList]; exact hbig))
    have d2 : decide (12 < (s.size : Int)) = true := by simp; omega
    go_enter Try.func94, Try.ntmps94
    go_wp2
    go_ret
    exact ⟨ret_bool hm.out.symm, rfl⟩
  have d2 : decide (12 < (s.size : Int)) = false := by simp; omega
  have hpos : 0 < s.size := by omega
  have hg0 := Lib.hid (get_toList s 0 hpos)
  cases hl : isLet (s[0].toNat : Int)
  · have hm := Lib.hid (may_first (l := s.toList) (by rw [hg0.out]; exact hl))
    go_enter Try.func94, Try.ntmps94
    go_wp2_with (go_at_call 100; refine (letter_any _ _).mono ?_; rintro e w' ⟨rfl, rfl⟩)
    go_ret
    exact ⟨ret_bool hm.out.symm, rfl⟩
  have hf := Lib.hid (show isLet ((s.toList.getD 0 0).toNat : Int) = true by rw [hg0.out]; exact hl)
  go_enter Try.func94, Try.ntmps94
  go_wp2_with (go_at_call 100; refine (letter_any _ _).mono ?_; rintro e w' ⟨rfl, rfl⟩)
  go_loop [20] (fun i => ∃ k : Nat, k ≤ s.size ∧ i = .int .i64 k ∧ Hid (∀ j, j < k → okB (s.toList.getD j 0) = true)) (fun i => s.size - (intOf i).toNat)
  case atStart => exact ⟨0, Nat.zero_le _, rfl, Lib.hid (fun j hj => absurd hj (Nat.not_lt_zero _))⟩
  case round =>
    obtain ⟨k, hk, rfl, hpre⟩ := hrel
    by_cases hlt : k < s.size
    · have hgk := Lib.hid (get_toList s k hlt)
      cases hb1 : isLet (s[k].toNat : Int)
      · cases hb2 : isDig (s[k].toNat : Int)
        · have hm := Lib.hid (may_bad (l := s.toList) (k := k) (by rw [hlen.out]; exact hlt) (by rw [hgk.out]; simp [okB, hb1, hb2]))
          go_wp2_with (first
            | (go_at_call 100; refine (letter_any _ _).mono ?_; rintro e w' ⟨rfl, rfl⟩)
            | (go_at_call 101; refine (digit_any _ _).mono ?_; rintro e w' ⟨rfl, rfl⟩))
          go_ret
          exact ⟨ret_bool hm.out.symm, rfl⟩
        · have hok := Lib.hid (show okB (s.toList.getD k 0) = true by rw [hgk.out]; simp [okB, hb2])
          go_wp2_with (first
            | (go_at_call 100; refine (letter_any _ _).mono ?_; rintro e w' ⟨rfl, rfl⟩)
            | (go_at_call 101; refine (digit_any _ _).mono ?_; rintro e w' ⟨rfl, rfl⟩))
          go_round
          case rel => exact ⟨k + 1, by omega, by go_num, Lib.hid (fun j hj => by
            rcases Nat.lt_or_ge j k with h | h
            · exact hpre.out j h
            · obtain rfl : j = k := by omega
              exact hok.out)⟩
          case measure => simp [intOf]; omega
      · have hok := Lib.hid (show okB (s.toList.getD k 0) = true by rw [hgk.out]; simp [okB, hb1])
        go_wp2_with (first
          | (go_at_call 100; refine (letter_any _ _).mono ?_; rintro e w' ⟨rfl, rfl⟩)
          | (go_at_call 101; refine (digit_any _ _).mono ?_; rintro e w' ⟨rfl, rfl⟩))
        go_round
        case rel => exact ⟨k + 1, by omega, by go_num, Lib.hid (fun j hj => by
          rcases Nat.lt_or_ge j k with h | h
          · exact hpre.out j h
          · obtain rfl : j = k := by omega
            exact hok.out)⟩
        case measure => simp [intOf]; omega
    · have hm := Lib.hid (may_all (l := s.toList) (by rw [hlen.out]; omega) (by rw [hlen.out]; omega) hf.out (fun j hj => hpre.out j (by rw [hlen.out] at hj; omega)))
      go_wp2_with (go_at_call 102; refine (keyword_any _ _).mono ?_; rintro e w' ⟨rfl, rfl⟩)
      go_ret
      exact ⟨ret_bool hm.out.symm, rfl⟩
end Go.Proofs.Ytgefhgcpnfbigaa

/- Contract of numbered. -/
namespace Go.Proofs.Ytgefhgcpnfbigaa
open Go.RowKit Go.Sort

/-- A string, cut so that a name remains a name, followed by the digits of k. -/
def numS (s : Str) (k : Nat) : Str := s.take (12 - (Lib.decDigits k).length) ++ Lib.decDigits k
theorem dec_len (k : Nat) (h : k < 100) : (Lib.decDigits k).length = 1 ∨ (Lib.decDigits k).length = 2 := by
  unfold Lib.decDigits
  split
  · exact .inl rfl
  · right
    unfold Lib.decDigits
    rw [dif_pos (by omega)]
    rfl

theorem num_eq (s d : ByteArray) (k r : Nat) (hd : d = baS (Lib.decDigits k)) (hr : (Lib.decDigits k).length = r) :
    s.extract 0 (min (s.size : Int) ((12 - r : Nat) : Int)).toNat ++ d = baS (numS s.toList k) := by
  have e : (min (s.size : Int) ((12 - r : Nat) : Int)).toNat = min s.size (12 - r) := by omega
  rw [e, hd]
  apply toList_inj
  rw [baS_toList, ByteArray.toList_eq, ByteArray.toList_eq, ByteArray.data_append, ByteArray.data_extract]
  simp only [Array.toList_append, Array.toList_extract, numS, hr, baS, List.extract_eq_take_drop, List.drop_zero, Nat.sub_zero]
  congr 1
  rw [← List.take_take]
  exact List.take_of_length_le (by rw [List.length_take]; have : s.data.toList.length = s.size := by simp
                                   omega)

end Go.Proofs.Ytgefhgcpnfbigaa

/- Plain facts on fresh names: among 42 numbers of two digits one makes a string that a list of 41 lacks. -/
namespace Go.Proofs.Ytgefhgcpnfbigaa
open Go.RowKit Go.Sort

def freshFrom (ss : List Str) (s : Str) : Nat → Nat → Str
  | k, 0 => numS s k
  | k, f + 1 => if hasS ss (numS s k) then freshFrom ss s (k + 1) f else numS s k
/-- What Fresh returns. -/
def freshS (ss : List Str) (s : Str) : Str := if hasS ss s then freshFrom ss s 2 50 else s

theorem fresh_step {ss : List Str} {s : Str} {k : Nat} (hk : k ≤ 51) (h : hasS ss (numS s k) = true) : freshFrom ss s k (52 - k) = freshFrom ss s (k + 1) (52 - (k + 1)) := by
  obtain ⟨f, hf⟩ : ∃ f, 52 - k = f + 1 := ⟨51 - k, by omega⟩
  rw [hf, show 52 - (k + 1) = f from by omega, freshFrom, if_pos h]
theorem fresh_stop {ss : List Str} {s : Str} {k : Nat} (h : hasS ss (numS s k) = false) : freshFrom ss s k (52 - k) = numS s k := by
  cases 52 - k with
  | zero => rfl
  | succ f => rw [freshFrom, h]; rfl

theorem dec_two (k : Nat) (h1 : 10 ≤ k) (h2 : k < 100) : Lib.decDigits k = [UInt8.ofNat (48 + k / 10), UInt8.ofNat (48 + k % 10)] := by
  unfold Lib.decDigits
  rw [dif_neg (by omega)]
  unfold Lib.decDigits
  rw [dif_pos (by omega)]
  rfl
theorem num_inj {s : Str} {j k : Nat} (hj : 10 ≤ j) (hj2 : j < 100) (hk : 10 ≤ k) (hk2 : k < 100) (h : numS s j = numS s k) : j = k := by
  unfold numS at h
  rw [dec_two j hj hj2, dec_two k hk hk2] at h
  have h1 := List.append_cancel_left h
  injection h1 with ha hb
  injection hb with hb _
  have ha' := congrArg UInt8.toNat ha
  have hb' := congrArg UInt8.toNat hb
  simp only [UInt8.toNat_ofNat'] at ha' hb'
  omega
theorem len_of_sub : ∀ (l ss : List Str), l.Nodup → (∀ x ∈ l, x ∈ ss) → l.length ≤ ss.length
  | [], _, _, _ => Nat.zero_le _
  | x :: l, ss, hn, hs => by
    have hx := hs x (by simp)
    have hn' := List.nodup_cons.1 hn
    have := len_of_sub l (ss.erase x) hn'.2 (fun y hy => (List.mem_erase_of_ne (fun e : y = x => hn'.1 (by rw [← e]; exact hy))).2 (hs y (by simp [hy])))
    rw [List.length_erase_of_mem hx] at this
    have h0 : 0 < ss.length := List.length_pos_of_mem hx
    simp only [List.length_cons]
    omega
theorem nodup_nums (s : Str) : ∀ (n b : Nat), 10 ≤ b → b + n ≤ 100 → ((List.range' b n).map (numS s)).Nodup
  | 0, _, _, _ => List.nodup_nil
  | n + 1, b, h1, h2 => by
    rw [List.range'_succ, List.map_cons, List.nodup_cons]
    refine ⟨fun hm => ?_, nodup_nums s n (b + 1) (by omega) (by omega)⟩
    obtain ⟨j, hj, he⟩ := List.mem_map.1 hm
    rw [List.mem_range'_1] at hj
    have := num_inj (by omega) (by omega) h1 (by omega) he
    omega
theorem hasS_iff (ss : List Str) (x : Str) : hasS ss x = true ↔ x ∈ ss := List.contains_iff_mem
/-- Not all of the numbers from 10 to 51 are taken by a list of at most 41 strings. -/
theorem not_all {ss : List Str} {s : Str} (hn : ss.length ≤ 41) (h : ∀ j, 2 ≤ j → j < 52 → hasS ss (numS s j) = true) : False := by
  have hl := len_of_sub ((List.range' 10 42).map (numS s)) ss (nodup_nums s 42 10 (by omega) (by omega)) (fun x hx => by
    obtain ⟨j, hj, rfl⟩ := List.mem_map.1 hx
    rw [List.mem_range'_1] at hj
    exact (hasS_iff _ _).1 (h j (by omega) (by omega)))
  simp at hl
  omega
/-- What Fresh returns is not in the list. -/
theorem freshFrom_new {ss : List Str} {s : Str} (hn : ss.length ≤ 41) : ∀ (f k : Nat), k + f = 52 → (∀ j, 2 ≤ j → j < k → hasS ss (numS s j) = true) → ∃ m, k ≤ m ∧ m ≤ 51 ∧ freshFrom ss s k f = numS s m ∧ hasS ss (numS s m) = false
  | 0, k, hk, h => absurd (not_all (s := s) hn (by obtain rfl : k = 52 := by omega
                                                   exact h)) id
  | f + 1, k, hk, h => by
    rw [freshFrom]
    cases hc : hasS ss (numS s k)
    · exact ⟨k, Nat.le_refl _, by omega, rfl, hc⟩
    · obtain ⟨m, h1, h2, h3, h4⟩ := freshFrom_new (s := s) hn f (k + 1) (by omega) (fun j a b => by
        rcases Nat.lt_or_ge j k with hjk | hjk
        · exact h j a hjk
        · obtain rfl : j = k := by omega
          exact hc)
      exact ⟨m, by omega, h2, h3, h4⟩
theorem freshS_cases (ss : List Str) (s : Str) (hn : ss.length ≤ 41) : (hasS ss s = false ∧ freshS ss s = s) ∨ ∃ m, 2 ≤ m ∧ m ≤ 51 ∧ hasS ss s = true ∧ freshS ss s = numS s m ∧ hasS ss (numS s m) = false := by
  unfold freshS
  cases hc : hasS ss s
  · exact .inl ⟨rfl, rfl⟩
  · obtain ⟨m, h1, h2, h3, h4⟩ := freshFrom_new (s := s) hn 50 2 rfl (fun j a b => by omega)
    exact .inr ⟨m, h1, h2, rfl, h3, h4⟩
theorem num_len (s : Str) (k : Nat) (h : k < 100) : (numS s k).length ≤ 12 := by
  unfold numS
  rw [List.length_append, List.length_take]
  rcases dec_len k h with e | e <;> rw [e] <;> omega
end Go.Proofs.Ytgefhgcpnfbigaa

/- Plain facts on Put: its strings rise strictly, and are those of the list and the new one; that makes it the only such list. -/
namespace Go.Proofs.Ytgefhgcpnfbigaa
open Go.RowKit Go.Sort

abbrev Rises (l : List Str) : Prop := l.Pairwise (· < ·)
theorem lt_of {x y : Str} (h : x ≤ y) (hn : x ≠ y) : x < y := by
  rcases List.le_total y x with k | k
  · exact absurd (List.le_antisymm h k) hn
  · exact List.not_le.1 (fun k' => hn (List.le_antisymm h k'))
theorem sorted_ext : ∀ (l m : List Str), Rises l → Rises m → (∀ x, x ∈ l ↔ x ∈ m) → l = m
  | [], [], _, _, _ => rfl
  | [], y :: m, _, _, h => absurd ((h y).2 (by simp)) (by simp)
  | x :: l, [], _, _, h => absurd ((h x).1 (by simp)) (by simp)
  | x :: l, y :: m, hl, hm, h => by
    have hl' := List.pairwise_cons.1 hl
    have hm' := List.pairwise_cons.1 hm
    have hxy : x = y := by
      rcases List.mem_cons.1 ((h x).1 (by simp)) with e | hx
      · exact e
      · rcases List.mem_cons.1 ((h y).2 (by simp)) with e | hy
        · exact e.symm
        · exact absurd (List.lt_trans (hl'.1 y hy) (hm'.1 x hx)) (List.lt_irrefl x)
    subst hxy
    rw [sorted_ext l m hl'.2 hm'.2 (fun z => ⟨fun hz => by
      rcases List.mem_cons.1 ((h z).1 (by simp [hz])) with e | k
      · subst e; exact absurd (hl'.1 z hz) (List.lt_irrefl z)
      · exact k, fun hz => by
      rcases List.mem_cons.1 ((h z).2 (by simp [hz])) with e | k
      · subst e; exact absurd (hm'.1 z hz) (List.lt_irrefl z)
      · exact k⟩)]

def Up (d : Array Str) : Prop := ∀ i j, i < j → j < d.size → d[i]! ≤ d[j]!
theorem mem_upTo (d : Array Str) (x : Str) : ∀ m, x ∈ Lib.compactUpTo d m ↔ ∃ j, j < m ∧ d[j]! = x
  | 0 => by simp [Lib.compactUpTo]
  | m + 1 => by
    rw [Lib.compactUpTo_succ, List.mem_append, mem_upTo d x m]
    constructor
    · rintro (⟨j, hj, e⟩ | h)
      · exact ⟨j, by omega, e⟩
      · split at h
        · exact ⟨m, by omega, (List.mem_singleton.1 h).symm⟩
        · cases h
    · rintro ⟨j, hj, e⟩
      rcases Nat.lt_or_ge j m with h | h
      · exact .inl ⟨j, h, e⟩
      · obtain rfl : j = m := by omega
        cases hk : Lib.keeps d j
        · have : ¬ (j = 0 ∨ d[j]! ≠ d[j - 1]!) := by simpa [Lib.keeps] using hk
          simp only [not_or, Decidable.not_not] at this
          exact .inl ⟨j - 1, by omega, by rw [← this.2]; exact e⟩
        · exact .inr (by simp [e])
theorem upTo_rises (d : Array Str) (hu : Up d) : ∀ m, m ≤ d.size → Rises (Lib.compactUpTo d m)
  | 0, _ => List.Pairwise.nil
  | m + 1, hm => by
    rw [Lib.compactUpTo_succ]
    refine List.pairwise_append.2 ⟨upTo_rises d hu m (by omega), by split <;> simp, fun y hy z hz => ?_⟩
    cases hk : Lib.keeps d m
    · rw [hk] at hz; cases hz
    · rw [hk] at hz
      obtain rfl := List.mem_singleton.1 hz
      obtain ⟨j, hj, rfl⟩ := (mem_upTo d y m).1 hy
      have hne : d[m]! ≠ d[m - 1]! := by
        have : m = 0 ∨ d[m]! ≠ d[m - 1]! := by simpa [Lib.keeps] using hk
        rcases this with h | h
        · omega
        · exact h
      have h1 : d[j]! ≤ d[m - 1]! := by
        rcases Nat.lt_or_ge j (m - 1) with h | h
        · exact hu j (m - 1) h (by omega)
        · obtain rfl : j = m - 1 := by omega
          exact List.le_refl _
      exact List.lt_of_le_of_lt h1 (lt_of (hu (m - 1) m (by omega) (by omega)) hne.symm)
theorem up_of_pairwise {l : List Str} (h : l.Pairwise (· ≤ ·)) : Up l.toArray := by
  intro i j hij hj
  have hj' : j < l.length := by simpa using hj
  have := List.pairwise_iff_getElem.1 h i j (by omega) hj' hij
  simpa [getElem!_pos, hj', show i < l.length from by omega] using this
theorem sortS_up (ss : List Str) : (sortS ss).Pairwise (· ≤ ·) := by
  have := List.pairwise_mergeSort (le := fun (x y : Str) => decide (x ≤ y)) (fun a b c h k => by
    simp only [decide_eq_true_eq] at *; exact List.le_trans h k) (fun a b => by
    simp only [Bool.or_eq_true, decide_eq_true_eq]; exact List.le_total a b) ss
  exact this.imp (fun h => by simpa using h)
theorem putS_rises (ss : List Str) (s : Str) : Rises (putS ss s) :=
  upTo_rises _ (up_of_pairwise (sortS_up _)) _ (by simp)
theorem mem_putS (ss : List Str) (s x : Str) : x ∈ putS ss s ↔ x ∈ ss ∨ x = s := by
  unfold putS Lib.compact
  rw [mem_upTo]
  have hm : x ∈ sortS (ss ++ [s]) ↔ x ∈ ss ∨ x = s := by
    rw [show x ∈ sortS (ss ++ [s]) ↔ x ∈ ss ++ [s] from (List.mergeSort_perm _ _).mem_iff]; simp
  rw [← hm]
  constructor
  · rintro ⟨j, hj, e⟩
    subst e
    simp [hj]
  · intro h
    obtain ⟨j, hj, e⟩ := List.getElem_of_mem h
    exact ⟨j, hj, by simpa [getElem!_pos, hj] using e⟩
/-- The only list that rises strictly and has just these strings. -/
theorem putS_only {ss l : List Str} {s : Str} (h : Rises l) (hm : ∀ x, x ∈ l ↔ x ∈ ss ∨ x = s) : putS ss s = l :=
  sorted_ext _ _ (putS_rises ss s) h (fun x => by rw [mem_putS, hm])
theorem rises_nodup {l : List Str} (h : Rises l) : l.Nodup := h.imp (fun {a b} hab e => by subst e; exact List.lt_irrefl a hab)
theorem putS_len (ss : List Str) (s : Str) : (putS ss s).length ≤ ss.length + 1 := by
  have := len_of_sub (putS ss s) (ss ++ [s]) (rises_nodup (putS_rises ss s)) (fun x hx => by simpa using (mem_putS ss s x).1 hx)
  simpa using this
theorem twice_of : ∀ (m : List Str), ¬ m.Nodup → ∃ x ∈ m, ∀ y ∈ m, y ∈ m.erase x
  | [], h => absurd List.nodup_nil h
  | a :: t, h => by
    by_cases ha : a ∈ t
    · refine ⟨a, by simp, fun y hy => ?_⟩
      rw [List.erase_cons_head]
      rcases List.mem_cons.1 hy with rfl | hy
      · exact ha
      · exact hy
    · obtain ⟨x, hx, hall⟩ := twice_of t (fun hn => h (List.nodup_cons.2 ⟨ha, hn⟩))
      have hne : a ≠ x := fun e => ha (by rw [e]; exact hx)
      refine ⟨x, by simp [hx], fun y hy => ?_⟩
      rw [List.erase_cons_tail (by simpa using hne)]
      rcases List.mem_cons.1 hy with rfl | hy
      · simp
      · simp [hall y hy]
theorem putS_full (ss : List Str) (s : Str) : (putS ss s).length = ss.length + 1 ↔ ss.Nodup ∧ s ∉ ss := by
  constructor
  · intro h
    have hn : (ss ++ [s]).Nodup := by
      by_cases hn : (ss ++ [s]).Nodup
      · exact hn
      · obtain ⟨x, hx, hall⟩ := twice_of _ hn
        have := len_of_sub (putS ss s) ((ss ++ [s]).erase x) (rises_nodup (putS_rises ss s)) (fun y hy => hall y (by simpa using (mem_putS ss s y).1 hy))
        rw [List.length_erase_of_mem hx, h] at this
        simp at this
        omega
    rw [List.nodup_append] at hn
    exact ⟨hn.1, fun hs => hn.2.2 s hs s (by simp) rfl⟩
  · rintro ⟨h1, h2⟩
    have hn : (ss ++ [s]).Nodup := by
      rw [List.nodup_append]
      exact ⟨h1, by simp, fun a ha b hb e => h2 (by rw [List.mem_singleton] at hb; rw [← hb, ← e]; exact ha)⟩
    have := len_of_sub (ss ++ [s]) (putS ss s) hn (fun x hx => (mem_putS ss s x).2 (by simpa using hx))
    have h3 := putS_len ss s
    simp at this
    omega
end Go.Proofs.Ytgefhgcpnfbigaa

/- Contracts of set and Once: a map from strings to bool that the call makes. -/
namespace Go.Proofs.Ytgefhgcpnfbigaa
open Go.RowKit Go.Sort Go.Maps Go.WideMaps

def keyL (s : Str) : Lit := .string s
def keysL (ss : List Str) : List Lit := ss.map keyL
/-- The set of some strings, as the datum of a map. -/
def setD (ss : List Str) : DataW Unit := setOf (.lit (.bool true)) (keysL ss)
theorem setD_nil : setD [] = .map [] := rfl
theorem setD_more (ss : List Str) (k : Nat) (hk : k < ss.length) : setD (ss.take (k + 1)) = (setD (ss.take k)).put (keyL (ss.getD k [])) (.lit (.bool true)) := by
  unfold setD keysL
  rw [take_more ss k hk, List.map_append]
  exact setOf_snoc _ _ _
theorem keysL_ok (ss : List Str) : ∀ x ∈ keysL ss, WideAt.IsKeyLit x := by
  intro x hx
  obtain ⟨s, _, rfl⟩ := List.mem_map.1 hx
  trivial
theorem at_setOf (z : DataW Unit) (k : Str) : ∀ (ss : List Str) (m : DataW Unit), IsMap m → ((keysL ss).foldl (fun m x => m.put x (.lit (.bool true))) m).atKey (keyL k) z = if ss.contains k then .lit (.bool true) else m.atKey (keyL k) z
  | [], _, _ => rfl
  | s :: ss, m, hm => by
    show ((keysL ss).foldl _ (m.put (keyL s) _)).atKey (keyL k) z = _
    rw [at_setOf z k ss _ (hm.put _ _), List.contains_cons]
    by_cases h : ss.contains k = true
    · rw [if_pos h, if_pos (by rw [h, Bool.or_true])]
    · rw [if_neg h]
      by_cases hs : k = s
      · subst hs
        rw [if_pos (by simp)]
        exact atKey_put_same hm (show WideAt.IsKeyLit (keyL k) from trivial) _ _
      · rw [atKey_put_other (k := keyL s) (k' := keyL k) (fun e => hs (by injection e)), if_neg]
        rw [Bool.not_eq_true] at h
        rw [h]
        simp [hs]
theorem at_setD (k : Str) (ss : List Str) : (setD ss).atKey (keyL k) (.lit (.bool false)) = .lit (.bool (hasS ss k)) := by
  unfold setD setOf
  rw [at_setOf _ k ss _ isMap_empty]
  unfold hasS
  cases ss.contains k <;> rfl

/-- How many strings are in a list, each counted once. -/
def once (ss : List Str) : Bool := decide (Maps.size (setD ss) = ss.length)
theorem addKey_len (acc : List Lit) (x : Lit) : (addKey acc x).length ≤ acc.length + 1 := by
  unfold addKey; split <;> simp
theorem fold_len : ∀ (xs acc : List Lit), (xs.foldl addKey acc).length ≤ acc.length + xs.length
  | [], _ => Nat.le_refl _
  | x :: xs, acc => by
    have h1 := fold_len xs (addKey acc x)
    have h2 := addKey_len acc x
    simp only [List.foldl_cons, List.length_cons]
    omega
theorem fold_full : ∀ (ss acc : List Str), (∀ s ∈ ss, s ∉ acc) → ss.Nodup → ((keysL ss).foldl addKey (keysL acc)).length = acc.length + ss.length
  | [], acc, _, _ => by simp [keysL]
  | s :: ss, acc, hd, hn => by
    have hno : (keysL acc).any (fun y => y.sameKey (keyL s)) = false := by
      rw [List.any_eq_false]
      intro y hy
      obtain ⟨u, hu, rfl⟩ := List.mem_map.1 hy
      have : u ≠ s := fun e => hd s (by simp) (e ▸ hu)
      simp [keyL, Lit.sameKey, this]
    show ((keysL ss).foldl addKey (addKey (keysL acc) (keyL s))).length = _
    have e : addKey (keysL acc) (keyL s) = keysL (acc ++ [s]) := by
      unfold addKey; rw [hno]; simp [keysL]
    rw [e, fold_full ss (acc ++ [s]) (fun x hx => by
      have := List.nodup_cons.1 hn
      simp only [List.mem_append, List.mem_singleton, not_or]
      exact ⟨hd x (by simp [hx]), fun ex => this.1 (ex ▸ hx)⟩) (List.nodup_cons.1 hn).2]
    simp; omega
theorem fold_less : ∀ (ss acc : List Str), ((keysL ss).foldl addKey (keysL acc)).length = acc.length + ss.length → (∀ s ∈ ss, s ∉ acc) ∧ ss.Nodup
  | [], acc, _ => ⟨by simp, List.nodup_nil⟩
  | s :: ss, acc, h => by
    by_cases hs : s ∈ acc
    · have hyes : (keysL acc).any (fun y => y.sameKey (keyL s)) = true := by
        rw [List.any_eq_true]
        exact ⟨keyL s, List.mem_map.2 ⟨s, hs, rfl⟩, by simp [keyL, Lit.sameKey]⟩
      have e : addKey (keysL acc) (keyL s) = keysL acc := by unfold addKey; rw [hyes]; rfl
      have h' : ((keysL ss).foldl addKey (addKey (keysL acc) (keyL s))).length = acc.length + (ss.length + 1) := h
      rw [e] at h'
      have := fold_len (keysL ss) (keysL acc)
      simp [keysL] at this h'
      omega
    · have hno : (keysL acc).any (fun y => y.sameKey (keyL s)) = false := by
        rw [List.any_eq_false]
        intro y hy
        obtain ⟨u, hu, rfl⟩ := List.mem_map.1 hy
        have : u ≠ s := fun e => hs (e ▸ hu)
        simp [keyL, Lit.sameKey, this]
      have e : addKey (keysL acc) (keyL s) = keysL (acc ++ [s]) := by unfold addKey; rw [hno]; simp [keysL]
      have h' : ((keysL ss).foldl addKey (addKey (keysL acc) (keyL s))).length = acc.length + (ss.length + 1) := h
      rw [e] at h'
      obtain ⟨h1, h2⟩ := fold_less ss (acc ++ [s]) (by rw [h']; simp; omega)
      refine ⟨fun x hx => ?_, List.nodup_cons.2 ⟨fun hm => ?_, h2⟩⟩
      · rcases List.mem_cons.1 hx with rfl | hx
        · exact hs
        · exact fun hxa => h1 x hx (by simp [hxa])
      · exact h1 s hm (by simp)
/-- The set has as many strings as the list just if no string stands twice in it. -/
theorem once_iff (ss : List Str) : once ss = true ↔ ss.Nodup := by
  unfold once
  rw [decide_eq_true_eq, setD, size_setOf _ _ (keysL_ok ss)]
  constructor
  · intro h; exact (fold_less ss [] (by simpa [keysL] using h)).2
  · intro h; simpa [keysL] using fold_full ss [] (by simp) h

theorem made_map {P : Program} {t k e : TypeId} (ht : P.underlying t = some (.map k e)) (q : IntKind) (n : Int) (W : World) :
    (Instr.makeMap t (some (.int q n))).run P W = .ok (.map (some W.heap.size)) (W.alloc (.map #[] 0)) := by
  simp [Instr.makeMap, run_underlying ht]; rfl
theorem keyed9 : Keyed Try.prog 9 := string_keyed Try.underlying9
theorem key_ok (s : Str) (h : s.length ≤ maxLen) : keyOf Try.prog 9 (.string (baS s)) = some (keyL s) :=
  keyOf_string_mk Try.underlying9 (by simpa [baS, ByteArray.size] using h)

end Go.Proofs.Ytgefhgcpnfbigaa

/- Contract of Fresh. -/
namespace Go.Proofs.Ytgefhgcpnfbigaa
open Go.RowKit Go.Sort Go.Maps Go.WideMaps

end Go.Proofs.Ytgefhgcpnfbigaa

/- Contract of first: the chapter's examples come out as it says. -/
namespace Go.Proofs.Ytgefhgcpnfbigaa
open Go.RowKit Go.Sort

/-- A slice of some strings, as a call makes it of its elements. -/
theorem strs_new (w : World) (cs : Array Value) (ss : List Str) (n : Nat) (hc : cs = (ss.map encStr).toArray) (hn : ss.length = n) (hl : n ≤ 1000) (hm : ∀ s ∈ ss, s.length ≤ 1000) :
    Strs (w.alloc (.cells cs 9)) (w.alloc (.cells cs 9)).heap.size (some ⟨w.heap.size, 0, none⟩) n ss :=
  ⟨hn, by omega, fun s hs => Nat.le_trans (hm s hs) (by unfold maxLen; omega), fun _ => ⟨w.heap.size, 0, rfl, by simp, fun j s hj => by
    rw [cell_of_row _ _ _ _ _ _ (heap_alloc_new w _), hc, Nat.zero_add]
    simp [hj]⟩⟩
theorem bel_drewN {B : Nat} {a w : World} (h : Below B a w) (n : Nat) : Below B a (w.drewN n) := ⟨h.os, h.tape, h.output, h.size, h.block⟩
theorem strs_at (w : World) (b : Nat) (hb : w.heap.size = b) (cs : Array Value) (ss : List Str) (n : Nat) (hc : cs = (ss.map encStr).toArray) (hn : ss.length = n) (hl : n ≤ 1000) (hm : ∀ s ∈ ss, s.length ≤ 1000) :
    Strs (w.alloc (.cells cs 9)) (w.alloc (.cells cs 9)).heap.size (some ⟨b, 0, none⟩) n ss := by
  subst hb; exact strs_new w cs ss n hc hn hl hm
theorem lit_list (l : Str) (x : ByteArray) (h : x = baS l) : x.toList = l := by rw [h, baS_toList]
theorem dec_one (k : Nat) (h : k < 10) : Lib.decDigits k = [UInt8.ofNat (48 + k)] := by unfold Lib.decDigits; rw [dif_pos h]

theorem may1 (w : World) : Calls Try.prog 94 #[.string ⟨#[115, 101, 108, 108, 101, 114, 50]⟩] w fun e w' => e = .returned (.bool true) ∧ w = w' := by
  have h := may_any ⟨#[115, 101, 108, 108, 101, 114, 50]⟩ w (by simp [maxLen, ByteArray.size])
  rwa [lit_list [115, 101, 108, 108, 101, 114, 50] ⟨#[115, 101, 108, 108, 101, 114, 50]⟩ rfl, show may [115, 101, 108, 108, 101, 114, 50] = true by decide] at h
theorem may2 (w : World) : Calls Try.prog 94 #[.string ⟨#[115, 97, 121]⟩] w fun e w' => e = .returned (.bool false) ∧ w = w' := by
  have h := may_any ⟨#[115, 97, 121]⟩ w (by simp [maxLen, ByteArray.size])
  rwa [lit_list [115, 97, 121] ⟨#[115, 97, 121]⟩ rfl, show may [115, 97, 121] = false by decide] at h
theorem may3 (w : World) : Calls Try.prog 94 #[.string ⟨#[]⟩] w fun e w' => e = .returned (.bool false) ∧ w = w' := by
  have h := may_any ⟨#[]⟩ w (by simp [maxLen, ByteArray.size])
  rwa [lit_list [] ⟨#[]⟩ rfl, show may [] = false by decide] at h
theorem kw1 (w : World) : Calls Try.prog 102 #[.string ⟨#[115, 97, 121]⟩] w fun e w' => e = .returned (.bool true) ∧ w = w' := by
  have h := keyword_any ⟨#[115, 97, 121]⟩ w
  rwa [lit_list [115, 97, 121] ⟨#[115, 97, 121]⟩ rfl, show isKw [115, 97, 121] = true by decide] at h
theorem put1 : putS [[98], [97], [98]] [99] = [[97], [98], [99]] :=
  putS_only (ss := [[98], [97], [98]]) (l := [[97], [98], [99]]) (by decide) (fun x => by
    simp only [List.mem_cons, List.not_mem_nil, or_false]
    constructor
    · rintro (h | h | h) <;> simp [h]
    · rintro ((h | h | h) | h) <;> simp [h])
/-- The slice that the walk makes of three strings beside one that holds the same three. -/
theorem same1 (w : World) (a : Option Addr) (c : Nat) {bound : Nat} (h : Strs w bound a 3 [[97], [98], [99]]) (hb : bound ≤ w.heap.size) :
    Calls Try.prog 52 #[.slice a 3 c, .slice (some ⟨w.heap.size, 0, none⟩) 3 3] (w.alloc (.cells #[.string ⟨#[97]⟩, .string ⟨#[98]⟩, .string ⟨#[99]⟩] 9)) fun e w' =>
      e = .returned (.bool true) ∧ ∃ q, w' = (w.alloc (.cells #[.string ⟨#[97]⟩, .string ⟨#[98]⟩, .string ⟨#[99]⟩] 9)).drewN q :=
  same_any a _ 3 3 c 3 [[97], [98], [99]] [[97], [98], [99]] _ _ ((h.alloc hb _).more (by simp; omega)) (strs_new w #[.string ⟨#[97]⟩, .string ⟨#[98]⟩, .string ⟨#[99]⟩] [[97], [98], [99]] 3 rfl rfl (by omega) (by decide))

end Go.Proofs.Ytgefhgcpnfbigaa

/- The law NamesFresh returns true for every list and string. -/
namespace Go.Proofs.Ytgefhgcpnfbigaa
open Go.RowKit Go.Sort

theorem quiet_at {P : Program} {f : FuncId} {args : Array Value} {w : World} {n : Nat} {v : Value} (h : Calls P f args (w.drewN n) fun e w' => e = .returned v ∧ w.drewN n = w') :
    Calls P f args (w.drewN n) fun e w' => e = .returned v ∧ ∃ m, w' = w.drewN m := h.mono fun _ _ ⟨he, hm⟩ => ⟨he, n, hm.symm⟩
theorem num_first (s : Str) (k : Nat) (hk : k < 100) (hs : 1 ≤ s.length) : 1 ≤ (numS s k).length ∧ (numS s k).getD 0 0 = s.getD 0 0 := by
  unfold numS
  obtain ⟨c, t, rfl⟩ : ∃ c t, s = c :: t := by
    cases s with
    | nil => simp at hs
    | cons c t => exact ⟨c, t, rfl⟩
  rcases dec_len k hk with e | e <;> rw [e] <;> exact ⟨by simp, rfl⟩
theorem fresh_law (ss : List Str) (s : Str) (hn : ss.length ≤ 40) : hasS ss (freshS ss s) = false ∧ hasS ss (freshS (freshS ss s :: ss) s) = false ∧ freshS ss s ≠ freshS (freshS ss s :: ss) s ∧
    (hasS ss s = false → freshS ss s = s) ∧ (may s = true → 1 ≤ (freshS ss s).length ∧ (freshS ss s).length ≤ 12 ∧ (freshS ss s).getD 0 0 = s.getD 0 0) := by
  have new : ∀ tt : List Str, tt.length ≤ 41 → freshS tt s ∉ tt := fun tt ht hm => by
    rcases freshS_cases tt s ht with ⟨h, e⟩ | ⟨m, _, _, _, e, h⟩
    · rw [e, ← hasS_iff, h] at hm; cases hm
    · rw [e, ← hasS_iff, h] at hm; cases hm
  have h1 := new ss (by omega)
  have h2 := new (freshS ss s :: ss) (by simp; omega)
  refine ⟨by rw [← Bool.not_eq_true, hasS_iff]; exact h1, by rw [← Bool.not_eq_true, hasS_iff]; exact fun h => h2 (by simp [h]), fun e => h2 (by rw [← e]; simp), fun h => ?_, fun h => ?_⟩
  · rcases freshS_cases ss s (by omega) with ⟨_, e⟩ | ⟨m, _, _, h', _⟩
    · exact e
    · rw [h] at h'; cases h'
  · have hs : 1 ≤ s.length ∧ s.length ≤ 12 := by
      unfold may at h
      simp only [Bool.and_eq_true, decide_eq_true_eq] at h
      exact ⟨h.1.1.1.1, h.1.1.1.2⟩
    rcases freshS_cases ss s (by omega) with ⟨_, e⟩ | ⟨m, _, hm, _, e, _⟩
    · rw [e]; exact ⟨hs.1, hs.2, rfl⟩
    · rw [e]
      have := num_first s m (by omega) hs.1
      exact ⟨this.1, num_len s m (by omega), this.2⟩
theorem own_one (w : World) (x : ByteArray) : (w.alloc (.cells #[.string x] 9)).ownsRow w.heap.size 9 1 (.slice (some ⟨w.heap.size, 0, none⟩) 1 1) 1 (([x.toList] : List Str).map encStr) :=
  ⟨rfl, .inr ⟨w.heap.size, 1, _, rfl, Nat.le_refl _, heap_alloc_new w _, Nat.le_refl _, by unfold maxLen; omega, rfl, by
    show [Value.string x] = [encStr x.toList]
    rw [show encStr x.toList = Value.string (baS x.toList) from rfl, baS_of]⟩⟩

end Go.Proofs.Ytgefhgcpnfbigaa

/- The law NamesPut returns true for every list and string. -/
namespace Go.Proofs.Ytgefhgcpnfbigaa
open Go.RowKit Go.Sort

theorem plc_from (x : Str) : ∀ (ss : List Str) (i : Nat), x ∈ ss → 0 ≤ plcFrom ss x i
  | [], _, h => by cases h
  | z :: zs, i, h => by
    unfold plcFrom
    split
    · omega
    · rename_i hz
      rcases List.mem_cons.1 h with e | h
      · exact absurd e.symm hz
      · exact plc_from x zs (i + 1) h

end Go.Proofs.Ytgefhgcpnfbigaa

/- Contracts of the reference's NameMay, Place, Has and Once. -/
namespace Go.Proofs.Ytgefhgcpnfbigaa
open Go.RowKit Go.Sort

set_option maxHeartbeats 1000000 in
theorem refMay_any (s : ByteArray) (w : World) (hs : s.size ≤ maxLen) : Calls Try.prog 96 #[.string s] w fun e w' => e = .returned (.bool (may s.toList)) ∧ w = w' := by
  unfold maxLen at hs
  have hlen := Lib.hid (len_toList s)
  by_cases h0 : s.size < 1
  · have hm := Lib.hid (may_short (l := s.toList) (by rw [len_toList]; exact h0))
    have d1 : decide ((s.size : Int) < 1) = true := by simp; omega
    go_enter Try.func96, Try.ntmps96
    go_wp2
    go_ret
    exact ⟨ret_bool hm.out.symm, rfl⟩
  have d1 : decide ((s.size : Int) < 1) = false := by simp; omega
  by_cases hbig : 12 < s.size
  · have hm := Lib.hid (may_long (l := s.toList) (by rw [len_toList]; exact hbig))
    have d2 : decide (12 < (s.size : Int)) = true := by simp; omega
    go_enter Try.func96, Try.ntmps96
    go_wp2
    go_ret
    exact ⟨ret_bool hm.out.symm, rfl⟩
  have d2 : decide (12 < (s.size : Int)) = false := by simp; omega
  have hpos : 0 < s.size := by omega
  have hg0 := Lib.hid (get_toList s 0 hpos)
  cases hl : isLet (s[0].toNat : Int)
  · have hm := Lib.hid (may_first (l := s.toList) (by rw [hg0.out]; exact hl))
    go_enter Try.func96, Try.ntmps96
    go_wp2_with (go_at_call 104; refine (refLetter_any _ _).mono ?_; rintro e w' ⟨rfl, rfl⟩)
    go_ret
    exact ⟨ret_bool hm.out.symm, rfl⟩
  have hf := Lib.hid (show isLet ((s.toList.getD 0 0).toNat : Int) = true by rw [hg0.out]; exact hl)
  cases hkw : isKw s.toList
  · have ck : ∀ W, Calls Try.prog 105 #[.string s] W fun e w' => e = .returned (.bool false) ∧ W = w' := fun W => by
      have h := refKeyword_any s W
      rwa [hkw] at h
    have HK := Lib.hid hkw
    have CK := Lib.hid ck
    clear hkw ck
    go_enter Try.func96, Try.ntmps96
    go_wp2_with (first
      | (go_at_call 104; refine (refLetter_any _ _).mono ?_; rintro e w' ⟨rfl, rfl⟩)
      | (go_at_call 105; refine (CK.out _).mono ?_; rintro e w' ⟨rfl, rfl⟩))
    go_loop [3] (fun i => ∃ k : Nat, 1 ≤ k ∧ k ≤ s.size ∧ i = .int .i64 k ∧ Hid (∀ j, j < k → okB (s.toList.getD j 0) = true)) (fun i => s.size - (intOf i).toNat)
    case atStart => exact ⟨1, Nat.le_refl _, hpos, rfl, Lib.hid (fun j hj => by
      obtain rfl : j = 0 := by omega
      unfold okB
      rw [hf.out]; rfl)⟩
    case round =>
      obtain ⟨k, hk1, hk, rfl, hpre⟩ := hrel
      by_cases hlt : k < s.size
      · have hgk := Lib.hid (get_toList s k hlt)
        cases hb1 : isLet (s[k].toNat : Int)
        · cases hb2 : isDig (s[k].toNat : Int)
          · have hm := Lib.hid (may_bad (l := s.toList) (k := k) (by rw [hlen.out]; exact hlt) (by rw [hgk.out]; simp [okB, hb1, hb2]))
            go_wp2_with (first
              | (go_at_call 104; refine (refLetter_any _ _).mono ?_; rintro e w' ⟨rfl, rfl⟩)
              | (go_at_call 106; refine (refDigit_any _ _).mono ?_; rintro e w' ⟨rfl, rfl⟩))
            go_ret
            exact ⟨ret_bool hm.out.symm, rfl⟩
          · have hok := Lib.hid (show okB (s.toList.getD k 0) = true by rw [hgk.out]; simp [okB, hb2])
            go_wp2_with (first
              | (go_at_call 104; refine (refLetter_any _ _).mono ?_; rintro e w' ⟨rfl, rfl⟩)
              | (go_at_call 106; refine (refDigit_any _ _).mono ?_; rintro e w' ⟨rfl, rfl⟩))
            go_round
            case rel => exact ⟨k + 1, by omega, by omega, by go_num, Lib.hid (fun j hj => by
              rcases Nat.lt_or_ge j k with h | h
              · exact hpre.out j h
              · obtain rfl : j = k := by omega
                exact hok.out)⟩
            case measure => simp [intOf]; omega
        · have hok := Lib.hid (show okB (s.toList.getD k 0) = true by rw [hgk.out]; simp [okB, hb1])
          go_wp2_with (first
            | (go_at_call 104; refine (refLetter_any _ _).mono ?_; rintro e w' ⟨rfl, rfl⟩)
            | (go_at_call 106; refine (refDigit_any _ _).mono ?_; rintro e w' ⟨rfl, rfl⟩))
          go_round
          case rel => exact ⟨k + 1, by omega, by omega, by go_num, Lib.hid (fun j hj => by
            rcases Nat.lt_or_ge j k with h | h
            · exact hpre.out j h
            · obtain rfl : j = k := by omega
              exact hok.out)⟩
          case measure => simp [intOf]; omega
      · have hm := Lib.hid ((may_all (l := s.toList) (by rw [hlen.out]; omega) (by rw [hlen.out]; omega) hf.out (fun j hj => hpre.out j (by rw [hlen.out] at hj; omega))).trans (by rw [HK.out]))
        go_wp2
        go_ret
        exact ⟨ret_bool hm.out.symm, rfl⟩
  · have ck : ∀ W, Calls Try.prog 105 #[.string s] W fun e w' => e = .returned (.bool true) ∧ W = w' := fun W => by
      have h := refKeyword_any s W
      rwa [hkw] at h
    have hm := Lib.hid (show may s.toList = false by unfold may; rw [hkw]; simp)
    have CK := Lib.hid ck
    clear hkw ck
    go_enter Try.func96, Try.ntmps96
    go_wp2_with (first
      | (go_at_call 104; refine (refLetter_any _ _).mono ?_; rintro e w' ⟨rfl, rfl⟩)
      | (go_at_call 105; refine (CK.out _).mono ?_; rintro e w' ⟨rfl, rfl⟩))
    go_ret
    exact ⟨ret_bool hm.out.symm, rfl⟩

theorem plc_has (x : Str) : ∀ (ss : List Str) (i : Nat), decide (0 ≤ plcFrom ss x i) = hasS ss x
  | [], _ => rfl
  | z :: zs, i => by
    have ih := plc_has x zs (i + 1)
    unfold hasS at ih ⊢
    unfold plcFrom
    rw [List.contains_cons]
    by_cases h : z = x
    · subst h; simp
    · rw [if_neg h, ih, beq_eq_false_iff_ne.2 (fun e => h e.symm), Bool.false_or]
theorem plc_step {ss : List Str} {x : Str} {k : Nat} (hk : k < ss.length) (hne : ss.getD k [] ≠ x) : plcFrom (ss.drop k) x k = plcFrom (ss.drop (k + 1)) x (k + 1) := by
  rw [List.drop_eq_getElem_cons hk, plcFrom, if_neg (by rw [List.getD_eq_getElem?_getD, List.getElem?_eq_getElem hk] at hne; exact hne)]
theorem plc_hit {ss : List Str} {x : Str} {k : Nat} (hk : k < ss.length) (he : ss.getD k [] = x) : plcFrom (ss.drop k) x k = (k : Int) := by
  rw [List.drop_eq_getElem_cons hk, plcFrom, if_pos (by rw [List.getD_eq_getElem?_getD, List.getElem?_eq_getElem hk] at he; exact he)]

set_option maxHeartbeats 400000 in
theorem refPlace_any (a : Option Addr) (n c : Nat) (ss : List Str) (x : ByteArray) (w : World) (bound : Nat) (h : Strs w bound a n ss) :
    Calls Try.prog 88 #[.slice a n c, .string x] w fun e w' => e = .returned (.int .i64 (plc ss x.toList)) ∧ w = w' := by
  have hsn := h.2.1
  have H := Lib.hid h
  have HL := Lib.hid h.1
  clear h
  go_enter Try.func88, Try.ntmps88
  go_wp2
  go_loop [5] (fun i => ∃ k : Nat, k ≤ n ∧ i = .int .i64 k ∧ Hid (plc ss x.toList = plcFrom (ss.drop k) x.toList k)) (fun i => n - (intOf i).toNat)
  case atStart => exact ⟨0, Nat.zero_le _, rfl, Lib.hid rfl⟩
  case round =>
    obtain ⟨k, hk, rfl, hpre⟩ := hrel
    by_cases hlt : k < n
    · obtain ⟨b, o, rfl, _, hc⟩ := H.out.at_ hlt
      have hkk : k < ss.length := by rw [HL.out]; exact hlt
      obtain ⟨y, hy⟩ : ∃ y, y = baS (ss.getD k []) := ⟨_, rfl⟩
      replace hc : w.cell? { block := b, off := o + k } = some (Value.string y) := by rw [hy]; exact hc
      have ey : y.toList = ss.getD k [] := by rw [hy, baS_toList]
      clear hy
      cases hyx : (y.toList == x.toList)
      · have hne := Lib.hid (hpre.out.trans (plc_step hkk (by rw [← ey]; simpa using hyx)))
        clear hkk ey
        go_wp2
        go_round
        case rel => exact ⟨k + 1, by omega, by go_num, hne⟩
        case measure => simp [intOf]; omega
      · have he := Lib.hid (hpre.out.trans (plc_hit hkk (by rw [← ey]; simpa using hyx)))
        clear hkk ey
        go_wp2
        go_ret
        exact ⟨ret_int he.out.symm, rfl⟩
    · have he := Lib.hid (show plc ss x.toList = -1 by rw [hpre.out, List.drop_of_length_le (by rw [HL.out]; omega)]; rfl)
      go_wp2
      go_ret
      exact ⟨ret_int he.out.symm, rfl⟩

theorem refHas_any (a : Option Addr) (n c : Nat) (ss : List Str) (x : ByteArray) (w : World) (bound : Nat) (h : Strs w bound a n ss) :
    Calls Try.prog 91 #[.slice a n c, .string x] w fun e w' => e = .returned (.bool (hasS ss x.toList)) ∧ w = w' := by
  have hp := refPlace_any a n c ss x w bound h
  have hd := plc_has x.toList ss 0
  obtain ⟨pv, hpv⟩ : ∃ pv, pv = plc ss x.toList := ⟨_, rfl⟩
  rw [← hpv] at hp
  rw [show plcFrom ss x.toList 0 = pv from hpv.symm] at hd
  clear hpv h
  have CP := Lib.hid hp
  clear hp
  cases hb : hasS ss x.toList
  all_goals
    rw [hb] at hd
    clear hb
    go_enter Try.func91, Try.ntmps91
    go_wp2_with (go_at_call 88; refine CP.out.mono ?_; rintro e w' ⟨rfl, rfl⟩)
    go_ret
    exact ⟨rfl, rfl⟩

theorem nodup_more {ss : List Str} {k : Nat} (hk : k < ss.length) (hn : (ss.take k).Nodup) (hno : hasS (ss.take k) (ss.getD k []) = false) : (ss.take (k + 1)).Nodup := by
  rw [take_more ss k hk, List.nodup_append]
  refine ⟨hn, by simp, fun x hx y hy e => ?_⟩
  rw [List.mem_singleton] at hy
  rw [← Bool.not_eq_true, hasS_iff] at hno
  exact hno (by rw [← hy, ← e]; exact hx)
theorem twice_at {ss : List Str} {k : Nat} (hk : k < ss.length) (hh : hasS (ss.take k) (ss.getD k []) = true) : once ss = false := by
  rw [← Bool.not_eq_true, once_iff]
  intro hn
  have h1 : (ss.take (k + 1)).Nodup := hn.sublist (List.take_sublist _ _)
  rw [take_more ss k hk, List.nodup_append] at h1
  exact h1.2.2 _ ((hasS_iff _ _).1 hh) _ (by simp) rfl

set_option maxHeartbeats 1000000 in
theorem refOnce_any (a : Option Addr) (n c : Nat) (ss : List Str) (w : World) (bound : Nat) (hnc : n ≤ c) (h : Strs w bound a n ss) :
    Calls Try.prog 70 #[.slice a n c] w fun e w' => e = .returned (.bool (once ss)) ∧ ∃ q, w' = w.drewN q := by
  have hsn := h.2.1
  have H := Lib.hid h
  have HL := Lib.hid h.1
  clear h
  go_enter Try.func70, Try.ntmps70
  go_wp2
  go_loopw [3] (fun i wr => ∃ k : Nat, k ≤ n ∧ i = .int .i64 k ∧ Hid ((ss.take k).Nodup) ∧ Hid (Strs wr bound a n ss) ∧ Hid (∃ q, wr = w.drewN q)) (fun i _ => n - (intOf i).toNat)
  case atStart => exact ⟨0, Nat.zero_le _, rfl, Lib.hid (by simp), H, Lib.hid ⟨0, rfl⟩⟩
  case round =>
    obtain ⟨k, hk, rfl, hpre, HS, HQ⟩ := hrel
    by_cases hlt : k < n
    · have hkk : k < ss.length := by rw [HL.out]; exact hlt
      obtain ⟨b, o, rfl, _, hc⟩ := HS.out.at_ hlt
      obtain ⟨y, hy⟩ : ∃ y, y = baS (ss.getD k []) := ⟨_, rfl⟩
      replace hc : wr.cell? { block := b, off := o + k } = some (Value.string y) := by rw [hy]; exact hc
      have ey : y.toList = ss.getD k [] := by rw [hy, baS_toList]
      have hkc : (k : Int) ≤ (c : Int) := by omega
      have ch : ∀ m, Calls Try.prog 91 #[.slice (some ⟨b, o, none⟩) k c, .string y] (wr.drewN m) fun e w' => e = .returned (.bool (hasS (ss.take k) (ss.getD k []))) ∧ wr.drewN m = w' := fun m => by
        have h := refHas_any (some ⟨b, o, none⟩) k c (ss.take k) y (wr.drewN m) bound ((HS.out.drewN m).cut hk)
        rwa [ey] at h
      clear hy ey
      cases hb : hasS (ss.take k) (ss.getD k [])
      · rw [hb] at ch
        have CH := Lib.hid ch
        have hn := Lib.hid (nodup_more hkk hpre.out hb)
        clear ch hb hkk
        go_wp2
        go_quiet ((go_at_call 91; exact quiet_at (CH.out _)))
        go_wp2
        go_roundw
        case rel => exact ⟨k + 1, by omega, by go_num, hn, Lib.hid (HS.out.drewN _), Lib.hid (by obtain ⟨q, rfl⟩ := HQ.out; exact ⟨q + nq, World.drewN_drewN _ _ _⟩)⟩
        case measure => simp [intOf]; omega
      · rw [hb] at ch
        have CH := Lib.hid ch
        have hn := Lib.hid (twice_at hkk hb)
        clear ch hb hkk
        go_wp2
        go_quiet ((go_at_call 91; exact quiet_at (CH.out _)))
        go_wp2
        go_ret
        obtain ⟨q, rfl⟩ := HQ.out
        exact ⟨ret_bool hn.out.symm, q + nq, World.drewN_drewN _ _ _⟩
    · have he := Lib.hid (show once ss = true by
        rw [once_iff]
        have := hpre.out
        rwa [List.take_of_length_le (by rw [HL.out]; omega)] at this)
      go_wp2
      go_ret
      exact ⟨ret_bool he.out.symm, HQ.out⟩
end Go.Proofs.Ytgefhgcpnfbigaa

/- Contracts of the reference's put and Put. -/
namespace Go.Proofs.Ytgefhgcpnfbigaa
open Go.RowKit Go.Sort

theorem putS_in {ss : List Str} {s : Str} (h : Rises ss) (hs : s ∈ ss) : putS ss s = ss :=
  putS_only h (fun x => ⟨fun hx => .inl hx, fun hx => by
    rcases hx with hx | hx
    · exact hx
    · rw [hx]; exact hs⟩)
theorem putS_at {ss : List Str} {s : Str} {k : Nat} (h : Rises ss) (hk : k ≤ ss.length) (hlo : ∀ j, j < k → ss.getD j [] < s) (hhi : ∀ (hkk : k < ss.length), s < ss[k]) : putS ss s = ss.take k ++ [s] ++ ss.drop k := by
  have htl : ∀ x ∈ ss.take k, x < s := fun x hx => by
    obtain ⟨j, hj, rfl⟩ := List.getElem_of_mem hx
    rw [List.length_take] at hj
    have := hlo j (by omega)
    rw [List.getD_eq_getElem?_getD, List.getElem?_eq_getElem (by omega)] at this
    simpa using this
  have hdl : ∀ x ∈ ss.drop k, s < x := fun x hx => by
    obtain ⟨j, hj, rfl⟩ := List.getElem_of_mem hx
    rw [List.length_drop] at hj
    rw [List.getElem_drop]
    have h0 := hhi (by omega)
    rcases Nat.eq_zero_or_pos j with e | e
    · subst e; exact h0
    · exact List.lt_trans h0 (List.pairwise_iff_getElem.1 h k (k + j) (by omega) (by omega) (by omega))
  refine putS_only ?_ (fun x => ?_)
  · unfold Rises
    rw [List.append_assoc, List.pairwise_append, List.pairwise_append]
    refine ⟨h.sublist (List.take_sublist _ _), ⟨by simp, h.sublist (List.drop_sublist _ _), fun x hx y hy => ?_⟩, fun x hx y hy => ?_⟩
    · rw [List.mem_singleton] at hx; rw [hx]; exact hdl y hy
    · rcases List.mem_append.1 hy with hy | hy
      · rw [List.mem_singleton] at hy; rw [hy]; exact htl x hx
      · exact List.lt_trans (htl x hx) (hdl y hy)
  · have hm : x ∈ ss ↔ x ∈ ss.take k ∨ x ∈ ss.drop k := by rw [← List.mem_append, List.take_append_drop]
    rw [hm]
    simp only [List.mem_append, List.mem_singleton]
    constructor
    · rintro ((h1 | h1) | h1)
      · exact .inl (.inl h1)
      · exact .inr h1
      · exact .inl (.inr h1)
    · rintro ((h1 | h1) | h1)
      · exact .inl (.inl h1)
      · exact .inr h1
      · exact .inl (.inr h1)

/-- From what the three appends leave to the contract. -/
theorem put_done {w w3 : World} {b off n k : Nat} {ss : List Str} {s : ByteArray} {v3 : Value} (hs : s.size ≤ maxLen) (hp : putS ss s.toList = ss.take k ++ [s.toList] ++ ss.drop k) (h : Strs w w.heap.size (some ⟨b, off, none⟩) n ss) (hk : k ≤ n) (hn : n ≤ 1000) {mm : Nat} {tt : List Str} (hmm : mm = n - k) (htt : tt = ss.drop k)
    (hown : w3.ownsRow w.heap.size 9 1 v3 (0 + k + 1 + mm) (([] ++ ss.take k ++ [s.toList] ++ tt).map encStr)) (hb : Below w.heap.size w w3) :
    ∃ b1 o1 m c1, Ending.returned v3 = .returned (.slice (some ⟨b1, o1, none⟩) m c1) ∧ Strs w3 w3.heap.size (some ⟨b1, o1, none⟩) m (putS ss s.toList) ∧ m ≤ c1 ∧ c1 ≤ maxLen ∧ Below w.heap.size w w3 := by
  subst hmm htt
  rw [List.nil_append, ← hp] at hown
  have hmx : ∀ x ∈ putS ss s.toList, x.length ≤ maxLen := fun x hx => by
    rw [mem_putS] at hx
    rcases hx with hx | hx
    · exact h.max x hx
    · rw [hx, len_toList]; exact hs
  rcases hown.2 with ⟨_, h0⟩ | ⟨g, cap, cur, rfl, _, _, hcap, hmax, _⟩
  · omega
  obtain ⟨a1, c1, e, hst, hle, _⟩ := Strs.of_own hown (by omega) hmx
  injection e with e1 e2 e3
  subst e1 e3
  exact ⟨g, 0, _, cap, rfl, hst, hcap, hmax, hb⟩

end Go.Proofs.Ytgefhgcpnfbigaa
