/- Contract of Put: a new slice with the strings sorted, each once. -/
import Derived.Test.YtiofpeckcfdilaaGreatDoorNmHas
import Derived.Lib.SlicesCompact
namespace Go.Proofs.YtiofpeckcfdilaaGreatDoor
open Go.RowKit Go.Sort

def sortS (ss : List Str) : List Str := ss.mergeSort fun x y => decide (x ≤ y)
/-- What Put returns. -/
def putS (ss : List Str) (s : Str) : List Str := Lib.compact (sortS (ss ++ [s]))

theorem info9 : (Tryz.prog.info? 9).map (fun i => (i.zero, i.size, i.bytes)) = some (some (.string ByteArray.empty), 1, 16) := by kernel_rfl
theorem made_strs (n : Nat) (hn : n ≤ 1000) (W : World) : (Instr.makeSlice 34 (.int .i64 0) (.int .i64 ((n : Int) + 1))).run Tryz.prog W =
    .ok (.slice (some ⟨W.heap.size, 0, none⟩) 0 (n + 1)) (W.alloc (.cells (madeCells #[.string ByteArray.empty] (n + 1)) 9)) := by
  obtain ⟨i, hi, hzz⟩ := Option.map_eq_some_iff.1 info9
  simp only [Prod.mk.injEq] at hzz
  obtain ⟨hz, hs, hb⟩ := hzz
  have hr := run_make (P := Tryz.prog) W 34 9 i _ Tryz.underlying34 hi hz .i64 .i64 0 ((n : Int) + 1) (Int.le_refl 0) (by omega) (by rw [hb]; omega) (by omega)
  rw [hs, show (((n : Int) + 1).toNat) = n + 1 from by omega, Nat.mul_one] at hr
  exact hr
theorem own_made (w : World) (n : Nat) (hn : n ≤ 1000) : (w.alloc (.cells (madeCells #[.string ByteArray.empty] (n + 1)) 9)).ownsRow w.heap.size 9 1 (.slice (some ⟨w.heap.size, 0, none⟩) 0 (n + 1)) 0 (([] : List Str).map encStr) :=
  ⟨rfl, .inr ⟨w.heap.size, n + 1, _, rfl, Nat.le_refl _, heap_alloc_new w _, by omega, by unfold maxLen; omega, by simp [madeCells], rfl⟩⟩
/-- A slice of one string, made for a call. -/
theorem strs_one (w : World) (s : ByteArray) (hs : s.size ≤ maxLen) : Strs (w.alloc (.cells #[.string s] 9)) (w.heap.size + 1) (some ⟨w.heap.size, 0, none⟩) 1 [s.toList] :=
  ⟨rfl, by omega, by intro x hx; rw [List.mem_singleton] at hx; rw [hx, ByteArray.toList_eq]; simpa using hs, fun _ => ⟨w.heap.size, 0, rfl, by omega, fun j x hj => by
    have h0 : j = 0 := by
      rcases Nat.eq_zero_or_pos j with h | h
      · exact h
      · rw [List.getElem?_eq_none (by simp; omega)] at hj; cases hj
    subst h0
    have hx : s.toList = x := by simpa using hj
    subst hx
    rw [cell_of_row _ _ _ _ _ _ (heap_alloc_new w _)]
    show some (Value.string s) = some (encStr s.toList)
    rw [show encStr s.toList = Value.string (baS s.toList) from rfl, baS_of]⟩⟩

/-- From what the appends leave: the slice is not nil, its cells hold the strings. -/
theorem put_mid {w w1 w2 : World} {n : Nat} {ss : List Str} {s : ByteArray} {v1 v2 : Value}
    (O2 : w2.ownsRow w.heap.size 9 1 v2 (0 + n + 1) (List.map encStr ([] ++ ss ++ [s.toList])))
    (O1 : w1.ownsRow w.heap.size 9 1 v1 (0 + n) (List.map encStr ([] ++ ss)))
    (G1 : (w.alloc (Obj.cells (madeCells #[Value.string ByteArray.empty] (n + 1)) 9)).grownBy w1 (Value.slice (some ⟨w.heap.size, 0, none⟩) 0 (n + 1)).ownBlock)
    (G2 : (w1.alloc (Obj.cells #[Value.string s] 9)).grownBy w2 v1.ownBlock) :
    ∃ g cap m, ∃ all : List Str, Hid (all = ss ++ [s.toList]) ∧ Hid (all.length = m) ∧ m = n + 1 ∧ v2 = .slice (some ⟨g, 0, none⟩) m cap ∧ w.heap.size ≤ g ∧ g < w2.heap.size ∧ m ≤ cap ∧
      w2.ownsRow w.heap.size 9 1 (.slice (some ⟨g, 0, none⟩) m cap) m (all.map encStr) ∧
      Holds encStr w2 g 0 all.toArray ∧ Below w.heap.size w w2 := by
  have hl : (ss ++ [s.toList]).length = 0 + n + 1 := by have := O2.1; simpa using this
  rw [List.nil_append, ← hl] at O2
  have hnn : v2 ≠ .slice none 0 0 := by
    rintro rfl
    rcases O2.2 with ⟨_, h0⟩ | ⟨g, cap, cur, h0, _⟩
    · simp at h0
    · cases h0
  obtain ⟨g, cap, rfl, hbg, hgl, hncap, hcm, hlen, hH⟩ := Lib.holds_of_ownsRow O2 hnn
  refine ⟨g, cap, _, ss ++ [s.toList], Lib.hid rfl, Lib.hid rfl, by omega, rfl, hbg, hgl, hncap, O2, hH, ?_⟩
  have b0 : Below w.heap.size w (w.alloc (Obj.cells (madeCells #[Value.string ByteArray.empty] (n + 1)) 9)) := (Below.refl _ _).alloc (Nat.le_refl _) _
  have b1 := b0.grown G1 b0.size (fun j hj => by simp [Value.ownBlock] at hj; omega)
  exact (b1.alloc b1.size _).grown G2 (by have := b1.size; simp; omega) (fun j hj => (O1.lt j hj).1)

/-- From what Sort and Compact leave to the contract. -/
theorem put_end {w w2 : World} {g cap nn q m : Nat} {os : Array Obj} {all : List Str} (hm : all.length = m)
    (hown : w2.ownsRow w.heap.size 9 1 (.slice (some ⟨g, 0, none⟩) m cap) m (all.map encStr)) (hbel : Below w.heap.size w w2) (hbg : w.heap.size ≤ g) :
    (putRow encStr (Sort.ahead (grow (putRow encStr (Sort.ahead w2 nn) g 0 (sortS all).toArray) os) q) g 0 (Lib.compact (sortS all) ++ List.replicate (m - (Lib.compact (sortS all)).length) []).toArray).ownsRow w.heap.size 9 1 (.slice (some ⟨g, 0, none⟩) (Lib.compact (sortS all)).length cap) (Lib.compact (sortS all)).length ((Lib.compact (sortS all)).map encStr) ∧
    Below w.heap.size w (putRow encStr (Sort.ahead (grow (putRow encStr (Sort.ahead w2 nn) g 0 (sortS all).toArray) os) q) g 0 (Lib.compact (sortS all) ++ List.replicate (m - (Lib.compact (sortS all)).length) []).toArray) := by
  have hl2 : (sortS all).length = all.length := List.length_mergeSort all
  have hle := Lib.compact_length_le (sortS all)
  subst hm
  rcases hown.2 with ⟨h0, _⟩ | ⟨g', cap', cur, hv, hbase, hb, h1, h2, h3, h4⟩
  · cases h0
  cases hv
  have hs := ownsRow_sorted (n := nn) (os := os) (ts := sortS all) hl2 hbase hb h1 h2 h3
  have hc := Lib.ownsRow_putRow (q := q) (k := (Lib.compact (sortS all)).length) (ys := Lib.compact (sortS all) ++ List.replicate (all.length - (Lib.compact (sortS all)).length) []) hs (by simp; omega) (by omega)
  rw [List.take_left] at hc
  exact ⟨hc, Lib.below_putRow (hbel.grown (grownBy_sorted _) hbel.size (fun j hj => by cases hj; exact hbase)) hbg⟩

set_option maxHeartbeats 2000000 in
theorem put_any (a : Option Addr) (n c : Nat) (ss : List Str) (s : ByteArray) (w : World) (hn : n ≤ 1000) (hs : s.size ≤ maxLen) (h : Strs w w.heap.size a n ss) :
    Calls Tryz.prog 61 #[.slice a n c, .string s] w fun e w' => ∃ v, e = .returned v ∧ w'.ownsRow w.heap.size 9 1 v (putS ss s.toList).length ((putS ss s.toList).map encStr) ∧ Below w.heap.size w w' := by
  have hmk := made_strs n hn
  have own0 := Lib.hid (own_made w n hn)
  have hst := Lib.hid (h.alloc (Nat.le_refl _) (.cells (madeCells #[.string ByteArray.empty] (n + 1)) 9))
  have HN := Lib.hid h.1
  clear h
  go_enter Tryz.func61, Tryz.ntmps61
  go_wp2_with (first
    | (at_builtin
       refine wpList_append_strs _ rfl (.tmp 10) (.tmp 11) _ rfl w.heap.size 9 Tryz.underlying34 info9 _ 0 [] rfl own0.out w.heap.size a n c ss rfl hst.out (by omega) (by simp) ?_
       intro v1 w1 own1 gr1 at1
       have O1 := Lib.hid own1
       have G1 := Lib.hid gr1
       have A1 := Lib.hid at1
       clear own1 gr1 at1 hmk)
    | (at_builtin
       refine wpList_append_strs _ rfl (.tmp 12) (.tmp 14) _ rfl w.heap.size 9 Tryz.underlying34 info9 v1 (0 + n) ([] ++ ss) rfl (O1.out.alloc _) _ _ 1 1 [s.toList] rfl (strs_one w1 s hs) (by omega) (by have := G1.out.size; simp at this ⊢; omega) ?_
       intro v2 w2 own2 gr2 at2
       have O2 := Lib.hid own2
       have G2 := Lib.hid gr2
       have A2 := Lib.hid at2
       obtain ⟨g, cap, m, all, HA, HM, hm1, rfl, hbg, hgl, hncap, ho, hH, hbel⟩ := put_mid own2 O1.out G1.out gr2
       have hm1' : m ≤ 1001 := by omega
       have HB := Lib.hid hbel
       have HO := Lib.hid ho
       have hso := Tryz.slices_Sort_string g 0 cap all w2 hH hgl (by rw [HM.out]; omega)
       rw [HM.out] at hso
       have HS := Lib.hid hso
       have HH := Lib.hid hH
       clear own2 gr2 at2 ho hH hbel hm1 hso)
    | (go_at_call 92; refine HS.out.mono ?_; rintro e w3 ⟨rfl, nn, os, rfl⟩
       have hl2 : (sortS all).length = m := (List.length_mergeSort _).trans HM.out
       have hH2 : Holds encStr (grow (putRow encStr (Sort.ahead w2 nn) g 0 (sortS all).toArray) os) g 0 (sortS all).toArray :=
         holds_grow encStr _ os g 0 _ (by simpa [putRow, mapBlock, Sort.ahead] using hgl) (holds_putRow encStr _ g 0 _ _ (holds_ahead encStr w2 nn g 0 _ HH.out) (by simp [hl2, HM.out]))
       have hcomp := Tryz.slices_Compact_string g 0 cap (sortS all) _ hH2 (by omega) (by omega)
       rw [hl2] at hcomp
       have HC := Lib.hid hcomp
       clear hcomp hl2 hH2)
    | (go_at_call 93; refine HC.out.mono ?_; rintro e w4 ⟨rfl, q, rfl⟩))
  go_ret
  have he := put_end (nn := nn) (os := os) (q := q) HM.out HO.out HB.out hbg
  unfold putS
  rw [← HA.out]
  exact ⟨_, rfl, he.1, he.2⟩
end Go.Proofs.YtiofpeckcfdilaaGreatDoor
