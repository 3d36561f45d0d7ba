/- Contracts of the program's number, numbers. -/
import Derived.Test.YtnanfmmafmcchaaGreatDoorDtDoor
import Derived.Test.YtnanfmmafmcchaaGreatDoorDtInts
import Derived.Test.YtnanfmmafmcchaaGreatDoorLxOwnJ
import Derived.Shelf.Strings.SplitCore
namespace Go.Proofs.YtnanfmmafmcchaaGreatDoor
open Go.RowKit

theorem number_any (s : ByteArray) (w : World) (hs : s.size ≤ 1100000) (hm : Met w) : Calls Tryz.prog 41 #[.string s] w fun e w' => e = .returned (.int .i64 (numP s.toList)) ∧ Below w.heap.size w w' := by
  obtain ⟨⟨_, t1, p1, e1⟩, ⟨_, t2, p2, e2⟩, _⟩ := hm
  cases hp : Lib.parseIntB 64 s.toList with
  | ok v =>
    have HF := Lib.hid (show numP s.toList = v by unfold numP; rw [hp])
    have ci : ∀ W, Calls Tryz.prog 60 #[.string s, .int .i64 10, .int .i64 64] W fun e w' => e = .returned (.tuple #[.int .i64 v, .nilIface]) ∧ Below W.heap.size W w' := fun W =>
      (Tryz.strconv_ParseInt_10_at64_ok s (by omega) v (by rw [data_list]; exact hp) W).mono fun e w' h => ⟨h.1, by
        rcases h.2 with rfl | ⟨t, rfl⟩
        · exact Below.refl _ _
        · exact Lib.bytesWorld_below W _ t⟩
    have CI := Lib.hid ci
    clear ci hp e1 e2
    go_enter Tryz.func41, Tryz.ntmps41
    go_wp2_with (first | (go_at_call 60; (with_reducible refine (CI.out _).mono ?_); rintro e w1 ⟨rfl, hb1⟩) | fail)
    go_ret
    exact ⟨ret_int HF.out.symm, hb1⟩
  | range =>
    have HF := Lib.hid (show numP s.toList = Lib.intSat 64 s.toList by unfold numP; rw [hp])
    obtain ⟨v, hv⟩ : ∃ v, v = Lib.intSat 64 s.toList := ⟨_, rfl⟩
    rw [← hv] at HF
    have ci : Calls Tryz.prog 60 #[.string s, .int .i64 10, .int .i64 64] w fun e w' => ∃ N, e = .returned (.tuple #[.int .i64 v, .iface 107 (.pointer (some ⟨N, 0, none⟩))]) ∧ Below w.heap.size w w' :=
      (Tryz.strconv_ParseInt_10_at64_range s (by omega) (by rw [data_list]; exact hp) (.iface t1 p1) w e1 (.inr ⟨t1, p1, rfl⟩)).mono fun e w' h => by
        obtain ⟨N, h1, h2, h3, h4⟩ := h
        rw [data_list, ← hv] at h1
        exact ⟨N, h1, h4⟩
    have CI := Lib.hid ci
    clear ci hp e1 e2 hv
    go_enter Tryz.func41, Tryz.ntmps41
    go_wp2_with (first | (go_at_call 60; (with_reducible refine CI.out.mono ?_); rintro e w1 ⟨N, rfl, hb1⟩) | fail)
    go_ret
    exact ⟨ret_int HF.out.symm, hb1⟩
  | «syntax» =>
    have HF := Lib.hid (show numP s.toList = 0 by unfold numP; rw [hp])
    have ci : Calls Tryz.prog 60 #[.string s, .int .i64 10, .int .i64 64] w fun e w' => ∃ N, e = .returned (.tuple #[.int .i64 0, .iface 107 (.pointer (some ⟨N, 0, none⟩))]) ∧ Below w.heap.size w w' :=
      (Tryz.strconv_ParseInt_10_at64_syntax s (by omega) (by rw [data_list]; exact hp) (.iface t2 p2) w e2 (.inr ⟨t2, p2, rfl⟩)).mono fun e w' h => by
        obtain ⟨N, h1, h2, h3, h4⟩ := h
        exact ⟨N, h1, h4⟩
    have CI := Lib.hid ci
    clear ci hp e1 e2
    go_enter Tryz.func41, Tryz.ntmps41
    go_wp2_with (first | (go_at_call 60; (with_reducible refine CI.out.mono ?_); rintro e w1 ⟨N, rfl, hb1⟩) | fail)
    go_ret
    exact ⟨ret_int HF.out.symm, hb1⟩

theorem splitK_short : ∀ (k : Nat) (s : Str), ∀ p ∈ Lib.splitK [32] 0 k s, p.length ≤ s.length
  | 0, s, p, h => by
    unfold Lib.splitK at h
    rw [List.mem_singleton] at h
    rw [h]
    exact Nat.le_refl _
  | k + 1, s, p, h => by
    unfold Lib.splitK at h
    split at h
    · rw [List.mem_singleton] at h
      rw [h]
      exact Nat.le_refl _
    · rcases List.mem_cons.1 h with rfl | h
      · rw [List.length_take]; omega
      · have := splitK_short k _ p h
        rw [List.length_drop] at this
        omega
theorem sep_list : (⟨#[32]⟩ : ByteArray).data.toList = [32] := rfl
/-- The pieces of a text between blanks, seventeen at most. -/
theorem split_any (s : ByteArray) (hs : s.size ≤ 1100000) : ∃ (parts : List ByteArray) (c : Nat), parts.map (·.toList) = Lib.splitN s.toList [32] 17 ∧ parts.length ≤ c ∧ c ≤ 17 ∧ (∀ x ∈ parts, x.size ≤ s.size) ∧
    ∀ w : World, Calls Tryz.prog 58 #[.string s, .string ⟨#[32]⟩, .int .i64 17] w fun e w' => e = .returned (.slice (some ⟨w.heap.size, 0, none⟩) parts.length c) ∧ w' = w.alloc (.cells (Lib.cellsOf parts c) 9) := by
  have hd := Lib.splitB_data ⟨#[32]⟩ 0 (min 17 (s.size + 1) - 1) s
  have hle := Lib.splitB_length_le ⟨#[32]⟩ 0 (min 17 (s.size + 1) - 1) s
  rw [sep_list] at hd
  have hmap : (Lib.splitB ⟨#[32]⟩ 0 (min 17 (s.size + 1) - 1) s).map (·.toList) = Lib.splitN s.toList [32] 17 := by
    unfold Lib.splitN
    rw [lxLen, ← data_list, ← hd]
    exact List.map_congr_left fun x _ => (data_list x).symm
  refine ⟨_, min 17 (s.size + 1), hmap, by omega, by omega, fun x hx => ?_, fun w => ?_⟩
  · have h := splitK_short (min 17 (s.size + 1) - 1) s.data.toList x.data.toList (by rw [← hd]; exact List.mem_map.2 ⟨x, hx, rfl⟩)
    rw [data_list, data_list, lxLen, lxLen] at h
    exact h
  · have c0 : Calls Tryz.prog 74 #[.string s, .string ⟨#[32]⟩, .int .i64 0, .int .i64 17] w fun e w' =>
        e = .returned (.slice (some ⟨w.heap.size, 0, none⟩) (Lib.splitB ⟨#[32]⟩ 0 (min 17 (s.size + 1) - 1) s).length (min 17 (s.size + 1) : Nat)) ∧ w' = w.alloc (.cells (Lib.cellsOf (Lib.splitB ⟨#[32]⟩ 0 (min 17 (s.size + 1) - 1) s) (min 17 (s.size + 1))) 9) :=
      Any.strings_genSplit_core Tryz.lays221 (by kernel_rfl) s ⟨#[32]⟩ 0 17 (min 17 (s.size + 1)) w (by omega) (by decide) (by decide)
      (fun x c _ => (Tryz.strings_Index_one x 32 _).mono fun e w' h => ⟨by
        rw [h.1]
        show _ = Ending.returned (.int .i64 (Lib.index x.data.toList [32]))
        rw [Lib.index_one], h.2⟩)
      ((Tryz.strings_Count_one s 32 w).mono fun e w' h => ⟨by
        rw [h.1]
        show _ = Ending.returned (.int .i64 ((Lib.count s.data.toList [32] : Nat) : Int))
        rw [Lib.count_one]
        rfl, h.2⟩) (by decide) (by decide) (by rw [if_neg (by decide)]; omega)
    clear hd hle hmap
    generalize (Lib.splitB ⟨#[32]⟩ 0 (min 17 (s.size + 1) - 1) s) = parts at *
    generalize min 17 (s.size + 1) = c at *
    have C := Lib.hid c0
    clear c0
    go_enter Tryz.func58, Tryz.ntmps58
    go_wp2_with (first | (go_at_call 74; (with_reducible refine C.out.mono ?_); rintro e w1 ⟨rfl, rfl⟩) | fail)
    go_ret
    exact ⟨rfl, rfl⟩

theorem part_cells {parts : List ByteArray} {c : Nat} (w : World) (j : Nat) (x : ByteArray) (hx : parts[j]? = some x) :
    (w.alloc (.cells (Lib.cellsOf parts c) 9)).cell? ⟨w.heap.size, j, none⟩ = some (.string x) := by
  rw [cell_of_row _ w.heap.size j _ 9 (0, 0) (heap_alloc_new w _)]
  unfold Lib.cellsOf
  have hj : j < parts.length := by
    rcases Nat.lt_or_ge j parts.length with h | h
    · exact h
    · rw [List.getElem?_eq_none h] at hx; cases hx
  rw [List.getElem?_toArray, List.getElem?_append_left (by simpa using hj), List.getElem?_map, hx]
  rfl
theorem take_num {parts : List ByteArray} {k : Nat} {x : ByteArray} (hx : parts[k]? = some x) : ((parts.take (k + 1)).map fun b : ByteArray => numP b.toList) = ((parts.take k).map fun b : ByteArray => numP b.toList) ++ [numP x.toList] := by
  obtain ⟨h, e⟩ := List.getElem?_eq_some_iff.1 hx
  rw [List.take_succ_eq_append_getElem h, e, List.map_append]
  rfl

def NumsAns (w : World) (base : Nat) (l : List Int) (e : Ending) : Prop := ∃ v, e = .returned v ∧ Ints w base v l

set_option maxHeartbeats 4000000 in
set_option maxRecDepth 20000 in
theorem numbers_any (s : ByteArray) (w : World) (hs : s.size ≤ 1100000) (hm : Met w) :
    Calls Tryz.prog 39 #[.string s] w fun e w' => NumsAns w' w.heap.size (numsP s.toList) e ∧ Below w.heap.size w w' := by
  cases hz : s.toList.isEmpty
  · have hne : s.toList ≠ [] := fun e => by rw [e] at hz; cases hz
    obtain ⟨parts, c, hmap, hpc, hc, hsz, cs⟩ := split_any s hs
    have HF := Lib.hid (show numsP s.toList = parts.map fun b : ByteArray => numP b.toList by unfold numsP; rw [if_neg hne, ← hmap, List.map_map]; rfl)
    have CS := Lib.hid (cs w)
    have HM := Lib.hid hm
    have HSZ := Lib.hid hsz
    have HCELL := Lib.hid (part_cells (parts := parts) (c := c) w)
    have HB := Lib.hid ((Below.refl w.heap.size w).alloc (Nat.le_refl _) (.cells (Lib.cellsOf parts c) 9))
    generalize hWW : w.alloc (.cells (Lib.cellsOf parts c) 9) = W1 at *
    have hW1 : W1.heap.size = w.heap.size + 1 := by rw [← hWW]; simp
    have HW1 := Lib.hid hW1
    obtain ⟨N, hN⟩ : ∃ N, N = parts.length := ⟨_, rfl⟩
    rw [← hN] at CS hpc
    have CS := Lib.hid (CS.out.mono (fun e w' h => (⟨h.1, h.2.symm⟩ : e = .returned (.slice (some ⟨w.heap.size, 0, none⟩) N c) ∧ W1 = w')))
    have HN := Lib.hid hN
    clear cs hm hmap hsz hne hWW hW1 hN
    go_enter Tryz.func39, Tryz.ntmps39
    go_wp2_with (first | (go_at_call 58; (with_reducible refine CS.out.mono ?_); rintro e w1 ⟨rfl, rfl⟩) | fail)
    go_loopw [3, 11] (fun v i wr => ∃ k : Nat, k ≤ N ∧ i = .int .i64 k ∧ Hid (Ints wr (w.heap.size + 1) v ((parts.take k).map fun b : ByteArray => numP b.toList)) ∧ Hid (Below (w.heap.size + 1) W1 wr)) (fun _ i _ => N - (intOf i).toNat)
    case atStart => exact ⟨0, Nat.zero_le _, rfl, Lib.hid (Ints.zero _ _), Lib.hid (Below.refl _ _)⟩
    case round =>
      obtain ⟨k, hk, rfl, HI, HW⟩ := hrel
      by_cases hlt : k < N
      · have hkp : k < parts.length := by rw [← HN.out]; exact hlt
        have hx : parts[k]? = some parts[k] := List.getElem?_eq_getElem hkp
        generalize parts[k] = x at hx
        have x0 : wr.cell? ⟨w.heap.size, k, none⟩ = some (.string x) := by rw [HW.out.cell (p := ⟨w.heap.size, k, none⟩) (by show w.heap.size < _; omega)]; exact HCELL.out k x hx
        have HX := Lib.hid hx
        have hxs := HSZ.out x (List.mem_of_getElem? hx)
        have hwz : w.heap.size + 1 ≤ wr.heap.size := by have := HW.out.size; rw [HW1.out] at this; exact this
        have CN := Lib.hid (number_any x wr (by omega) (HM.out.keep (HB.out.trans (show Below w.heap.size W1 wr from HW.out.mono (by omega)))))
        obtain ⟨nv, hnv⟩ : ∃ nv, nv = numP x.toList := ⟨_, rfl⟩
        rw [← hnv] at CN
        have HNV := Lib.hid hnv
        have hll : ((parts.take k).map fun b : ByteArray => numP b.toList).length ≤ 17 := by rw [List.length_map, List.length_take]; omega
        clear hx hkp hnv
        go_wp2_with (first
          | (at_builtin
             refine wpList_append_ints rfl (.tmp 15) (.tmp 18) rfl (w.heap.size + 1) _ ((parts.take k).map fun b : ByteArray => numP b.toList) nv rfl rfl rfl (by simp) (HI.out.below hb1 (Nat.le_refl _)) (by have := hb1.size; omega) (by omega) W1 (HW.out.trans (hb1.mono hwz)) ?_
             intro v3 w3 hown hbel
             have HB3 := Lib.hid hown
             have HW3 := Lib.hid hbel
             clear hown hbel)
          | (go_at_call 41; (with_reducible refine CN.out.mono ?_); rintro e w1 ⟨rfl, hb1⟩)
          | fail)
        go_roundw
        case rel =>
          refine ⟨k + 1, ?_, ?_, ?_, ?_⟩
          · omega
          · go_num
          · rw [take_num HX.out, ← HNV.out]; exact HB3
          · exact HW3
        case measure => simp [intOf]; omega
      · have hkn : k = N := by omega
        have HI2 := Lib.hid (show Ints wr (w.heap.size + 1) u3 (numsP s.toList) by
          have h := HI.out
          rw [List.take_of_length_le (by rw [← HN.out]; omega)] at h
          rw [HF.out]; exact h)
        clear hkn
        go_wp2
        go_ret
        exact ⟨⟨_, rfl, HI2.out.low (by omega)⟩, HB.out.trans (show Below w.heap.size W1 wr from HW.out.mono (by omega))⟩
  · have hnil : s.toList = [] := nil_of_empty hz
    have HF := Lib.hid (show numsP s.toList = [] by rw [hnil]; rfl)
    clear hnil
    go_enter Tryz.func39, Tryz.ntmps39
    go_wp2
    go_ret
    exact ⟨⟨_, rfl, by rw [HF.out]; exact Ints.zero _ _⟩, Below.refl _ _⟩
end Go.Proofs.YtnanfmmafmcchaaGreatDoor
