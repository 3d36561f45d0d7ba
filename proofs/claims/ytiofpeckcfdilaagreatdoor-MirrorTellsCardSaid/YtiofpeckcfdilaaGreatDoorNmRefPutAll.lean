/- Contract of the reference's Put. -/
import Derived.Test.YtiofpeckcfdilaaGreatDoorRef2
namespace Go.Proofs.YtiofpeckcfdilaaGreatDoor
open Go.RowKit Go.Sort

theorem putS_none (s : Str) : putS [] s = [s] := putS_only (by simp [Rises]) (fun x => by simp)
theorem putS_step (l : List Str) (s x : Str) : putS (putS l s) x = putS (l ++ [x]) s := by
  refine putS_only (putS_rises _ _) (fun y => ?_)
  rw [mem_putS, mem_putS, List.mem_append, List.mem_singleton]
  constructor
  · rintro ((h | h) | h)
    · exact .inl (.inl h)
    · exact .inr h
    · exact .inl (.inr h)
  · rintro ((h | h) | h)
    · exact .inl (.inl h)
    · exact .inr h
    · exact .inl (.inr h)
theorem putS_pos (l : List Str) (s : Str) : 0 < (putS l s).length := List.length_pos_of_mem ((mem_putS l s s).2 (.inr rfl))

set_option maxHeartbeats 1000000 in
theorem refPut_any (a : Option Addr) (n c : Nat) (ss : List Str) (s : ByteArray) (w : World) (hn : n ≤ 900) (hs : s.size ≤ maxLen) (h : Strs w w.heap.size a n ss) :
    Calls Tryz.prog 72 #[.slice a n c, .string s] w fun e w' =>
      ∃ b1 o1 m c1, e = .returned (.slice (some ⟨b1, o1, none⟩) m c1) ∧ Strs w' w'.heap.size (some ⟨b1, o1, none⟩) m (putS ss s.toList) ∧ m ≤ c1 ∧ c1 ≤ maxLen ∧ Below w.heap.size w w' := by
  have hsn := h.2.1
  have H := Lib.hid h
  have HL := Lib.hid h.1
  have HSM := Lib.hid hs
  clear h hs
  go_enter Tryz.func72, Tryz.ntmps72
  go_wp2
  go_loopw [5, 6] (fun o i wr => ∃ k b1 o1 m c1 : Nat, k ≤ n ∧ i = .int .i64 k ∧ o = .slice (some ⟨b1, o1, none⟩) m c1 ∧ Hid (Strs wr wr.heap.size (some ⟨b1, o1, none⟩) m (putS (ss.take k) s.toList)) ∧ m ≤ c1 ∧ Hid (c1 ≤ maxLen) ∧ Hid (Below w.heap.size w wr)) (fun _ i _ => n - (intOf i).toNat)
  case atStart =>
    refine ⟨0, w.heap.size, 0, 1, 1, Nat.zero_le _, rfl, rfl, Lib.hid ?_, Nat.le_refl _, Lib.hid (by unfold maxLen; omega), Lib.hid ((Below.refl _ _).alloc (Nat.le_refl _) _)⟩
    rw [List.take_zero, putS_none]
    exact (strs_one w s HSM.out).more (by simp)
  case round =>
    obtain ⟨k, b1, o1, m, c1, hk, rfl, rfl, HS, hmc, HC, HR⟩ := hrel
    by_cases hlt : k < n
    · have hkk : k < ss.length := by rw [HL.out]; exact hlt
      obtain ⟨b, o, rfl, _, hc2⟩ := (H.out.below HR.out).at_ hlt
      obtain ⟨y, hy⟩ : ∃ y, y = baS (ss.getD k []) := ⟨_, rfl⟩
      replace hc2 : wr.cell? { block := b, off := o + k } = some (Value.string y) := by rw [hy]; exact hc2
      have ey : y.toList = ss.getD k [] := by rw [hy, baS_toList]
      have hym : y.size ≤ maxLen := by
        rw [← len_toList, ey, List.getD_eq_getElem?_getD, List.getElem?_eq_getElem hkk]
        exact H.out.max _ (List.getElem_mem hkk)
      have hm1 : m ≤ n + 1 := by
        have h1 := HS.out.1
        have h2 := putS_len (ss.take k) s.toList
        rw [List.length_take] at h2
        omega
      have hm0 : 0 < m := by
        have h1 := HS.out.1
        have h2 := putS_pos (ss.take k) s.toList
        omega
      have hp := refput_any b1 o1 m c1 _ y wr hm0 (by omega) hmc HC.out hym (putS_rises _ _) HS.out
      rw [ey, putS_step, ← take_more ss k hkk] at hp
      have CP := Lib.hid hp
      clear hp hy ey hym hkk
      go_wp2_with (go_at_call 103; refine CP.out.mono ?_
                   rintro e w2 ⟨b3, o3, m3, c3, rfl, hs3, hmc3, hc3, hb3⟩
                   have HS3 := Lib.hid hs3
                   have HC3 := Lib.hid hc3
                   have HB3 := Lib.hid hb3
                   clear hs3 hc3 hb3)
      go_roundw
      case rel => exact ⟨k + 1, b3, o3, m3, c3, by omega, by go_num, rfl, HS3, hmc3, HC3, Lib.hid (HR.out.trans (HB3.out.mono HR.out.size))⟩
      case measure => simp [intOf]; omega
    · go_wp2
      go_ret
      refine ⟨b1, o1, m, c1, rfl, ?_, hmc, HC.out, HR.out⟩
      have := HS.out
      rwa [List.take_of_length_le (by rw [HL.out]; omega)] at this
end Go.Proofs.YtiofpeckcfdilaaGreatDoor
