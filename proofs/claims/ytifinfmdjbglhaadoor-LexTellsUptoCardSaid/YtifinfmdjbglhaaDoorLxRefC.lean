/- Contracts of the reference's sign and numeral. -/
import Derived.Test.YtifinfmdjbglhaaDoorLxRefB
namespace Go.Proofs.YtifinfmdjbglhaaDoor
open Go.RowKit

/-- The signs of one byte, as the text that the code searches. -/
def signsB : ByteArray := ⟨#[40, 41, 123, 125, 44, 59, 58, 46, 61, 60, 43, 45, 42, 47]⟩
theorem signsB_get : ∀ k, (h : k < 14) → signsB[k]'(by show k < 14; exact h) = signs.getD k 0 := by decide
theorem lxGet (s : ByteArray) (k : Nat) (hk : k < s.size) : s.toList.drop k = s[k] :: s.toList.drop (k + 1) := lxDrop s k hk
theorem two_bytes (s : ByteArray) (p : Nat) (h : p + 1 < s.size) : (s.extract p (p + 2)).toList = [s[p], s[p + 1]] := by
  have e : (s.extract p (p + 2)).toList = (s.toList.drop p).take 2 := by
    rw [ByteArray.toList_eq, ByteArray.toList_eq, ByteArray.data_extract]
    simp [List.extract_eq_take_drop]
  rw [e, lxDrop s p (by omega), lxDrop s (p + 1) h]
  rfl

/-- A part of a string, from one place to another. -/
theorem run_cut {P : Program} (t : TypeId) (ht : P.underlying t = some .string) (s : ByteArray) (l h : Int) (L H : Nat) (hl : l = (L : Int)) (hh : h = (H : Int)) (h1 : L ≤ H) (h2 : H ≤ s.size) (W : World) :
    (Instr.slice t (.string s) (some (.int .i64 l)) (some (.int .i64 h)) none).run P W = .ok (.string (s.extract L H)) W := by
  subst hl hh
  simp [Instr.slice, run_underlying ht, Instr.sliceBounds, run_sliceBound, *, (by omega : (L : Int) ≤ (H : Int)), (by omega : (H : Int) ≤ (s.size : Int))]

set_option maxHeartbeats 1100000 in
theorem refSign_any (s : ByteArray) (p : Nat) (w : World) (hp : p < s.size) (hs : s.size ≤ 1100000) :
    Calls Tryd.prog 44 #[.string s, .int .i64 p] w fun e w' => e = .returned (.int .i64 (signLen (s.toList.drop p) : Nat)) ∧ ∃ q, w' = w.drewN q := by
  have hd := Lib.hid (lxDrop s p hp)
  -- the search for a sign of one byte, behind whatever the first test gave
  have fin1 : ∀ k, k < 14 → (s[p] == signs.getD k 0) = true → signs.contains s[p] = true := fun k hk h => by
    rw [eq_of_beq h, List.contains_iff_mem, List.getD_eq_getElem?_getD, List.getElem?_eq_getElem (show k < signs.length from hk)]
    exact List.getElem_mem _
  have fin0 : (∀ k, k < 14 → (s[p] == signs.getD k 0) = false) → signs.contains s[p] = false := fun h => by
    rw [← Bool.not_eq_true, List.contains_iff_mem]
    intro hm
    obtain ⟨k, hk, e⟩ := List.getElem_of_mem hm
    have := h k hk
    rw [List.getD_eq_getElem?_getD, List.getElem?_eq_getElem hk, Option.getD_some, e] at this
    simp at this
  have FIN1 := Lib.hid fin1
  have FIN0 := Lib.hid fin0
  clear fin1 fin0
  by_cases h2 : p + 1 < s.size
  · have hd2 := Lib.hid (lxDrop s (p + 1) h2)
    have ht := two_bytes s p h2
    have hlen : signLen (s.toList.drop p) = if (s[p] == 61 && s[p + 1] == 61) || (s[p] == 45 && s[p + 1] == 62) then 2 else if signs.contains s[p] then 1 else 0 := by rw [hd.out, hd2.out]; rfl
    have e1 : ((s.extract p (p + 2)).toList == [61, 61]) = (s[p] == 61 && s[p + 1] == 61) := by rw [ht]; simp [Bool.and_comm]
    have e2 : ((s.extract p (p + 2)).toList == [45, 62]) = (s[p] == 45 && s[p + 1] == 62) := by rw [ht]; simp [Bool.and_comm]
    have HLEN := Lib.hid hlen
    have i1 : (p : Int) + 1 < (s.size : Int) := by omega
    have hcut := run_cut 9 Tryd.underlying9 s (p : Int) ((p : Int) + 2) p (p + 2) rfl (by omega) (by omega) (by omega)
    clear ht hlen
    cases c1 : (s[p] == 61 && s[p + 1] == 61)
    · cases c2 : (s[p] == 45 && s[p + 1] == 62)
      · rw [c1] at e1
        rw [c2] at e2
        have HC := Lib.hid (show signLen (s.toList.drop p) = if signs.contains s[p] then 1 else 0 by rw [HLEN.out, c1, c2]; rfl)
        clear c1 c2
        go_enter Tryd.func44, Tryd.ntmps44
        go_wp2
        generalize hsg : (⟨#[40, 41, 123, 125, 44, 59, 58, 46, 61, 60, 43, 45, 42, 47]⟩ : ByteArray) = sg
        have hz : sg.size = 14 := by rw [← hsg]; rfl
        have hget : ∀ k, (hk : k < 14) → sg[k]'(by rw [hz]; exact hk) = signs.getD k 0 := by subst hsg; exact signsB_get
        have HG := Lib.hid hget
        clear hget hsg
        go_loopw [6] (fun i wr => ∃ k : Nat, k ≤ 14 ∧ i = .int .i64 k ∧ Hid (∀ j, j < k → (s[p] == signs.getD j 0) = false) ∧ Hid (∃ q, wr = w.drewN q)) (fun i _ => 14 - (intOf i).toNat)
        case atStart => exact ⟨0, Nat.zero_le _, rfl, Lib.hid (fun j hj => absurd hj (Nat.not_lt_zero _)), Lib.hid ⟨0, rfl⟩⟩
        case round =>
          obtain ⟨k, hk, rfl, hall, HQ⟩ := hrel
          by_cases hlt : k < 14
          · have hks : k < sg.size := by rw [hz]; exact hlt
            have ec : (((sg[k].toNat : Nat) : Int) == ((s[p].toNat : Nat) : Int)) = (s[p] == signs.getD k 0) := by
              rw [HG.out k hlt]
              rw [Bool.eq_iff_iff, beq_iff_eq, beq_iff_eq]
              constructor
              · intro h; exact UInt8.toNat_inj.1 (by omega)
              · intro h; rw [h]
            cases hc : (s[p] == signs.getD k 0)
            · rw [hc] at ec
              have hall2 := Lib.hid (show ∀ j, j < k + 1 → (s[p] == signs.getD j 0) = false from fun j hj => by
                rcases Nat.lt_or_ge j k with h | h
                · exact hall.out j h
                · obtain rfl : j = k := by omega
                  exact hc)
              clear hc
              go_wp2
              go_quiet (fail)
              go_wp2
              go_roundw
              case rel => exact ⟨k + 1, by omega, by go_num, hall2, Lib.hid (by obtain ⟨q, rfl⟩ := HQ.out; exact ⟨q + nq, World.drewN_drewN _ _ _⟩)⟩
              case measure => simp [intOf]; omega
            · rw [hc] at ec
              have HF := Lib.hid (show signLen (s.toList.drop p) = 1 by rw [HC.out, FIN1.out k hlt hc]; rfl)
              clear hc
              go_wp2
              go_quiet (fail)
              go_wp2
              go_ret
              obtain ⟨q, rfl⟩ := HQ.out
              exact ⟨ret_int (by rw [HF.out]; rfl), q + nq, World.drewN_drewN _ _ _⟩
          · have HF := Lib.hid (show signLen (s.toList.drop p) = 0 by rw [HC.out, FIN0.out (fun j hj => hall.out j (by omega))]; rfl)
            go_wp2
            go_ret
            exact ⟨ret_int (by rw [HF.out]; rfl), HQ.out⟩
      · rw [c1] at e1
        rw [c2] at e2
        have HC := Lib.hid (show signLen (s.toList.drop p) = 2 by rw [HLEN.out, c1, c2]; rfl)
        clear c1 c2
        go_enter Tryd.func44, Tryd.ntmps44
        go_wp2
        go_ret
        exact ⟨ret_int (by rw [HC.out]; rfl), 0, rfl⟩
    · rw [c1] at e1
      have HC := Lib.hid (show signLen (s.toList.drop p) = 2 by rw [HLEN.out, c1]; rfl)
      clear c1 e2
      go_enter Tryd.func44, Tryd.ntmps44
      go_wp2
      go_ret
      exact ⟨ret_int (by rw [HC.out]; rfl), 0, rfl⟩
  · have HC := Lib.hid (show signLen (s.toList.drop p) = if signs.contains s[p] then 1 else 0 by rw [hd.out, lxEnd s (p + 1) (by omega)]; rfl)
    have d1 : decide ((p : Int) + 1 < (s.size : Int)) = false := by simp; omega
    go_enter Tryd.func44, Tryd.ntmps44
    go_wp2
    generalize hsg : (⟨#[40, 41, 123, 125, 44, 59, 58, 46, 61, 60, 43, 45, 42, 47]⟩ : ByteArray) = sg
    have hz : sg.size = 14 := by rw [← hsg]; rfl
    have hget : ∀ k, (hk : k < 14) → sg[k]'(by rw [hz]; exact hk) = signs.getD k 0 := by subst hsg; exact signsB_get
    have HG := Lib.hid hget
    clear hget hsg
    go_loopw [6] (fun i wr => ∃ k : Nat, k ≤ 14 ∧ i = .int .i64 k ∧ Hid (∀ j, j < k → (s[p] == signs.getD j 0) = false) ∧ Hid (∃ q, wr = w.drewN q)) (fun i _ => 14 - (intOf i).toNat)
    case atStart => exact ⟨0, Nat.zero_le _, rfl, Lib.hid (fun j hj => absurd hj (Nat.not_lt_zero _)), Lib.hid ⟨0, rfl⟩⟩
    case round =>
      obtain ⟨k, hk, rfl, hall, HQ⟩ := hrel
      by_cases hlt : k < 14
      · have hks : k < sg.size := by rw [hz]; exact hlt
        have ec : (((sg[k].toNat : Nat) : Int) == ((s[p].toNat : Nat) : Int)) = (s[p] == signs.getD k 0) := by
          rw [HG.out k hlt]
          rw [Bool.eq_iff_iff, beq_iff_eq, beq_iff_eq]
          constructor
          · intro h; exact UInt8.toNat_inj.1 (by omega)
          · intro h; rw [h]
        cases hc : (s[p] == signs.getD k 0)
        · rw [hc] at ec
          have hall2 := Lib.hid (show ∀ j, j < k + 1 → (s[p] == signs.getD j 0) = false from fun j hj => by
            rcases Nat.lt_or_ge j k with h | h
            · exact hall.out j h
            · obtain rfl : j = k := by omega
              exact hc)
          clear hc
          go_wp2
          go_quiet (fail)
          go_wp2
          go_roundw
          case rel => exact ⟨k + 1, by omega, by go_num, hall2, Lib.hid (by obtain ⟨q, rfl⟩ := HQ.out; exact ⟨q + nq, World.drewN_drewN _ _ _⟩)⟩
          case measure => simp [intOf]; omega
        · rw [hc] at ec
          have HF := Lib.hid (show signLen (s.toList.drop p) = 1 by rw [HC.out, FIN1.out k hlt hc]; rfl)
          clear hc
          go_wp2
          go_quiet (fail)
          go_wp2
          go_ret
          obtain ⟨q, rfl⟩ := HQ.out
          exact ⟨ret_int (by rw [HF.out]; rfl), q + nq, World.drewN_drewN _ _ _⟩
      · have HF := Lib.hid (show signLen (s.toList.drop p) = 0 by rw [HC.out, FIN0.out (fun j hj => hall.out j (by omega))]; rfl)
        go_wp2
        go_ret
        exact ⟨ret_int (by rw [HF.out]; rfl), HQ.out⟩
end Go.Proofs.YtifinfmdjbglhaaDoor
