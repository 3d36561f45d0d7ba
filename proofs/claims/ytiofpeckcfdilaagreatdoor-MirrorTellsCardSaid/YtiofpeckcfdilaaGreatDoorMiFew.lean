/- Contract of the statements' own few (stage 12). -/
import Derived.Test.YtiofpeckcfdilaaGreatDoorTuTells
namespace Go.Proofs.YtiofpeckcfdilaaGreatDoor
open Go.RowKit

set_option maxHeartbeats 8000000 in
theorem few12_any (nm : ByteArray) (a : Option Addr) (n c : Nat) (ts : List TurnL) (w : World) (bound : Nat) (hb : bound ≤ w.heap.size) (h : Turns w bound a n ts) :
    Calls Tryz.prog 8 #[.agg #[.string nm, .slice a n c]] w fun e w' => e = .returned (.bool (fewB ts)) ∧ Below w.heap.size w w' := by
  have HB0 := Lib.hid (tu1 w (.cells #[.string nm, .slice a n c] 24))
  have HL := Lib.hid (LBox.new w nm a n c)
  have HN := Lib.hid (h.below (tu1 w (.cells #[.string nm, .slice a n c] 24) |>.mono hb))
  have HLEN := Lib.hid h.1
  have hsz := h.2.1
  obtain ⟨R, hR⟩ : ∃ R, R = fewB ts := ⟨_, rfl⟩
  rw [← hR]
  have HR := Lib.hid hR
  clear h hR
  go_enter Tryz.func8, Tryz.ntmps8
  go_wp2
  generalize hw1 : w.alloc (.cells #[.string nm, .slice a n c] 24) = w1 at HB0 HL HN ⊢
  clear hw1
  obtain ⟨lc0, lc1⟩ := HL.out.cells
  go_loop [3] (fun i => ∃ k : Nat, k ≤ n ∧ i = .int .i64 k ∧ Hid (∀ j t, j < k → ts[j]? = some t → t.arms.length ≤ 20)) (fun i => n - (intOf i).toNat)
  case atStart => exact ⟨0, Nat.zero_le _, rfl, Lib.hid (fun j t hj => by omega)⟩
  case round =>
    obtain ⟨k, hk, rfl, HK⟩ := hrel
    by_cases hlt : k < n
    · obtain ⟨b, off, kd, s, aa, an, ac, l, rfl, hbb, ht, ⟨q0, q1, q2⟩, hs, hal⟩ := HN.out.at_ hlt
      have i1 : (k : Int) < (n : Int) := by omega
      have i2 : (0 : Int) ≤ (k : Int) := by omega
      by_cases hm : 20 < an
      · have d2 : decide ((20 : Int) < (an : Int)) = true := decide_eq_true (by omega)
        have HZ := Lib.hid (show R = false by rw [HR.out]; exact few_no ht (by rw [hal.1]; exact hm))
        have d3 : (20 : Int) < (an : Int) := by omega
        clear ht q0 q1 hs hal
        go_wp2_with fail
        go_ret
        exact ⟨ret_bool HZ.out.symm, HB0.out⟩
      · have d2 : decide ((20 : Int) < (an : Int)) = false := decide_eq_false (by omega)
        have HK2 := Lib.hid (show ∀ j t, j < k + 1 → ts[j]? = some t → t.arms.length ≤ 20 from fun j t hj hjt => by
          by_cases hjk : j = k
          · subst hjk
            rw [ht] at hjt
            obtain rfl := Option.some.inj hjt
            rw [hal.1]
            omega
          · exact HK.out j t (by omega) hjt)
        clear ht q0 q1 hs hal
        go_wp2_with fail
        go_round
        case rel => exact ⟨k + 1, by omega, by go_num, HK2⟩
        case measure => simp [intOf]; omega
    · have d1 : decide ((k : Int) < (n : Int)) = false := decide_eq_false (by omega)
      have hend := few_end HLEN.out (fun j t hj => HK.out j t (by omega))
      by_cases h60 : n ≤ 60
      · have HZ := Lib.hid (show R = true by rw [HR.out, hend, decide_eq_true h60])
        have d2 : decide ((n : Int) ≤ 60) = true := decide_eq_true (by omega)
        have d3 : (n : Int) ≤ 60 := by omega
        clear hend
        go_wp2_with fail
        go_ret
        exact ⟨ret_bool HZ.out.symm, HB0.out⟩
      · have HZ := Lib.hid (show R = false by rw [HR.out, hend, decide_eq_false h60])
        have d2 : decide ((n : Int) ≤ 60) = false := decide_eq_false (by omega)
        clear hend
        go_wp2_with fail
        go_ret
        exact ⟨ret_bool HZ.out.symm, HB0.out⟩
end Go.Proofs.YtiofpeckcfdilaaGreatDoor
