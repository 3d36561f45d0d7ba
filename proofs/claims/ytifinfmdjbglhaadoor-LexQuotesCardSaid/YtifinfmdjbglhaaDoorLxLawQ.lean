/- The law LexQuotes returns true for all strings: a quoted string is one token, whose value it is; its bytes are printable. -/
import Derived.Test.YtifinfmdjbglhaaDoorLxFirst
namespace Go.Proofs.YtifinfmdjbglhaaDoor
open Go.RowKit

theorem print_at {v : Str} (q : ByteArray) (hq : q.toList = quotedS v) (i : Nat) (hi : i < q.size) : 32 ≤ q[i].toNat ∧ q[i].toNat ≤ 126 :=
  quoted_print v _ (by
    rw [← hq]
    have := lxDrop q i hi
    exact List.mem_of_mem_drop (by rw [this]; exact List.mem_cons_self ..))

set_option maxHeartbeats 2000000 in
theorem lexQuotes_walk (s tail : ByteArray) (w : World) (he : ErrCell w) : Calls Tryd.prog 6 #[.string s, .string tail] w fun e w' => e = .returned (.bool true) ∧ Below w.heap.size w w' := by
  have HE := Lib.hid he
  clear he
  by_cases hs : s.size ≤ 2000
  · have b1 : decide ((2000 : Int) < (s.size : Int)) = false := decide_eq_false (by omega)
    obtain ⟨q, hq⟩ : ∃ q, q = lxS (quotedS s.toList) := ⟨_, rfl⟩
    have hql : q.toList = quotedS s.toList := by rw [hq, lxS_toList]
    have hqz : q.size = (quotedS s.toList).length := by rw [← hql, lxLen]
    have hlen := quoted_len s.toList
    rw [lxLen, ← hqz] at hlen
    have cq : ∀ W, Calls Tryd.prog 16 #[.string s] W fun e w' => e = .returned (.string q) ∧ Below W.heap.size W w' := fun W => by
      rw [hq]
      exact ownQuoted_any s W (by omega)
    have ct : ∀ W, ErrCell W → Calls Tryd.prog 11 #[.string q] W fun e w' => ∃ a cap, e = .returned (.tuple #[.slice a 1 cap, .int .i64 0, .int .i64 0]) ∧ Sees w' w'.heap.size a 1 [⟨2, s.toList, 0⟩] ∧ Below W.heap.size W w' := fun W hW => by
      refine (tokens_ok (s := q) (w := W) (l := [⟨2, s.toList, 0⟩]) (by omega) hW (by rw [hql]; exact tokens_quote _ (by rw [lxLen]; exact hs)) (by show 1 ≤ 1000000; omega)).mono ?_
      rintro e w' ⟨a, cap, h1, h2, _, _, h5, _⟩
      exact ⟨a, cap, h1, h2, h5⟩
    have hss : s = lxS s.toList := lxS_inj (by rw [lxS_toList])
    have HSS := Lib.hid hss
    have CQ := Lib.hid cq
    have CT := Lib.hid ct
    have HP := Lib.hid (print_at q hql)
    have b2 : decide ((s.size : Int) + 2 ≤ (q.size : Int)) = true := decide_eq_true (by omega)
    have hq1 : q.size ≤ 8002 := by omega
    clear cq ct hq hql hqz hss hlen
    go_enter Tryd.func6, Tryd.ntmps6
    go_wp2_with (first
      | (go_at_call 10; (with_reducible refine (lexFirst_any _ HE.out).mono ?_); rintro e w1 ⟨rfl, hb1⟩
         have HB1 := Lib.hid hb1
         clear hb1)
      | (go_at_call 16; (with_reducible refine (CQ.out _).mono ?_); rintro e w2 ⟨rfl, hb2⟩
         have HB2 := Lib.hid (HB1.out.trans (hb2.mono HB1.out.size))
         clear hb2)
      | fail)
    go_loopw [6] (fun i wr => ∃ k : Nat, k ≤ q.size ∧ i = .int .i64 k ∧ Hid (Below w.heap.size w wr)) (fun i _ => q.size - (intOf i).toNat)
    case atStart => exact ⟨0, Nat.zero_le _, rfl, HB2⟩
    case round =>
      obtain ⟨k, hk, rfl, HW⟩ := hrel
      by_cases hlt : k < q.size
      · obtain ⟨p1, p2⟩ := HP.out k hlt
        have d1 : decide (((q[k].toNat : Nat) : Int) < 32) = false := decide_eq_false (by omega)
        have d2 : decide ((126 : Int) < ((q[k].toNat : Nat) : Int)) = false := decide_eq_false (by omega)
        go_wp2
        go_roundw
        case rel => exact ⟨k + 1, by omega, by go_num, HW⟩
        case measure => simp [intOf]; omega
      · go_wp2_with (first
          | (go_at_call 11; (with_reducible refine (CT.out _ (HE.out.keep HW.out)).mono ?_)
             rintro e w3 ⟨a, cap, rfl, hs3, hb3⟩
             have HB3 := Lib.hid (HW.out.trans (hb3.mono HW.out.size))
             have HSS3 := Lib.hid (show #[Value.int .i64 2, .string s, .int .i64 0] = (([⟨2, s.toList, 0⟩] : List TokI).flatMap encI).toArray from congrArg (fun x => #[Value.int .i64 2, .string x, .int .i64 0]) HSS.out)
             have S3 := Lib.hid (same_lit w3 a 1 cap 1 w3.heap.size w3.heap.size #[.int .i64 2, .string s, .int .i64 0] _ [⟨2, s.toList, 0⟩] true HSS3.out rfl (by omega) hs3 (Nat.le_refl _) rfl)
             rw [sameB_refl] at S3
             clear hs3 hb3)
          | (go_at_call 15; (with_reducible refine S3.out.mono ?_)
             rintro e w4 ⟨rfl, q4, rfl⟩)
          | fail)
        go_ret
        exact ⟨rfl, below_drewN (HB3.out.alloc HB3.out.size _) q4⟩
  · have b1 : decide ((2000 : Int) < (s.size : Int)) = true := decide_eq_true (by omega)
    go_enter Tryd.func6, Tryd.ntmps6
    go_wp2_with (first
      | (go_at_call 10; (with_reducible refine (lexFirst_any _ HE.out).mono ?_); rintro e w1 ⟨rfl, hb1⟩
         have HB1 := Lib.hid hb1
         clear hb1)
      | fail)
    go_ret
    exact ⟨rfl, HB1.out⟩
end Go.Proofs.YtifinfmdjbglhaaDoor
