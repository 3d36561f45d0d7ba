/- Contract of the program's showList. -/
import Derived.Test.YtnanfmmafmcchaaGreatDoorDtDoor
import Derived.Test.YtnanfmmafmcchaaGreatDoorLxOwnN
namespace Go.Proofs.YtnanfmmafmcchaaGreatDoor
open Go.RowKit

theorem dec_len (u : Nat) : ∀ k, u < 10 ^ (k + 1) → (Lib.decDigits u).length ≤ k + 1 := by
  intro k
  induction k generalizing u with
  | zero =>
    intro h
    rw [Lib.decDigits, dif_pos (by simpa using h)]
    simp
  | succ k ih =>
    intro h
    rw [Lib.decDigits]
    split
    · simp
    · have h2 := ih (u / 10) (by rw [Nat.pow_succ] at h; omega)
      rw [List.length_append, List.length_singleton]
      omega
theorem itoa_short {n : Int} (h : inI64 n) : (Lib.itoa n).length ≤ 20 := by
  obtain ⟨h0, h1⟩ := h
  have e : (10 : Nat) ^ (18 + 1) = 10000000000000000000 := by decide
  unfold Lib.itoa
  split
  · have := dec_len n.natAbs 18 (by omega)
    rw [List.length_cons]
    omega
  · have := dec_len n.toNat 18 (by omega)
    omega
theorem showN_short {l : List Int} (h : ∀ n ∈ l, inI64 n) : (Lib.join (l.map Lib.itoa) [32]).length ≤ l.length * 21 := by
  have := join_len 20 (l.map Lib.itoa) fun p hp => by
    obtain ⟨m, hm, rfl⟩ := List.mem_map.1 hp
    exact itoa_short (h m hm)
  rwa [List.length_map] at this
theorem take_itoa {l : List Int} {k : Nat} {x : Int} (hx : l[k]? = some x) : (l.take (k + 1)).map Lib.itoa = (l.take k).map Lib.itoa ++ [Lib.itoa x] := by
  obtain ⟨h, e⟩ := List.getElem?_eq_some_iff.1 hx
  rw [List.take_succ_eq_append_getElem h, e, List.map_append]
  rfl
theorem cat_list (a b : ByteArray) : (a ++ b).toList = a.toList ++ b.toList := by
  rw [ByteArray.toList_eq, ByteArray.toList_eq, ByteArray.toList_eq, ByteArray.data_append]
  simp
theorem lit_list (l : Str) : (⟨l.toArray⟩ : ByteArray).toList = l := lxS_toList l
theorem show_cat (J : Str) : (⟨#[91]⟩ : ByteArray) ++ lxS J ++ ⟨#[93]⟩ = lxS (91 :: (J ++ [93])) := by
  apply lxS_inj
  rw [lxS_toList, cat_list, cat_list, lxS_toList, lit_list [91], lit_list [93]]
  rfl

set_option maxHeartbeats 4000000 in
theorem showList_any (a : Option Addr) (n cap : Nat) (l : List Int) (w : World) (bound : Nat) (hn : n ≤ 100) (hb : bound ≤ w.heap.size) (hl : Nums w bound a n l) (hi : ∀ x ∈ l, inI64 x) (hp : Pow w) :
    Calls Tryz.prog 30 #[.slice a n cap] w fun e w' => e = .returned (.string (lxS (showN l))) ∧ Below w.heap.size w w' := by
  have hmk := fun W => made_parts n (by omega) W
  have HL := Lib.hid hl
  have hlen : l.length = n := hl.1
  have HP := Lib.hid hp
  have HI := Lib.hid hi
  have HROW := Lib.hid (Row.made w n)
  have HW0 := Lib.hid ((Below.refl w.heap.size w).alloc (Nat.le_refl _) (.cells (madeCells #[.string ByteArray.empty] n) 9))
  clear hl hp hi
  go_enter Tryz.func30, Tryz.ntmps30
  go_wp2
  clear hmk
  go_loopw [11] (fun i wr => ∃ k : Nat, k ≤ n ∧ i = .int .i64 k ∧ Hid (Row w.heap.size n wr ((l.take k).map Lib.itoa)) ∧ Hid (Below w.heap.size w wr)) (fun i _ => n - (intOf i).toNat)
  case atStart => exact ⟨0, Nat.zero_le _, rfl, HROW, HW0⟩
  case round =>
    obtain ⟨k, hk, rfl, HRW, HW⟩ := hrel
    by_cases hlt : k < n
    · obtain ⟨b, off, x, rfl, hbb, hx, x0⟩ := (HL.out.below (HW.out.mono hb)).at_ hlt
      have HX := Lib.hid hx
      have hpw : w.heap.size < wr.heap.size := HRW.out.2.2
      have hxi := HI.out x (List.mem_of_getElem? hx)
      have C := Lib.hid (digits_any x wr hxi.1 (by have := hxi.2; omega) (HP.out.keep HW.out))
      clear hx hxi
      go_wp2_with (first
        | (go_at_call 28; (with_reducible refine C.out.mono ?_)
           rintro e w4 ⟨rfl, hb4⟩
           have HR4 := Lib.hid (HRW.out.below hb4 hpw)
           have HW5 := Lib.hid (HW.out.trans (hb4.mono HW.out.size))
           obtain ⟨hs4', hf4⟩ := HR4.out.2.1 k hlt
           obtain ⟨v4, hs4⟩ := Option.isSome_iff_exists.1 hs4'
           clear hs4' hb4)
        | fail)
      go_roundw
      case rel =>
        refine ⟨k + 1, ?_, ?_, ?_, ?_⟩
        · omega
        · go_num
        · rw [take_itoa HX.out]
          refine Lib.hid ?_
          have hkl : ((l.take k).map Lib.itoa).length = k := by rw [List.length_map, List.length_take]; omega
          have h := HR4.out.set (Lib.itoa x) (by omega)
          rw [hkl] at h
          exact h
        · exact Lib.hid (HW5.out.setCell (p := ⟨w.heap.size, k, none⟩) (Nat.le_refl _) _)
      case measure => simp [intOf]; omega
    · have hkn : k = n := by omega
      rcases Nat.eq_zero_or_pos n with h0 | h0
      · have hl0 : l = [] := List.eq_nil_of_length_eq_zero (by omega)
        subst h0 hl0
        have cj := fun W => Tryz.strings_Join_none (some ⟨w.heap.size, 0, none⟩) 0 ⟨#[32]⟩ W
        have CJ := Lib.hid cj
        clear cj hkn
        go_wp2_with (first
          | (go_at_call 50; (with_reducible refine (CJ.out _).mono ?_); rintro e w5 ⟨rfl, rfl⟩)
          | fail)
        go_ret
        exact ⟨rfl, HW.out⟩
      · have hrl : (l.map Lib.itoa).length = n := by rw [List.length_map, hlen]
        have HRW' := Lib.hid (show Row w.heap.size n wr (l.map Lib.itoa) by
          have h := HRW.out
          rw [List.take_of_length_le (by omega)] at h
          exact h)
        have cj : Calls Tryz.prog 50 #[.slice (some ⟨w.heap.size, 0, none⟩) n n, .string ⟨#[32]⟩] wr fun e w' => e = .returned (.string (lxS (Lib.join (l.map Lib.itoa) [32]))) ∧ Below wr.heap.size wr w' := by
          have hl2 : ((l.map Lib.itoa).map lxS).length = n := by rw [List.length_map, hrl]
          have hmap : ((l.map Lib.itoa).map lxS).map (·.data.toList) = l.map Lib.itoa := by
            rw [List.map_map]
            conv => rhs; rw [← List.map_id (l.map Lib.itoa)]
            refine List.map_congr_left fun x _ => ?_
            show (lxS x).data.toList = x
            simp [lxS]
          have h := Tryz.strings_Join w.heap.size 0 n ((l.map Lib.itoa).map lxS) ⟨#[32]⟩ wr (fun j x hx => by
            rw [List.getElem?_map] at hx
            obtain ⟨y, hy, rfl⟩ := Option.map_eq_some_iff.1 hx
            rw [Nat.zero_add]
            exact HRW'.out.1 j y hy) HRW'.out.2.2 (by rw [hl2]; omega) (by rw [hl2]; exact Nat.le_refl _) (by
            rw [hmap]
            have := showN_short HI.out
            show (Lib.join (l.map Lib.itoa) [32]).length ≤ _
            omega)
          rw [hl2, hmap] at h
          exact h
        have CJ := Lib.hid cj
        obtain ⟨J, hJ⟩ : ∃ J, J = lxS (Lib.join (l.map Lib.itoa) [32]) := ⟨_, rfl⟩
        rw [← hJ] at CJ
        have HJ := Lib.hid hJ
        have hJs : J.size ≤ 2100 := by
          have := showN_short HI.out
          rw [hJ, ← lxLen, lxS_toList]
          omega
        clear cj hkn hrl hJ
        go_wp2_with (first
          | (go_at_call 50; (with_reducible refine CJ.out.mono ?_); rintro e w5 ⟨rfl, hb5⟩)
          | fail)
        go_ret
        refine ⟨?_, HW.out.trans (hb5.mono HW.out.size)⟩
        rw [HJ.out, show_cat]
        rfl
end Go.Proofs.YtnanfmmafmcchaaGreatDoor
