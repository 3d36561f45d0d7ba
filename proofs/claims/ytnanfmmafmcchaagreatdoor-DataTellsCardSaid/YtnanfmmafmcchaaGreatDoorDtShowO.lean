/- Contract of the program's Show. -/
import Derived.Test.YtnanfmmafmcchaaGreatDoorDtShowL
import Derived.Deep.RegionHeld3
import Derived.Laws.Concat
namespace Go.Proofs.YtnanfmmafmcchaaGreatDoor
open Go.RowKit

theorem showV_may {v : Val} (h : mayV v = false) : showV v = [] := by unfold showV; rw [h]; rfl
theorem showV_kind {v : Val} (h : mayV v = true) : showV v = if v.kind == 0 then [117, 110, 105, 116]
    else if v.kind == 1 then Lib.itoa v.num
    else if v.kind == 2 then (if v.num == 1 then [116, 114, 117, 101] else [102, 97, 108, 115, 101])
    else if v.kind == 3 then quotedS v.text
    else if v.kind == 4 then showN v.list
    else v.text ++ 58 :: Lib.itoa v.num := by unfold showV; rw [h]; rfl
theorem lxS_nil : (⟨#[]⟩ : ByteArray) = lxS [] := rfl
theorem chan_cat (s : ByteArray) (n : Int) : s ++ ⟨#[58]⟩ ++ lxS (Lib.itoa n) = lxS (s.toList ++ 58 :: Lib.itoa n) := by
  apply lxS_inj
  rw [lxS_toList, cat_list, cat_list, lxS_toList, lit_list [58], List.append_assoc]
  rfl
theorem may_text {k x : Int} {s : Str} {l : List Int} (h : mayV ⟨k, x, s, l⟩ = true) (h3 : (k == 3) = true) : s.length ≤ 24 := by
  rcases may_ways h with h | h | h | h | h | h <;> dsimp only at h <;> have := eq_of_beq h3 <;> omega
theorem may_list {k x : Int} {s : Str} {l : List Int} (h : mayV ⟨k, x, s, l⟩ = true) (h4 : (k == 4) = true) : l.length ≤ 16 := by
  rcases may_ways h with h | h | h | h | h | h <;> dsimp only at h <;> have := eq_of_beq h4 <;> omega
theorem may_five {k x : Int} {s : Str} {l : List Int} (h : mayV ⟨k, x, s, l⟩ = true) (h0 : (k == 0) = false) (h1 : (k == 1) = false) (h2 : (k == 2) = false) (h3 : (k == 3) = false) (h4 : (k == 4) = false) : (k == 5) = true := by
  rw [beq_eq_false_iff_ne] at *
  rw [beq_iff_eq]
  rcases may_ways h with h | h | h | h | h | h <;> dsimp only at h <;> omega

set_option maxHeartbeats 4000000 in
set_option maxRecDepth 20000 in
theorem show_any (k x : Int) (s : ByteArray) (a : Option Addr) (n c : Nat) (l : List Int) (w : World) (bound : Nat) (hb : bound ≤ w.heap.size) (h : Nums w bound a n l) (hx : inI64 x) (hi : ∀ y ∈ l, inI64 y)
    (hs : mayV ⟨k, x, s.toList, l⟩ = true → k = 5 → s.size ≤ 1100000) (hp : Pow w) :
    Calls Tryz.prog 17 #[.agg #[.int .i64 k, .int .i64 x, .string s, .slice a n c]] w fun e w' => e = .returned (.string (lxS (showV ⟨k, x, s.toList, l⟩))) ∧ Below w.heap.size w w' := by
  have HB := Lib.hid ((Below.refl w.heap.size w).alloc (Nat.le_refl _) (.cells #[.int .i64 k, .int .i64 x, .string s, .slice a n c] 24))
  have cm : ∀ W, Below w.heap.size w W → Calls Tryz.prog 11 #[.agg #[.int .i64 k, .int .i64 x, .string s, .slice a n c]] W fun e w' => e = .returned (.bool (mayV ⟨k, x, s.toList, l⟩)) ∧ Below W.heap.size W w' := fun W hW =>
    may_any k x s a n c l W bound (Nat.le_trans hb hW.size) (h.below (hW.mono hb))
  have hlen := h.1
  cases hm : mayV ⟨k, x, s.toList, l⟩
  · rw [hm] at cm
    have CM := Lib.hid cm
    have HF := Lib.hid (showV_may hm)
    clear cm hm h hx hi hs hp hlen
    go_enter Tryz.func17, Tryz.ntmps17
    go_wp2_with (first | (go_at_call 11; (with_reducible refine (CM.out _ HB.out).mono ?_); rintro e w1 ⟨rfl, hb1⟩) | fail)
    go_ret
    exact ⟨ret_str (by rw [HF.out]; rfl), HB.out.trans (hb1.mono HB.out.size)⟩
  · rw [hm] at cm
    have CM := Lib.hid cm
    have hk := showV_kind hm
    dsimp only at hk
    have HP := Lib.hid hp
    cases z0 : (k == 0)
    · cases z1 : (k == 1)
      · cases z2 : (k == 2)
        · cases z3 : (k == 3)
          · cases z4 : (k == 4)
            · have z5 := may_five hm z0 z1 z2 z3 z4
              have HF := Lib.hid (show showV ⟨k, x, s.toList, l⟩ = s.toList ++ 58 :: Lib.itoa x by rw [hk, z0, z1, z2, z3, z4]; rfl)
              have hsz : s.size ≤ 1100000 := hs hm (eq_of_beq z5)
              have cd : ∀ W, Below w.heap.size w W → Calls Tryz.prog 28 #[.int .i64 x] W fun e w' => e = .returned (.string (lxS (Lib.itoa x))) ∧ Below W.heap.size W w' := fun W hW => digits_any x W hx.1 (by have := hx.2; omega) (HP.out.keep hW)
              obtain ⟨D, hD⟩ : ∃ D, D = lxS (Lib.itoa x) := ⟨_, rfl⟩
              have hDs : D.size ≤ 20 := by rw [hD, ← lxLen, lxS_toList]; exact itoa_short hx
              have HCAT := Lib.hid (show s ++ ⟨#[58]⟩ ++ D = lxS (s.toList ++ 58 :: Lib.itoa x) by rw [hD]; exact chan_cat s x)
              rw [← hD] at cd
              have CD := Lib.hid cd
              have hs1 : (s ++ ⟨#[58]⟩ : ByteArray).size = s.size + 1 := by simp [ByteArray.size_append]; rfl
              have k1 := fun W : World => run_string_add_sum (P := Tryz.prog) W s ⟨#[58]⟩ (by show s.size + 1 ≤ _; omega)
              have k2 := fun W : World => run_string_add_sum (P := Tryz.prog) W (s ++ ⟨#[58]⟩) D (by omega)
              clear cm cd hm hk h hx hi hs hp hlen hD hs1
              go_enter Tryz.func17, Tryz.ntmps17
              go_wp2_with (first
                | (go_at_call 11; (with_reducible refine (CM.out _ HB.out).mono ?_)
                   rintro e w1 ⟨rfl, hb1⟩
                   obtain ⟨hcc, hff⟩ := bcell hb1
                   have hzz : w.heap.size < w1.heap.size := by have := hb1.size; simp at this; omega
                   have HB1 := Lib.hid (HB.out.trans (hb1.mono HB.out.size))
                   clear hb1)
                | fail)
              have c1 : w1.cell? ⟨w.heap.size, 1, none⟩ = some (.int .i64 x) := by rw [hcc _ _ (by simp)]; simp
              have c2 : w1.cell? ⟨w.heap.size, 2, none⟩ = some (.string s) := by rw [hcc _ _ (by simp)]; simp
              clear hcc hff
              go_region_held3 (fun W => W.cell? ⟨w.heap.size, 1, none⟩ = some (.int .i64 x) ∧ W.cell? ⟨w.heap.size, 2, none⟩ = some (.string s)) (first | exact ⟨c1, c2⟩ | exact ⟨(hcd _ 1 hzz).trans c1, (hcd _ 2 hzz).trans c2⟩) (first
                | (go_at_call 28; (with_reducible refine (CD.out _ ?_).mono ?_)
                   · first | exact HB1.out.drew | exact HB1.out
                   rintro e w2 ⟨rfl, hb2⟩
                   obtain ⟨hcd, hfd⟩ := bcell hb2
                   have HB2 := Lib.hid (show Below w.heap.size w w2 from HB1.out.trans ((show Below w1.heap.size w1 w2 from ⟨hb2.os, hb2.tape, hb2.output, hb2.size, hb2.block⟩).mono HB1.out.size)))
                | fail)
              all_goals
                go_wp2
                go_ret
                exact ⟨ret_str (by rw [HF.out]; exact HCAT.out), HB2.out⟩
            · have HF := Lib.hid (show showV ⟨k, x, s.toList, l⟩ = showN l by rw [hk, z0, z1, z2, z3, z4]; rfl)
              have h16 := may_list hm z4
              have cd : ∀ W, Below w.heap.size w W → Calls Tryz.prog 30 #[.slice a n c] W fun e w' => e = .returned (.string (lxS (showN l))) ∧ Below W.heap.size W w' := fun W hW => showList_any a n c l W bound (by omega) (Nat.le_trans hb hW.size) (h.below (hW.mono hb)) hi (HP.out.keep hW)
              have CD := Lib.hid cd
              clear cm cd hm hk h hx hi hs hp hlen h16
              go_enter Tryz.func17, Tryz.ntmps17
              go_wp2_with (first
                | (go_at_call 11; (with_reducible refine (CM.out _ HB.out).mono ?_)
                   rintro e w1 ⟨rfl, hb1⟩
                   obtain ⟨hcc, hff⟩ := bcell hb1
                   have hzz : w.heap.size < w1.heap.size := by have := hb1.size; simp at this; omega
                   have HB1 := Lib.hid (HB.out.trans (hb1.mono HB.out.size))
                   clear hb1)
                | (go_at_call 30; (with_reducible refine (CD.out _ HB1.out).mono ?_); rintro e w2 ⟨rfl, hb2⟩)
                | fail)
              go_ret
              exact ⟨ret_str (by rw [HF.out]), HB1.out.trans (hb2.mono HB1.out.size)⟩
          · have HF := Lib.hid (show showV ⟨k, x, s.toList, l⟩ = quotedS s.toList by rw [hk, z0, z1, z2, z3]; rfl)
            have h24 := may_text hm z3
            rw [lxLen] at h24
            have cd : ∀ W, Calls Tryz.prog 20 #[.string s] W fun e w' => e = .returned (.string (lxS (quotedS s.toList))) ∧ Below W.heap.size W w' := fun W => ownQuoted_any s W (by omega)
            have CD := Lib.hid cd
            clear cm cd hm hk h hx hi hs hp hlen h24
            go_enter Tryz.func17, Tryz.ntmps17
            go_wp2_with (first
              | (go_at_call 11; (with_reducible refine (CM.out _ HB.out).mono ?_)
                 rintro e w1 ⟨rfl, hb1⟩
                 obtain ⟨hcc, hff⟩ := bcell hb1
                 have hzz : w.heap.size < w1.heap.size := by have := hb1.size; simp at this; omega
                 have HB1 := Lib.hid (HB.out.trans (hb1.mono HB.out.size))
                 clear hb1)
              | (go_at_call 20; (with_reducible refine (CD.out _).mono ?_); rintro e w2 ⟨rfl, hb2⟩)
              | fail)
            go_ret
            exact ⟨ret_str (by rw [HF.out]), HB1.out.trans (hb2.mono HB1.out.size)⟩
        · have HF := Lib.hid (show showV ⟨k, x, s.toList, l⟩ = if x == 1 then [116, 114, 117, 101] else [102, 97, 108, 115, 101] by rw [hk, z0, z1, z2]; rfl)
          clear cm hm hk h hx hi hs hp hlen
          obtain ⟨b, hbx⟩ : ∃ b, b = (x == 1) := ⟨_, rfl⟩
          rw [← hbx] at HF
          have CD := Lib.hid (fun W => fmtBool_any b W)
          have e1 : (x == 1) = b := hbx.symm
          clear hbx
          cases b
          · go_enter Tryz.func17, Tryz.ntmps17
            go_wp2_with (first
              | (go_at_call 11; (with_reducible refine (CM.out _ HB.out).mono ?_)
                 rintro e w1 ⟨rfl, hb1⟩
                 obtain ⟨hcc, hff⟩ := bcell hb1
                 have hzz : w.heap.size < w1.heap.size := by have := hb1.size; simp at this; omega
                 have HB1 := Lib.hid (HB.out.trans (hb1.mono HB.out.size))
                 clear hb1)
              | (go_at_call 29; (with_reducible refine (CD.out _).mono ?_); rintro e w2 ⟨rfl, rfl⟩)
              | fail)
            go_ret
            exact ⟨ret_str (by rw [HF.out]; rfl), HB1.out⟩
          · go_enter Tryz.func17, Tryz.ntmps17
            go_wp2_with (first
              | (go_at_call 11; (with_reducible refine (CM.out _ HB.out).mono ?_)
                 rintro e w1 ⟨rfl, hb1⟩
                 obtain ⟨hcc, hff⟩ := bcell hb1
                 have hzz : w.heap.size < w1.heap.size := by have := hb1.size; simp at this; omega
                 have HB1 := Lib.hid (HB.out.trans (hb1.mono HB.out.size))
                 clear hb1)
              | (go_at_call 29; (with_reducible refine (CD.out _).mono ?_); rintro e w2 ⟨rfl, rfl⟩)
              | fail)
            go_ret
            exact ⟨ret_str (by rw [HF.out]; rfl), HB1.out⟩
      · have HF := Lib.hid (show showV ⟨k, x, s.toList, l⟩ = Lib.itoa x by rw [hk, z0, z1]; rfl)
        have cd : ∀ W, Below w.heap.size w W → Calls Tryz.prog 28 #[.int .i64 x] W fun e w' => e = .returned (.string (lxS (Lib.itoa x))) ∧ Below W.heap.size W w' := fun W hW => digits_any x W hx.1 (by have := hx.2; omega) (HP.out.keep hW)
        have CD := Lib.hid cd
        clear cm cd hm hk h hx hi hs hp hlen
        go_enter Tryz.func17, Tryz.ntmps17
        go_wp2_with (first
          | (go_at_call 11; (with_reducible refine (CM.out _ HB.out).mono ?_)
             rintro e w1 ⟨rfl, hb1⟩
             obtain ⟨hcc, hff⟩ := bcell hb1
             have hzz : w.heap.size < w1.heap.size := by have := hb1.size; simp at this; omega
             have HB1 := Lib.hid (HB.out.trans (hb1.mono HB.out.size))
             clear hb1)
          | (go_at_call 28; (with_reducible refine (CD.out _ HB1.out).mono ?_); rintro e w2 ⟨rfl, hb2⟩)
          | fail)
        go_ret
        exact ⟨ret_str (by rw [HF.out]), HB1.out.trans (hb2.mono HB1.out.size)⟩
    · have HF := Lib.hid (show showV ⟨k, x, s.toList, l⟩ = [117, 110, 105, 116] by rw [hk, z0]; rfl)
      obtain rfl := eq_of_beq z0
      clear cm hm hk h hx hi hs hp hlen z0
      go_enter Tryz.func17, Tryz.ntmps17
      go_wp2_with (first
        | (go_at_call 11; (with_reducible refine (CM.out _ HB.out).mono ?_)
           rintro e w1 ⟨rfl, hb1⟩
           obtain ⟨hcc, hff⟩ := bcell hb1
           have hzz : w.heap.size < w1.heap.size := by have := hb1.size; simp at this; omega
           have HB1 := Lib.hid (HB.out.trans (hb1.mono HB.out.size))
           clear hb1)
        | fail)
      go_ret
      exact ⟨ret_str (by rw [HF.out]; rfl), HB1.out⟩
end Go.Proofs.YtnanfmmafmcchaaGreatDoor
