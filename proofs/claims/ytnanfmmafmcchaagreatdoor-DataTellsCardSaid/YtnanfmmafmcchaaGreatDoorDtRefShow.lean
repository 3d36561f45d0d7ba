/- Contract of the reference's Show; the program's Show at an end of a session with a long name. -/
import Derived.Test.YtnanfmmafmcchaaGreatDoorDtRefM
import Derived.Test.YtnanfmmafmcchaaGreatDoorDtRefDig
import Derived.Test.YtnanfmmafmcchaaGreatDoorDtShowO
import Derived.Test.YtnanfmmafmcchaaGreatDoorLxRefF
import Derived.Deep.RegionHeld3
import Derived.Laws.Concat
namespace Go.Proofs.YtnanfmmafmcchaaGreatDoor
open Go.RowKit

theorem join_grow : ∀ (rs : List Str) (p : Str), rs ≠ [] → Lib.join (rs ++ [p]) [32] = Lib.join rs [32] ++ 32 :: p
  | [], _, h => absurd rfl h
  | [q], p, _ => by
    show Lib.join [q, p] [32] = _
    rw [join_two, join_single, join_single]
  | q :: q2 :: r, p, _ => by
    have ih := join_grow (q2 :: r) p (by simp)
    show Lib.join (q :: q2 :: (r ++ [p])) [32] = _
    rw [join_two, join_two, show q2 :: (r ++ [p]) = (q2 :: r) ++ [p] from rfl, ih]
    simp
theorem show_grow0 {l : List Int} {x : Int} (hx : l[0]? = some x) : (⟨#[91]⟩ : ByteArray) ++ lxS (Lib.itoa x) = lxS (91 :: Lib.join ((l.take 1).map Lib.itoa) [32]) := by
  apply lxS_inj
  rw [take_itoa hx, List.take_zero, List.map_nil, List.nil_append, join_single, lxS_toList, cat_list, lit_list [91], lxS_toList]
  rfl
theorem show_grow {l : List Int} {k : Nat} {x : Int} {J : ByteArray} (hJ : J = lxS (91 :: Lib.join ((l.take k).map Lib.itoa) [32])) (h0 : 0 < k) (hx : l[k]? = some x) : J ++ ⟨#[32]⟩ ++ lxS (Lib.itoa x) = lxS (91 :: Lib.join ((l.take (k + 1)).map Lib.itoa) [32]) := by
  apply lxS_inj
  have hne : (l.take k).map Lib.itoa ≠ [] := by
    intro e
    have h1 := congrArg List.length e
    rw [List.length_map, List.length_take, List.length_nil] at h1
    have h2 : k < l.length := (List.getElem?_eq_some_iff.1 hx).1
    omega
  rw [take_itoa hx, join_grow _ _ hne, hJ, lxS_toList, cat_list, cat_list, lxS_toList, lit_list [32], lxS_toList]
  simp
theorem show_close {l : List Int} {J : ByteArray} (hJ : J = lxS (91 :: Lib.join (l.map Lib.itoa) [32])) : J ++ ⟨#[93]⟩ = lxS (showN l) := by
  apply lxS_inj
  rw [hJ, lxS_toList, cat_list, lxS_toList, lit_list [93]]
  rfl
theorem take_short {l : List Int} (h : ∀ n ∈ l, inI64 n) (hl : l.length ≤ 16) (k : Nat) {J : ByteArray} (hJ : J = lxS (91 :: Lib.join ((l.take k).map Lib.itoa) [32])) : J.size ≤ 1000 := by
  have h1 := showN_short (l := l.take k) fun n hn => h n (List.mem_of_mem_take hn)
  rw [List.length_take] at h1
  rw [hJ, ← lxLen, lxS_toList, List.length_cons]
  omega

set_option maxHeartbeats 8000000 in
set_option maxRecDepth 20000 in
theorem refShow_any (k x : Int) (s : ByteArray) (a : Option Addr) (n c : Nat) (l : List Int) (w : World) (bound : Nat) (hb : bound ≤ w.heap.size) (h : Nums w bound a n l) (hx : inI64 x) (hi : ∀ y ∈ l, inI64 y)
    (hs : mayV ⟨k, x, s.toList, l⟩ = true → k = 5 → s.size ≤ 1000000000000000) :
    Calls Tryz.prog 18 #[.agg #[.int .i64 k, .int .i64 x, .string s, .slice a n c]] w fun e w' => e = .returned (.string (lxS (showV ⟨k, x, s.toList, l⟩))) ∧ Below w.heap.size w w' := by
  have HB := Lib.hid ((Below.refl w.heap.size w).alloc (Nat.le_refl _) (.cells #[.int .i64 k, .int .i64 x, .string s, .slice a n c] 24))
  have HX := Lib.hid (Box.new w _ rfl k x s a n c)
  have cm : ∀ W, Below w.heap.size w W → Calls Tryz.prog 12 #[.agg #[.int .i64 k, .int .i64 x, .string s, .slice a n c]] W fun e w' => e = .returned (.bool (mayV ⟨k, x, s.toList, l⟩)) ∧ Below W.heap.size W w' := fun W hW =>
    refMay_any k x s a n c l W bound (h.below (hW.mono hb))
  have hlen := h.1
  cases hm : mayV ⟨k, x, s.toList, l⟩
  · rw [hm] at cm
    have CM := Lib.hid cm
    have HF := Lib.hid (showV_may hm)
    clear cm hm h hx hi hs hlen
    go_enter Tryz.func18, Tryz.ntmps18
    go_wp2_with (first
      | (go_at_call 12; (with_reducible refine (CM.out _ HB.out).mono ?_)
         rintro e w1 ⟨rfl, hb1⟩
         obtain ⟨hcc, hff⟩ := bcell hb1
         have hzz : w.heap.size < w1.heap.size := by have := hb1.size; simp at this; omega
         have HB1 := Lib.hid (HB.out.trans (hb1.mono HB.out.size))
         have HX1 := Lib.hid (HX.out.next hb1)
         clear hb1)
      | fail)
    go_ret
    exact ⟨ret_str (by rw [HF.out]; rfl), HB1.out⟩
  · rw [hm] at cm
    have CM := Lib.hid cm
    have hk := showV_kind hm
    dsimp only at hk
    cases z0 : (k == 0)
    · cases z1 : (k == 1)
      · cases z2 : (k == 2)
        · cases z3 : (k == 3)
          · cases z5 : (k == 5)
            · have z4 : (k == 4) = true := by
                cases z4 : (k == 4)
                · rw [may_five hm z0 z1 z2 z3 z4] at z5; cases z5
                · rfl
              have HF := Lib.hid (show showV ⟨k, x, s.toList, l⟩ = showN l by rw [hk, z0, z1, z2, z3, z4]; rfl)
              have h16 := may_list hm z4
              obtain rfl := eq_of_beq z4
              have HL := Lib.hid h
              have HI := Lib.hid hi
              have HLEN := Lib.hid hlen
              have hn16 : n ≤ 16 := by omega
              clear cm hm hk h hx hi hs hlen z0 z1 z2 z3 z4 z5
              go_enter Tryz.func18, Tryz.ntmps18
              go_wp2_with (first
                | (go_at_call 12; (with_reducible refine (CM.out _ HB.out).mono ?_)
                   rintro e w1 ⟨rfl, hb1⟩
                   obtain ⟨hcc, hff⟩ := bcell hb1
                   have hzz : w.heap.size < w1.heap.size := by have := hb1.size; simp at this; omega
                   have HB1 := Lib.hid (HB.out.trans (hb1.mono HB.out.size))
                   have HX1 := Lib.hid (HX.out.next hb1)
                   clear hb1)
                | fail)
              go_loopw [3, 4] (fun v i wr => ∃ (k : Nat) (J : ByteArray), k ≤ n ∧ i = .int .i64 k ∧ v = .string J ∧ Hid (J = lxS (91 :: Lib.join ((l.take k).map Lib.itoa) [32])) ∧ Hid (Below w.heap.size w wr) ∧ Hid (Box wr w.heap.size 4 x s a n c)) (fun _ i _ => n - (intOf i).toNat)
              case atStart => exact ⟨0, _, Nat.zero_le _, rfl, rfl, Lib.hid rfl, HB1, HX1⟩
              case round =>
                obtain ⟨k, J, hk, rfl, rfl, HJ, HW, HBX⟩ := hrel
                obtain ⟨z0, p0, q0, r0, t0⟩ := HBX.out
                have hJs := take_short HI.out h16 k HJ.out
                by_cases hlt : k < n
                · have f1 : decide (k < n) = true := decide_eq_true hlt
                  obtain ⟨b, off, y, rfl, hbb, hy, y0⟩ := (HL.out.below (HW.out.mono hb)).at_ hlt
                  have hyi := HI.out y (List.mem_of_getElem? hy)
                  have HY := Lib.hid hy
                  obtain ⟨D, hD⟩ : ∃ D, D = lxS (Lib.itoa y) := ⟨_, rfl⟩
                  have hDs : D.size ≤ 20 := by rw [hD, ← lxLen, lxS_toList]; exact itoa_short hyi
                  have cd : ∀ W, Calls Tryz.prog 31 #[.int .i64 y] W fun e w' => e = .returned (.string D) ∧ Below W.heap.size W w' := fun W => by rw [hD]; exact refDigits_any y W hyi.1 (by have := hyi.2; omega)
                  have CD := Lib.hid cd
                  have HD := Lib.hid hD
                  have hJ1 : (J ++ ⟨#[32]⟩ : ByteArray).size = J.size + 1 := by simp [ByteArray.size_append]; rfl
                  have k1 := fun W : World => run_string_add_sum (P := Tryz.prog) W J ⟨#[32]⟩ (by show J.size + 1 ≤ _; omega)
                  have k2 := fun W : World => run_string_add_sum (P := Tryz.prog) W (J ++ ⟨#[32]⟩) D (by omega)
                  have k3 := fun W : World => run_string_add_sum (P := Tryz.prog) W J D (by omega)
                  clear cd hD hyi hy hJ1
                  rcases Nat.eq_zero_or_pos k with h0 | h0
                  · subst h0
                    rw [Nat.add_zero] at y0
                    have HN := Lib.hid (show J ++ D = lxS (91 :: Lib.join ((l.take 1).map Lib.itoa) [32]) by
                      rw [HD.out, HJ.out]
                      exact show_grow0 HY.out)
                    go_wp2_with (first
                      | (go_at_call 31; (with_reducible refine (CD.out _).mono ?_); rintro e w2 ⟨rfl, hb2⟩)
                      | fail)
                    go_roundw
                    case rel => exact ⟨1, _, by omega, rfl, rfl, HN, Lib.hid (below_next HW.out hb2), Lib.hid (HBX.out.next hb2)⟩
                    case measure => simp [intOf]; omega
                  · have g1 : decide (0 < k) = true := decide_eq_true h0
                    have HN := Lib.hid (show J ++ ⟨#[32]⟩ ++ D = lxS (91 :: Lib.join ((l.take (k + 1)).map Lib.itoa) [32]) by
                      rw [HD.out]
                      exact show_grow HJ.out h0 HY.out)
                    go_wp2_with (first
                      | (go_at_call 31; (with_reducible refine (CD.out _).mono ?_); rintro e w2 ⟨rfl, hb2⟩)
                      | fail)
                    go_roundw
                    case rel => exact ⟨k + 1, _, by omega, by go_num, rfl, HN, Lib.hid (below_next HW.out hb2), Lib.hid (HBX.out.next hb2)⟩
                    case measure => simp [intOf]; omega
                · have f1 : decide (k < n) = false := decide_eq_false hlt
                  have hkn : k = n := by omega
                  have HN := Lib.hid (show J ++ ⟨#[93]⟩ = lxS (showN l) from show_close (by rw [HJ.out, List.take_of_length_le (by rw [HLEN.out]; omega)]))
                  have k1 := fun W : World => run_string_add_sum (P := Tryz.prog) W J ⟨#[93]⟩ (by show J.size + 1 ≤ _; omega)
                  clear hkn
                  go_wp2
                  go_ret
                  exact ⟨ret_str (by rw [HF.out]; exact HN.out), HW.out⟩
            · have HF := Lib.hid (show showV ⟨k, x, s.toList, l⟩ = s.toList ++ 58 :: Lib.itoa x by
                have z4 : (k == 4) = false := by rw [beq_eq_false_iff_ne]; rw [beq_iff_eq] at z5; omega
                rw [hk, z0, z1, z2, z3, z4]; rfl)
              have hsz : s.size ≤ 1000000000000000 := hs hm (eq_of_beq z5)
              obtain ⟨D, hD⟩ : ∃ D, D = lxS (Lib.itoa x) := ⟨_, rfl⟩
              have cd : ∀ W, Below w.heap.size w W → Calls Tryz.prog 31 #[.int .i64 x] W fun e w' => e = .returned (.string D) ∧ Below W.heap.size W w' := fun W hW => by rw [hD]; exact refDigits_any x W hx.1 (by have := hx.2; omega)
              have hDs : D.size ≤ 20 := by rw [hD, ← lxLen, lxS_toList]; exact itoa_short hx
              have HCAT := Lib.hid (show s ++ ⟨#[58]⟩ ++ D = lxS (s.toList ++ 58 :: Lib.itoa x) by rw [hD]; exact chan_cat s x)
              have CD := Lib.hid cd
              have hs1 : (s ++ ⟨#[58]⟩ : ByteArray).size = s.size + 1 := by simp [ByteArray.size_append]; rfl
              have k1 := fun W : World => run_string_add_sum (P := Tryz.prog) W s ⟨#[58]⟩ (by show s.size + 1 ≤ _; omega)
              have k2 := fun W : World => run_string_add_sum (P := Tryz.prog) W (s ++ ⟨#[58]⟩) D (by omega)
              clear cm cd hm hk h hx hi hs hlen hD hs1
              go_enter Tryz.func18, Tryz.ntmps18
              go_wp2_with (first
                | (go_at_call 12; (with_reducible refine (CM.out _ HB.out).mono ?_)
                   rintro e w1 ⟨rfl, hb1⟩
                   obtain ⟨hcc, hff⟩ := bcell hb1
                   have hzz : w.heap.size < w1.heap.size := by have := hb1.size; simp at this; omega
                   have HB1 := Lib.hid (HB.out.trans (hb1.mono HB.out.size))
                   have HX1 := Lib.hid (HX.out.next hb1)
                   clear hb1)
                | fail)
              have c1 : w1.cell? ⟨w.heap.size, 1, none⟩ = some (.int .i64 x) := by rw [hcc _ _ (by simp)]; simp
              have c2 : w1.cell? ⟨w.heap.size, 2, none⟩ = some (.string s) := by rw [hcc _ _ (by simp)]; simp
              clear hcc hff
              go_region_held3 (fun W => W.cell? ⟨w.heap.size, 1, none⟩ = some (.int .i64 x) ∧ W.cell? ⟨w.heap.size, 2, none⟩ = some (.string s)) (first | exact ⟨c1, c2⟩ | exact ⟨(hcd _ 1 hzz).trans c1, (hcd _ 2 hzz).trans c2⟩) (first
                | (go_at_call 31; (with_reducible refine (CD.out _ ?_).mono ?_)
                   · first | exact HB1.out.drew | exact HB1.out
                   rintro e w2 ⟨rfl, hb2⟩
                   obtain ⟨hcd, hfd⟩ := bcell hb2
                   have HB2 := Lib.hid (show Below w.heap.size w w2 from below_next HB1.out ⟨hb2.os, hb2.tape, hb2.output, hb2.size, hb2.block⟩))
                | fail)
              all_goals
                go_wp2
                go_ret
                exact ⟨ret_str (by rw [HF.out]; exact HCAT.out), HB2.out⟩
          · have HF := Lib.hid (show showV ⟨k, x, s.toList, l⟩ = quotedS s.toList by rw [hk, z0, z1, z2, z3]; rfl)
            have h24 := may_text hm z3
            rw [lxLen] at h24
            have cd : ∀ W, Calls Tryz.prog 32 #[.string s] W fun e w' => e = .returned (.string (lxS (quotedS s.toList))) ∧ Below W.heap.size W w' := fun W => refQuoted_any s W (by omega)
            have CD := Lib.hid cd
            clear cm cd hm hk h hx hi hs hlen h24
            go_enter Tryz.func18, Tryz.ntmps18
            go_wp2_with (first
              | (go_at_call 12; (with_reducible refine (CM.out _ HB.out).mono ?_)
                 rintro e w1 ⟨rfl, hb1⟩
                 obtain ⟨hcc, hff⟩ := bcell hb1
                 have hzz : w.heap.size < w1.heap.size := by have := hb1.size; simp at this; omega
                 have HB1 := Lib.hid (HB.out.trans (hb1.mono HB.out.size))
                 have HX1 := Lib.hid (HX.out.next hb1)
                 clear hb1)
              | (go_at_call 32; (with_reducible refine (CD.out _).mono ?_); rintro e w2 ⟨rfl, hb2⟩)
              | fail)
            go_ret
            exact ⟨ret_str (by rw [HF.out]), below_next HB1.out hb2⟩
        · have HF := Lib.hid (show showV ⟨k, x, s.toList, l⟩ = if x == 1 then [116, 114, 117, 101] else [102, 97, 108, 115, 101] by rw [hk, z0, z1, z2]; rfl)
          clear cm hm hk h hx hi hs hlen
          cases e1 : (x == 1)
          · rw [e1] at HF
            go_enter Tryz.func18, Tryz.ntmps18
            go_wp2_with (first
              | (go_at_call 12; (with_reducible refine (CM.out _ HB.out).mono ?_)
                 rintro e w1 ⟨rfl, hb1⟩
                 obtain ⟨hcc, hff⟩ := bcell hb1
                 have hzz : w.heap.size < w1.heap.size := by have := hb1.size; simp at this; omega
                 have HB1 := Lib.hid (HB.out.trans (hb1.mono HB.out.size))
                 have HX1 := Lib.hid (HX.out.next hb1)
                 clear hb1)
              | fail)
            go_ret
            exact ⟨ret_str (by rw [HF.out]; rfl), HB1.out⟩
          · rw [e1] at HF
            go_enter Tryz.func18, Tryz.ntmps18
            go_wp2_with (first
              | (go_at_call 12; (with_reducible refine (CM.out _ HB.out).mono ?_)
                 rintro e w1 ⟨rfl, hb1⟩
                 obtain ⟨hcc, hff⟩ := bcell hb1
                 have hzz : w.heap.size < w1.heap.size := by have := hb1.size; simp at this; omega
                 have HB1 := Lib.hid (HB.out.trans (hb1.mono HB.out.size))
                 have HX1 := Lib.hid (HX.out.next hb1)
                 clear hb1)
              | fail)
            go_ret
            exact ⟨ret_str (by rw [HF.out]; rfl), HB1.out⟩
      · have HF := Lib.hid (show showV ⟨k, x, s.toList, l⟩ = Lib.itoa x by rw [hk, z0, z1]; rfl)
        have cd : ∀ W, Calls Tryz.prog 31 #[.int .i64 x] W fun e w' => e = .returned (.string (lxS (Lib.itoa x))) ∧ Below W.heap.size W w' := fun W => refDigits_any x W hx.1 (by have := hx.2; omega)
        have CD := Lib.hid cd
        clear cm cd hm hk h hx hi hs hlen
        go_enter Tryz.func18, Tryz.ntmps18
        go_wp2_with (first
          | (go_at_call 12; (with_reducible refine (CM.out _ HB.out).mono ?_)
             rintro e w1 ⟨rfl, hb1⟩
             obtain ⟨hcc, hff⟩ := bcell hb1
             have hzz : w.heap.size < w1.heap.size := by have := hb1.size; simp at this; omega
             have HB1 := Lib.hid (HB.out.trans (hb1.mono HB.out.size))
             have HX1 := Lib.hid (HX.out.next hb1)
             clear hb1)
          | (go_at_call 31; (with_reducible refine (CD.out _).mono ?_); rintro e w2 ⟨rfl, hb2⟩)
          | fail)
        go_ret
        exact ⟨ret_str (by rw [HF.out]), below_next HB1.out hb2⟩
    · have HF := Lib.hid (show showV ⟨k, x, s.toList, l⟩ = [117, 110, 105, 116] by rw [hk, z0]; rfl)
      obtain rfl := eq_of_beq z0
      clear cm hm hk h hx hi hs hlen z0
      go_enter Tryz.func18, Tryz.ntmps18
      go_wp2_with (first
        | (go_at_call 12; (with_reducible refine (CM.out _ HB.out).mono ?_)
           rintro e w1 ⟨rfl, hb1⟩
           obtain ⟨hcc, hff⟩ := bcell hb1
           have hzz : w.heap.size < w1.heap.size := by have := hb1.size; simp at this; omega
           have HB1 := Lib.hid (HB.out.trans (hb1.mono HB.out.size))
           have HX1 := Lib.hid (HX.out.next hb1)
           clear hb1)
        | fail)
      go_ret
      exact ⟨ret_str (by rw [HF.out]; rfl), HB1.out⟩

set_option maxHeartbeats 4000000 in
set_option maxRecDepth 20000 in
/-- The program's Show at an end of a session, whatever the length of its name. -/
theorem showChan_any (k x : Int) (s : ByteArray) (a : Option Addr) (n c : Nat) (l : List Int) (w : World) (bound : Nat) (hb : bound ≤ w.heap.size) (h : Nums w bound a n l) (hx : inI64 x) (hm : mayV ⟨k, x, s.toList, l⟩ = true) (z5 : (k == 5) = true)
    (hs : mayV ⟨k, x, s.toList, l⟩ = true → k = 5 → s.size ≤ 1000000000000000) (hp : Pow w) :
    Calls Tryz.prog 17 #[.agg #[.int .i64 k, .int .i64 x, .string s, .slice a n c]] w fun e w' => e = .returned (.string (lxS (showV ⟨k, x, s.toList, l⟩))) ∧ Below w.heap.size w w' := by
  have HB := Lib.hid ((Below.refl w.heap.size w).alloc (Nat.le_refl _) (.cells #[.int .i64 k, .int .i64 x, .string s, .slice a n c] 24))
  have HX := Lib.hid (Box.new w _ rfl k x s a n c)
  have HP := Lib.hid hp
  have cm : ∀ W, Below w.heap.size w W → Calls Tryz.prog 11 #[.agg #[.int .i64 k, .int .i64 x, .string s, .slice a n c]] W fun e w' => e = .returned (.bool (mayV ⟨k, x, s.toList, l⟩)) ∧ Below W.heap.size W w' := fun W hW =>
    may_any k x s a n c l W bound (Nat.le_trans hb hW.size) (h.below (hW.mono hb))
  rw [hm] at cm
  have CM := Lib.hid cm
  have hk := showV_kind hm
  dsimp only at hk
  have hk5 := eq_of_beq z5
  have z0 : (k == 0) = false := by rw [beq_eq_false_iff_ne]; omega
  have z1 : (k == 1) = false := by rw [beq_eq_false_iff_ne]; omega
  have z2 : (k == 2) = false := by rw [beq_eq_false_iff_ne]; omega
  have z3 : (k == 3) = false := by rw [beq_eq_false_iff_ne]; omega
  have z4 : (k == 4) = false := by rw [beq_eq_false_iff_ne]; omega
  have HF := Lib.hid (show showV ⟨k, x, s.toList, l⟩ = s.toList ++ 58 :: Lib.itoa x by
    rw [hk, z0, z1, z2, z3, z4]; rfl)
  have hsz : s.size ≤ 1000000000000000 := hs hm (eq_of_beq z5)
  obtain ⟨D, hD⟩ : ∃ D, D = lxS (Lib.itoa x) := ⟨_, rfl⟩
  have cd : ∀ W, Below w.heap.size w W → Calls Tryz.prog 28 #[.int .i64 x] W fun e w' => e = .returned (.string D) ∧ Below W.heap.size W w' := fun W hW => by rw [hD]; exact digits_any x W hx.1 (by have := hx.2; omega) (HP.out.keep hW)
  have hDs : D.size ≤ 20 := by rw [hD, ← lxLen, lxS_toList]; exact itoa_short hx
  have HCAT := Lib.hid (show s ++ ⟨#[58]⟩ ++ D = lxS (s.toList ++ 58 :: Lib.itoa x) by rw [hD]; exact chan_cat s x)
  have CD := Lib.hid cd
  have hs1 : (s ++ ⟨#[58]⟩ : ByteArray).size = s.size + 1 := by simp [ByteArray.size_append]; rfl
  have k1 := fun W : World => run_string_add_sum (P := Tryz.prog) W s ⟨#[58]⟩ (by show s.size + 1 ≤ _; omega)
  have k2 := fun W : World => run_string_add_sum (P := Tryz.prog) W (s ++ ⟨#[58]⟩) D (by omega)
  clear cm cd hm hk h hx hs hD hs1 hk5
  go_enter Tryz.func17, Tryz.ntmps17
  go_wp2_with (first
    | (go_at_call 11; (with_reducible refine (CM.out _ HB.out).mono ?_)
       rintro e w1 ⟨rfl, hb1⟩
       obtain ⟨hcc, hff⟩ := bcell hb1
       have hzz : w.heap.size < w1.heap.size := by have := hb1.size; simp at this; omega
       have HB1 := Lib.hid (HB.out.trans (hb1.mono HB.out.size))
       have HX1 := Lib.hid (HX.out.next hb1)
       clear hb1)
    | fail)
  have c1 : w1.cell? ⟨w.heap.size, 1, none⟩ = some (.int .i64 x) := by rw [hcc _ _ (by simp)]; simp
  have c2 : w1.cell? ⟨w.heap.size, 2, none⟩ = some (.string s) := by rw [hcc _ _ (by simp)]; simp
  clear hcc hff
  go_region_held3 (fun W => W.cell? ⟨w.heap.size, 1, none⟩ = some (.int .i64 x) ∧ W.cell? ⟨w.heap.size, 2, none⟩ = some (.string s)) (first | exact ⟨c1, c2⟩ | exact ⟨(hcd _ 1 hzz).trans c1, (hcd _ 2 hzz).trans c2⟩) (first
    | (go_at_call 28; (with_reducible refine (CD.out _ ?_).mono ?_)
       · first | exact HB1.out.drew | exact HB1.out
       rintro e w2 ⟨rfl, hb2⟩
       obtain ⟨hcd, hfd⟩ := bcell hb2
       have HB2 := Lib.hid (show Below w.heap.size w w2 from below_next HB1.out ⟨hb2.os, hb2.tape, hb2.output, hb2.size, hb2.block⟩))
    | fail)
  all_goals
    go_wp2
    go_ret
    exact ⟨ret_str (by rw [HF.out]; exact HCAT.out), HB2.out⟩
end Go.Proofs.YtnanfmmafmcchaaGreatDoor
