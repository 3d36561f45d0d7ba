/- The law LexPlaces returns true for every text: each token lies at its place, none over another. -/
import Derived.Test.YtifinfmdjbglhaaDoorLxFirst
import Derived.IntWalk
import Derived.Deep.RegionHeld3
namespace Go.Proofs.YtifinfmdjbglhaaDoor
open Go.RowKit

theorem lexF_errs (n : Nat) : ∀ (f : Nat) (after : Bool) (s : Str) (c : Int) (p : Nat), s.length ≤ n → lexF n f after s = .error (c, p) → p < n ∧ c ≠ 0
  | 0, _, _, _, _, _, h => by rw [lexF] at h; cases h
  | f + 1, after, s, c, p, hn, h => by
    rw [lexF] at h
    have hle := skip_le false s
    cases hs : skipF false s with
    | nil => rw [hs] at h; cases h
    | cons x r =>
      rw [hs] at h hle
      dsimp only at h
      simp only [List.length_cons] at hle
      cases ht : tok1 after (x :: r) with
      | error e =>
        rw [ht] at h
        injection h with h
        simp only [Prod.mk.injEq] at h
        refine ⟨by omega, ?_⟩
        rw [← h.1]
        exact tok_code ht
      | ok q =>
        obtain ⟨k, t, u⟩ := q
        rw [ht] at h
        dsimp only at h
        have hu := tok1_less ht
        simp only [List.length_cons] at hu
        cases hl : lexF n f (endsT k t) u with
        | error e =>
          rw [hl] at h
          injection h with h
          subst h
          exact lexF_errs n f _ u c p (by omega) hl
        | ok l => rw [hl] at h; cases h
theorem tokens_errs {s : Str} {c : Int} {p : Nat} (hs : s.length ≤ 16384) (h : tokensS s = .error (c, p)) : p < s.length ∧ c ≠ 0 := by
  unfold tokensS at h
  rw [if_neg (by omega)] at h
  exact lexF_errs _ _ _ _ c p (Nat.le_refl _) h
theorem lexF_count (n : Nat) : ∀ (f : Nat) (after : Bool) (s : Str) (l : List Tok), lexF n f after s = .ok l → l.length ≤ s.length
  | 0, _, _, l, h => by rw [lexF] at h; injection h with h; subst h; simp
  | f + 1, after, s, l, h => by
    rw [lexF] at h
    have hle := skip_le false s
    cases hs : skipF false s with
    | nil => rw [hs] at h; injection h with h; subst h; simp
    | cons x r =>
      rw [hs] at h hle
      dsimp only at h
      simp only [List.length_cons] at hle
      cases ht : tok1 after (x :: r) with
      | error e => rw [ht] at h; cases h
      | ok q =>
        obtain ⟨k, t, u⟩ := q
        rw [ht] at h
        dsimp only at h
        have hu := tok1_less ht
        simp only [List.length_cons] at hu
        cases hl : lexF n f (endsT k t) u with
        | error e => rw [hl] at h; cases h
        | ok l2 =>
          rw [hl] at h
          injection h with h
          subst h
          have := lexF_count n f _ u l2 hl
          simp only [List.length_cons]
          omega
theorem tokens_count {s : Str} {l : List Tok} (h : tokensS s = .ok l) : l.length ≤ s.length := by
  unfold tokensS at h
  split at h
  · cases h
  · exact lexF_count _ _ _ _ _ h
theorem tokens_places {s : Str} {l : List Tok} (h : tokensS s = .ok l) : placesOk s 0 l := by
  unfold tokensS at h
  split at h
  · cases h
  · have := lexF_places s _ false s l (List.suffix_refl _) h
    rwa [Nat.sub_self] at this
theorem placesOk_at {text : Str} {e : Nat} {l : List Tok} {t : Tok} {k : Nat} (h : placesOk text e (l.drop k)) (ht : l[k]? = some t) :
    e ≤ t.place ∧ t.place < text.length ∧ if t.kind = 2 then text.getD t.place 0 = 34 ∧ placesOk text (t.place + 1) (l.drop (k + 1)) else t.text ≠ [] ∧ t.text <+: text.drop t.place ∧ placesOk text (t.place + t.text.length) (l.drop (k + 1)) := by
  have h1 : l.drop k = t :: l.drop (k + 1) := by
    obtain ⟨hk, e⟩ := List.getElem?_eq_some_iff.1 ht
    rw [List.drop_eq_getElem_cons hk, e]
  rw [h1] at h
  exact h

set_option maxHeartbeats 2000000 in
set_option maxRecDepth 20000 in
theorem lexPlaces_walk (s : ByteArray) (w : World) (he : ErrCell w) : Calls Tryd.prog 7 #[.string s] w fun e w' => e = .returned (.bool true) ∧ Below w.heap.size w w' := by
  have HE := Lib.hid he
  clear he
  by_cases hs : s.size ≤ 2000
  · have b1 : decide ((2000 : Int) < (s.size : Int)) = false := decide_eq_false (by omega)
    cases ht : tokensS s.toList with
    | error q =>
      obtain ⟨c, p⟩ := q
      obtain ⟨hp, hc⟩ := tokens_errs (by rw [lxLen]; omega) ht
      rw [lxLen] at hp
      have hcz : ((c : Int) == 0) = false := by rw [beq_eq_false_iff_ne]; exact hc
      have hcn : ((c : Int) != 0) = true := by unfold bne; rw [hcz]; rfl
      have d1 : decide ((0 : Int) ≤ (p : Int)) = true := decide_eq_true (by omega)
      have d2 : decide ((p : Int) < (s.size : Int)) = true := decide_eq_true (by omega)
      have CT := Lib.hid (fun W (hW : ErrCell W) => tokens_err (s := s) (w := W) (by omega) hW ht)
      clear ht hc
      go_enter Tryd.func7, Tryd.ntmps7
      go_wp2_with (first
        | (go_at_call 10; (with_reducible refine (lexFirst_any _ HE.out).mono ?_); rintro e w1 ⟨rfl, hb1⟩
           have HB1 := Lib.hid hb1
           clear hb1)
        | (go_at_call 11; (with_reducible refine (CT.out _ (HE.out.keep HB1.out)).mono ?_); rintro e w2 ⟨rfl, hb2⟩
           have HB2 := Lib.hid (HB1.out.trans (hb2.mono HB1.out.size))
           clear hb2)
        | fail)
      go_ret
      exact ⟨rfl, HB2.out⟩
    | ok l =>
      have hcount := tokens_count ht
      rw [lxLen] at hcount
      have HP := Lib.hid (tokens_places ht)
      have CT := Lib.hid (fun W (hW : ErrCell W) => tokens_ok (s := s) (w := W) (by omega) hW ht (by omega))
      clear ht
      obtain ⟨n, hn⟩ : ∃ n, n = l.length := ⟨_, rfl⟩
      rw [← hn] at CT hcount
      go_enter Tryd.func7, Tryd.ntmps7
      go_wp2_with (first
        | (go_at_call 10; (with_reducible refine (lexFirst_any _ HE.out).mono ?_); rintro e w1 ⟨rfl, hb1⟩
           have HB1 := Lib.hid hb1
           clear hb1)
        | (go_at_call 11; (with_reducible refine (CT.out _ (HE.out.keep HB1.out)).mono ?_); rintro e w2 ⟨a, cap, rfl, hs2, hc2, hm2, hb2, _⟩
           have HB2 := Lib.hid (HB1.out.trans (hb2.mono HB1.out.size))
           have HS2 := Lib.hid hs2
           clear hb2 hs2)
        | fail)
      go_loopw [6, 7] (fun en i wr => ∃ k E : Nat, k ≤ n ∧ i = .int .i64 k ∧ en = .int .i64 E ∧ E ≤ 2000 ∧ Hid (placesOk s.toList E (l.drop k)) ∧ Hid (Below w2.heap.size w2 wr)) (fun _ i _ => n - (intOf i).toNat)
      case atStart => exact ⟨0, 0, Nat.zero_le _, rfl, rfl, Nat.zero_le _, HP, Lib.hid (Below.refl _ _)⟩
      case round =>
        obtain ⟨k, E, hk, rfl, rfl, hE, hpl, HW⟩ := hrel
        by_cases hlt : k < n
        · obtain ⟨b, off, tI, rfl, hb, hx, x0, x1, x2⟩ := (HS2.out.below HW.out).at_ hlt
          have hb' : b < wr.heap.size := Nat.lt_of_lt_of_le hb HW.out.size
          rw [List.getElem?_map] at hx
          obtain ⟨t, htk, rfl⟩ := Option.map_eq_some_iff.1 hx
          obtain ⟨p1, p2, p3⟩ := placesOk_at hpl.out htk
          rw [lxLen] at p2
          obtain ⟨X, hX⟩ : ∃ X, X = lxS t.text := ⟨_, rfl⟩
          obtain ⟨P, hP⟩ : ∃ P, P = t.place := ⟨_, rfl⟩
          obtain ⟨kd, hkd⟩ : ∃ kd, kd = t.kind := ⟨_, rfl⟩
          replace x0 : wr.cell? ⟨b, off + k * 3, none⟩ = some (.int .i64 (kd : Nat)) := by rw [hkd]; exact x0
          replace x1 : wr.cell? ⟨b, off + k * 3 + 1, none⟩ = some (.string X) := by rw [hX]; exact x1
          replace x2 : wr.cell? ⟨b, off + k * 3 + 2, none⟩ = some (.int .i64 (P : Nat)) := by rw [hP]; exact x2
          rw [← hP] at p1 p2 p3
          rw [← hkd] at p3
          have hXl : X.toList = t.text := by rw [hX, lxS_toList]
          rw [← hXl] at p3
          have d1 : decide ((P : Int) < (E : Int)) = false := decide_eq_false (by omega)
          have d2 : decide ((s.size : Int) ≤ (P : Int)) = false := decide_eq_false (by omega)
          have HW3 := Lib.hid (HW.out.alloc HW.out.size (.cells #[.int .i64 (kd : Nat), .string X, .int .i64 (P : Nat)] 35))
          clear hx htk hX hP hkd hXl
          by_cases h2 : kd = 2
          · rw [if_pos h2] at p3
            obtain ⟨q1, q2⟩ := p3
            have e2 : (((kd : Nat) : Int) == 2) = true := by rw [h2]; rfl
            have hg : s[P] = 34 := by
              rw [← q1, ByteArray.toList_eq, List.getD_eq_getElem?_getD, List.getElem?_eq_getElem (by simpa using p2)]
              rfl
            have n34 : (((s[P].toNat : Nat) : Int) != 34) = false := by rw [hg]; rfl
            have HN := Lib.hid q2
            clear hg q1 q2 h2
            go_wp2
            go_roundw
            case rel =>
              refine ⟨k + 1, P + 1, by omega, by go_num, by go_num, by omega, ?_, ?_⟩
              · exact HN
              · exact HW3
            case measure => simp [intOf]; omega
          · rw [if_neg h2] at p3
            obtain ⟨q1, q2, q3⟩ := p3
            have e2 : (((kd : Nat) : Int) == 2) = false := by rw [beq_eq_false_iff_ne]; omega
            have hm : X.toList.length = X.size := lxLen X
            have hle := q2.length_le
            rw [List.length_drop, lxLen, lxLen] at hle
            have hX0 : (X.toList == []) = false := by rw [beq_eq_false_iff_ne]; exact q1
            have hcut := run_cut 9 Tryd.underlying9 s (P : Int) ((P : Int) + (X.size : Int)) P (P + X.size) rfl (by omega) (by omega) (by omega)
            have hext : (s.extract P (P + X.size)).toList = X.toList := by
              rw [lx_sub, lxS_toList, ← hm]
              exact List.prefix_iff_eq_take.1 q2 |>.symm
            obtain ⟨Y, hY⟩ : ∃ Y, Y = s.extract P (P + X.size) := ⟨_, rfl⟩
            rw [← hY] at hcut hext
            have h3 : (Y.toList != X.toList) = false := by rw [hext]; simp
            have h4 : (Y.toList == X.toList) = true := by rw [hext]; simp
            clear hY
            have d3 : decide ((s.size : Int) < (P : Int) + (X.size : Int)) = false := decide_eq_false (by omega)
            have hPX : P + X.size ≤ s.size := by omega
            have w1' : IntKind.i64.wrap ((P : Int) + (X.size : Int)) = (P : Int) + (X.size : Int) := IntWalk.i64_in _ (by omega)
            have t1' : ((P : Int) + (X.size : Int)).toNat = P + X.size := by omega
            rw [hm] at q3
            have HN := Lib.hid q3
            clear q1 q2 q3 h2 hm hext hle
            go_wp2
            go_region_held3 (fun W => W.cell? ⟨wr.heap.size, 1, none⟩ = some (.string X) ∧ W.cell? ⟨wr.heap.size, 2, none⟩ = some (.int .i64 (P : Nat))) (exact ⟨by simp, by simp⟩) (fail)
            all_goals
              go_wp2
              go_roundw
              case rel =>
                refine ⟨k + 1, P + X.size, by omega, by go_num, by go_num, by omega, ?_, ?_⟩
                · exact HN
                · exact Lib.hid ⟨HW3.out.os, HW3.out.tape, HW3.out.output, HW3.out.size, HW3.out.block⟩
              case measure => simp [intOf]; omega
        · go_wp2
          go_ret
          exact ⟨rfl, HB2.out.trans (HW.out.mono HB2.out.size)⟩
  · have b1 : decide ((2000 : Int) < (s.size : Int)) = true := decide_eq_true (by omega)
    go_enter Tryd.func7, Tryd.ntmps7
    go_wp2_with (first
      | (go_at_call 10; (with_reducible refine (lexFirst_any _ HE.out).mono ?_); rintro e w1 ⟨rfl, hb1⟩
         have HB1 := Lib.hid hb1
         clear hb1)
      | fail)
    go_ret
    exact ⟨rfl, HB1.out⟩
end Go.Proofs.YtifinfmdjbglhaaDoor
