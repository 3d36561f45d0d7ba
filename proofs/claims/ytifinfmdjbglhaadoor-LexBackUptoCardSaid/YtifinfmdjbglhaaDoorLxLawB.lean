/- The law LexBack returns true: the tokens of what Write returns are those that were written. The texts of the tokens are bounded. -/
import Derived.Test.YtifinfmdjbglhaaDoorLxLawA
namespace Go.Proofs.YtifinfmdjbglhaaDoor
open Go.RowKit

def TokI.nat (x : TokI) : Tok := ⟨x.kind.toNat, x.text, 0⟩
theorem may_kind {k : Int} {t : Str} (h : tokMayI k t = true) : ((k.toNat : Nat) : Int) = k := by
  unfold tokMayI at h
  by_cases k0 : k = 0
  · subst k0; rfl
  by_cases k1 : k = 1
  · subst k1; rfl
  by_cases k2 : k = 2
  · subst k2; rfl
  by_cases k3 : k = 3
  · subst k3; rfl
  have z0 : (k == 0) = false := by rw [beq_eq_false_iff_ne]; exact k0
  have z1 : (k == 1) = false := by rw [beq_eq_false_iff_ne]; exact k1
  have z2 : (k == 2) = false := by rw [beq_eq_false_iff_ne]; exact k2
  have z3 : (k == 3) = false := by rw [beq_eq_false_iff_ne]; exact k3
  rw [z0, z1, z2, z3] at h
  cases h
theorem parts_nat : ∀ {l : List TokI} {after : Bool} {ps : List Str}, partsI after l = some ps → partsI after ((l.map TokI.nat).map Tok.asI) = some ps ∧ ∀ x ∈ l, ((x.kind.toNat : Nat) : Int) = x.kind
  | [], _, ps, h => ⟨h, fun x hx => by cases hx⟩
  | x :: l, after, ps, h => by
    rw [partsI] at h
    split at h
    · rename_i hm
      obtain ⟨qs, hq, rfl⟩ := Option.map_eq_some_iff.1 h
      have hk : ((x.kind.toNat : Nat) : Int) = x.kind := by
        unfold mayHereI at hm
        rw [Bool.and_eq_true] at hm
        exact may_kind hm.1
      obtain ⟨i1, i2⟩ := parts_nat hq
      have e : x.nat.asI.kind = x.kind := hk
      refine ⟨?_, fun y hy => ?_⟩
      · rw [List.map_cons, List.map_cons, partsI, e]
        show (if mayHereI after x.kind x.text then (partsI (endsI x.kind x.text) ((l.map TokI.nat).map Tok.asI)).map (renderI x.nat.asI :: ·) else none) = _
        rw [hm, i1]
        have hr : renderI x.nat.asI = renderI x := by
          unfold renderI
          rw [e]; rfl
        rw [hr]; rfl
      · rcases List.mem_cons.1 hy with rfl | hy
        · exact hk
        · exact i2 y hy
    · cases h
theorem sameB_nat : ∀ {l : List TokI} {m : List Tok}, (∀ x ∈ l, ((x.kind.toNat : Nat) : Int) = x.kind) → m.map Tok.bare = (l.map TokI.nat).map Tok.bare → sameB false (m.map Tok.asI) l = true
  | [], [], _, _ => rfl
  | [], _ :: _, _, h => by cases h
  | _ :: _, [], _, h => by cases h
  | x :: l, y :: m, hk, h => by
    rw [List.map_cons, List.map_cons, List.map_cons] at h
    injection h with h1 h2
    injection h1 with h3 h4
    rw [List.map_cons, sameB, sameB_nat (fun z hz => hk z (List.mem_cons_of_mem _ hz)) h2]
    have := hk x (List.mem_cons_self ..)
    have e1 : (y.kind : Int) = x.kind := by rw [h3]; exact this
    have e2 : y.text = x.text := h4
    simp [Tok.asI, e1, e2]
theorem lex_back {l : List TokI} {ps : List Str} (h : partsI false l = some ps) (hs : (Lib.join ps [32]).length ≤ 16384) :
    ∃ l', tokensS (Lib.join ps [32]) = .ok l' ∧ l'.length = l.length ∧ sameB false (l'.map Tok.asI) l = true := by
  obtain ⟨h1, h2⟩ := parts_nat h
  have hr : writeR false ((l.map TokI.nat).map Tok.bare) = some (ps.flatMap (32 :: ·)) := by rw [write_parts, h1]; rfl
  obtain ⟨l', hl', hb'⟩ := lexF_back (Lib.join ps [32]).length [] (.inl rfl) rfl ((l.map TokI.nat).map Tok.bare) false _ ((Lib.join ps [32]).length + 1 + 1) hr (by
    cases ps with
    | nil => simp
    | cons p q =>
      rw [join_flat (p :: q) _ (by simp)]
      simp)
  refine ⟨l', ?_, by have := congrArg List.length hb'; simpa using this, sameB_nat h2 hb'⟩
  unfold tokensS
  rw [if_neg (by omega)]
  cases ps with
  | nil =>
    have : lexF 0 (0 + 1) false [] = .ok l' := hl'
    exact this
  | cons p q =>
    rw [join_flat (p :: q) _ (by simp), lexF_blank2, List.append_nil] at hl'
    rw [← hl']
    exact lexF_fuel _ _ _ _ _ (by omega) (by omega)

set_option maxHeartbeats 2000000 in
set_option maxRecDepth 20000 in
theorem lexBack_walk (a : Option Addr) (n cap : Nat) (l : List TokI) (w : World) (hl : Sees w w.heap.size a n l) (hcap : n ≤ cap) (hcm : cap ≤ maxLen) (hsz : ∀ x ∈ l, x.text.length ≤ 1100000) (he : ErrCell w) :
    Calls Tryd.prog 4 #[.slice a n cap] w fun e w' => e = .returned (.bool true) ∧ Below w.heap.size w w' := by
  have HE := Lib.hid he
  have HL := Lib.hid hl
  have hlen : l.length = n := hl.1
  have hn32 := hl.2.1
  clear he hl
  unfold maxLen at hcm
  by_cases hn : n ≤ 60
  · have b1 : decide ((60 : Int) < (n : Int)) = false := decide_eq_false (by omega)
    have b1' : decide (60 < n) = false := decide_eq_false (by omega)
    have cw := fun W (hW : ErrCell W) (hS : Sees W W.heap.size a n l) => ownWrite_any a n cap l W W.heap.size (by omega) (Nat.le_refl _) hS hcap hcm hsz hW
    cases hp : partsI false l with
    | none =>
      rw [hp] at cw
      have CW := Lib.hid (show ∀ W, ErrCell W → Sees W W.heap.size a n l → Calls Tryd.prog 13 #[.slice a n cap] W fun e w' => Below W.heap.size W w' ∧ e = .returned (.tuple #[.string ⟨#[]⟩, .int .i64 204]) from cw)
      clear cw hp
      go_enter Tryd.func4, Tryd.ntmps4
      go_wp2_with (first
        | (go_at_call 10; (with_reducible refine (lexFirst_any _ HE.out).mono ?_); rintro e w1 ⟨rfl, hb1⟩
           have HB1 := Lib.hid hb1
           have HL1 := Lib.hid ((HL.out.below hb1).more hb1.size)
           clear hb1)
        | (go_at_call 13; (with_reducible refine (CW.out _ (HE.out.keep HB1.out) HL1.out).mono ?_); rintro e w2 ⟨hb2, rfl⟩
           have HB2 := Lib.hid (HB1.out.trans (hb2.mono HB1.out.size))
           clear hb2)
        | fail)
      go_ret
      exact ⟨rfl, HB2.out⟩
    | some ps =>
      rw [hp] at cw
      obtain ⟨J, hJ⟩ : ∃ J, J = lxS (Lib.join ps [32]) := ⟨_, rfl⟩
      have hJl : J.toList = Lib.join ps [32] := by rw [hJ, lxS_toList]
      have CW := Lib.hid (show ∀ W, ErrCell W → Sees W W.heap.size a n l → Calls Tryd.prog 13 #[.slice a n cap] W fun e w' => Below W.heap.size W w' ∧ e = .returned (.tuple #[.string J, .int .i64 0]) from by rw [hJ]; exact cw)
      clear cw
      by_cases hbig : J.size ≤ 16384
      · obtain ⟨l', ht, hl2, hsb⟩ := lex_back hp (by rw [← hJl, lxLen]; exact hbig)
        rw [← hJl] at ht
        have d1 : decide ((16384 : Int) < (J.size : Int)) = false := decide_eq_false (by omega)
        have c3 := fun W (hW : ErrCell W) => tokens_ok (s := J) (w := W) (by omega) hW ht (by omega)
        rw [hl2, hlen] at c3
        have C3 := Lib.hid c3
        have HSB := Lib.hid hsb
        clear c3 hsb ht hp hJ hJl
        go_enter Tryd.func4, Tryd.ntmps4
        go_wp2_with (first
          | (go_at_call 10; (with_reducible refine (lexFirst_any _ HE.out).mono ?_); rintro e w1 ⟨rfl, hb1⟩
             have HB1 := Lib.hid hb1
             have HL1 := Lib.hid ((HL.out.below hb1).more hb1.size)
             clear hb1)
          | (go_at_call 13; (with_reducible refine (CW.out _ (HE.out.keep HB1.out) HL1.out).mono ?_); rintro e w2 ⟨hb2, rfl⟩
             have HB2 := Lib.hid (HB1.out.trans (hb2.mono HB1.out.size))
             have HL2 := Lib.hid ((HL1.out.below hb2).more hb2.size)
             clear hb2)
          | (go_at_call 11; (with_reducible refine (C3.out _ (HE.out.keep HB2.out)).mono ?_)
             rintro e w4 ⟨a3, cap3, rfl, hs4, hc4, hm4, hb4, _⟩
             have HB4 := Lib.hid (HB2.out.trans (hb4.mono HB2.out.size))
             have S5 := Lib.hid (lawSame_any a3 a n n cap3 cap _ _ false w4 w4.heap.size hs4 ((HL2.out.below hb4).more hb4.size))
             rw [HSB.out] at S5
             clear hb4 hs4)
          | (go_at_call 15; (with_reducible refine S5.out.mono ?_)
             rintro e w5 ⟨rfl, q5, rfl⟩)
          | fail)
        go_ret
        exact ⟨rfl, below_drewN HB4.out q5⟩
      · have d1 : decide ((16384 : Int) < (J.size : Int)) = true := decide_eq_true (by omega)
        clear hp hJ hJl
        go_enter Tryd.func4, Tryd.ntmps4
        go_wp2_with (first
          | (go_at_call 10; (with_reducible refine (lexFirst_any _ HE.out).mono ?_); rintro e w1 ⟨rfl, hb1⟩
             have HB1 := Lib.hid hb1
             have HL1 := Lib.hid ((HL.out.below hb1).more hb1.size)
             clear hb1)
          | (go_at_call 13; (with_reducible refine (CW.out _ (HE.out.keep HB1.out) HL1.out).mono ?_); rintro e w2 ⟨hb2, rfl⟩
             have HB2 := Lib.hid (HB1.out.trans (hb2.mono HB1.out.size))
             clear hb2)
          | fail)
        go_ret
        exact ⟨rfl, HB2.out⟩
  · have b1 : decide ((60 : Int) < (n : Int)) = true := decide_eq_true (by omega)
    have b1' : decide (60 < n) = true := decide_eq_true (by omega)
    go_enter Tryd.func4, Tryd.ntmps4
    go_wp2_with (first
      | (go_at_call 10; (with_reducible refine (lexFirst_any _ HE.out).mono ?_); rintro e w1 ⟨rfl, hb1⟩
         have HB1 := Lib.hid hb1
         clear hb1)
      | fail)
    go_ret
    exact ⟨rfl, HB1.out⟩
end Go.Proofs.YtifinfmdjbglhaaDoor
