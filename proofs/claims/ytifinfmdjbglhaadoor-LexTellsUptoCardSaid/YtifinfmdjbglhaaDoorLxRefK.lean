/- Contract of the reference's Write. -/
import Derived.Test.YtifinfmdjbglhaaDoorLxOwnN
import Derived.Test.YtifinfmdjbglhaaDoorLxRefG
namespace Go.Proofs.YtifinfmdjbglhaaDoor
open Go.RowKit

theorem join_one (p : Str) : Lib.join [p] [32] = p := by simp [Lib.join, List.intercalate]
theorem join_snoc : ∀ (rs : List Str) (p : Str), rs ≠ [] → Lib.join (rs ++ [p]) [32] = Lib.join rs [32] ++ 32 :: p
  | [], _, h => absurd rfl h
  | [q], p, _ => by
    show Lib.join [q, p] [32] = _
    rw [join_cons, join_one, join_one]
  | q :: q2 :: r, p, _ => by
    have ih := join_snoc (q2 :: r) p (by simp)
    show Lib.join (q :: q2 :: (r ++ [p])) [32] = _
    rw [join_cons, join_cons, show q2 :: (r ++ [p]) = (q2 :: r) ++ [p] from rfl, ih]
    simp
theorem toList_app (a b : ByteArray) : (a ++ b).toList = a.toList ++ b.toList := by
  rw [ByteArray.toList_eq, ByteArray.toList_eq, ByteArray.toList_eq, ByteArray.data_append]
  simp
theorem app_first {J X : ByteArray} {rs : List Str} {p : Str} (hr : rs = []) (hJ : J = lxS (Lib.join rs [32])) (hX : X.toList = p) : J ++ X = lxS (Lib.join (rs ++ [p]) [32]) := by
  subst hr hJ
  refine lxS_inj ?_
  rw [lxS_toList, toList_app, hX, lxS_toList, show ([] : List Str) ++ [p] = [p] from rfl, join_one]
  rfl
theorem app_more {J X : ByteArray} {rs : List Str} {p : Str} (hr : rs ≠ []) (hJ : J = lxS (Lib.join rs [32])) (hX : X.toList = p) : J ++ ⟨#[32]⟩ ++ X = lxS (Lib.join (rs ++ [p]) [32]) := by
  refine lxS_inj ?_
  rw [lxS_toList, toList_app, toList_app, hX, hJ, lxS_toList, join_snoc _ _ hr]
  have : (⟨#[32]⟩ : ByteArray).toList = [32] := by rw [ByteArray.toList_eq]
  rw [this]
  simp

/-- Where the loop stands. -/
def RRel (l : List TokI) (k : Nat) (af : Bool) (rs : List Str) : Prop :=
  rs.length = k ∧ partsI false l = (partsI af (l.drop k)).map (rs ++ ·) ∧ ((k = 0 ∧ af = false) ∨ ∃ x, 0 < k ∧ l[k - 1]? = some x ∧ endsI x.kind x.text = af) ∧ ∀ p ∈ rs, p.length ≤ 4400002
theorem RRel.start (l : List TokI) : RRel l 0 false [] := ⟨rfl, by rw [List.drop_zero]; cases partsI false l <;> rfl, .inl ⟨rfl, rfl⟩, fun p hp => by cases hp⟩
theorem RRel.bad {l : List TokI} {k : Nat} {af : Bool} {rs : List Str} {x : TokI} (h : RRel l k af rs) (hx : l[k]? = some x) (hm : mayHereI af x.kind x.text = false) : partsI false l = none := by
  rw [h.2.1, parts_step hx, hm]; rfl
theorem RRel.next {l : List TokI} {k : Nat} {af : Bool} {rs : List Str} {x : TokI} (h : RRel l k af rs) (hx : l[k]? = some x) (hm : mayHereI af x.kind x.text = true) (ht : x.text.length ≤ 1100000) : RRel l (k + 1) (endsI x.kind x.text) (rs ++ [renderI x]) := by
  refine ⟨by rw [List.length_append, h.1]; rfl, ?_, .inr ⟨x, by omega, by simpa using hx, rfl⟩, fun p hp => ?_⟩
  · rw [h.2.1, parts_step hx, hm]
    simp only [if_true]
    cases partsI (endsI x.kind x.text) (l.drop (k + 1)) with
    | none => rfl
    | some ps => simp
  · rcases List.mem_append.1 hp with hp | hp
    · exact h.2.2.2 p hp
    · rw [List.mem_singleton] at hp
      subst hp
      have := render_len ht
      omega
theorem RRel.stop {l : List TokI} {k : Nat} {af : Bool} {rs : List Str} (h : RRel l k af rs) (hk : l.length ≤ k) : partsI false l = some rs := by
  rw [h.2.1, List.drop_of_length_le hk]
  show some (rs ++ []) = _
  rw [List.append_nil]
theorem here_may {af : Bool} {k : Int} {t : Str} (h : tokMayI k t = false) : mayHereI af k t = false := by unfold mayHereI; rw [h]; rfl
theorem here_kind {af : Bool} {k : Int} {t : Str} (h : tokMayI k t = true) (h1 : (k == 1) = false) : mayHereI af k t = true := by unfold mayHereI; rw [h, h1]; rfl
theorem here_after {k : Int} {t : Str} (h : tokMayI k t = true) : mayHereI false k t = true := by unfold mayHereI; rw [h, Bool.and_false]; rfl
theorem here_byte {af : Bool} {k : Int} {s : ByteArray} (h : tokMayI k s.toList = true) (hp : 0 < s.size) (h45 : (s[0] == 45) = false) : mayHereI af k s.toList = true := by
  have e : s.toList = s[0] :: s.toList.drop 1 := by have := lxDrop s 0 hp; rw [List.drop_zero] at this; exact this
  unfold mayHereI
  rw [h, e]
  show (true && !(k == 1 && (some s[0] == some 45) && af)) = true
  have : (some s[0] == some (45 : UInt8)) = false := by rw [← h45]; rfl
  rw [this]; simp
theorem here_not {k : Int} {s : ByteArray} (h1 : (k == 1) = true) (hp : 0 < s.size) (h45 : (s[0] == 45) = true) : mayHereI true k s.toList = false := by
  have e : s.toList = s[0] :: s.toList.drop 1 := by have := lxDrop s 0 hp; rw [List.drop_zero] at this; exact this
  unfold mayHereI
  rw [h1, e]
  show (_ && !(true && (some s[0] == some 45) && true)) = false
  have : (some s[0] == some (45 : UInt8)) = true := by rw [← h45]; rfl
  rw [this]; simp
theorem may_some {k : Int} {s : ByteArray} (h : tokMayI k s.toList = true) (h1 : (k == 1) = true) : 0 < s.size := by
  rcases Nat.eq_zero_or_pos s.size with h0 | h0
  · have e : s.toList = [] := List.eq_nil_of_length_eq_zero (by rw [lxLen]; exact h0)
    rw [beq_iff_eq] at h1
    subst h1
    rw [e] at h
    have : tokMayI 1 [] = false := by decide
    rw [this] at h; cases h
  · exact h0

set_option maxHeartbeats 8000000 in
set_option maxRecDepth 20000 in
theorem refWrite_any (a : Option Addr) (n cap : Nat) (l : List TokI) (w : World) (bound : Nat) (hn : n ≤ 10000) (hb : bound ≤ w.heap.size) (hl : Sees w bound a n l) (hcap : n ≤ cap) (hcm : cap ≤ 9223372036854775807) (hsz : ∀ x ∈ l, x.text.length ≤ 1100000) :
    Calls Tryd.prog 14 #[.slice a n cap] w fun e w' => Below w.heap.size w w' ∧ WriteAns (partsI false l) e := by
  have HL := Lib.hid hl
  have hlen : l.length = n := hl.1
  clear hl
  go_enter Tryd.func14, Tryd.ntmps14
  go_wp2
  go_loopw [4, 5] (fun v i wr => ∃ (k : Nat) (af : Bool) (rs : List Str) (J : ByteArray), k ≤ n ∧ i = .int .i64 k ∧ v = .string J ∧ Hid (J = lxS (Lib.join rs [32])) ∧ Hid (RRel l k af rs) ∧ Hid (Below w.heap.size w wr)) (fun _ i _ => n - (intOf i).toNat)
  case atStart => exact ⟨0, false, [], ⟨#[]⟩, Nat.zero_le _, rfl, rfl, Lib.hid rfl, Lib.hid (RRel.start l), Lib.hid (Below.refl _ _)⟩
  case round =>
    obtain ⟨k, af, rs, J, hk, rfl, rfl, HJ, HR, HW⟩ := hrel
    have hJs : J.size ≤ 44000030000 := by
      have h1 := join_len 4400002 rs HR.out.2.2.2
      have h2 : J.size = (Lib.join rs [32]).length := by rw [← lxLen, HJ.out, lxS_toList]
      have h3 : rs.length * (4400002 + 1) ≤ 10000 * (4400002 + 1) := Nat.mul_le_mul_right _ (by rw [HR.out.1]; omega)
      omega
    by_cases hlt : k < n
    · obtain ⟨b, off, x, rfl, hbb, hx, x0, x1, x2⟩ := (HL.out.below (HW.out.mono hb)).at_ hlt
      have hbr : b < wr.heap.size := Nat.lt_of_lt_of_le hbb (Nat.le_trans hb HW.out.size)
      have HX := Lib.hid hx
      have hmem : x ∈ l := List.mem_of_getElem? hx
      obtain ⟨X, hX⟩ : ∃ X, X = lxS x.text := ⟨_, rfl⟩
      obtain ⟨kd, hkd⟩ : ∃ kd, kd = x.kind := ⟨_, rfl⟩
      obtain ⟨pl, hpl⟩ : ∃ pl, pl = x.place := ⟨_, rfl⟩
      rw [← hkd] at x0
      rw [← hX] at x1
      rw [← hpl] at x2
      have hXl : X.toList = x.text := by rw [hX, lxS_toList]
      have hxt : x.text.length ≤ 1100000 := hsz x hmem
      have hXs : X.size ≤ 1100000 := by rw [← lxLen, hXl]; exact hxt
      have hkc : k ≤ cap := by omega
      have HXL := Lib.hid hXl
      have HKD := Lib.hid hkd
      obtain ⟨Q, hQ⟩ : ∃ Q, Q = lxS (quotedS x.text) := ⟨_, rfl⟩
      have hQl : Q.toList = quotedS x.text := by rw [hQ, lxS_toList]
      have hQs : Q.size ≤ 4400002 := by
        have := (quoted_len x.text).2
        rw [← hQl, lxLen] at this
        omega
      have cq : ∀ W, Calls Tryd.prog 17 #[.string X] W fun e w' => e = .returned (.string Q) ∧ Below W.heap.size W w' := fun W => by
        have h := refQuoted_any X W (by omega)
        rw [hXl, ← hQ] at h
        exact h
      have CQ := Lib.hid cq
      obtain ⟨tm, htm⟩ : ∃ tm, tm = tokMayI kd X.toList := ⟨_, rfl⟩
      have ct : ∀ W, Calls Tryd.prog 27 #[.agg #[.int .i64 kd, .string X, .int .i64 pl]] W fun e w' => e = .returned (.bool tm) ∧ Below W.heap.size W w' := fun W => by
        refine (refTokenMay_any kd X pl W hXs).mono ?_
        rintro e w' ⟨h1, q, o, rfl⟩
        rw [← htm] at h1
        exact ⟨h1, below_drewN ((Below.refl _ _).alloc (Nat.le_refl _) _) q⟩
      have HQL := Lib.hid hQl
      have hbad : mayHereI af kd X.toList = false → partsI false l = none := fun h => HR.out.bad hx (by rw [← hkd, ← hXl]; exact h)
      have hnext : mayHereI af kd X.toList = true → RRel l (k + 1) (endsI x.kind x.text) (rs ++ [renderI x]) := fun h => HR.out.next hx (by rw [← hkd, ← hXl]; exact h) hxt
      have hplain : (kd == 2) = false → X.toList = renderI x := fun h => by unfold renderI; rw [← hkd, h]; exact hXl
      have hquote : (kd == 2) = true → Q.toList = renderI x := fun h => by unfold renderI; rw [← hkd, h]; exact hQl
      have hrs := HR.out.1
      have HBAD := Lib.hid hbad
      have HNEXT := Lib.hid hnext
      have HPLAIN := Lib.hid hplain
      have HQUOTE := Lib.hid hquote
      clear cq hx hmem hX hkd hpl hXl hQ hQl hbad hnext hplain hquote
      rcases HR.out.2.2.1 with ⟨h0, haf⟩ | ⟨y, hk0, hy, hye⟩
      · have hnil : rs = [] := List.eq_nil_of_length_eq_zero (by omega)
        have b1 : decide ((0 : Int) < (k : Int)) = false := decide_eq_false (by omega)
        have b2 : decide (0 < k) = false := decide_eq_false (by omega)
        clear h0
        cases tm
        · have CT := Lib.hid ct
          have HTM := Lib.hid htm.symm
          clear ct htm
          have HF := Lib.hid (HBAD.out (here_may HTM.out))
          clear HBAD HNEXT HPLAIN HQUOTE
          go_wp2_with (first
          | (go_at_call 27; (with_reducible refine (CT.out _).mono ?_); rintro e w1 ⟨rfl, hb1⟩
             obtain ⟨hcc, hff⟩ := bcell hb1
             have y0 := (hcc b _ hbr).trans x0
             have y1 := (hcc b _ hbr).trans x1
             have y2 := (hcc b _ hbr).trans x2
             have HW1 := Lib.hid (HW.out.trans (hb1.mono HW.out.size))
             have hbr1 : b < w1.heap.size := Nat.lt_of_lt_of_le hbr hb1.size
             clear hb1 hcc hff)
          | fail)
          go_ret2
          refine ⟨HW1.out, ?_⟩
          rw [HF.out]
          rfl
        · have CT := Lib.hid ct
          have HTM := Lib.hid htm.symm
          clear ct htm
          cases z1 : (kd == 1)
          · cases z2 : (kd == 2)
            · skip
              have HN := Lib.hid (HNEXT.out (here_kind HTM.out z1))
              have HEQ := Lib.hid (app_first (X := X) hnil HJ.out (HPLAIN.out z2))
              clear HBAD HNEXT HPLAIN HQUOTE
              go_wp2_with (first
              | (go_at_call 27; (with_reducible refine (CT.out _).mono ?_); rintro e w1 ⟨rfl, hb1⟩
                 obtain ⟨hcc, hff⟩ := bcell hb1
                 have y0 := (hcc b _ hbr).trans x0
                 have y1 := (hcc b _ hbr).trans x1
                 have y2 := (hcc b _ hbr).trans x2
                 have HW1 := Lib.hid (HW.out.trans (hb1.mono HW.out.size))
                 have hbr1 : b < w1.heap.size := Nat.lt_of_lt_of_le hbr hb1.size
                 clear hb1 hcc hff)
              | fail)
              go_roundw
              case rel =>
                refine ⟨k + 1, endsI x.kind x.text, rs ++ [renderI x], J ++ X, ?_, ?_, ?_, ?_, ?_, ?_⟩
                · omega
                · go_num
                · rfl
                · exact HEQ
                · exact HN
                · exact HW1
              case measure => simp [intOf]; omega
            · skip
              have HN := Lib.hid (HNEXT.out (here_kind HTM.out z1))
              have HEQ := Lib.hid (app_first (X := Q) hnil HJ.out (HQUOTE.out z2))
              clear HBAD HNEXT HPLAIN HQUOTE
              go_wp2_with (first
              | (go_at_call 27; (with_reducible refine (CT.out _).mono ?_); rintro e w1 ⟨rfl, hb1⟩
                 obtain ⟨hcc, hff⟩ := bcell hb1
                 have y0 := (hcc b _ hbr).trans x0
                 have y1 := (hcc b _ hbr).trans x1
                 have y2 := (hcc b _ hbr).trans x2
                 have HW1 := Lib.hid (HW.out.trans (hb1.mono HW.out.size))
                 have hbr1 : b < w1.heap.size := Nat.lt_of_lt_of_le hbr hb1.size
                 clear hb1 hcc hff)
              | (go_at_call 17; (with_reducible refine (CQ.out _).mono ?_); rintro e w3 ⟨rfl, hb3⟩
                 have HW3 := Lib.hid (HW1.out.trans (hb3.mono HW1.out.size))
                 clear hb3)
              | fail)
              go_roundw
              case rel =>
                refine ⟨k + 1, endsI x.kind x.text, rs ++ [renderI x], J ++ Q, ?_, ?_, ?_, ?_, ?_, ?_⟩
                · omega
                · go_num
                · rfl
                · exact HEQ
                · exact HN
                · exact HW3
              case measure => simp [intOf]; omega
          · have hXp := may_some HTM.out z1
            have z2 : (kd == 2) = false := by rw [beq_iff_eq] at z1; rw [z1]; rfl
            cases h45 : (X[0] == 45)
            · have e45 : (((X[0].toNat : Nat) : Int) == 45) = false := by rw [← h45]; exact byte_is X[0] 45 (by omega)
              have HN := Lib.hid (HNEXT.out (here_byte HTM.out hXp h45))
              have HEQ := Lib.hid (app_first (X := X) hnil HJ.out (HPLAIN.out z2))
              clear HBAD HNEXT HPLAIN HQUOTE
              go_wp2_with (first
              | (go_at_call 27; (with_reducible refine (CT.out _).mono ?_); rintro e w1 ⟨rfl, hb1⟩
                 obtain ⟨hcc, hff⟩ := bcell hb1
                 have y0 := (hcc b _ hbr).trans x0
                 have y1 := (hcc b _ hbr).trans x1
                 have y2 := (hcc b _ hbr).trans x2
                 have HW1 := Lib.hid (HW.out.trans (hb1.mono HW.out.size))
                 have hbr1 : b < w1.heap.size := Nat.lt_of_lt_of_le hbr hb1.size
                 clear hb1 hcc hff)
              | fail)
              go_roundw
              case rel =>
                refine ⟨k + 1, endsI x.kind x.text, rs ++ [renderI x], J ++ X, ?_, ?_, ?_, ?_, ?_, ?_⟩
                · omega
                · go_num
                · rfl
                · exact HEQ
                · exact HN
                · exact HW1
              case measure => simp [intOf]; omega
            · have e45 : (((X[0].toNat : Nat) : Int) == 45) = true := by rw [← h45]; exact byte_is X[0] 45 (by omega)
              subst haf
              have HN := Lib.hid (HNEXT.out (here_after HTM.out))
              have HEQ := Lib.hid (app_first (X := X) hnil HJ.out (HPLAIN.out z2))
              clear HBAD HNEXT HPLAIN HQUOTE
              go_wp2_with (first
              | (go_at_call 27; (with_reducible refine (CT.out _).mono ?_); rintro e w1 ⟨rfl, hb1⟩
                 obtain ⟨hcc, hff⟩ := bcell hb1
                 have y0 := (hcc b _ hbr).trans x0
                 have y1 := (hcc b _ hbr).trans x1
                 have y2 := (hcc b _ hbr).trans x2
                 have HW1 := Lib.hid (HW.out.trans (hb1.mono HW.out.size))
                 have hbr1 : b < w1.heap.size := Nat.lt_of_lt_of_le hbr hb1.size
                 clear hb1 hcc hff)
              | fail)
              go_roundw
              case rel =>
                refine ⟨k + 1, endsI x.kind x.text, rs ++ [renderI x], J ++ X, ?_, ?_, ?_, ?_, ?_, ?_⟩
                · omega
                · go_num
                · rfl
                · exact HEQ
                · exact HN
                · exact HW1
              case measure => simp [intOf]; omega
      · have hne : rs ≠ [] := fun h => by rw [h] at hrs; simp at hrs; omega
        have b1 : decide ((0 : Int) < (k : Int)) = true := decide_eq_true (by omega)
        have b2 : decide (0 < k) = true := decide_eq_true (by omega)
        obtain ⟨m, hkm⟩ : ∃ m, k = m + 1 := ⟨k - 1, by omega⟩
        obtain ⟨b', off', t, he', _, ht, v0, v1, v2⟩ := (HL.out.below (HW.out.mono hb)).at_ (k := m) (by omega)
        injection he' with he'
        injection he' with e1 e2 e3
        subst e1 e2
        rw [show k - 1 = m by omega] at hy
        rw [hy] at ht
        injection ht with ht
        subst ht
        obtain ⟨Y, hY⟩ : ∃ Y, Y = lxS y.text := ⟨_, rfl⟩
        obtain ⟨ky, hky⟩ : ∃ ky, ky = y.kind := ⟨_, rfl⟩
        obtain ⟨py, hpy⟩ : ∃ py, py = y.place := ⟨_, rfl⟩
        rw [← hky] at v0
        rw [← hY] at v1
        rw [← hpy] at v2
        have ce : ∀ W, Calls Tryd.prog 23 #[.agg #[.int .i64 ky, .string Y, .int .i64 py]] W fun e w' => e = .returned (.bool af) ∧ Below W.heap.size W w' := fun W => by
          have h := refEnds_any ky Y py W
          rw [hY, lxS_toList, hky, hye, ← hY, ← hky] at h
          exact h
        have i1 : (k : Int) - 1 = (m : Int) := by omega
        have hmc : m ≤ cap := by omega
        have hmn : m < n := by omega
        clear hY hky hpy hy hye hkm
        cases tm
        · have CT := Lib.hid ct
          have HTM := Lib.hid htm.symm
          clear ct htm
          have HF := Lib.hid (HBAD.out (here_may HTM.out))
          clear HBAD HNEXT HPLAIN HQUOTE
          go_wp2_with (first
          | (go_at_call 27; (with_reducible refine (CT.out _).mono ?_); rintro e w1 ⟨rfl, hb1⟩
             obtain ⟨hcc, hff⟩ := bcell hb1
             have y0 := (hcc b _ hbr).trans x0
             have y1 := (hcc b _ hbr).trans x1
             have y2 := (hcc b _ hbr).trans x2
             have t0 := (hcc b _ hbr).trans v0
             have t1 := (hcc b _ hbr).trans v1
             have t2 := (hcc b _ hbr).trans v2
             have HW1 := Lib.hid (HW.out.trans (hb1.mono HW.out.size))
             have hbr1 : b < w1.heap.size := Nat.lt_of_lt_of_le hbr hb1.size
             clear hb1 hcc hff)
          | fail)
          go_ret2
          refine ⟨HW1.out, ?_⟩
          rw [HF.out]
          rfl
        · have CT := Lib.hid ct
          have HTM := Lib.hid htm.symm
          clear ct htm
          cases z1 : (kd == 1)
          · cases z2 : (kd == 2)
            · skip
              have HN := Lib.hid (HNEXT.out (here_kind HTM.out z1))
              have HEQ := Lib.hid (app_more (X := X) hne HJ.out (HPLAIN.out z2))
              clear HBAD HNEXT HPLAIN HQUOTE
              go_wp2_with (first
              | (go_at_call 27; (with_reducible refine (CT.out _).mono ?_); rintro e w1 ⟨rfl, hb1⟩
                 obtain ⟨hcc, hff⟩ := bcell hb1
                 have y0 := (hcc b _ hbr).trans x0
                 have y1 := (hcc b _ hbr).trans x1
                 have y2 := (hcc b _ hbr).trans x2
                 have t0 := (hcc b _ hbr).trans v0
                 have t1 := (hcc b _ hbr).trans v1
                 have t2 := (hcc b _ hbr).trans v2
                 have HW1 := Lib.hid (HW.out.trans (hb1.mono HW.out.size))
                 have hbr1 : b < w1.heap.size := Nat.lt_of_lt_of_le hbr hb1.size
                 clear hb1 hcc hff)
              | fail)
              go_roundw
              case rel =>
                refine ⟨k + 1, endsI x.kind x.text, rs ++ [renderI x], J ++ ⟨#[32]⟩ ++ X, ?_, ?_, ?_, ?_, ?_, ?_⟩
                · omega
                · go_num
                · rfl
                · exact HEQ
                · exact HN
                · exact HW1
              case measure => simp [intOf]; omega
            · skip
              have HN := Lib.hid (HNEXT.out (here_kind HTM.out z1))
              have HEQ := Lib.hid (app_more (X := Q) hne HJ.out (HQUOTE.out z2))
              clear HBAD HNEXT HPLAIN HQUOTE
              go_wp2_with (first
              | (go_at_call 27; (with_reducible refine (CT.out _).mono ?_); rintro e w1 ⟨rfl, hb1⟩
                 obtain ⟨hcc, hff⟩ := bcell hb1
                 have y0 := (hcc b _ hbr).trans x0
                 have y1 := (hcc b _ hbr).trans x1
                 have y2 := (hcc b _ hbr).trans x2
                 have t0 := (hcc b _ hbr).trans v0
                 have t1 := (hcc b _ hbr).trans v1
                 have t2 := (hcc b _ hbr).trans v2
                 have HW1 := Lib.hid (HW.out.trans (hb1.mono HW.out.size))
                 have hbr1 : b < w1.heap.size := Nat.lt_of_lt_of_le hbr hb1.size
                 clear hb1 hcc hff)
              | (go_at_call 17; (with_reducible refine (CQ.out _).mono ?_); rintro e w3 ⟨rfl, hb3⟩
                 have HW3 := Lib.hid (HW1.out.trans (hb3.mono HW1.out.size))
                 clear hb3)
              | fail)
              go_roundw
              case rel =>
                refine ⟨k + 1, endsI x.kind x.text, rs ++ [renderI x], J ++ ⟨#[32]⟩ ++ Q, ?_, ?_, ?_, ?_, ?_, ?_⟩
                · omega
                · go_num
                · rfl
                · exact HEQ
                · exact HN
                · exact HW3
              case measure => simp [intOf]; omega
          · have hXp := may_some HTM.out z1
            have z2 : (kd == 2) = false := by rw [beq_iff_eq] at z1; rw [z1]; rfl
            cases h45 : (X[0] == 45)
            · have e45 : (((X[0].toNat : Nat) : Int) == 45) = false := by rw [← h45]; exact byte_is X[0] 45 (by omega)
              have HN := Lib.hid (HNEXT.out (here_byte HTM.out hXp h45))
              have HEQ := Lib.hid (app_more (X := X) hne HJ.out (HPLAIN.out z2))
              clear HBAD HNEXT HPLAIN HQUOTE
              go_wp2_with (first
              | (go_at_call 27; (with_reducible refine (CT.out _).mono ?_); rintro e w1 ⟨rfl, hb1⟩
                 obtain ⟨hcc, hff⟩ := bcell hb1
                 have y0 := (hcc b _ hbr).trans x0
                 have y1 := (hcc b _ hbr).trans x1
                 have y2 := (hcc b _ hbr).trans x2
                 have t0 := (hcc b _ hbr).trans v0
                 have t1 := (hcc b _ hbr).trans v1
                 have t2 := (hcc b _ hbr).trans v2
                 have HW1 := Lib.hid (HW.out.trans (hb1.mono HW.out.size))
                 have hbr1 : b < w1.heap.size := Nat.lt_of_lt_of_le hbr hb1.size
                 clear hb1 hcc hff)
              | fail)
              go_roundw
              case rel =>
                refine ⟨k + 1, endsI x.kind x.text, rs ++ [renderI x], J ++ ⟨#[32]⟩ ++ X, ?_, ?_, ?_, ?_, ?_, ?_⟩
                · omega
                · go_num
                · rfl
                · exact HEQ
                · exact HN
                · exact HW1
              case measure => simp [intOf]; omega
            · have e45 : (((X[0].toNat : Nat) : Int) == 45) = true := by rw [← h45]; exact byte_is X[0] 45 (by omega)
              cases af
              · have CE := Lib.hid ce
                clear ce
                have HN := Lib.hid (HNEXT.out (here_after HTM.out))
                have HEQ := Lib.hid (app_more (X := X) hne HJ.out (HPLAIN.out z2))
                clear HBAD HNEXT HPLAIN HQUOTE
                go_wp2_with (first
                | (go_at_call 27; (with_reducible refine (CT.out _).mono ?_); rintro e w1 ⟨rfl, hb1⟩
                   obtain ⟨hcc, hff⟩ := bcell hb1
                   have y0 := (hcc b _ hbr).trans x0
                   have y1 := (hcc b _ hbr).trans x1
                   have y2 := (hcc b _ hbr).trans x2
                   have t0 := (hcc b _ hbr).trans v0
                   have t1 := (hcc b _ hbr).trans v1
                   have t2 := (hcc b _ hbr).trans v2
                   have HW1 := Lib.hid (HW.out.trans (hb1.mono HW.out.size))
                   have hbr1 : b < w1.heap.size := Nat.lt_of_lt_of_le hbr hb1.size
                   clear hb1 hcc hff)
                | (go_at_call 23; (with_reducible refine (CE.out _).mono ?_); rintro e w2 ⟨rfl, hb2⟩
                   obtain ⟨hcc, hff⟩ := bcell hb2
                   have u0 := (hcc b _ hbr1).trans y0
                   have u1 := (hcc b _ hbr1).trans y1
                   have u2 := (hcc b _ hbr1).trans y2
                   have HW2 := Lib.hid (HW1.out.trans (hb2.mono HW1.out.size))
                   clear hb2 hcc hff)
                | fail)
                go_roundw
                case rel =>
                  refine ⟨k + 1, endsI x.kind x.text, rs ++ [renderI x], J ++ ⟨#[32]⟩ ++ X, ?_, ?_, ?_, ?_, ?_, ?_⟩
                  · omega
                  · go_num
                  · rfl
                  · exact HEQ
                  · exact HN
                  · exact HW2
                case measure => simp [intOf]; omega
              · have CE := Lib.hid ce
                clear ce
                have HF := Lib.hid (HBAD.out (here_not z1 hXp h45))
                clear HBAD HNEXT HPLAIN HQUOTE
                go_wp2_with (first
                | (go_at_call 27; (with_reducible refine (CT.out _).mono ?_); rintro e w1 ⟨rfl, hb1⟩
                   obtain ⟨hcc, hff⟩ := bcell hb1
                   have y0 := (hcc b _ hbr).trans x0
                   have y1 := (hcc b _ hbr).trans x1
                   have y2 := (hcc b _ hbr).trans x2
                   have t0 := (hcc b _ hbr).trans v0
                   have t1 := (hcc b _ hbr).trans v1
                   have t2 := (hcc b _ hbr).trans v2
                   have HW1 := Lib.hid (HW.out.trans (hb1.mono HW.out.size))
                   have hbr1 : b < w1.heap.size := Nat.lt_of_lt_of_le hbr hb1.size
                   clear hb1 hcc hff)
                | (go_at_call 23; (with_reducible refine (CE.out _).mono ?_); rintro e w2 ⟨rfl, hb2⟩
                   obtain ⟨hcc, hff⟩ := bcell hb2
                   have u0 := (hcc b _ hbr1).trans y0
                   have u1 := (hcc b _ hbr1).trans y1
                   have u2 := (hcc b _ hbr1).trans y2
                   have HW2 := Lib.hid (HW1.out.trans (hb2.mono HW1.out.size))
                   clear hb2 hcc hff)
                | fail)
                go_ret2
                refine ⟨HW2.out, ?_⟩
                rw [HF.out]
                rfl
    · have HF := Lib.hid (HR.out.stop (by omega))
      have HRET := Lib.hid HJ.out
      go_wp2
      go_ret2
      refine ⟨HW.out, ?_⟩
      rw [HF.out, HRET.out]
      rfl
end Go.Proofs.YtifinfmdjbglhaaDoor
