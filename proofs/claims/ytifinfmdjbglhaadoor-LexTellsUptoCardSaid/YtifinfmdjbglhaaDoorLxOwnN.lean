/- Contract of the program's Write. -/
import Derived.Test.YtifinfmdjbglhaaDoorLxOwnM
import Derived.Test.YtifinfmdjbglhaaDoorLxSame
import Derived.Deep.RegionHeld3
namespace Go.Proofs.YtifinfmdjbglhaaDoor
open Go.RowKit

def renderI (x : TokI) : Str := if x.kind == 2 then quotedS x.text else x.text
/-- The texts of some tokens, if each may stand where it stands. -/
def partsI : Bool → List TokI → Option (List Str)
  | _, [] => some []
  | after, x :: l => if mayHereI after x.kind x.text then (partsI (endsI x.kind x.text) l).map (renderI x :: ·) else none
theorem may_neg {k : Int} {t : Str} (h : tokMayI k t = true) : negI k t = !endsI k t := by
  unfold tokMayI at h
  unfold negI endsI
  by_cases k0 : k = 0
  · subst k0; simp
  by_cases k1 : k = 1
  · subst k1; rfl
  by_cases k2 : k = 2
  · subst k2; rfl
  have z0 : (k == 0) = false := by rw [beq_eq_false_iff_ne]; exact k0
  have z1 : (k == 1) = false := by rw [beq_eq_false_iff_ne]; exact k1
  have z2 : (k == 2) = false := by rw [beq_eq_false_iff_ne]; exact k2
  rw [z0, z1, z2] at h ⊢
  cases z3 : (k == 3)
  · rw [z3] at h; cases h
  · show (t != [41]) = !(true && t == [41])
    rfl

theorem info_str : (Tryd.prog.info? 9).map (fun i => (i.zero, i.size, i.bytes)) = some (some (.string ByteArray.empty), 1, 16) := by kernel_rfl
theorem made_parts (n : Nat) (hn : n ≤ 10000) (W : World) : (Instr.makeSlice 43 (.int .i64 (n : Int)) (.int .i64 (n : Int))).run Tryd.prog W =
    .ok (.slice (some ⟨W.heap.size, 0, none⟩) n n) (W.alloc (.cells (madeCells #[.string ByteArray.empty] n) 9)) := by
  obtain ⟨i, hi, hzz⟩ := Option.map_eq_some_iff.1 info_str
  simp only [Prod.mk.injEq] at hzz
  obtain ⟨hz, hs, hb⟩ := hzz
  have hr := run_make (P := Tryd.prog) W 43 9 i _ Tryd.underlying43 hi hz .i64 .i64 (n : Int) (n : Int) (by omega) (by omega) (by rw [hb]; omega) (by omega)
  rw [hs, Int.toNat_natCast, Nat.mul_one] at hr
  exact hr

/-- Block pb holds these texts first, and more cells that may be written. -/
def Row (pb n : Nat) (W : World) (rs : List Str) : Prop :=
  (∀ (j : Nat) (x : Str), rs[j]? = some x → W.cell? ⟨pb, j, none⟩ = some (.string (lxS x))) ∧ (∀ j : Nat, j < n → (W.cell? ⟨pb, j, none⟩).isSome = true ∧ W.frozen? ⟨pb, j, none⟩ = false) ∧ pb < W.heap.size
theorem Row.below {pb n B : Nat} {W W' : World} {rs : List Str} (h : Row pb n W rs) (hb : Below B W W') (hp : pb < B) : Row pb n W' rs :=
  ⟨fun j x hx => by rw [hb.cell (p := ⟨pb, j, none⟩) hp]; exact h.1 j x hx, fun j hj => by rw [hb.cell (p := ⟨pb, j, none⟩) hp, hb.frozen (p := ⟨pb, j, none⟩) hp]; exact h.2.1 j hj, Nat.lt_of_lt_of_le h.2.2 hb.size⟩
theorem Row.drop {pb n : Nat} {W : World} {rs : List Str} {y : Str} (h : Row pb n W (rs ++ [y])) : Row pb n W rs :=
  ⟨fun j x hx => h.1 j x (by
    have hj : j < rs.length := by
      rcases Nat.lt_or_ge j rs.length with h | h
      · exact h
      · rw [List.getElem?_eq_none h] at hx; cases hx
    rw [List.getElem?_append_left hj]; exact hx), h.2⟩
theorem Row.set {pb n : Nat} {W : World} {rs : List Str} (h : Row pb n W rs) (x : Str) (hk : rs.length < n) : Row pb n (W.setCell ⟨pb, rs.length, none⟩ (.string (lxS x))) (rs ++ [x]) := by
  have ne : ∀ i j : Nat, i ≠ j → (⟨pb, i, none⟩ : Addr) ≠ ⟨pb, j, none⟩ := fun i j h e => by injection e with _ e _; exact h e
  refine ⟨fun j y hy => ?_, fun j hj => ⟨?_, by rw [World.frozen?_setCell]; exact (h.2.1 j hj).2⟩, by simp; exact h.2.2⟩
  · rcases Nat.lt_trichotomy j rs.length with h1 | h1 | h1
    · rw [World.cell?_setCell_other _ _ _ _ (ne _ _ (by omega))]
      rw [List.getElem?_append_left h1] at hy
      exact h.1 j y hy
    · subst h1
      rw [List.getElem?_concat_length] at hy
      injection hy with hy
      subst hy
      exact World.cell?_setCell_same' _ _ _ (h.2.1 _ hk).1
    · rw [List.getElem?_eq_none (by simp; omega)] at hy; cases hy
  · rcases Nat.lt_or_ge j rs.length with h1 | h1
    · rw [World.cell?_setCell_other _ _ _ _ (ne _ _ (by omega))]; exact (h.2.1 j hj).1
    · rcases Nat.eq_or_lt_of_le h1 with h1 | h1
      · subst h1
        rw [World.cell?_setCell_same' _ _ _ (h.2.1 _ hk).1]; rfl
      · rw [World.cell?_setCell_other _ _ _ _ (ne _ _ (by omega))]; exact (h.2.1 j hj).1
theorem Row.made (w : World) (n : Nat) : Row w.heap.size n (w.alloc (.cells (madeCells #[.string ByteArray.empty] n) 9)) [] :=
  ⟨fun j x hx => by simp at hx, fun j hj => ⟨by simp [madeCells, hj], by simp⟩, by simp⟩
theorem parts_step {after : Bool} {l : List TokI} {x : TokI} {k : Nat} (hx : l[k]? = some x) :
    partsI after (l.drop k) = if mayHereI after x.kind x.text then (partsI (endsI x.kind x.text) (l.drop (k + 1))).map (renderI x :: ·) else none := by
  have h1 : l.drop k = x :: l.drop (k + 1) := by
    obtain ⟨h, e⟩ := List.getElem?_eq_some_iff.1 hx
    rw [List.drop_eq_getElem_cons h, e]
  rw [h1]; rfl
/-- Where the loop stands. -/
def WRel (l : List TokI) (k : Nat) (af : Bool) (rs : List Str) : Prop :=
  rs.length = k ∧ partsI false l = (partsI af (l.drop k)).map (rs ++ ·) ∧ ((k = 0 ∧ af = false) ∨ ∃ x, 0 < k ∧ l[k - 1]? = some x ∧ negI x.kind x.text = !af)
theorem WRel.start (l : List TokI) : WRel l 0 false [] := ⟨rfl, by rw [List.drop_zero]; cases partsI false l <;> rfl, .inl ⟨rfl, rfl⟩⟩
theorem WRel.bad {l : List TokI} {k : Nat} {af : Bool} {rs : List Str} {x : TokI} (h : WRel l k af rs) (hx : l[k]? = some x) (hm : mayHereI af x.kind x.text = false) : partsI false l = none := by
  rw [h.2.1, parts_step hx, hm]; rfl
theorem WRel.next {l : List TokI} {k : Nat} {af : Bool} {rs : List Str} {x : TokI} (h : WRel l k af rs) (hx : l[k]? = some x) (hm : mayHereI af x.kind x.text = true) : WRel l (k + 1) (endsI x.kind x.text) (rs ++ [renderI x]) := by
  refine ⟨by rw [List.length_append, h.1]; rfl, ?_, .inr ⟨x, by omega, by simpa using hx, ?_⟩⟩
  · rw [h.2.1, parts_step hx, hm]
    simp only [if_true]
    cases partsI (endsI x.kind x.text) (l.drop (k + 1)) with
    | none => rfl
    | some ps => simp
  · unfold mayHereI at hm
    rw [Bool.and_eq_true] at hm
    exact may_neg hm.1
theorem WRel.stop {l : List TokI} {k : Nat} {af : Bool} {rs : List Str} (h : WRel l k af rs) (hk : l.length ≤ k) : partsI false l = some rs := by
  rw [h.2.1, List.drop_of_length_le hk]
  show some (rs ++ []) = _
  rw [List.append_nil]

theorem join_cons (p q : Str) (r : List Str) : Lib.join (p :: q :: r) [32] = p ++ 32 :: Lib.join (q :: r) [32] := by
  unfold Lib.join
  simp [List.intercalate, List.intersperse]
theorem join_len (B : Nat) : ∀ ps : List Str, (∀ p ∈ ps, p.length ≤ B) → (Lib.join ps [32]).length ≤ ps.length * (B + 1)
  | [], _ => by simp [Lib.join, List.intercalate]
  | [p], h => by
    have := h p (List.mem_cons_self ..)
    simp [Lib.join, List.intercalate]
    omega
  | p :: q :: r, h => by
    have h1 := h p (List.mem_cons_self ..)
    have h2 := join_len B (q :: r) fun x hx => h x (List.mem_cons_of_mem _ hx)
    rw [join_cons, List.length_append, List.length_cons]
    rw [show (p :: q :: r).length = (q :: r).length + 1 from rfl, Nat.add_mul, Nat.one_mul]
    omega
theorem render_len {x : TokI} {M : Nat} (h : x.text.length ≤ M) : (renderI x).length ≤ 4 * M + 2 := by
  unfold renderI
  split
  · have := (quoted_len x.text).2; omega
  · omega
theorem parts_len : ∀ {l : List TokI} {after : Bool} {ps : List Str}, (∀ x ∈ l, x.text.length ≤ 1100000) → partsI after l = some ps → ∀ p ∈ ps, p.length ≤ 4400002
  | [], _, ps, _, h => by
    injection h with h
    subst h
    intro p hp
    cases hp
  | x :: l, after, ps, hl, h => by
    rw [partsI] at h
    split at h
    · obtain ⟨qs, hq, rfl⟩ := Option.map_eq_some_iff.1 h
      intro p hp
      rcases List.mem_cons.1 hp with rfl | hp
      · have := render_len (hl x (List.mem_cons_self ..)); omega
      · exact parts_len (fun y hy => hl y (List.mem_cons_of_mem _ hy)) hq p hp
    · cases h

def WriteAns : Option (List Str) → Ending → Prop
  | none, e => e = .returned (.tuple #[.string ⟨#[]⟩, .int .i64 204])
  | some ps, e => e = .returned (.tuple #[.string (lxS ([32].intercalate ps)), .int .i64 0])

set_option maxHeartbeats 4000000 in
theorem ownWrite_any (a : Option Addr) (n cap : Nat) (l : List TokI) (w : World) (bound : Nat) (hn : n ≤ 10000) (hb : bound ≤ w.heap.size) (hl : Sees w bound a n l) (hcap : n ≤ cap) (hcm : cap ≤ 9223372036854775807) (hsz : ∀ x ∈ l, x.text.length ≤ 1100000) (he : ErrCell w) :
    Calls Tryd.prog 13 #[.slice a n cap] w fun e w' => Below w.heap.size w w' ∧ WriteAns (partsI false l) e := by
  have hmk := fun W => made_parts n hn W
  have HL := Lib.hid hl
  have hlen : l.length = n := hl.1
  have HE := Lib.hid he
  have HROW := Lib.hid (Row.made w n)
  have HW0 := Lib.hid ((Below.refl w.heap.size w).alloc (Nat.le_refl _) (.cells (madeCells #[.string ByteArray.empty] n) 9))
  clear hl he
  go_enter Tryd.func13, Tryd.ntmps13
  go_wp2
  clear hmk
  go_loopw [12] (fun i wr => ∃ (k : Nat) (af : Bool) (rs : List Str), k ≤ n ∧ i = .int .i64 k ∧ Hid (WRel l k af rs) ∧ Hid (Row w.heap.size n wr rs) ∧ Hid (Below w.heap.size w wr)) (fun i _ => n - (intOf i).toNat)
  case atStart => exact ⟨0, false, [], Nat.zero_le _, rfl, Lib.hid (WRel.start l), HROW, HW0⟩
  case round =>
    obtain ⟨k, af, rs, hk, rfl, HR, HRW, HW⟩ := hrel
    by_cases hlt : k < n
    · obtain ⟨b, off, x, rfl, hbb, hx, x0, x1, x2⟩ := (HL.out.below (HW.out.mono hb)).at_ hlt
      have hbw : b < w.heap.size := Nat.lt_of_lt_of_le hbb hb
      have hpw : w.heap.size < wr.heap.size := HRW.out.2.2
      have HX := Lib.hid hx
      have hmem : x ∈ l := List.mem_of_getElem? hx
      obtain ⟨X, hX⟩ : ∃ X, X = lxS x.text := ⟨_, rfl⟩
      obtain ⟨kd, hkd⟩ : ∃ kd, kd = x.kind := ⟨_, rfl⟩
      obtain ⟨pl, hpl⟩ : ∃ pl, pl = x.place := ⟨_, rfl⟩
      rw [← hkd] at x0
      rw [← hX] at x1
      rw [← hpl] at x2
      have hXl : X.toList = x.text := by rw [hX, lxS_toList]
      have hXs : X.size ≤ 1100000 := by rw [← lxLen, hXl]; exact hsz x hmem
      have HXL := Lib.hid hXl
      have HXX := Lib.hid hX
      have HKD := Lib.hid hkd
      have hkc : k ≤ cap := by omega
      have HT := Lib.hid (show (wr.alloc (.cells #[.int .i64 kd, .string X, .int .i64 pl] 35)).cell? ⟨wr.heap.size, 0, none⟩ = some (.int .i64 kd) ∧ (wr.alloc (.cells #[.int .i64 kd, .string X, .int .i64 pl] 35)).cell? ⟨wr.heap.size, 1, none⟩ = some (.string X) ∧ (wr.alloc (.cells #[.int .i64 kd, .string X, .int .i64 pl] 35)).cell? ⟨wr.heap.size, 2, none⟩ = some (.int .i64 pl) by simp)
      have HB1 := Lib.hid ((Below.refl wr.heap.size wr).alloc (Nat.le_refl _) (.cells #[.int .i64 kd, .string X, .int .i64 pl] 35))
      have hA1 : wr.heap.size < (wr.alloc (.cells #[.int .i64 kd, .string X, .int .i64 pl] 35)).heap.size := by simp
      have cnw : ∀ W, Below w.heap.size w W → Calls Tryd.prog 21 #[.slice (some ⟨b, off, none⟩) k cap] W fun e w' => e = .returned (.bool (!af)) ∧ Below W.heap.size W w' := fun W hW => by
        rcases HR.out.2.2 with ⟨rfl, rfl⟩ | ⟨y, hk0, hy, hny⟩
        · refine (mayNegate_none (some ⟨b, off, none⟩) cap W).mono ?_
          rintro e w' ⟨h1, rfl⟩
          exact ⟨h1, Below.refl _ _⟩
        · obtain ⟨m, rfl⟩ : ∃ m, k = m + 1 := ⟨k - 1, by omega⟩
          obtain ⟨b', off', t, he', _, ht, t0, t1, t2⟩ := (HL.out.below (hW.mono hb)).at_ (k := m) (by omega)
          injection he' with he'
          injection he' with e1 e2 e3
          subst e1 e2
          rw [show m + 1 - 1 = m from rfl] at hy
          rw [hy] at ht
          injection ht with ht
          subst ht
          refine (mayNegate_last b off m cap y.kind (lxS y.text) y.place W (by omega) hcm t0 t1 t2).mono ?_
          rintro e w' ⟨h1, rfl⟩
          rw [lxS_toList, hny] at h1
          exact ⟨h1, (Below.refl _ _).alloc (Nat.le_refl _) _⟩
      have CN := Lib.hid cnw
      have cf : ∀ W, ErrCell W → Calls Tryd.prog 25 #[.agg #[.int .i64 kd, .string X, .int .i64 pl], .bool (!af)] W fun e w' => e = .returned (.bool (mayHereI af kd X.toList)) ∧ Below W.heap.size W w' := fun W hW => by
        have h := ownFits_any kd X pl (!af) W hXs hW
        rw [Bool.not_not] at h
        exact h
      clear hx hmem hX hkd hpl hXl cnw
      go_wp2
      generalize hWW : wr.alloc (.cells #[.int .i64 kd, .string X, .int .i64 pl] 35) = W1 at HT HB1 hA1 ⊢
      clear hWW
      have HR1 := Lib.hid (HRW.out.below HB1.out hpw)
      have HW1 := Lib.hid (HW.out.trans (HB1.out.mono HW.out.size))
      have HE1 := Lib.hid (HE.out.keep HW1.out)
      have hpA : w.heap.size < wr.heap.size := hpw
      generalize hAA : wr.heap.size = A at HT hA1 hpA ⊢
      clear hAA HB1 HRW HW hpw
      obtain ⟨c0, c1, c2⟩ := HT.out
      have hpW1 : w.heap.size < W1.heap.size := by omega
      cases hm : mayHereI af kd X.toList
      · rw [hm] at cf
        have CF := Lib.hid cf
        have HF := Lib.hid (HR.out.bad HX.out (by rw [← HXL.out, ← HKD.out]; exact hm))
        clear cf hm
        go_region_held3 (fun W => W.cell? ⟨A, 0, none⟩ = some (.int .i64 kd) ∧ W.cell? ⟨A, 1, none⟩ = some (.string X) ∧ W.cell? ⟨A, 2, none⟩ = some (.int .i64 pl)) (first | exact ⟨c0, c1, c2⟩ | exact ⟨(hcc A 0 hA1).trans c0, (hcc A 1 hA1).trans c1, (hcc A 2 hA1).trans c2⟩ | exact ⟨(hcc2 A 0 (by omega)).trans ((hcc A 0 hA1).trans c0), (hcc2 A 1 (by omega)).trans ((hcc A 1 hA1).trans c1), (hcc2 A 2 (by omega)).trans ((hcc A 2 hA1).trans c2)⟩) (first
          | (go_at_call 21; (with_reducible refine (CN.out _ ?_).mono ?_)
             · first | exact HW1.out.drew | exact HW1.out
             rintro e w1 ⟨rfl, hb1⟩
             obtain ⟨hcc, hff⟩ := bcell hb1
             have hzz := hb1.size
             simp at hzz
             have HB11 := Lib.hid (show Below W1.heap.size W1 w1 from ⟨hb1.os, hb1.tape, hb1.output, hb1.size, hb1.block⟩)
             have HW2 := Lib.hid (show Below w.heap.size w w1 from HW1.out.trans (HB11.out.mono HW1.out.size)))
          | (go_at_call 25; (with_reducible refine (CF.out _ (HE.out.keep HW2.out)).mono ?_)
             rintro e w2 ⟨rfl, hb2⟩
             obtain ⟨hcc2, hff2⟩ := bcell hb2
             have HB12 := Lib.hid (HB11.out.trans (hb2.mono HB11.out.size))
             have HW3 := Lib.hid (HW2.out.trans (hb2.mono HW2.out.size)))
          | fail)
        all_goals
          go_wp2
          go_ret2
          refine ⟨HW3.out, ?_⟩
          rw [HF.out]
          rfl
      · rw [hm] at cf
        have CF := Lib.hid cf
        have HN := Lib.hid (HR.out.next HX.out (by rw [← HXL.out, ← HKD.out]; exact hm))
        clear cf hm
        go_region_held3 (fun W => W.cell? ⟨A, 0, none⟩ = some (.int .i64 kd) ∧ W.cell? ⟨A, 1, none⟩ = some (.string X) ∧ W.cell? ⟨A, 2, none⟩ = some (.int .i64 pl)) (first | exact ⟨c0, c1, c2⟩ | exact ⟨(hcc A 0 hA1).trans c0, (hcc A 1 hA1).trans c1, (hcc A 2 hA1).trans c2⟩ | exact ⟨(hcc2 A 0 (by omega)).trans ((hcc A 0 hA1).trans c0), (hcc2 A 1 (by omega)).trans ((hcc A 1 hA1).trans c1), (hcc2 A 2 (by omega)).trans ((hcc A 2 hA1).trans c2)⟩) (first
          | (go_at_call 21; (with_reducible refine (CN.out _ ?_).mono ?_)
             · first | exact HW1.out.drew | exact HW1.out
             rintro e w1 ⟨rfl, hb1⟩
             obtain ⟨hcc, hff⟩ := bcell hb1
             have hzz := hb1.size
             simp at hzz
             have HB11 := Lib.hid (show Below W1.heap.size W1 w1 from ⟨hb1.os, hb1.tape, hb1.output, hb1.size, hb1.block⟩)
             have HW2 := Lib.hid (show Below w.heap.size w w1 from HW1.out.trans (HB11.out.mono HW1.out.size)))
          | (go_at_call 25; (with_reducible refine (CF.out _ (HE.out.keep HW2.out)).mono ?_)
             rintro e w2 ⟨rfl, hb2⟩
             obtain ⟨hcc2, hff2⟩ := bcell hb2
             have HB12 := Lib.hid (HB11.out.trans (hb2.mono HB11.out.size))
             have HW3 := Lib.hid (HW2.out.trans (hb2.mono HW2.out.size)))
          | fail)
        all_goals
          have d0 : w2.cell? ⟨A, 0, none⟩ = some (.int .i64 kd) := (hcc2 A 0 (by omega)).trans ((hcc A 0 hA1).trans c0)
          have d1 : w2.cell? ⟨A, 1, none⟩ = some (.string X) := (hcc2 A 1 (by omega)).trans ((hcc A 1 hA1).trans c1)
          have HR2 := Lib.hid (HR1.out.below HB12.out hpW1)
          clear hcc hff hcc2 hff2 hzz c0 c1 c2 CN CF HB11 HB12 HW2 HT
          obtain ⟨hs0', hf0⟩ := HR2.out.2.1 k hlt
          obtain ⟨v0, hs0⟩ := Option.isSome_iff_exists.1 hs0'
          clear hs0'
          have hk' : rs.length = k := HR.out.1
          have ne0 : ∀ j : Nat, (⟨w.heap.size, k, none⟩ : Addr) ≠ ⟨A, j, none⟩ := fun j e => by injection e with e _ _; omega
          have d0' : (w2.setCell ⟨w.heap.size, k, none⟩ (.string X)).cell? ⟨A, 0, none⟩ = some (.int .i64 kd) := by rw [World.cell?_setCell_other _ _ _ _ (ne0 0)]; exact d0
          have d1' : (w2.setCell ⟨w.heap.size, k, none⟩ (.string X)).cell? ⟨A, 1, none⟩ = some (.string X) := by rw [World.cell?_setCell_other _ _ _ _ (ne0 1)]; exact d1
          have HR3 := Lib.hid (show Row w.heap.size n (w2.setCell ⟨w.heap.size, k, none⟩ (.string X)) (rs ++ [x.text]) by
            have h := HR2.out.set x.text (by omega)
            rw [hk', ← HXX.out] at h
            exact h)
          have HW4 := Lib.hid (HW3.out.setCell (p := ⟨w.heap.size, k, none⟩) (Nat.le_refl _) (.string X))
          cases z2 : (kd == 2)
          · have HREN := Lib.hid (show renderI x = x.text by unfold renderI; rw [← HKD.out, z2]; rfl)
            go_wp2
            go_roundw
            case rel =>
              refine ⟨k + 1, endsI x.kind x.text, rs ++ [renderI x], ?_, ?_, ?_, ?_, ?_⟩
              · omega
              · go_num
              · exact HN
              · rw [HREN.out]; exact HR3
              · exact HW4
            case measure => simp [intOf]; omega
          · have HREN := Lib.hid (show renderI x = quotedS x.text by unfold renderI; rw [← HKD.out, z2]; rfl)
            have cq : ∀ W, Calls Tryd.prog 16 #[.string X] W fun e w' => e = .returned (.string (lxS (quotedS x.text))) ∧ Below W.heap.size W w' := fun W => by
              have h := ownQuoted_any X W (by omega)
              rw [HXL.out] at h
              exact h
            have CQ := Lib.hid cq
            clear cq
            go_wp2_with (first
              | (go_at_call 16; (with_reducible refine (CQ.out _).mono ?_)
                 rintro e w4 ⟨rfl, hb4⟩
                 have HR4 := Lib.hid (HR3.out.below hb4 HR3.out.2.2)
                 have HW5 := Lib.hid (HW4.out.trans (hb4.mono HW4.out.size))
                 obtain ⟨hs4', hf4⟩ := HR4.out.2.1 k hlt
                 obtain ⟨v4, hs4⟩ := Option.isSome_iff_exists.1 hs4'
                 clear hs4'
                 clear hb4)
              | fail)
            go_roundw
            case rel =>
              refine ⟨k + 1, endsI x.kind x.text, rs ++ [renderI x], ?_, ?_, ?_, ?_, ?_⟩
              · omega
              · go_num
              · exact HN
              · rw [HREN.out]
                refine Lib.hid ?_
                have h := HR4.out.drop.set (quotedS x.text) (by omega)
                rw [hk'] at h
                exact h
              · exact Lib.hid (HW5.out.setCell (p := ⟨w.heap.size, k, none⟩) (Nat.le_refl _) _)
            case measure => simp [intOf]; omega
    · have hkn : k = n := by omega
      have HF := Lib.hid (HR.out.stop (by omega))
      have hrl : rs.length = n := by rw [HR.out.1]; exact hkn
      rcases Nat.eq_zero_or_pos n with h0 | h0
      · have hrs : rs = [] := List.eq_nil_of_length_eq_zero (by omega)
        subst h0 hrs
        have cj := fun W => Tryd.strings_Join_none (some ⟨w.heap.size, 0, none⟩) 0 ⟨#[32]⟩ W
        have CJ := Lib.hid cj
        go_wp2_with (first
          | (go_at_call 26; (with_reducible refine (CJ.out _).mono ?_); rintro e w5 ⟨rfl, rfl⟩)
          | fail)
        go_ret2
        refine ⟨HW.out, ?_⟩
        rw [HF.out]
        rfl
      · have hbound : (Lib.join rs [32]).length ≤ 140737488355328 := by
          have h1 := join_len 4400002 rs (parts_len hsz HF.out)
          rw [hrl] at h1
          refine Nat.le_trans h1 ?_
          have : n * (4400002 + 1) ≤ 10000 * (4400002 + 1) := Nat.mul_le_mul_right _ hn
          omega
        have cj : Calls Tryd.prog 26 #[.slice (some ⟨w.heap.size, 0, none⟩) n n, .string ⟨#[32]⟩] wr fun e w' => e = .returned (.string (lxS ([32].intercalate rs))) ∧ Below wr.heap.size wr w' := by
          have hl2 : (rs.map lxS).length = n := by rw [List.length_map, hrl]
          have hmap : (rs.map lxS).map (·.data.toList) = rs := by
            rw [List.map_map]
            conv => rhs; rw [← List.map_id rs]
            refine List.map_congr_left fun x _ => ?_
            show (lxS x).data.toList = x
            simp [lxS]
          have h := Tryd.strings_Join w.heap.size 0 n (rs.map lxS) ⟨#[32]⟩ wr (fun j x hx => by
            rw [List.getElem?_map] at hx
            obtain ⟨y, hy, rfl⟩ := Option.map_eq_some_iff.1 hx
            rw [Nat.zero_add]
            exact HRW.out.1 j y hy) HRW.out.2.2 (by rw [hl2]; omega) (by rw [hl2]; exact Nat.le_refl _) (by
            rw [hmap]
            exact hbound)
          rw [hl2, hmap] at h
          exact h
        have CJ := Lib.hid cj
        clear cj
        go_wp2_with (first
          | (go_at_call 26; (with_reducible refine CJ.out.mono ?_); rintro e w5 ⟨rfl, hb5⟩)
          | fail)
        go_ret2
        refine ⟨HW.out.trans (hb5.mono HW.out.size), ?_⟩
        rw [HF.out]
        rfl
end Go.Proofs.YtifinfmdjbglhaaDoor
