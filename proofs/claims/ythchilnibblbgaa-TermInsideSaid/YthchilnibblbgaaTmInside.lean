/- A term replaced in a list that the call made; what a literal says. -/
import Derived.Test.YthchilnibblbgaaTmRefs
import Derived.Test.YthchilnibblbgaaTmSome
import Derived.Test.YthchilnibblbgaaTmSteps
import Derived.Laws.Bits64
namespace Go.Proofs.Ythchilnibblbgaa
open Go.RowKit

theorem getElem_setv {L : List Trm} {k j : Nat} {x t : Trm} (h : (L.set k x)[j]? = some t) : (j = k ∧ t = x) ∨ (j ≠ k ∧ L[j]? = some t) := by
  by_cases hjk : j = k
  · subst hjk
    obtain ⟨h1, h2⟩ := List.getElem?_eq_some_iff.1 h
    rw [List.getElem_set_self] at h2
    exact .inl ⟨rfl, h2.symm⟩
  · rw [List.getElem?_set_ne (fun e => hjk e.symm)] at h
    exact .inr ⟨hjk, h⟩
/-- Six stores into a row of terms. -/
def setT (W : World) (g k : Nat) (v0 v1 v2 v3 v4 v5 : Value) : World :=
  (((((W.setCell ⟨g, k * 6, none⟩ v0).setCell ⟨g, k * 6 + 1, none⟩ v1).setCell ⟨g, k * 6 + 2, none⟩ v2).setCell ⟨g, k * 6 + 3, none⟩ v3).setCell ⟨g, k * 6 + 4, none⟩ v4).setCell ⟨g, k * 6 + 5, none⟩ v5
theorem setT_other {W : World} {g k : Nat} {v0 v1 v2 v3 v4 v5 : Value} {p : Addr} (h : ∀ i, i < 6 → p ≠ ⟨g, k * 6 + i, none⟩) : (setT W g k v0 v1 v2 v3 v4 v5).cell? p = W.cell? p := by
  unfold setT
  rw [World.cell?_setCell_other _ _ _ _ (fun e => h 5 (by omega) e.symm), World.cell?_setCell_other _ _ _ _ (fun e => h 4 (by omega) e.symm), World.cell?_setCell_other _ _ _ _ (fun e => h 3 (by omega) e.symm),
    World.cell?_setCell_other _ _ _ _ (fun e => h 2 (by omega) e.symm), World.cell?_setCell_other _ _ _ _ (fun e => h 1 (by omega) e.symm), World.cell?_setCell_other _ _ _ _ (fun e => h 0 (by omega) (by rw [Nat.add_zero]; exact e.symm))]
theorem off_ne {g i j : Nat} (h : i ≠ j) : (⟨g, i, none⟩ : Addr) ≠ ⟨g, j, none⟩ := fun e => by injection e with _ e _; exact h e
theorem setT_at {W : World} {g k : Nat} {v0 v1 v2 v3 v4 v5 : Value} (h : ∀ i, i < 6 → (W.cell? ⟨g, k * 6 + i, none⟩).isSome = true) :
    (setT W g k v0 v1 v2 v3 v4 v5).cell? ⟨g, k * 6, none⟩ = some v0 ∧ (setT W g k v0 v1 v2 v3 v4 v5).cell? ⟨g, k * 6 + 1, none⟩ = some v1 ∧ (setT W g k v0 v1 v2 v3 v4 v5).cell? ⟨g, k * 6 + 2, none⟩ = some v2 ∧
    (setT W g k v0 v1 v2 v3 v4 v5).cell? ⟨g, k * 6 + 3, none⟩ = some v3 ∧ (setT W g k v0 v1 v2 v3 v4 v5).cell? ⟨g, k * 6 + 4, none⟩ = some v4 ∧ (setT W g k v0 v1 v2 v3 v4 v5).cell? ⟨g, k * 6 + 5, none⟩ = some v5 := by
  unfold setT
  refine ⟨?_, ?_, ?_, ?_, ?_, ?_⟩
  · rw [World.cell?_setCell_other _ _ _ _ (off_ne (by omega)), World.cell?_setCell_other _ _ _ _ (off_ne (by omega)), World.cell?_setCell_other _ _ _ _ (off_ne (by omega)), World.cell?_setCell_other _ _ _ _ (off_ne (by omega)), World.cell?_setCell_other _ _ _ _ (off_ne (by omega))]
    exact World.cell?_setCell_same' _ _ _ (h 0 (by omega))
  · rw [World.cell?_setCell_other _ _ _ _ (off_ne (by omega)), World.cell?_setCell_other _ _ _ _ (off_ne (by omega)), World.cell?_setCell_other _ _ _ _ (off_ne (by omega)), World.cell?_setCell_other _ _ _ _ (off_ne (by omega))]
    exact World.cell?_setCell_same' _ _ _ (by rw [World.cell?_setCell_other _ _ _ _ (off_ne (by omega))]; exact h 1 (by omega))
  · rw [World.cell?_setCell_other _ _ _ _ (off_ne (by omega)), World.cell?_setCell_other _ _ _ _ (off_ne (by omega)), World.cell?_setCell_other _ _ _ _ (off_ne (by omega))]
    exact World.cell?_setCell_same' _ _ _ (by rw [World.cell?_setCell_other _ _ _ _ (off_ne (by omega)), World.cell?_setCell_other _ _ _ _ (off_ne (by omega))]; exact h 2 (by omega))
  · rw [World.cell?_setCell_other _ _ _ _ (off_ne (by omega)), World.cell?_setCell_other _ _ _ _ (off_ne (by omega))]
    exact World.cell?_setCell_same' _ _ _ (by rw [World.cell?_setCell_other _ _ _ _ (off_ne (by omega)), World.cell?_setCell_other _ _ _ _ (off_ne (by omega)), World.cell?_setCell_other _ _ _ _ (off_ne (by omega))]; exact h 3 (by omega))
  · rw [World.cell?_setCell_other _ _ _ _ (off_ne (by omega))]
    exact World.cell?_setCell_same' _ _ _ (by rw [World.cell?_setCell_other _ _ _ _ (off_ne (by omega)), World.cell?_setCell_other _ _ _ _ (off_ne (by omega)), World.cell?_setCell_other _ _ _ _ (off_ne (by omega)), World.cell?_setCell_other _ _ _ _ (off_ne (by omega))]; exact h 4 (by omega))
  · exact World.cell?_setCell_same' _ _ _ (by rw [World.cell?_setCell_other _ _ _ _ (off_ne (by omega)), World.cell?_setCell_other _ _ _ _ (off_ne (by omega)), World.cell?_setCell_other _ _ _ _ (off_ne (by omega)), World.cell?_setCell_other _ _ _ _ (off_ne (by omega)), World.cell?_setCell_other _ _ _ _ (off_ne (by omega))]; exact h 5 (by omega))
theorem setT_size (W : World) (g k : Nat) (v0 v1 v2 v3 v4 v5 : Value) : (setT W g k v0 v1 v2 v3 v4 v5).heap.size = W.heap.size := by simp [setT]
theorem setT_below {w W : World} {B g k : Nat} (h : Below B w W) (hB : B ≤ g) (v0 v1 v2 v3 v4 v5 : Value) : Below B w (setT W g k v0 v1 v2 v3 v4 v5) :=
  (((((h.setCell (p := ⟨g, k * 6, none⟩) hB v0).setCell (p := ⟨g, k * 6 + 1, none⟩) hB v1).setCell (p := ⟨g, k * 6 + 2, none⟩) hB v2).setCell (p := ⟨g, k * 6 + 3, none⟩) hB v3).setCell (p := ⟨g, k * 6 + 4, none⟩) hB v4).setCell (p := ⟨g, k * 6 + 5, none⟩) hB v5
/-- What the call made may be written at a place. -/
theorem TOwn.opens {W : World} {base : Nat} {v : Value} {L : List Trm} (h : TOwn W base v L) (hl : L.length ≤ 1000) (h0 : 0 < L.length) :
    ∃ g c, v = .slice (some ⟨g, 0, none⟩) L.length c ∧ base ≤ g ∧ g < W.heap.size ∧ ∀ j, j < L.length * 6 → (W.cell? ⟨g, j, none⟩).isSome = true ∧ W.frozen? ⟨g, j, none⟩ = false := by
  have hlt := h.lt
  rcases h.2 with ⟨h1, h2⟩ | ⟨g, cap, cur, rfl, hbase, hh, h1, h2, h3, h4⟩
  · omega
  · refine ⟨g, cap, rfl, hbase, (hlt g rfl).2, fun j hj => ⟨?_, ?_⟩⟩
    · rw [cell_of_row W g j cur 38 (0, 0) hh]
      rw [Array.getElem?_eq_getElem (show j < cur.size by omega)]
      rfl
    · unfold World.frozen?
      rw [hh]
      simp
theorem Trms.put {W : World} {g n : Nat} {L : List Trm} (h : Trms W W.heap.size (some ⟨g, 0, none⟩) n L) {k : Nat} (hk : k < n) (kd : Int) (nm : ByteArray) (x : Int) (tx : ByteArray) (l r : Int) (hs : nm.size ≤ maxLen) (ht : tx.size ≤ maxLen) :
    Trms (setT W g k (.int .i64 kd) (.string nm) (.int .i64 x) (.string tx) (.int .i64 l) (.int .i64 r)) (setT W g k (.int .i64 kd) (.string nm) (.int .i64 x) (.string tx) (.int .i64 l) (.int .i64 r)).heap.size (some ⟨g, 0, none⟩) n (L.set k ⟨kd, nm.toList, x, tx.toList, l, r⟩) := by
  obtain ⟨h1, h2, h3, h4⟩ := h
  obtain ⟨b, off, e, hb, hc⟩ := h4 (by omega)
  injection e with e
  injection e with e1 e2 _
  subst e1 e2
  have hz := setT_size W g k (.int .i64 kd) (.string nm) (.int .i64 x) (.string tx) (.int .i64 l) (.int .i64 r)
  have hkl : k < L.length := by omega
  obtain ⟨p0, p1, p2, p3, p4, p5⟩ := hc k _ (List.getElem?_eq_getElem hkl)
  simp only [Nat.zero_add] at p0 p1 p2 p3 p4 p5 hc
  obtain ⟨q0, q1, q2, q3, q4, q5⟩ := setT_at (W := W) (g := g) (k := k) (v0 := .int .i64 kd) (v1 := .string nm) (v2 := .int .i64 x) (v3 := .string tx) (v4 := .int .i64 l) (v5 := .int .i64 r) (fun i hi => by
    rcases (show i = 0 ∨ i = 1 ∨ i = 2 ∨ i = 3 ∨ i = 4 ∨ i = 5 by omega) with rfl | rfl | rfl | rfl | rfl | rfl
    · rw [Nat.add_zero, p0]; rfl
    · rw [p1]; rfl
    · rw [p2]; rfl
    · rw [p3]; rfl
    · rw [p4]; rfl
    · rw [p5]; rfl)
  refine ⟨by rw [List.length_set]; exact h1, h2, fun t ht' => ?_, fun _ => ⟨g, 0, rfl, by rw [hz]; exact hb, fun j t hj => ?_⟩⟩
  · rcases List.mem_or_eq_of_mem_set ht' with h | rfl
    · exact h3 t h
    · exact ⟨by rw [lxLen]; exact hs, by rw [lxLen]; exact ht⟩
  · simp only [Nat.zero_add]
    rcases getElem_setv hj with ⟨rfl, rfl⟩ | ⟨hjk, hj⟩
    · have e1 : lxS nm.toList = nm := toList_inj (by rw [lxS_toList])
      have e2 : lxS tx.toList = tx := toList_inj (by rw [lxS_toList])
      simp only [e1, e2]
      exact ⟨q0, q1, q2, q3, q4, q5⟩
    · obtain ⟨c0, c1, c2, c3, c4, c5⟩ := hc j t hj
      have ho : ∀ i, i < 6 → (setT W g k (.int .i64 kd) (.string nm) (.int .i64 x) (.string tx) (.int .i64 l) (.int .i64 r)).cell? ⟨g, j * 6 + i, none⟩ = W.cell? ⟨g, j * 6 + i, none⟩ := fun i hi => setT_other (fun i' hi' => off_ne (by omega))
      exact ⟨(ho 0 (by omega)).trans c0, (ho 1 (by omega)).trans c1, (ho 2 (by omega)).trans c2, (ho 3 (by omega)).trans c3, (ho 4 (by omega)).trans c4, (ho 5 (by omega)).trans c5⟩
theorem place_mod0 (p : Int) (n : Nat) (hn : n ≤ 1000) (h0 : 0 < n) : ∃ k : Nat, k < n ∧ wrap64 ((IntKind.u64.wrap p).tmod (n : Int)) = (k : Int) := by
  have h0 : 0 ≤ IntKind.u64.wrap p := by rw [IntKind.wrap_u64]; omega
  rw [Int.tmod_eq_emod_of_nonneg h0]
  have h2 := Int.emod_nonneg (IntKind.u64.wrap p) (b := (n : Int)) (by omega)
  have h3 := Int.emod_lt_of_pos (IntKind.u64.wrap p) (b := (n : Int)) (by omega)
  generalize IntKind.u64.wrap p % (n : Int) = m at h2 h3
  exact ⟨m.toNat, by omega, by unfold wrap64; omega⟩
/-- What the literal of a value says. -/
theorem inside_val {L : List Trm} {root : Int} {e a : Exp} (he : Good L root e) (ha : Good L (a.at_ : Int) a) (env : List (Str × Val)) {x : Trm} (hs : soundT x = true) (har : arT x.kind = 0) (hx : leafV env x = evalE env a) :
    mayF (L.set a.at_ x) root = true ∧ evalF (L.set a.at_ x) root env = evalF L root env := by
  have hg := insE_good he (k := a.at_) (x := x) ha.2.2.1.lt hs har
  exact ⟨mayF_of hg, by rw [evalF_good hg, evalF_good he, insE_eval ha.2.2.1 hx he.2.2.1]⟩
theorem inside_may {L : List Trm} {root : Int} (h : mayF L root = true) (env : List (Str × Val)) : mayV (evalF L root env).1 = true := by
  obtain ⟨e, he⟩ := (mayF_iff L root).1 h
  rw [evalF_good he]
  exact evalE_may env he.2.2.1
theorem mayV_int_rest {v : Val} (h : mayV v = true) (hk : v.kind = 1) : v = intV v.num := by
  obtain ⟨k, x, s, l⟩ := v
  dsimp only at hk
  subst hk
  unfold mayV at h
  simp at h
  obtain ⟨rfl, rfl⟩ := h
  rfl
theorem mayV_bool_rest {v : Val} (h : mayV v = true) (hk : v.kind = 2) : v = boolV (v.num == 1) ∧ (v.num = 0 ∨ v.num = 1) := by
  obtain ⟨k, x, s, l⟩ := v
  dsimp only at hk
  subst hk
  unfold mayV at h
  simp at h
  obtain ⟨⟨h1, rfl⟩, rfl⟩ := h
  refine ⟨?_, h1⟩
  rcases h1 with rfl | rfl <;> rfl
theorem mayV_text_rest {v : Val} (h : mayV v = true) (hk : v.kind = 3) : v = textV v.text ∧ v.text.length ≤ 24 := by
  obtain ⟨k, x, s, l⟩ := v
  dsimp only at hk
  subst hk
  unfold mayV at h
  simp at h
  obtain ⟨⟨rfl, h2⟩, rfl⟩ := h
  exact ⟨rfl, h2⟩
end Go.Proofs.Ythchilnibblbgaa

/- The law TermInside returns true, whatever its arguments. -/
namespace Go.Proofs.Ythchilnibblbgaa
open Go.RowKit


set_option maxHeartbeats 16000000 in
set_option maxRecDepth 20000 in
theorem termInside_walk (a : Option Addr) (n c : Nat) (L : List Trm) (root at_ : Int) (ea : Option Addr) (en ec : Nat) (env : List (Str × Val)) (w : World)
    (hT : n ≤ 1000 → Trms w w.heap.size a n L) (hE : BindsL w w.heap.size ea en env) :
    Calls Try.prog 3 #[.slice a n c, .int .i64 root, .int .i64 at_, .slice ea en ec] w fun e w' => e = .returned (.bool true) ∧ Below w.heap.size w w' := by
  by_cases hn : 150 < n
  · have d1 : decide ((150 : Int) < (n : Int)) = true := decide_eq_true (by omega)
    clear hT hE
    go_enter Try.func3, Try.ntmps3
    go_wp2_with (first | (go_at_call 13; (with_reducible refine (first_any _).mono ?_); rintro e w1 ⟨rfl, hb1⟩; have HB := Lib.hid hb1; clear hb1) | fail)
    go_ret
    exact ⟨rfl, HB.out⟩
  have d1 : decide ((150 : Int) < (n : Int)) = false := decide_eq_false (by omega)
  have HL := Lib.hid (hT (by omega))
  have HE := Lib.hid hE
  clear hT hE
  obtain ⟨b1, hb1⟩ : ∃ b, someE env = b := ⟨_, rfl⟩
  obtain ⟨b2, hb2⟩ : ∃ b, mayF L root = b := ⟨_, rfl⟩
  have HS1 := Lib.hid hb1
  have HS2 := Lib.hid hb2
  have hen : b1 = true → en ≤ 40 := fun h => by rw [h] at hb1; have := (someE_iff.1 hb1).1; have := HE.out.1; omega
  clear hb1 hb2
  cases b1
  case false =>
    clear hen
    go_enter Try.func3, Try.ntmps3
    go_wp2_with (first
      | (go_at_call 13; (with_reducible refine (first_any _).mono ?_); rintro e w1 ⟨rfl, hb1⟩; have HB := Lib.hid hb1; clear hb1)
      | (go_at_call 14; (with_reducible refine (some_any ea en ec env _ _ (HE.out.below HB.out)).mono ?_); rintro e w2 ⟨he, rfl⟩; rw [HS1.out] at he; subst he)
      | fail)
    go_ret
    exact ⟨rfl, HB.out⟩
  have hen := hen rfl
  have HE0 := Lib.hid (HE.out.short (by omega))
  cases b2
  case false =>
    go_enter Try.func3, Try.ntmps3
    go_wp2_with (first
      | (go_at_call 13; (with_reducible refine (first_any _).mono ?_); rintro e w1 ⟨rfl, hb1⟩; have HB := Lib.hid hb1; clear hb1)
      | (go_at_call 14; (with_reducible refine (some_any ea en ec env _ _ (HE.out.below HB.out)).mono ?_); rintro e w2 ⟨he, rfl⟩; rw [HS1.out] at he; subst he)
      | (go_at_call 15; (with_reducible refine (termMay_any a n c L root _ _ (Nat.le_refl _) (HL.out.on HB.out)).mono ?_)
         rintro e w3 ⟨he, hb⟩
         rw [HS2.out] at he
         subst he
         have HB := Lib.hid (below_on HB.out hb)
         clear hb)
      | fail)
    go_ret
    exact ⟨rfl, HB.out⟩
  obtain ⟨e0, hg⟩ := (mayF_iff L root).1 HS2.out
  obtain ⟨d, hd⟩ := treeF_good hg
  obtain ⟨e1, hg1, hpl⟩ := treeF_places hd
  obtain rfl := hg1.same hg
  have HG := Lib.hid hg
  have HPL := Lib.hid hpl
  have HD := Lib.hid hd
  have HN := Lib.hid HL.out.1
  have hn0 : 0 < n := by have := hg.2.2.1.lt; have := HL.out.1; omega
  obtain ⟨k, hk, hkm⟩ := place_mod0 at_ n (by omega) hn0
  have CT := Lib.hid (fun W (h : Trms W W.heap.size a n L) => show Calls Try.prog 16 #[.slice a n c, .int .i64 root] W (InRet W n (some d)) from HD.out ▸ refIn_any a n c L root W h (by omega))
  clear hg hg1 hpl hd
  cases hin : inB d k
  · go_enter Try.func3, Try.ntmps3
    go_wp2_with (first
    | (go_at_call 13; (with_reducible refine (first_any _).mono ?_); rintro e w1 ⟨rfl, hb1⟩; have HB := Lib.hid hb1; clear hb1)
    | (go_at_call 14; (with_reducible refine (some_any ea en ec env _ _ (HE.out.below HB.out)).mono ?_); rintro e w2 ⟨he, rfl⟩; rw [HS1.out] at he; subst he)
    | (go_at_call 15; (with_reducible refine (termMay_any a n c L root _ _ (Nat.le_refl _) (HL.out.on HB.out)).mono ?_)
       rintro e w3 ⟨he, hb⟩
       rw [HS2.out] at he
       subst he
       have HB := Lib.hid (below_on HB.out hb)
       clear hb)
    | (go_at_call 16; (with_reducible refine (CT.out _ (HL.out.on HB.out)).mono ?_)
       rintro e w4 ⟨⟨g, rfl, hs, _⟩, hb⟩
       have HB := Lib.hid (below_on HB.out hb)
       obtain ⟨s0, s1⟩ := hs.2 k hk
       rw [hin] at s0
       clear hs hb)
    | fail)
    go_ret
    exact ⟨rfl, HB.out⟩
  obtain ⟨q, hq⟩ := HG.out.part ((HPL.out k).1 (of_decide_eq_true hin))
  obtain rfl : q.at_ = k := by have := hq.2.1; omega
  have HQ := Lib.hid hq
  have hpm := (HPL.out q.at_).1 (of_decide_eq_true hin)
  have hmv := inside_may (mayF_of hq) env
  have heq := evalF_good (env := env) hq
  have hfail := fun (h : (evalE env q).2 ≠ 0) => part_fails hq.2.2.1 h HG.out.2.2.1 hpm
  have hval := fun (x : Trm) hs har hx => inside_val HG.out hq env (x := x) hs har hx
  have hrt := evalF_good (env := env) HG.out
  rw [← hrt] at hfail
  have HQE := Lib.hid heq
  rw [← heq] at hfail
  have HVAL := Lib.hid hval
  have HFAIL := Lib.hid hfail
  clear hval hfail hrt heq hpm hq
  obtain ⟨V, hV⟩ : ∃ V, evalF L (q.at_ : Int) env = V := ⟨_, rfl⟩
  obtain ⟨R, hR⟩ : ∃ R, evalF L root env = R := ⟨_, rfl⟩
  rw [hV] at hmv HFAIL HQE
  rw [hR] at HFAIL
  have HV := Lib.hid hV
  have HR := Lib.hid hR
  have HMV := Lib.hid hmv
  clear hV hR hmv
  generalize q.at_ = k at hk hkm hin HQ HVAL HV
  obtain ⟨⟨vk, vn, vt, vl⟩, er⟩ := V
  obtain ⟨⟨rk, rn, rt, rl⟩, rr⟩ := R
  have HSV := Lib.hid (sameV_self ⟨rk, rn, rt, rl⟩)
  cases he0 : (er == 0)
  · have hr0 := HFAIL.out (by rw [beq_eq_false_iff_ne] at he0; exact he0)
    have e1 : (er != 0) = true := by unfold bne; rw [he0]; rfl
    have e2 : (rr != 0) = true := by rw [bne_iff_ne]; exact hr0
    clear hr0
    go_enter Try.func3, Try.ntmps3
    go_wp2_with (first
    | (go_at_call 13; (with_reducible refine (first_any _).mono ?_); rintro e w1 ⟨rfl, hb1⟩; have HB := Lib.hid hb1; clear hb1)
    | (go_at_call 14; (with_reducible refine (some_any ea en ec env _ _ (HE.out.below HB.out)).mono ?_); rintro e w2 ⟨he, rfl⟩; rw [HS1.out] at he; subst he)
    | (go_at_call 15; (with_reducible refine (termMay_any a n c L root _ _ (Nat.le_refl _) (HL.out.on HB.out)).mono ?_)
       rintro e w3 ⟨he, hb⟩
       rw [HS2.out] at he
       subst he
       have HB := Lib.hid (below_on HB.out hb)
       clear hb)
    | (go_at_call 16; (with_reducible refine (CT.out _ (HL.out.on HB.out)).mono ?_)
       rintro e w4 ⟨⟨g, rfl, hs, _⟩, hb⟩
       have HB := Lib.hid (below_on HB.out hb)
       obtain ⟨s0, s1⟩ := hs.2 k hk
       rw [hin] at s0
       clear hs hb)
    | (go_at_call 17; (with_reducible refine (termEval_any a n c L (k : Int) ea en ec env _ _ (Nat.le_refl _) (HL.out.on HB.out) (HE0.out.on HB.out)).mono ?_)
       rintro e wv ⟨⟨s1, a1, n1, c1, he, hv, hf⟩, hb⟩
       rw [HV.out] at he hv
       subst he
       have HB := Lib.hid (below_on (below_on HB.out hb) (next_alloc wv (.cells #[.int .i64 vk, .int .i64 vn, .string s1, .slice a1 n1 c1] 33)))
       have HX1 := Lib.hid (BoxV.new wv (.int .i64 vk) (.int .i64 vn) (.string s1) (.slice a1 n1 c1))
       have HS3 := Lib.hid (show s1.toList = vt from hv.1)
       obtain ⟨⟨x0, x1, x2, x3⟩, _⟩ := HX1.out.cells
       clear hv hf hb)
    | (go_at_call 17; (with_reducible refine (termEval_any a n c L root ea en ec env _ _ (Nat.le_refl _) (HL.out.on (below_on HB.out (next_alloc _ _))) (HE0.out.on (below_on HB.out (next_alloc _ _)))).mono ?_)
       rintro e wu ⟨⟨s2, a2, n2, c2, he, hv, hf⟩, hb⟩
       rw [HR.out] at he
       subst he
       have HB := Lib.hid (below_on (below_on (below_on HB.out (next_alloc _ _)) hb) (next_alloc wu (.cells #[.int .i64 rk, .int .i64 rn, .string s2, .slice a2 n2 c2] 33)))
       clear hv hf hb)
    | fail)
    go_ret
    exact ⟨rfl, HB.out⟩
  have e1 : (er != 0) = false := by unfold bne; rw [he0]; rfl
  obtain rfl := eq_of_beq he0
  clear he0
  have hvk : (vk = 1 ∨ vk = 2 ∨ vk = 3) ∨ ((vk == 1) = false ∧ (vk == 2) = false ∧ (vk == 3) = false) := by
    by_cases h1 : vk = 1
    · exact .inl (.inl h1)
    by_cases h2 : vk = 2
    · exact .inl (.inr (.inl h2))
    by_cases h3 : vk = 3
    · exact .inl (.inr (.inr h3))
    exact .inr ⟨by rw [beq_eq_false_iff_ne]; exact h1, by rw [beq_eq_false_iff_ne]; exact h2, by rw [beq_eq_false_iff_ne]; exact h3⟩
  rcases hvk with (rfl | rfl | rfl) | ⟨n1', n2', n3'⟩
  · have HPUT := Lib.hid (HVAL.out ⟨1, [], vn, [], -1, -1⟩ (by simp [soundT, arT]) rfl (by rw [← HQE.out]; exact Prod.ext (mayV_int_rest HMV.out rfl).symm rfl))
    rw [HR.out] at HPUT
    rw [show (⟨1, [], vn, [], -1, -1⟩ : Trm) = ⟨1, (⟨#[]⟩ : ByteArray).toList, vn, (⟨#[]⟩ : ByteArray).toList, -1, -1⟩ by rw [empty_toList]] at HPUT
    go_enter Try.func3, Try.ntmps3
    go_upto_region 16 with (first
    | (go_at_call 13; (with_reducible refine (first_any _).mono ?_); rintro e w1 ⟨rfl, hb1⟩; have HB := Lib.hid hb1; clear hb1)
    | (go_at_call 14; (with_reducible refine (some_any ea en ec env _ _ (HE.out.below HB.out)).mono ?_); rintro e w2 ⟨he, rfl⟩; rw [HS1.out] at he; subst he)
    | (go_at_call 15; (with_reducible refine (termMay_any a n c L root _ _ (Nat.le_refl _) (HL.out.on HB.out)).mono ?_)
       rintro e w3 ⟨he, hb⟩
       rw [HS2.out] at he
       subst he
       have HB := Lib.hid (below_on HB.out hb)
       clear hb)
    | (go_at_call 16; (with_reducible refine (CT.out _ (HL.out.on HB.out)).mono ?_)
       rintro e w4 ⟨⟨g, rfl, hs, _⟩, hb⟩
       have HB := Lib.hid (below_on HB.out hb)
       obtain ⟨s0, s1⟩ := hs.2 k hk
       rw [hin] at s0
       clear hs hb)
    | (go_at_call 17; (with_reducible refine (termEval_any a n c L (k : Int) ea en ec env _ _ (Nat.le_refl _) (HL.out.on HB.out) (HE0.out.on HB.out)).mono ?_)
       rintro e wv ⟨⟨s1, a1, n1, c1, he, hv, hf⟩, hb⟩
       rw [HV.out] at he hv
       subst he
       have HB := Lib.hid (below_on (below_on HB.out hb) (next_alloc wv (.cells #[.int .i64 1, .int .i64 vn, .string s1, .slice a1 n1 c1] 33)))
       have HX1 := Lib.hid (BoxV.new wv (.int .i64 1) (.int .i64 vn) (.string s1) (.slice a1 n1 c1))
       have HS3 := Lib.hid (show s1.toList = vt from hv.1)
       obtain ⟨⟨x0, x1, x2, x3⟩, _⟩ := HX1.out.cells
       clear hv hf hb)
    | fail)
    have hbu := BoxU.new (wv.alloc (.cells #[.int .i64 1, .int .i64 vn, .string s1, .slice a1 n1 c1] 33)) (.int .i64 0) (.string ⟨#[]⟩) (.int .i64 0) (.string ⟨#[]⟩) (.int .i64 (-1)) (.int .i64 (-1))
    rw [World.size_alloc] at hbu
    obtain ⟨⟨y0, y1, y2, y3, y4, y5⟩, f0, f1, f2, f3, f4, f5⟩ := hbu.cells
    obtain ⟨⟨z0, z1, z2, z3⟩, _⟩ := (HX1.out.on (next_alloc (wv.alloc (.cells #[.int .i64 1, .int .i64 vn, .string s1, .slice a1 n1 c1] 33)) (.cells #[.int .i64 0, .string ⟨#[]⟩, .int .i64 0, .string ⟨#[]⟩, .int .i64 (-1), .int .i64 (-1)] 38))).cells
    have HB9 := Lib.hid ((below_on HB.out (next_alloc (wv.alloc (.cells #[.int .i64 1, .int .i64 vn, .string s1, .slice a1 n1 c1] 33)) (.cells #[.int .i64 1, .string ⟨#[]⟩, .int .i64 (vn), .string ⟨#[]⟩, .int .i64 (-1), .int .i64 (-1)] 38))).drew)
    have hbn := BoxT.new (wv.alloc (.cells #[.int .i64 1, .int .i64 vn, .string s1, .slice a1 n1 c1] 33)) 1 ⟨#[]⟩ (vn) ⟨#[]⟩ (-1) (-1)
    rw [World.size_alloc] at hbn
    have HBN := Lib.hid (show BoxT ((wv.alloc (.cells #[.int .i64 1, .int .i64 vn, .string s1, .slice a1 n1 c1] 33)).alloc (.cells #[.int .i64 1, .string ⟨#[]⟩, .int .i64 (vn), .string ⟨#[]⟩, .int .i64 (-1), .int .i64 (-1)] 38)).drew (wv.heap.size + 1) 1 ⟨#[]⟩ (vn) ⟨#[]⟩ (-1) (-1) from hbn)
    have hzv : w.heap.size ≤ wv.heap.size + 1 := by have := HB.out.size; simp at this; omega
    have hnl := HN.out
    clear hbu hbn
    go_region
    all_goals (go_wp2_with (first
      | (at_builtin
         refine wpList_append_trms rfl (.const (.slice none 0 0)) (.tmp 100) rfl (wv.heap.size + 1 + 1) (.slice none 0 0) [] a n c L w.heap.size rfl rfl (TOwn.zero _ _) (HL.out.below HB9.out) (by simp) (by simp; omega) _ (Below.refl _ _) ?_
         intro v5 w5 ho hb5
         have hbt : BoxT w5 (wv.heap.size + 1) 1 ⟨#[]⟩ (vn) ⟨#[]⟩ (-1) (-1) := HBN.out.below hb5 (by omega)
         have hbw : Below w.heap.size w w5 := HB9.out.trans (hb5.mono (by omega))
         rw [List.nil_append] at ho
         obtain ⟨g5, c5, hv5, hg5, hl5, hcel⟩ := ho.opens (by omega) (by omega)
         obtain ⟨a6, c6, hv6, hts⟩ := ho.sees (by omega) HL.out.2.2.1
         rw [hv5] at hv6
         injection hv6 with h61 h62 h63
         subst h61 h63
         clear h62
         rw [hnl] at hv5 hts hcel
         subst hv5
         have htp := hts.put hk 1 ⟨#[]⟩ (vn) ⟨#[]⟩ (-1) (-1) (Nat.zero_le _) (Nat.zero_le _)
         have hbp := setT_below (k := k) hbw (show w.heap.size ≤ g5 by omega) (.int .i64 1) (.string ⟨#[]⟩) (.int .i64 (vn)) (.string ⟨#[]⟩) (.int .i64 (-1)) (.int .i64 (-1))
         unfold setT at htp hbp
         obtain ⟨_, t0, t1, t2, t3, t4, t5⟩ := hbt
         obtain ⟨k0, l0⟩ := hcel (k * 6) (by omega)
         obtain ⟨k1, l1⟩ := hcel (k * 6 + 1) (by omega)
         obtain ⟨k2, l2⟩ := hcel (k * 6 + 2) (by omega)
         obtain ⟨k3, l3⟩ := hcel (k * 6 + 3) (by omega)
         obtain ⟨k4, l4⟩ := hcel (k * 6 + 4) (by omega)
         obtain ⟨k5, l5⟩ := hcel (k * 6 + 5) (by omega)
         obtain ⟨m0, j0⟩ := Option.isSome_iff_exists.1 k0
         obtain ⟨m1, j1⟩ := Option.isSome_iff_exists.1 k1
         obtain ⟨m2, j2⟩ := Option.isSome_iff_exists.1 k2
         obtain ⟨m3, j3⟩ := Option.isSome_iff_exists.1 k3
         obtain ⟨m4, j4⟩ := Option.isSome_iff_exists.1 k4
         obtain ⟨m5, j5⟩ := Option.isSome_iff_exists.1 k5
         have HTP := Lib.hid htp
         have HBP := Lib.hid hbp
         clear htp hbp hts hcel ho hb5 hbw k0 k1 k2 k3 k4 k5)
      | (go_at_call 17; (with_reducible refine (termEval_any a n c L root ea en ec env _ _ (Nat.le_refl _) (HL.out.on HBP.out) (HE0.out.on HBP.out)).mono ?_)
         rintro e wa ⟨⟨s2, a2, n2, c2, he, hv, hf⟩, hb⟩
         rw [HR.out] at he hv
         subst he
         have HB := Lib.hid (below_on (below_on HBP.out hb) (next_alloc wa (.cells #[.int .i64 rk, .int .i64 rn, .string s2, .slice a2 n2 c2] 33)))
         have HTQ := Lib.hid ((HTP.out.on hb).on (next_alloc wa (.cells #[.int .i64 rk, .int .i64 rn, .string s2, .slice a2 n2 c2] 33)))
         have HN1 := Lib.hid (hv.2.on (next_alloc wa (.cells #[.int .i64 rk, .int .i64 rn, .string s2, .slice a2 n2 c2] 33)))
         have HSA := Lib.hid hv.1
         have HXA := Lib.hid (BoxV.new wa (.int .i64 rk) (.int .i64 rn) (.string s2) (.slice a2 n2 c2))
         clear hv hf hb)
      | (go_at_call 17; (with_reducible refine (termEval_any (some ⟨g5, 0, none⟩) n c5 (L.set k ⟨1, (⟨#[]⟩ : ByteArray).toList, vn, (⟨#[]⟩ : ByteArray).toList, -1, -1⟩) root ea en ec env _ _ (Nat.le_refl _) HTQ.out (HE0.out.on HB.out)).mono ?_)
         rintro e wb ⟨⟨s3, a3, n3, c3, he, hv, hf⟩, hb⟩
         rw [HPUT.out.2] at he hv
         subst he
         have HB := Lib.hid (below_on (below_on HB.out hb) (next_alloc wb (.cells #[.int .i64 rk, .int .i64 rn, .string s3, .slice a3 n3 c3] 33)))
         have HTQ := Lib.hid ((HTQ.out.on hb).on (next_alloc wb (.cells #[.int .i64 rk, .int .i64 rn, .string s3, .slice a3 n3 c3] 33)))
         have HN1 := Lib.hid ((HN1.out.on hb).on (next_alloc wb (.cells #[.int .i64 rk, .int .i64 rn, .string s3, .slice a3 n3 c3] 33)))
         have HXA := Lib.hid ((HXA.out.on hb).on (next_alloc wb (.cells #[.int .i64 rk, .int .i64 rn, .string s3, .slice a3 n3 c3] 33)))
         have HN2 := Lib.hid (hv.2.on (next_alloc wb (.cells #[.int .i64 rk, .int .i64 rn, .string s3, .slice a3 n3 c3] 33)))
         have HSB := Lib.hid hv.1
         have HXB := Lib.hid (BoxV.new wb (.int .i64 rk) (.int .i64 rn) (.string s3) (.slice a3 n3 c3))
         clear hv hf hb)
      | (go_at_call 15; (with_reducible refine (termMay_any (some ⟨g5, 0, none⟩) n c5 (L.set k ⟨1, (⟨#[]⟩ : ByteArray).toList, vn, (⟨#[]⟩ : ByteArray).toList, -1, -1⟩) root _ _ (Nat.le_refl _) HTQ.out).mono ?_)
         rintro e wd ⟨he, hb⟩
         rw [HPUT.out.1] at he
         subst he
         have HB := Lib.hid (below_on HB.out hb)
         have HN1 := Lib.hid (HN1.out.on hb)
         have HXA := Lib.hid (HXA.out.on hb)
         have HN2 := Lib.hid (HN2.out.on hb)
         have HXB := Lib.hid (HXB.out.on hb)
         obtain ⟨⟨x0, x1, x2, x3⟩, _⟩ := HXA.out.cells
         obtain ⟨⟨y0, y1, y2, y3⟩, _⟩ := HXB.out.cells
         clear hb)
      | (go_at_call 18; (with_reducible refine (dataSame_any rk rn s2 a2 n2 c2 rl rk rn s3 a3 n3 c3 rl _ _ (Nat.le_refl _) HN1.out HN2.out).mono ?_)
         rintro e we ⟨he, hb⟩
         rw [HSA.out, HSB.out, HSV.out] at he
         subst he
         have HB := Lib.hid (below_on HB.out hb)
         clear hb)
      | fail))
    all_goals go_ret
    all_goals exact ⟨rfl, HB.out⟩
  · obtain ⟨hb1, hb2⟩ := mayV_bool_rest HMV.out rfl
    have HPUT := Lib.hid (HVAL.out ⟨2, [], vn, [], -1, -1⟩ (by rcases hb2 with h | h <;> (dsimp only at h; rw [h]; rfl)) rfl (by rw [← HQE.out]; exact Prod.ext hb1.symm rfl))
    rw [HR.out] at HPUT
    rw [show (⟨2, [], vn, [], -1, -1⟩ : Trm) = ⟨2, (⟨#[]⟩ : ByteArray).toList, vn, (⟨#[]⟩ : ByteArray).toList, -1, -1⟩ by rw [empty_toList]] at HPUT
    clear hb1 hb2
    go_enter Try.func3, Try.ntmps3
    go_upto_region 18 with (first
    | (go_at_call 13; (with_reducible refine (first_any _).mono ?_); rintro e w1 ⟨rfl, hb1⟩; have HB := Lib.hid hb1; clear hb1)
    | (go_at_call 14; (with_reducible refine (some_any ea en ec env _ _ (HE.out.below HB.out)).mono ?_); rintro e w2 ⟨he, rfl⟩; rw [HS1.out] at he; subst he)
    | (go_at_call 15; (with_reducible refine (termMay_any a n c L root _ _ (Nat.le_refl _) (HL.out.on HB.out)).mono ?_)
       rintro e w3 ⟨he, hb⟩
       rw [HS2.out] at he
       subst he
       have HB := Lib.hid (below_on HB.out hb)
       clear hb)
    | (go_at_call 16; (with_reducible refine (CT.out _ (HL.out.on HB.out)).mono ?_)
       rintro e w4 ⟨⟨g, rfl, hs, _⟩, hb⟩
       have HB := Lib.hid (below_on HB.out hb)
       obtain ⟨s0, s1⟩ := hs.2 k hk
       rw [hin] at s0
       clear hs hb)
    | (go_at_call 17; (with_reducible refine (termEval_any a n c L (k : Int) ea en ec env _ _ (Nat.le_refl _) (HL.out.on HB.out) (HE0.out.on HB.out)).mono ?_)
       rintro e wv ⟨⟨s1, a1, n1, c1, he, hv, hf⟩, hb⟩
       rw [HV.out] at he hv
       subst he
       have HB := Lib.hid (below_on (below_on HB.out hb) (next_alloc wv (.cells #[.int .i64 2, .int .i64 vn, .string s1, .slice a1 n1 c1] 33)))
       have HX1 := Lib.hid (BoxV.new wv (.int .i64 2) (.int .i64 vn) (.string s1) (.slice a1 n1 c1))
       have HS3 := Lib.hid (show s1.toList = vt from hv.1)
       obtain ⟨⟨x0, x1, x2, x3⟩, _⟩ := HX1.out.cells
       clear hv hf hb)
    | fail)
    have hbu := BoxU.new (wv.alloc (.cells #[.int .i64 2, .int .i64 vn, .string s1, .slice a1 n1 c1] 33)) (.int .i64 0) (.string ⟨#[]⟩) (.int .i64 0) (.string ⟨#[]⟩) (.int .i64 (-1)) (.int .i64 (-1))
    rw [World.size_alloc] at hbu
    obtain ⟨⟨y0, y1, y2, y3, y4, y5⟩, f0, f1, f2, f3, f4, f5⟩ := hbu.cells
    obtain ⟨⟨z0, z1, z2, z3⟩, _⟩ := (HX1.out.on (next_alloc (wv.alloc (.cells #[.int .i64 2, .int .i64 vn, .string s1, .slice a1 n1 c1] 33)) (.cells #[.int .i64 0, .string ⟨#[]⟩, .int .i64 0, .string ⟨#[]⟩, .int .i64 (-1), .int .i64 (-1)] 38))).cells
    have HB9 := Lib.hid ((below_on HB.out (next_alloc (wv.alloc (.cells #[.int .i64 2, .int .i64 vn, .string s1, .slice a1 n1 c1] 33)) (.cells #[.int .i64 2, .string ⟨#[]⟩, .int .i64 (vn), .string ⟨#[]⟩, .int .i64 (-1), .int .i64 (-1)] 38))).drew)
    have hbn := BoxT.new (wv.alloc (.cells #[.int .i64 2, .int .i64 vn, .string s1, .slice a1 n1 c1] 33)) 2 ⟨#[]⟩ (vn) ⟨#[]⟩ (-1) (-1)
    rw [World.size_alloc] at hbn
    have HBN := Lib.hid (show BoxT ((wv.alloc (.cells #[.int .i64 2, .int .i64 vn, .string s1, .slice a1 n1 c1] 33)).alloc (.cells #[.int .i64 2, .string ⟨#[]⟩, .int .i64 (vn), .string ⟨#[]⟩, .int .i64 (-1), .int .i64 (-1)] 38)).drew (wv.heap.size + 1) 2 ⟨#[]⟩ (vn) ⟨#[]⟩ (-1) (-1) from hbn)
    have hzv : w.heap.size ≤ wv.heap.size + 1 := by have := HB.out.size; simp at this; omega
    have hnl := HN.out
    clear hbu hbn
    go_region
    all_goals (go_wp2_with (first
      | (at_builtin
         refine wpList_append_trms rfl (.const (.slice none 0 0)) (.tmp 100) rfl (wv.heap.size + 1 + 1) (.slice none 0 0) [] a n c L w.heap.size rfl rfl (TOwn.zero _ _) (HL.out.below HB9.out) (by simp) (by simp; omega) _ (Below.refl _ _) ?_
         intro v5 w5 ho hb5
         have hbt : BoxT w5 (wv.heap.size + 1) 2 ⟨#[]⟩ (vn) ⟨#[]⟩ (-1) (-1) := HBN.out.below hb5 (by omega)
         have hbw : Below w.heap.size w w5 := HB9.out.trans (hb5.mono (by omega))
         rw [List.nil_append] at ho
         obtain ⟨g5, c5, hv5, hg5, hl5, hcel⟩ := ho.opens (by omega) (by omega)
         obtain ⟨a6, c6, hv6, hts⟩ := ho.sees (by omega) HL.out.2.2.1
         rw [hv5] at hv6
         injection hv6 with h61 h62 h63
         subst h61 h63
         clear h62
         rw [hnl] at hv5 hts hcel
         subst hv5
         have htp := hts.put hk 2 ⟨#[]⟩ (vn) ⟨#[]⟩ (-1) (-1) (Nat.zero_le _) (Nat.zero_le _)
         have hbp := setT_below (k := k) hbw (show w.heap.size ≤ g5 by omega) (.int .i64 2) (.string ⟨#[]⟩) (.int .i64 (vn)) (.string ⟨#[]⟩) (.int .i64 (-1)) (.int .i64 (-1))
         unfold setT at htp hbp
         obtain ⟨_, t0, t1, t2, t3, t4, t5⟩ := hbt
         obtain ⟨k0, l0⟩ := hcel (k * 6) (by omega)
         obtain ⟨k1, l1⟩ := hcel (k * 6 + 1) (by omega)
         obtain ⟨k2, l2⟩ := hcel (k * 6 + 2) (by omega)
         obtain ⟨k3, l3⟩ := hcel (k * 6 + 3) (by omega)
         obtain ⟨k4, l4⟩ := hcel (k * 6 + 4) (by omega)
         obtain ⟨k5, l5⟩ := hcel (k * 6 + 5) (by omega)
         obtain ⟨m0, j0⟩ := Option.isSome_iff_exists.1 k0
         obtain ⟨m1, j1⟩ := Option.isSome_iff_exists.1 k1
         obtain ⟨m2, j2⟩ := Option.isSome_iff_exists.1 k2
         obtain ⟨m3, j3⟩ := Option.isSome_iff_exists.1 k3
         obtain ⟨m4, j4⟩ := Option.isSome_iff_exists.1 k4
         obtain ⟨m5, j5⟩ := Option.isSome_iff_exists.1 k5
         have HTP := Lib.hid htp
         have HBP := Lib.hid hbp
         clear htp hbp hts hcel ho hb5 hbw k0 k1 k2 k3 k4 k5)
      | (go_at_call 17; (with_reducible refine (termEval_any a n c L root ea en ec env _ _ (Nat.le_refl _) (HL.out.on HBP.out) (HE0.out.on HBP.out)).mono ?_)
         rintro e wa ⟨⟨s2, a2, n2, c2, he, hv, hf⟩, hb⟩
         rw [HR.out] at he hv
         subst he
         have HB := Lib.hid (below_on (below_on HBP.out hb) (next_alloc wa (.cells #[.int .i64 rk, .int .i64 rn, .string s2, .slice a2 n2 c2] 33)))
         have HTQ := Lib.hid ((HTP.out.on hb).on (next_alloc wa (.cells #[.int .i64 rk, .int .i64 rn, .string s2, .slice a2 n2 c2] 33)))
         have HN1 := Lib.hid (hv.2.on (next_alloc wa (.cells #[.int .i64 rk, .int .i64 rn, .string s2, .slice a2 n2 c2] 33)))
         have HSA := Lib.hid hv.1
         have HXA := Lib.hid (BoxV.new wa (.int .i64 rk) (.int .i64 rn) (.string s2) (.slice a2 n2 c2))
         clear hv hf hb)
      | (go_at_call 17; (with_reducible refine (termEval_any (some ⟨g5, 0, none⟩) n c5 (L.set k ⟨2, (⟨#[]⟩ : ByteArray).toList, vn, (⟨#[]⟩ : ByteArray).toList, -1, -1⟩) root ea en ec env _ _ (Nat.le_refl _) HTQ.out (HE0.out.on HB.out)).mono ?_)
         rintro e wb ⟨⟨s3, a3, n3, c3, he, hv, hf⟩, hb⟩
         rw [HPUT.out.2] at he hv
         subst he
         have HB := Lib.hid (below_on (below_on HB.out hb) (next_alloc wb (.cells #[.int .i64 rk, .int .i64 rn, .string s3, .slice a3 n3 c3] 33)))
         have HTQ := Lib.hid ((HTQ.out.on hb).on (next_alloc wb (.cells #[.int .i64 rk, .int .i64 rn, .string s3, .slice a3 n3 c3] 33)))
         have HN1 := Lib.hid ((HN1.out.on hb).on (next_alloc wb (.cells #[.int .i64 rk, .int .i64 rn, .string s3, .slice a3 n3 c3] 33)))
         have HXA := Lib.hid ((HXA.out.on hb).on (next_alloc wb (.cells #[.int .i64 rk, .int .i64 rn, .string s3, .slice a3 n3 c3] 33)))
         have HN2 := Lib.hid (hv.2.on (next_alloc wb (.cells #[.int .i64 rk, .int .i64 rn, .string s3, .slice a3 n3 c3] 33)))
         have HSB := Lib.hid hv.1
         have HXB := Lib.hid (BoxV.new wb (.int .i64 rk) (.int .i64 rn) (.string s3) (.slice a3 n3 c3))
         clear hv hf hb)
      | (go_at_call 15; (with_reducible refine (termMay_any (some ⟨g5, 0, none⟩) n c5 (L.set k ⟨2, (⟨#[]⟩ : ByteArray).toList, vn, (⟨#[]⟩ : ByteArray).toList, -1, -1⟩) root _ _ (Nat.le_refl _) HTQ.out).mono ?_)
         rintro e wd ⟨he, hb⟩
         rw [HPUT.out.1] at he
         subst he
         have HB := Lib.hid (below_on HB.out hb)
         have HN1 := Lib.hid (HN1.out.on hb)
         have HXA := Lib.hid (HXA.out.on hb)
         have HN2 := Lib.hid (HN2.out.on hb)
         have HXB := Lib.hid (HXB.out.on hb)
         obtain ⟨⟨x0, x1, x2, x3⟩, _⟩ := HXA.out.cells
         obtain ⟨⟨y0, y1, y2, y3⟩, _⟩ := HXB.out.cells
         clear hb)
      | (go_at_call 18; (with_reducible refine (dataSame_any rk rn s2 a2 n2 c2 rl rk rn s3 a3 n3 c3 rl _ _ (Nat.le_refl _) HN1.out HN2.out).mono ?_)
         rintro e we ⟨he, hb⟩
         rw [HSA.out, HSB.out, HSV.out] at he
         subst he
         have HB := Lib.hid (below_on HB.out hb)
         clear hb)
      | fail))
    all_goals go_ret
    all_goals exact ⟨rfl, HB.out⟩
  · obtain ⟨hb1, hb2⟩ := mayV_text_rest HMV.out rfl
    have HPUT := Lib.hid (HVAL.out ⟨3, [], 0, vt, -1, -1⟩ (by simp [soundT, arT]; dsimp only at hb2; omega) rfl (by rw [← HQE.out]; exact Prod.ext hb1.symm rfl))
    rw [HR.out] at HPUT
    have HT24 := Lib.hid hb2
    clear hb1 hb2
    go_enter Try.func3, Try.ntmps3
    go_upto_region 20 with (first
    | (go_at_call 13; (with_reducible refine (first_any _).mono ?_); rintro e w1 ⟨rfl, hb1⟩; have HB := Lib.hid hb1; clear hb1)
    | (go_at_call 14; (with_reducible refine (some_any ea en ec env _ _ (HE.out.below HB.out)).mono ?_); rintro e w2 ⟨he, rfl⟩; rw [HS1.out] at he; subst he)
    | (go_at_call 15; (with_reducible refine (termMay_any a n c L root _ _ (Nat.le_refl _) (HL.out.on HB.out)).mono ?_)
       rintro e w3 ⟨he, hb⟩
       rw [HS2.out] at he
       subst he
       have HB := Lib.hid (below_on HB.out hb)
       clear hb)
    | (go_at_call 16; (with_reducible refine (CT.out _ (HL.out.on HB.out)).mono ?_)
       rintro e w4 ⟨⟨g, rfl, hs, _⟩, hb⟩
       have HB := Lib.hid (below_on HB.out hb)
       obtain ⟨s0, s1⟩ := hs.2 k hk
       rw [hin] at s0
       clear hs hb)
    | (go_at_call 17; (with_reducible refine (termEval_any a n c L (k : Int) ea en ec env _ _ (Nat.le_refl _) (HL.out.on HB.out) (HE0.out.on HB.out)).mono ?_)
       rintro e wv ⟨⟨s1, a1, n1, c1, he, hv, hf⟩, hb⟩
       rw [HV.out] at he hv
       subst he
       have HB := Lib.hid (below_on (below_on HB.out hb) (next_alloc wv (.cells #[.int .i64 3, .int .i64 vn, .string s1, .slice a1 n1 c1] 33)))
       have HX1 := Lib.hid (BoxV.new wv (.int .i64 3) (.int .i64 vn) (.string s1) (.slice a1 n1 c1))
       have HS3 := Lib.hid (show s1.toList = vt from hv.1)
       obtain ⟨⟨x0, x1, x2, x3⟩, _⟩ := HX1.out.cells
       clear hv hf hb)
    | fail)
    have hbu := BoxU.new (wv.alloc (.cells #[.int .i64 3, .int .i64 vn, .string s1, .slice a1 n1 c1] 33)) (.int .i64 0) (.string ⟨#[]⟩) (.int .i64 0) (.string ⟨#[]⟩) (.int .i64 (-1)) (.int .i64 (-1))
    rw [World.size_alloc] at hbu
    obtain ⟨⟨y0, y1, y2, y3, y4, y5⟩, f0, f1, f2, f3, f4, f5⟩ := hbu.cells
    obtain ⟨⟨z0, z1, z2, z3⟩, _⟩ := (HX1.out.on (next_alloc (wv.alloc (.cells #[.int .i64 3, .int .i64 vn, .string s1, .slice a1 n1 c1] 33)) (.cells #[.int .i64 0, .string ⟨#[]⟩, .int .i64 0, .string ⟨#[]⟩, .int .i64 (-1), .int .i64 (-1)] 38))).cells
    have HB9 := Lib.hid ((below_on HB.out (next_alloc (wv.alloc (.cells #[.int .i64 3, .int .i64 vn, .string s1, .slice a1 n1 c1] 33)) (.cells #[.int .i64 3, .string ⟨#[]⟩, .int .i64 (0), .string s1, .int .i64 (-1), .int .i64 (-1)] 38))).drew)
    have hbn := BoxT.new (wv.alloc (.cells #[.int .i64 3, .int .i64 vn, .string s1, .slice a1 n1 c1] 33)) 3 ⟨#[]⟩ (0) s1 (-1) (-1)
    rw [World.size_alloc] at hbn
    have HBN := Lib.hid (show BoxT ((wv.alloc (.cells #[.int .i64 3, .int .i64 vn, .string s1, .slice a1 n1 c1] 33)).alloc (.cells #[.int .i64 3, .string ⟨#[]⟩, .int .i64 (0), .string s1, .int .i64 (-1), .int .i64 (-1)] 38)).drew (wv.heap.size + 1) 3 ⟨#[]⟩ (0) s1 (-1) (-1) from hbn)
    have hzv : w.heap.size ≤ wv.heap.size + 1 := by have := HB.out.size; simp at this; omega
    have hnl := HN.out
    clear hbu hbn
    go_region
    all_goals (go_wp2_with (first
      | (at_builtin
         refine wpList_append_trms rfl (.const (.slice none 0 0)) (.tmp 100) rfl (wv.heap.size + 1 + 1) (.slice none 0 0) [] a n c L w.heap.size rfl rfl (TOwn.zero _ _) (HL.out.below HB9.out) (by simp) (by simp; omega) _ (Below.refl _ _) ?_
         intro v5 w5 ho hb5
         have hbt : BoxT w5 (wv.heap.size + 1) 3 ⟨#[]⟩ (0) s1 (-1) (-1) := HBN.out.below hb5 (by omega)
         have hbw : Below w.heap.size w w5 := HB9.out.trans (hb5.mono (by omega))
         rw [List.nil_append] at ho
         obtain ⟨g5, c5, hv5, hg5, hl5, hcel⟩ := ho.opens (by omega) (by omega)
         obtain ⟨a6, c6, hv6, hts⟩ := ho.sees (by omega) HL.out.2.2.1
         rw [hv5] at hv6
         injection hv6 with h61 h62 h63
         subst h61 h63
         clear h62
         rw [hnl] at hv5 hts hcel
         subst hv5
         have htp := hts.put hk 3 ⟨#[]⟩ (0) s1 (-1) (-1) (Nat.zero_le _) (by have := HS3.out; have h24 := HT24.out; rw [← lxLen, this]; unfold maxLen; omega)
         have hbp := setT_below (k := k) hbw (show w.heap.size ≤ g5 by omega) (.int .i64 3) (.string ⟨#[]⟩) (.int .i64 (0)) (.string s1) (.int .i64 (-1)) (.int .i64 (-1))
         unfold setT at htp hbp
         obtain ⟨_, t0, t1, t2, t3, t4, t5⟩ := hbt
         obtain ⟨k0, l0⟩ := hcel (k * 6) (by omega)
         obtain ⟨k1, l1⟩ := hcel (k * 6 + 1) (by omega)
         obtain ⟨k2, l2⟩ := hcel (k * 6 + 2) (by omega)
         obtain ⟨k3, l3⟩ := hcel (k * 6 + 3) (by omega)
         obtain ⟨k4, l4⟩ := hcel (k * 6 + 4) (by omega)
         obtain ⟨k5, l5⟩ := hcel (k * 6 + 5) (by omega)
         obtain ⟨m0, j0⟩ := Option.isSome_iff_exists.1 k0
         obtain ⟨m1, j1⟩ := Option.isSome_iff_exists.1 k1
         obtain ⟨m2, j2⟩ := Option.isSome_iff_exists.1 k2
         obtain ⟨m3, j3⟩ := Option.isSome_iff_exists.1 k3
         obtain ⟨m4, j4⟩ := Option.isSome_iff_exists.1 k4
         obtain ⟨m5, j5⟩ := Option.isSome_iff_exists.1 k5
         have HTP := Lib.hid htp
         have HBP := Lib.hid hbp
         clear htp hbp hts hcel ho hb5 hbw k0 k1 k2 k3 k4 k5)
      | (go_at_call 17; (with_reducible refine (termEval_any a n c L root ea en ec env _ _ (Nat.le_refl _) (HL.out.on HBP.out) (HE0.out.on HBP.out)).mono ?_)
         rintro e wa ⟨⟨s2, a2, n2, c2, he, hv, hf⟩, hb⟩
         rw [HR.out] at he hv
         subst he
         have HB := Lib.hid (below_on (below_on HBP.out hb) (next_alloc wa (.cells #[.int .i64 rk, .int .i64 rn, .string s2, .slice a2 n2 c2] 33)))
         have HTQ := Lib.hid ((HTP.out.on hb).on (next_alloc wa (.cells #[.int .i64 rk, .int .i64 rn, .string s2, .slice a2 n2 c2] 33)))
         have HN1 := Lib.hid (hv.2.on (next_alloc wa (.cells #[.int .i64 rk, .int .i64 rn, .string s2, .slice a2 n2 c2] 33)))
         have HSA := Lib.hid hv.1
         have HXA := Lib.hid (BoxV.new wa (.int .i64 rk) (.int .i64 rn) (.string s2) (.slice a2 n2 c2))
         clear hv hf hb)
      | (go_at_call 17; (with_reducible refine (termEval_any (some ⟨g5, 0, none⟩) n c5 (L.set k ⟨3, (⟨#[]⟩ : ByteArray).toList, 0, (s1 : ByteArray).toList, -1, -1⟩) root ea en ec env _ _ (Nat.le_refl _) HTQ.out (HE0.out.on HB.out)).mono ?_)
         rintro e wb ⟨⟨s3, a3, n3, c3, he, hv, hf⟩, hb⟩
         rw [HS3.out, empty_toList, HPUT.out.2] at he hv
         subst he
         have HB := Lib.hid (below_on (below_on HB.out hb) (next_alloc wb (.cells #[.int .i64 rk, .int .i64 rn, .string s3, .slice a3 n3 c3] 33)))
         have HTQ := Lib.hid ((HTQ.out.on hb).on (next_alloc wb (.cells #[.int .i64 rk, .int .i64 rn, .string s3, .slice a3 n3 c3] 33)))
         have HN1 := Lib.hid ((HN1.out.on hb).on (next_alloc wb (.cells #[.int .i64 rk, .int .i64 rn, .string s3, .slice a3 n3 c3] 33)))
         have HXA := Lib.hid ((HXA.out.on hb).on (next_alloc wb (.cells #[.int .i64 rk, .int .i64 rn, .string s3, .slice a3 n3 c3] 33)))
         have HN2 := Lib.hid (hv.2.on (next_alloc wb (.cells #[.int .i64 rk, .int .i64 rn, .string s3, .slice a3 n3 c3] 33)))
         have HSB := Lib.hid hv.1
         have HXB := Lib.hid (BoxV.new wb (.int .i64 rk) (.int .i64 rn) (.string s3) (.slice a3 n3 c3))
         clear hv hf hb)
      | (go_at_call 15; (with_reducible refine (termMay_any (some ⟨g5, 0, none⟩) n c5 (L.set k ⟨3, (⟨#[]⟩ : ByteArray).toList, 0, (s1 : ByteArray).toList, -1, -1⟩) root _ _ (Nat.le_refl _) HTQ.out).mono ?_)
         rintro e wd ⟨he, hb⟩
         rw [HS3.out, empty_toList, HPUT.out.1] at he
         subst he
         have HB := Lib.hid (below_on HB.out hb)
         have HN1 := Lib.hid (HN1.out.on hb)
         have HXA := Lib.hid (HXA.out.on hb)
         have HN2 := Lib.hid (HN2.out.on hb)
         have HXB := Lib.hid (HXB.out.on hb)
         obtain ⟨⟨x0, x1, x2, x3⟩, _⟩ := HXA.out.cells
         obtain ⟨⟨y0, y1, y2, y3⟩, _⟩ := HXB.out.cells
         clear hb)
      | (go_at_call 18; (with_reducible refine (dataSame_any rk rn s2 a2 n2 c2 rl rk rn s3 a3 n3 c3 rl _ _ (Nat.le_refl _) HN1.out HN2.out).mono ?_)
         rintro e we ⟨he, hb⟩
         rw [HSA.out, HSB.out, HSV.out] at he
         subst he
         have HB := Lib.hid (below_on HB.out hb)
         clear hb)
      | fail))
    all_goals go_ret
    all_goals exact ⟨rfl, HB.out⟩
  · go_enter Try.func3, Try.ntmps3
    go_wp2_with (first
    | (go_at_call 13; (with_reducible refine (first_any _).mono ?_); rintro e w1 ⟨rfl, hb1⟩; have HB := Lib.hid hb1; clear hb1)
    | (go_at_call 14; (with_reducible refine (some_any ea en ec env _ _ (HE.out.below HB.out)).mono ?_); rintro e w2 ⟨he, rfl⟩; rw [HS1.out] at he; subst he)
    | (go_at_call 15; (with_reducible refine (termMay_any a n c L root _ _ (Nat.le_refl _) (HL.out.on HB.out)).mono ?_)
       rintro e w3 ⟨he, hb⟩
       rw [HS2.out] at he
       subst he
       have HB := Lib.hid (below_on HB.out hb)
       clear hb)
    | (go_at_call 16; (with_reducible refine (CT.out _ (HL.out.on HB.out)).mono ?_)
       rintro e w4 ⟨⟨g, rfl, hs, _⟩, hb⟩
       have HB := Lib.hid (below_on HB.out hb)
       obtain ⟨s0, s1⟩ := hs.2 k hk
       rw [hin] at s0
       clear hs hb)
    | (go_at_call 17; (with_reducible refine (termEval_any a n c L (k : Int) ea en ec env _ _ (Nat.le_refl _) (HL.out.on HB.out) (HE0.out.on HB.out)).mono ?_)
       rintro e wv ⟨⟨s1, a1, n1, c1, he, hv, hf⟩, hb⟩
       rw [HV.out] at he hv
       subst he
       have HB := Lib.hid (below_on (below_on HB.out hb) (next_alloc wv (.cells #[.int .i64 vk, .int .i64 vn, .string s1, .slice a1 n1 c1] 33)))
       have HX1 := Lib.hid (BoxV.new wv (.int .i64 vk) (.int .i64 vn) (.string s1) (.slice a1 n1 c1))
       have HS3 := Lib.hid (show s1.toList = vt from hv.1)
       obtain ⟨⟨x0, x1, x2, x3⟩, _⟩ := HX1.out.cells
       clear hv hf hb)
    | fail)
    go_ret
    exact ⟨rfl, below_on HB.out (next_alloc _ _)⟩
end Go.Proofs.Ythchilnibblbgaa
