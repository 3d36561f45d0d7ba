/- Contracts of the program's walk over a tree, and of May. -/
import Derived.Test.YthbakfceaaaamaaTmEq
namespace Go.Proofs.Ythbakfceaaaamaa
open Go.RowKit

theorem lxS_size (s : Str) : (lxS s).size = s.length := by rw [← lxLen, lxS_toList]
/-- Block g holds n marks. -/
def Seen (W : World) (g n : Nat) (s : Nat → Bool) : Prop := g < W.heap.size ∧ ∀ j, j < n → W.cell? ⟨g, j, none⟩ = some (.bool (s j)) ∧ W.frozen? ⟨g, j, none⟩ = false
theorem Seen.below {W W' : World} {g n : Nat} {s : Nat → Bool} (h : Seen W g n s) (hb : Below W.heap.size W W') : Seen W' g n s :=
  ⟨Nat.lt_of_lt_of_le h.1 hb.size, fun j hj => ⟨(hb.cell (p := ⟨g, j, none⟩) h.1).trans (h.2 j hj).1, (hb.frozen (p := ⟨g, j, none⟩) h.1).trans (h.2 j hj).2⟩⟩
/-- What the walk finds where it begins: the list, the marks, itself. -/
def Ready (W : World) (L : List Trm) (a : Option Addr) (n c g bound cs cl cw : Nat) : Prop :=
  Trms W bound a n L ∧ bound ≤ g ∧ bound ≤ W.heap.size ∧ n ≤ 160 ∧ (cs < W.heap.size ∧ cs ≠ g) ∧ (cl < W.heap.size ∧ cl ≠ g) ∧ (cw < W.heap.size ∧ cw ≠ g) ∧
  W.cell? ⟨cs, 0, none⟩ = some (.slice (some ⟨g, 0, none⟩) n n) ∧ W.cell? ⟨cl, 0, none⟩ = some (.slice a n c) ∧
  W.cell? ⟨cw, 0, none⟩ = some (.func (.func 27) #[] #[.pointer (some ⟨cs, 0, none⟩), .pointer (some ⟨cl, 0, none⟩), .pointer (some ⟨cw, 0, none⟩)])
theorem Ready.beside {W W' : World} {L : List Trm} {a : Option Addr} {n c g bound cs cl cw : Nat} (h : Ready W L a n c g bound cs cl cw) (hb : Beside g W W') : Ready W' L a n c g bound cs cl cw := by
  obtain ⟨h1, h2, h3, h4, ⟨h5, h6⟩, ⟨h7, h8⟩, ⟨h9, h10⟩, h11, h12, h13⟩ := h
  have := hb.size
  exact ⟨h1.beside hb h2 h3, h2, by omega, h4, ⟨by omega, h6⟩, ⟨by omega, h8⟩, ⟨by omega, h10⟩, (hb.cell (p := ⟨cs, 0, none⟩) h5 h6).trans h11, (hb.cell (p := ⟨cl, 0, none⟩) h7 h8).trans h12, (hb.cell (p := ⟨cw, 0, none⟩) h9 h10).trans h13⟩
/-- What the walk leaves: its answer, and where it is yes the marks. -/
def WalkRet (w : World) (g n : Nat) (r : Option (Nat → Bool)) (e : Ending) (w' : World) : Prop :=
  e = .returned (.bool r.isSome) ∧ Beside g w w' ∧ ∀ s, r = some s → Seen w' g n s
theorem Nums.beside {bound : Nat} {w w' : World} {a : Option Addr} {n : Nat} {l : List Int} (h : Nums w bound a n l) (hk : ∀ p : Addr, p.block < bound → w'.cell? p = w.cell? p) : Nums w' bound a n l := h.keep hk

theorem walkF_succ (L : List Trm) (f i d : Nat) (s : Nat → Bool) (t : Trm) (ht : L.getD i trm0 = t) :
    walkF L (f + 1) i d s = if d ≤ 24 ∧ s i = false ∧ fitT t i = true then foldO (fun o s => walkF L f o.toNat (d + 1) s) (opsT t) (fun j => j == i || s j) else none := by
  rw [walkF, ht]
theorem foldO_at {S : Type} {g : Int → S → Option S} {l : List Int} {k : Nat} {o : Int} (h : l[k]? = some o) (s : S) : foldO g (l.drop k) s = match g o s with
    | none => none
    | some s' => foldO g (l.drop (k + 1)) s' := by
  obtain ⟨h1, e⟩ := List.getElem?_eq_some_iff.1 h
  rw [List.drop_eq_getElem_cons h1, e, foldO]
  cases g o s <;> rfl

set_option maxHeartbeats 4000000 in
theorem walk_any (L : List Trm) (a : Option Addr) (n c g bound cs cl cw : Nat) : ∀ (f i d : Nat) (s : Nat → Bool) (w : World), i < f → i < n → d ≤ 25 → Ready w L a n c g bound cs cl cw → Seen w g n s →
    Calls Try.prog 27 #[.int .i64 i, .int .i64 d, .pointer (some ⟨cs, 0, none⟩), .pointer (some ⟨cl, 0, none⟩), .pointer (some ⟨cw, 0, none⟩)] w (WalkRet w g n (walkF L f i d s)) := by
  intro f
  induction f with
  | zero => intro i d s w h; omega
  | succ f ih =>
    intro i d s w hif hin hd hR hS
    obtain ⟨b, off, t, ha, hbb, hget, hgetD, hnl, htl, q0, q1, q2, q3, q4, q5⟩ := hR.1.at_ hin
    have HE := Lib.hid (walkF_succ L f i d s t hgetD)
    have HR := Lib.hid hR
    have HS := Lib.hid hS
    obtain ⟨m0, m1⟩ := hS.2 i hin
    obtain ⟨_, hbg, hbz, hn160, ⟨s1, s2⟩, ⟨l1, l2⟩, ⟨w1', w2'⟩, ccs, ccl, ccw⟩ := hR
    subst ha
    obtain ⟨nm, hnm⟩ : ∃ nm, nm = lxS t.name := ⟨_, rfl⟩
    obtain ⟨tx, htx⟩ : ∃ tx, tx = lxS t.text := ⟨_, rfl⟩
    have hT : (⟨t.kind, nm.toList, t.num, tx.toList, t.l, t.r⟩ : Trm) = t := by rw [hnm, htx, lxS_toList, lxS_toList]
    have hns : nm.size ≤ maxLen := by rw [hnm, lxS_size]; exact hnl
    have cv := fun W => valid_any t.kind nm t.num tx t.l t.r i W hns
    have co := fun W => operands_any t.kind nm t.num tx t.l t.r W
    rw [hT] at cv co
    have CO := Lib.hid co
    rw [← hnm] at q1
    rw [← htx] at q3
    have HQ := Lib.hid (And.intro q0 (And.intro q1 (And.intro q2 (And.intro q3 (And.intro q4 q5)))))
    have HBB := Lib.hid hbb
    clear hnm htx hT hns hnl htl hget hgetD co hS hbb
    by_cases hd24 : 24 < d
    · have d1 : decide ((24 : Int) < (d : Int)) = true := decide_eq_true (by omega)
      have HG := Lib.hid (show walkF L (f + 1) i d s = none by rw [HE.out, if_neg (fun h => by omega)])
      go_enter Try.func27, Try.ntmps27
      go_wp2_with fail
      go_ret
      exact ⟨by rw [HG.out]; rfl, Beside.refl _ _, fun s h => by rw [HG.out] at h; cases h⟩
    have d1 : decide ((24 : Int) < (d : Int)) = false := decide_eq_false (by omega)
    cases hsi : s i
    · rw [hsi] at m0
      cases hft : fitT t i
      · rw [hft] at cv
        have CV := Lib.hid cv
        have HG := Lib.hid (show walkF L (f + 1) i d s = none by rw [HE.out, if_neg (fun h => by rw [hft] at h; exact absurd h.2.2 (by simp))])
        clear cv hsi hft
        go_enter Try.func27, Try.ntmps27
        go_wp2_with (first
          | (go_at_call 28; (with_reducible refine (CV.out _).mono ?_)
             rintro e w1 ⟨rfl, hb1⟩
             have HB1 := Lib.hid hb1
             clear hb1)
          | fail)
        go_ret
        exact ⟨by rw [HG.out]; rfl, Beside.of_below HB1.out, fun s h => by rw [HG.out] at h; cases h⟩
      · rw [hft] at cv
        have CV := Lib.hid cv
        have HG := Lib.hid (show walkF L (f + 1) i d s = foldO (fun o s => walkF L f o.toNat (d + 1) s) (opsT t) (fun j => j == i || s j) by rw [HE.out, if_pos ⟨by omega, hsi, hft⟩])
        have HO := Lib.hid (fitT_ops.1 hft).1
        clear cv hsi hft
        go_enter Try.func27, Try.ntmps27
        go_wp2_with (first
          | (go_at_call 28; (with_reducible refine (CV.out _).mono ?_)
             rintro e w1 ⟨rfl, hb1⟩
             have HB1 := Lib.hid (Beside.of_below (g := g) hb1)
             have HR1 := Lib.hid (HR.out.beside HB1.out)
             have HS1 := Lib.hid (HS.out.below hb1)
             obtain ⟨m0, m1⟩ := HS1.out.2 i hin
             obtain ⟨q0, q1, q2, q3, q4, q5⟩ := HQ.out
             have hbw : b < w.heap.size := Nat.lt_of_lt_of_le HBB.out hbz
             have hbg2 : b ≠ g := by have := HBB.out; omega
             have HR2 := Lib.hid (HR1.out.beside (Beside.setCell (Beside.refl g w1) i (.bool true)))
             have HB2 := Lib.hid (HB1.out.setCell i (.bool true))
             have hq : ∀ o, (w1.setCell ⟨g, i, none⟩ (.bool true)).cell? ⟨b, o, none⟩ = w.cell? ⟨b, o, none⟩ := fun o => HB2.out.cell (p := ⟨b, o, none⟩) hbw hbg2
             have r0 := (hq _).trans q0
             have r1 := (hq _).trans q1
             have r2 := (hq _).trans q2
             have r3 := (hq _).trans q3
             have r4 := (hq _).trans q4
             have r5 := (hq _).trans q5
             obtain ⟨_, _, _, _, _, _, _, ccs, _, _⟩ := HR1.out
             obtain ⟨_, _, _, _, _, _, _, _, ccl, _⟩ := HR2.out
             have HS2 := Lib.hid (show Seen (w1.setCell ⟨g, i, none⟩ (.bool true)) g n (fun j => j == i || s j) from ⟨by simpa using HS1.out.1, fun j hj => by
               obtain ⟨e0, e1⟩ := HS1.out.2 j hj
               rw [World.frozen?_setCell]
               refine ⟨?_, e1⟩
               by_cases hji : j = i
               · subst hji
                 rw [World.cell?_setCell_same' _ _ _ (by rw [e0]; rfl)]
                 simp
               · rw [World.cell?_setCell_other _ _ _ _ (fun e => by injection e with _ e _; exact hji e.symm), e0]
                 simp [hji]⟩)
             clear hb1 hq q0 q1 q2 q3 q4 q5 hbg2 hbw)
          | (go_at_call 22; (with_reducible refine (CO.out _).mono ?_)
             rintro e w3 ⟨⟨ao, no, co, rfl, hnums, hfrom⟩, hb3⟩
             have HFO := Lib.hid (fun h0 => (hfrom h0).imp fun b1 h => h.imp fun o1 h => And.intro h.1 (Nat.lt_of_lt_of_le HS2.out.1 h.2))
             have HR3 := Lib.hid (HR2.out.beside (Beside.of_below hb3))
             have HS3 := Lib.hid (HS2.out.below hb3)
             have HB3 := Lib.hid (HB2.out.trans (Beside.of_below hb3))
             have HN3 := Lib.hid hnums
             have hno := hnums.2.1
             clear hb3 hnums hfrom r0 r1 r2 r3 r4 r5)
          | fail)
        go_loopw [36, 9] (fun v _ wr => ∃ (j : Nat) (s' : Nat → Bool), j ≤ no ∧ v = .int .i64 j ∧ Hid (Ready wr L (some ⟨b, off, none⟩) n c g bound cs cl cw) ∧ Hid (Seen wr g n s') ∧ Hid (Beside g w3 wr) ∧ Hid (walkF L (f + 1) i d s = foldO (fun o s => walkF L f o.toNat (d + 1) s) ((opsT t).drop j) s')) (fun v _ _ => no - (intOf v).toNat)
        case atStart => exact ⟨0, _, Nat.zero_le _, rfl, HR3, HS3, Lib.hid (Beside.refl _ _), HG⟩
        case round =>
          obtain ⟨j, s', hj, rfl, HRr, HSr, HBr, HFr⟩ := hrel
          by_cases hlt : j < no
          · obtain ⟨b1, o1, y, hao, hb1, hy, y0⟩ := HN3.out.at_ hlt
            obtain ⟨bf, of_, ef, hfg⟩ := HFO.out (by omega)
            have hb1g : b1 ≠ g := by
              rw [hao] at ef
              injection ef with ef
              injection ef with ef _ _
              omega
            subst hao
            clear ef hfg
            have hyr := HO.out y (List.mem_of_getElem? hy)
            obtain ⟨yn, rfl⟩ : ∃ yn : Nat, y = (yn : Int) := ⟨y.toNat, by omega⟩
            have hyi : yn < i := by omega
            have hfd := foldO_at (g := fun o s => walkF L f o.toNat (d + 1) s) hy s'
            rw [Int.toNat_natCast] at hfd
            have hfr := HFr.out.trans hfd
            have hcl := ih yn (d + 1) s'
            have e1 : ((d + 1 : Nat) : Int) = (d : Int) + 1 := by omega
            rw [e1] at hcl
            cases hr : walkF L f yn (d + 1) s' with
            | none =>
              rw [hr] at hcl hfr
              have CW := Lib.hid (fun W (h1 : Ready W L (some ⟨b, off, none⟩) n c g bound cs cl cw) (h2 : Seen W g n s') => (hcl W (by omega) (by omega) (by omega) h1 h2).mono (R' := fun e w' => e = .returned (.bool false) ∧ Beside g W w') fun e w' h => ⟨h.1, h.2.1⟩)
              have HZ := Lib.hid hfr
              have hyy : wr.cell? ⟨b1, o1 + j, none⟩ = some (.int .i64 yn) := (HBr.out.cell (p := ⟨b1, o1 + j, none⟩) hb1 hb1g).trans y0
              obtain ⟨_, _, _, _, _, _, _, _, _, ccw⟩ := HRr.out
              clear hcl hfr hfd hr y0 hy e1
              go_wp2_with (first
                | (go_at_call 27; (with_reducible refine (CW.out _ HRr.out HSr.out).mono ?_)
                   rintro e w4 ⟨rfl, hb4⟩
                   have HB4 := Lib.hid hb4
                   clear hb4)
                | fail)
              go_ret
              exact ⟨by rw [HZ.out]; rfl, (HB3.out.trans HBr.out).trans HB4.out, fun s h => by rw [HZ.out] at h; cases h⟩
            | some s2 =>
              rw [hr] at hcl hfr
              have CW := Lib.hid (fun W (h1 : Ready W L (some ⟨b, off, none⟩) n c g bound cs cl cw) (h2 : Seen W g n s') => (hcl W (by omega) (by omega) (by omega) h1 h2).mono (R' := fun e w' => e = .returned (.bool true) ∧ Beside g W w' ∧ Seen w' g n s2) fun e w' h => ⟨h.1, h.2.1, h.2.2 _ rfl⟩)
              have HZ := Lib.hid hfr
              have hyy : wr.cell? ⟨b1, o1 + j, none⟩ = some (.int .i64 yn) := (HBr.out.cell (p := ⟨b1, o1 + j, none⟩) hb1 hb1g).trans y0
              obtain ⟨_, _, _, _, _, _, _, _, _, ccw⟩ := HRr.out
              clear hcl hfr hfd hr y0 hy e1
              go_wp2_with (first
                | (go_at_call 27; (with_reducible refine (CW.out _ HRr.out HSr.out).mono ?_)
                   rintro e w4 ⟨rfl, hb4, hs4⟩
                   have HB4 := Lib.hid hb4
                   have HS4 := Lib.hid hs4
                   clear hb4 hs4)
                | fail)
              go_roundw
              case rel => exact ⟨j + 1, s2, by omega, by go_num, Lib.hid (HRr.out.beside HB4.out), HS4, Lib.hid (HBr.out.trans HB4.out), HZ⟩
              case measure => simp [intOf]; omega
          · have HZ := Lib.hid (show walkF L (f + 1) i d s = some s' by
              have := HN3.out.1
              rw [HFr.out, List.drop_of_length_le (by omega), foldO])
            go_wp2
            go_ret
            exact ⟨by rw [HZ.out]; rfl, HB3.out.trans HBr.out, fun s h => by rw [HZ.out] at h; injection h with h; subst h; exact HSr.out⟩
    · rw [hsi] at m0
      have HG := Lib.hid (show walkF L (f + 1) i d s = none by rw [HE.out, if_neg (fun h => by rw [hsi] at h; exact absurd h.2.1 (by simp))])
      clear cv hsi
      go_enter Try.func27, Try.ntmps27
      go_wp2_with fail
      go_ret
      exact ⟨by rw [HG.out]; rfl, Beside.refl _ _, fun s h => by rw [HG.out] at h; cases h⟩
end Go.Proofs.Ythbakfceaaaamaa
