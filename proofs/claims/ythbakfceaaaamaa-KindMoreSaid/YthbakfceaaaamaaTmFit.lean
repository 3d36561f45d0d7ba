/- Values in a slice; contracts of the program's are and fit. -/
import Derived.Test.YthbakfceaaaamaaTmVar
import Derived.BigQuiet
namespace Go.Proofs.Ythbakfceaaaamaa
open Go.RowKit

/-- The slice with this address and length reads as these values. -/
def Vals (w : World) (bound : Nat) (a : Option Addr) (n : Nat) (vs : List Val) : Prop :=
  vs.length = n ∧ n ≤ 1000 ∧ (0 < n → ∃ b off, a = some ⟨b, off, none⟩ ∧ b < bound ∧ ∀ (j : Nat) (v : Val), vs[j]? = some v → ∃ s la ln lc,
    (w.cell? ⟨b, off + j * 4, none⟩ = some (.int .i64 v.kind) ∧ w.cell? ⟨b, off + j * 4 + 1, none⟩ = some (.int .i64 v.num) ∧ w.cell? ⟨b, off + j * 4 + 2, none⟩ = some (.string s) ∧ w.cell? ⟨b, off + j * 4 + 3, none⟩ = some (.slice la ln lc)) ∧
    s.toList = v.text ∧ Nums w bound la ln v.list)
section
variable {w w' : World} {bound bound' : Nat} {a : Option Addr} {n : Nat} {vs : List Val}
theorem Vals.keep (h : Vals w bound a n vs) (hk : ∀ p : Addr, p.block < bound → w'.cell? p = w.cell? p) : Vals w' bound a n vs :=
  ⟨h.1, h.2.1, fun hn => by
    obtain ⟨b, off, e, hb, hc⟩ := h.2.2 hn
    refine ⟨b, off, e, hb, fun j t hj => ?_⟩
    obtain ⟨s, la, ln, lc, ⟨c0, c1, c2, c3⟩, h1, h3⟩ := hc j t hj
    exact ⟨s, la, ln, lc, ⟨(hk _ hb).trans c0, (hk _ hb).trans c1, (hk _ hb).trans c2, (hk _ hb).trans c3⟩, h1, h3.keep hk⟩⟩
theorem Vals.below (h : Vals w bound a n vs) (hb : Below bound w w') : Vals w' bound a n vs := h.keep fun _ hp => hb.cell hp
theorem Vals.zero (w : World) (bound : Nat) (a : Option Addr) : Vals w bound a 0 [] := ⟨rfl, by omega, fun h => absurd h (Nat.lt_irrefl 0)⟩
theorem Vals.at_ (h : Vals w bound a n vs) {k : Nat} (hk : k < n) : ∃ b off v s la ln lc, a = some ⟨b, off, none⟩ ∧ b < bound ∧ vs[k]? = some v ∧
    (w.cell? ⟨b, off + k * 4, none⟩ = some (.int .i64 v.kind) ∧ w.cell? ⟨b, off + k * 4 + 1, none⟩ = some (.int .i64 v.num) ∧ w.cell? ⟨b, off + k * 4 + 2, none⟩ = some (.string s) ∧ w.cell? ⟨b, off + k * 4 + 3, none⟩ = some (.slice la ln lc)) ∧
    s.toList = v.text ∧ Nums w bound la ln v.list := by
  obtain ⟨b, off, e, hb, hc⟩ := h.2.2 (by omega)
  have hk' : k < vs.length := by rw [h.1]; exact hk
  obtain ⟨s, la, ln, lc, c, h1, h3⟩ := hc k _ (List.getElem?_eq_getElem hk')
  exact ⟨b, off, vs[k], s, la, ln, lc, e, hb, List.getElem?_eq_getElem hk', c, h1, h3⟩
end
def areV : List Val → List Int → Bool
  | [], _ => true
  | v :: vs, k :: ks => v.kind == k && areV vs ks
  | _ :: _, [] => false
theorem areV_at {vs : List Val} {ks : List Int} {j : Nat} {v : Val} {k : Int} (h : vs[j]? = some v) (h' : ks[j]? = some k) : areV (vs.drop j) (ks.drop j) = (v.kind == k && areV (vs.drop (j + 1)) (ks.drop (j + 1))) := by
  obtain ⟨h1, e⟩ := List.getElem?_eq_some_iff.1 h
  obtain ⟨h2, e'⟩ := List.getElem?_eq_some_iff.1 h'
  rw [List.drop_eq_getElem_cons h1, List.drop_eq_getElem_cons h2, e, e', areV]

set_option maxHeartbeats 2000000 in
theorem are_any (a b : Option Addr) (n m c d : Nat) (vs : List Val) (ks : List Int) (w : World) (bound : Nat) (hb : bound ≤ w.heap.size) (h : Vals w bound a n vs) (h' : Nums w bound b m ks) (hnm : n = m) :
    Calls Try.prog 60 #[.slice a n c, .slice b m d] w fun e w' => e = .returned (.bool (areV vs ks)) ∧ Below w.heap.size w w' := by
  have HL := Lib.hid h.1
  have hs := h.2.1
  have HN := Lib.hid h
  have HM := Lib.hid h'
  subst hnm
  clear h h'
  go_enter Try.func60, Try.ntmps60
  go_wp2
  go_loopw [9, 5, 6] (fun v _ _ wr => ∃ j : Nat, j ≤ n ∧ v = .int .i64 j ∧ Hid (Below w.heap.size w wr) ∧ Hid (areV vs ks = areV (vs.drop j) (ks.drop j))) (fun v _ _ _ => n - (intOf v).toNat)
  case atStart => exact ⟨0, Nat.zero_le _, rfl, Lib.hid (Below.refl _ _), Lib.hid rfl⟩
  case round =>
    obtain ⟨j, hj, rfl, HW, HF⟩ := hrel
    by_cases hlt : j < n
    · obtain ⟨b1, o1, v, s, la, ln, lc, rfl, hbb, hv, ⟨q0, q1, q2, q3⟩, _, _⟩ := (HN.out.below (HW.out.mono hb)).at_ hlt
      obtain ⟨b2, o2, y, rfl, hbb2, hy, y0⟩ := (HM.out.below (HW.out.mono hb)).at_ hlt
      have hfd := HF.out.trans (areV_at hv hy)
      have hb1w : b1 < wr.heap.size := by have := HW.out.size; omega
      have hb2w : b2 < wr.heap.size := by have := HW.out.size; omega
      obtain ⟨vk, hvk⟩ : ∃ vk, vk = v.kind := ⟨_, rfl⟩
      obtain ⟨vn, hvn⟩ : ∃ vn, vn = v.num := ⟨_, rfl⟩
      rw [← hvk] at q0 hfd
      rw [← hvn] at q1
      have y1 : (wr.alloc (.cells #[.int .i64 vk, .int .i64 vn, .string s, .slice la ln lc] 33)).cell? ⟨b2, o2 + j, none⟩ = some (.int .i64 y) := (World.cell?_alloc_lt _ _ _ hb2w).trans y0
      cases e1 : vk == y
      · have n1 : (vk != y) = true := by unfold bne; rw [e1]; rfl
        rw [e1, Bool.false_and] at hfd
        have HZ := Lib.hid hfd
        clear hfd hv hy hvk hvn
        go_wp2
        go_quiet (fail)
        go_wp2
        go_ret
        exact ⟨ret_bool HZ.out.symm, below_drewN (HW.out.alloc HW.out.size _) _⟩
      · have n1 : (vk != y) = false := by unfold bne; rw [e1]; rfl
        rw [e1, Bool.true_and] at hfd
        have HZ := Lib.hid hfd
        clear hfd hv hy hvk hvn
        go_wp2
        go_quiet (fail)
        go_wp2
        go_roundw
        case rel => exact ⟨j + 1, by omega, by go_num, Lib.hid (below_drewN (HW.out.alloc HW.out.size _) _), HZ⟩
        case measure => simp [intOf]; omega
    · have HZ := Lib.hid (show areV vs ks = true by rw [HF.out, List.drop_of_length_le (by rw [HL.out]; omega), areV])
      go_wp2
      go_ret
      exact ⟨ret_bool HZ.out.symm, HW.out⟩
end Go.Proofs.Ythbakfceaaaamaa
