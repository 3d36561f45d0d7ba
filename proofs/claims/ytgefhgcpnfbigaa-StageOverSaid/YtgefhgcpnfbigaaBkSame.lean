/- Contract of equal.Same. -/
import Derived.Test.YtgefhgcpnfbigaaBkClasses
import Derived.BigQuiet
namespace Go.Proofs.Ytgefhgcpnfbigaa
open Go.RowKit Go.Sort

/-- Are two numbers indices of one class? -/
def sameC (cl : List Nat) (x y : Int) : Bool := inBk cl.length x && inBk cl.length y && ((cl.getD x.toNat 0 : Nat) : Int) == ((cl.getD y.toNat 0 : Nat) : Int)
theorem sameIn_any (h : Nat) (ca : Option Addr) (cn cc : Nat) (k : Int) (w : World) (hc : w.cell? ⟨h, 0, none⟩ = some (.slice ca cn cc)) :
    Calls Try.prog 41 #[.int .i64 k, .pointer (some ⟨h, 0, none⟩)] w fun e w' => e = .returned (.bool (inBk cn k)) ∧ w = w' := by
  cases h1 : decide (0 ≤ k)
  · have HZ := Lib.hid (show inBk cn k = false by unfold inBk; rw [h1]; rfl)
    go_enter Try.func41, Try.ntmps41
    go_wp2_with fail
    go_ret
    exact ⟨ret_bool HZ.out.symm, rfl⟩
  · cases h2 : decide (k < (cn : Int))
    · have HZ := Lib.hid (show inBk cn k = false by unfold inBk; rw [h1, h2]; rfl)
      go_enter Try.func41, Try.ntmps41
      go_wp2_with fail
      go_ret
      exact ⟨ret_bool HZ.out.symm, rfl⟩
    · have HZ := Lib.hid (show inBk cn k = true by unfold inBk; rw [h1, h2]; rfl)
      go_enter Try.func41, Try.ntmps41
      go_wp2_with fail
      go_ret
      exact ⟨ret_bool HZ.out.symm, rfl⟩
set_option maxHeartbeats 8000000 in
set_option maxRecDepth 20000 in
theorem same10_any (na : Option Addr) (nn nc : Nat) (sa : Option Addr) (sn sc : Nat) (ra : Option Addr) (rn rc : Nat) (b : BookL) (cl : List Nat) (x y : Int) (w : World) (bound : Nat) (hb : bound ≤ w.heap.size) (h : BkIn w bound na nn sa sn ra rn b) (hcl : ClsP b cl) :
    Calls Try.prog 12 #[bkV na nn nc sa sn sc ra rn rc, .int .i64 x, .int .i64 y] w fun e w' => e = .returned (.bool (sameC cl x y)) ∧ Below w.heap.size w w' := by
  have HB0 := Lib.hid (tu1 w (.cells #[.slice na nn nc, .slice sa sn sc, .slice ra rn rc] 26))
  have CC := Lib.hid (classes_any na nn nc sa sn sc ra rn rc b (w.alloc (.cells #[.slice na nn nc, .slice sa sn sc, .slice ra rn rc] 26)) bound (by simp; omega) (h.below (HB0.out.mono hb)))
  have HCL := Lib.hid hcl
  have hone : ∀ cl', ClsP b cl' → cl' = cl := fun cl' h' => by
    cases hv : bookB b with
    | true => exact (h'.1 hv).only (hcl.1 hv)
    | false => rw [h'.2 hv, hcl.2 hv]
  have HONE := Lib.hid hone
  have henx := enters_of Try.func41 (by kernel_rfl) rfl
  clear h hcl hone
  go_enter Try.func12, Try.ntmps12
  go_upto_region 3 with (first
    | (go_at_call 15; (with_reducible refine CC.out.mono ?_)
       rintro e w2 ⟨⟨ca, cn, cc, cl', rfl, hn2, hc2⟩, hb2⟩
       obtain rfl := HONE.out _ hc2
       have HN2 := Lib.hid hn2
       have HB2 := Lib.hid (below_on HB0.out hb2)
       clear hn2 hc2 hb2)
    | fail)
  have hcx : (w2.alloc (.cells #[.slice ca cn cc] 24)).cell? ⟨w2.heap.size, 0, none⟩ = some (.slice ca cn cc) := by rw [cell_of_row _ _ _ _ _ _ (heap_alloc_new w2 _)]; rfl
  have HBX := Lib.hid (HB2.out.alloc HB2.out.size (.cells #[.slice ca cn cc] 24))
  have HNX := Lib.hid (HN2.out.alloc (Nat.le_refl _) (.cells #[.slice ca cn cc] 24))
  generalize w2.alloc (.cells #[.slice ca cn cc] 24) = wx at hcx HBX HNX ⊢
  have CX := Lib.hid (fun q => sameIn_any w2.heap.size ca cn cc x (wx.drewN q) hcx)
  have CY := Lib.hid (fun q => sameIn_any w2.heap.size ca cn cc y (wx.drewN q) hcx)
  have hlen : cl'.length = cn := by have := HNX.out.1; rwa [rowI_len] at this
  cases hx : inBk cn x
  · rw [hx] at CX
    have HZ := Lib.hid (show sameC cl' x y = false by unfold sameC; rw [hlen, hx]; rfl)
    clear hx hlen
    go_quiet (first | with_reducible exact quiet_at (CX.out _) | with_reducible exact quiet_at (CY.out _) | fail)
    go_wp2_with fail
    go_ret
    exact ⟨ret_bool HZ.out.symm, bel_drewN HBX.out _⟩
  rw [hx] at CX
  cases hy : inBk cn y
  · rw [hy] at CY
    have HZ := Lib.hid (show sameC cl' x y = false by unfold sameC; rw [hlen, hx, hy]; rfl)
    clear hx hy hlen
    go_quiet (first | with_reducible exact quiet_at (CX.out _) | with_reducible exact quiet_at (CY.out _) | fail)
    go_wp2_with fail
    go_ret
    exact ⟨ret_bool HZ.out.symm, bel_drewN HBX.out _⟩
  rw [hy] at CY
  obtain ⟨x0, x1⟩ := inBk_iff.1 hx
  obtain ⟨y0, y1⟩ := inBk_iff.1 hy
  obtain ⟨p, rfl⟩ : ∃ p : Nat, x = (p : Int) := ⟨x.toNat, (Int.toNat_of_nonneg x0).symm⟩
  obtain ⟨q, rfl⟩ : ∃ q : Nat, y = (q : Int) := ⟨y.toNat, (Int.toNat_of_nonneg y0).symm⟩
  have hp : p < cn := by simpa using x1
  have hq : q < cn := by simpa using y1
  obtain ⟨cb, co, rfl, _, cp⟩ := cls_at HNX.out hp
  obtain ⟨cb', co', e, _, cq⟩ := cls_at HNX.out hq
  obtain ⟨e1, e2, _⟩ := Addr.mk.inj (Option.some.inj e)
  subst e1 e2
  have HZ := Lib.hid (show sameC cl' (p : Int) (q : Int) = (((cl'.getD p 0 : Nat) : Int) == ((cl'.getD q 0 : Nat) : Int)) by unfold sameC; rw [hlen, hx, hy]; rfl)
  obtain ⟨u, hu⟩ : ∃ u, u = cl'.getD p 0 := ⟨_, rfl⟩
  obtain ⟨v, hv⟩ : ∃ v, v = cl'.getD q 0 := ⟨_, rfl⟩
  rw [← hu] at cp HZ
  rw [← hv] at cq HZ
  have i1 : (p : Int) < (cn : Int) := by omega
  have i2 : (0 : Int) ≤ (p : Int) := by omega
  have i3 : (q : Int) < (cn : Int) := by omega
  have i4 : (0 : Int) ≤ (q : Int) := by omega
  clear hx hy hlen e hu hv x1 y1
  cases huv : ((u : Int) == (v : Int))
  all_goals
    rw [huv] at HZ
    have huv2 : decide (u = v) = ((u : Int) == (v : Int)) := by rw [Bool.eq_iff_iff, decide_eq_true_eq, beq_iff_eq]; omega
    rw [huv] at huv2
    go_quiet (first | with_reducible exact quiet_at (CX.out _) | with_reducible exact quiet_at (CY.out _) | fail)
    go_wp2_with fail
    go_ret
    exact ⟨ret_bool HZ.out.symm, bel_drewN HBX.out _⟩
end Go.Proofs.Ytgefhgcpnfbigaa
