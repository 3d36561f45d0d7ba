/- Binds in memory; contracts of slices.IndexFunc over binds by a name. -/
import Derived.Test.YthbakfceaaaamaaTmComb
import Derived.Laws.EntriesVeiled
namespace Go.Proofs.Ythbakfceaaaamaa
open Go.RowKit

/-- The slice with this address and length reads as these binds; all that is read lies in blocks below bound. -/
def Binds (w : World) (bound : Nat) (a : Option Addr) (n : Nat) (env : List (Str × Val)) : Prop :=
  env.length = n ∧ n ≤ 4611686018427387904 ∧ (0 < n → ∃ b off, a = some ⟨b, off, none⟩ ∧ b < bound ∧ ∀ (j : Nat) (x : Str × Val), env[j]? = some x → ∃ s t la ln lc,
    (w.cell? ⟨b, off + j * 5, none⟩ = some (.string s) ∧ w.cell? ⟨b, off + j * 5 + 1, none⟩ = some (.int .i64 x.2.kind) ∧ w.cell? ⟨b, off + j * 5 + 2, none⟩ = some (.int .i64 x.2.num) ∧
    w.cell? ⟨b, off + j * 5 + 3, none⟩ = some (.string t) ∧ w.cell? ⟨b, off + j * 5 + 4, none⟩ = some (.slice la ln lc)) ∧ s.toList = x.1 ∧ t.toList = x.2.text ∧ Nums w bound la ln x.2.list)
section
variable {w w' : World} {bound bound' : Nat} {a : Option Addr} {n : Nat} {env : List (Str × Val)}
theorem Binds.keep (h : Binds w bound a n env) (hk : ∀ p : Addr, p.block < bound → w'.cell? p = w.cell? p) : Binds w' bound a n env :=
  ⟨h.1, h.2.1, fun hn => by
    obtain ⟨b, off, e, hb, hc⟩ := h.2.2 hn
    refine ⟨b, off, e, hb, fun j t hj => ?_⟩
    obtain ⟨s, u, la, ln, lc, ⟨c0, c1, c2, c3, c4⟩, h1, h2, h3⟩ := hc j t hj
    exact ⟨s, u, la, ln, lc, ⟨(hk _ hb).trans c0, (hk _ hb).trans c1, (hk _ hb).trans c2, (hk _ hb).trans c3, (hk _ hb).trans c4⟩, h1, h2, h3.keep hk⟩⟩
theorem Binds.below (h : Binds w bound a n env) (hb : Below bound w w') : Binds w' bound a n env := h.keep fun _ hp => hb.cell hp
theorem Binds.more (h : Binds w bound a n env) (hb : bound ≤ bound') : Binds w bound' a n env :=
  ⟨h.1, h.2.1, fun hn => by
    obtain ⟨b, off, e, hlt, hc⟩ := h.2.2 hn
    refine ⟨b, off, e, by omega, fun j t hj => ?_⟩
    obtain ⟨s, u, la, ln, lc, c, h1, h2, h3⟩ := hc j t hj
    exact ⟨s, u, la, ln, lc, c, h1, h2, h3.more hb⟩⟩
theorem Binds.zero (w : World) (bound : Nat) (a : Option Addr) : Binds w bound a 0 [] := ⟨rfl, by omega, fun h => absurd h (Nat.lt_irrefl 0)⟩
theorem Binds.at_ (h : Binds w bound a n env) {k : Nat} (hk : k < n) : ∃ b off x s t la ln lc, a = some ⟨b, off, none⟩ ∧ b < bound ∧ env[k]? = some x ∧
    (w.cell? ⟨b, off + k * 5, none⟩ = some (.string s) ∧ w.cell? ⟨b, off + k * 5 + 1, none⟩ = some (.int .i64 x.2.kind) ∧ w.cell? ⟨b, off + k * 5 + 2, none⟩ = some (.int .i64 x.2.num) ∧
    w.cell? ⟨b, off + k * 5 + 3, none⟩ = some (.string t) ∧ w.cell? ⟨b, off + k * 5 + 4, none⟩ = some (.slice la ln lc)) ∧ s.toList = x.1 ∧ t.toList = x.2.text ∧ Nums w bound la ln x.2.list := by
  obtain ⟨b, off, e, hb, hc⟩ := h.2.2 (by omega)
  have hk' : k < env.length := by rw [h.1]; exact hk
  obtain ⟨s, t, la, ln, lc, c, h1, h2, h3⟩ := hc k _ (List.getElem?_eq_getElem hk')
  exact ⟨b, off, env[k], s, t, la, ln, lc, e, hb, List.getElem?_eq_getElem hk', c, h1, h2, h3⟩
end
/-- The first place of a name, from a place on. -/
def idxE (nm : Str) : List (Str × Val) → Nat → Int
  | [], _ => -1
  | x :: r, i => if x.1 = nm then (i : Int) else idxE nm r (i + 1)
theorem idxE_at {nm : Str} {env : List (Str × Val)} {k : Nat} {x : Str × Val} (h : env[k]? = some x) : idxE nm (env.drop k) k = if x.1 = nm then (k : Int) else idxE nm (env.drop (k + 1)) (k + 1) := by
  obtain ⟨h1, e⟩ := List.getElem?_eq_some_iff.1 h
  rw [List.drop_eq_getElem_cons h1, e, idxE]
theorem holdV_idx (nm : Str) : ∀ (env : List (Str × Val)) (i : Nat), (idxE nm env i = -1 ∧ holdV env nm = (zeroV, 401)) ∨ ∃ k x, idxE nm env i = ((i + k : Nat) : Int) ∧ env[k]? = some x ∧ holdV env nm = if mayV x.2 then (x.2, 0) else (zeroV, 402)
  | [], i => .inl ⟨rfl, rfl⟩
  | (s, v) :: r, i => by
    rw [idxE, holdV]
    by_cases h : s = nm
    · rw [if_pos h, if_pos h]
      exact .inr ⟨0, (s, v), rfl, rfl, rfl⟩
    · rw [if_neg h, if_neg h]
      rcases holdV_idx nm r (i + 1) with ⟨h1, h2⟩ | ⟨k, x, h1, h2, h3⟩
      · exact .inl ⟨h1, h2⟩
      · exact .inr ⟨k + 1, x, by rw [h1]; congr 1; omega, by rw [List.getElem?_cons_succ]; exact h2, h3⟩

theorem named_any (s nm t : ByteArray) (k x : Int) (la : Option Addr) (ln lc : Nat) (A : Nat) (w : World) (hA : w.cell? ⟨A, 0, none⟩ = some (.string nm)) (hlt : A < w.heap.size) :
    Calls Try.prog 59 #[.agg #[.string s, .int .i64 k, .int .i64 x, .string t, .slice la ln lc], .pointer (some ⟨A, 0, none⟩)] w fun e w' => e = .returned (.bool (s.toList == nm.toList)) ∧ Below w.heap.size w w' := by
  have HB := Lib.hid ((Below.refl w.heap.size w).alloc (Nat.le_refl _) (.cells #[.string s, .int .i64 k, .int .i64 x, .string t, .slice la ln lc] 35))
  go_enter Try.func59, Try.ntmps59
  go_wp2
  go_ret
  exact ⟨rfl, HB.out⟩

set_option maxHeartbeats 2000000 in
theorem indexFunc_any (a : Option Addr) (n c A : Nat) (env : List (Str × Val)) (nm : ByteArray) (w : World) (bound : Nat) (hb : bound ≤ w.heap.size) (h : Binds w bound a n env) (hA : w.cell? ⟨A, 0, none⟩ = some (.string nm)) (hlt : A < w.heap.size) :
    Calls Try.prog 58 #[.slice a n c, .func (.func 59) #[] #[.pointer (some ⟨A, 0, none⟩)]] w fun e w' => e = .returned (.int .i64 (idxE nm.toList env 0)) ∧ Below w.heap.size w w' := by
  have hl := Lib.hid h.1
  have hs := h.2.1
  have HN := Lib.hid h
  have HA := Lib.hid hA
  clear h hA
  go_enter Try.func58, Try.ntmps58
  go_wp2
  go_loopw [8, 5] (fun v _ wr => ∃ k : Nat, k ≤ n ∧ v = .int .i64 k ∧ Hid (Below w.heap.size w wr) ∧ Hid (idxE nm.toList env 0 = idxE nm.toList (env.drop k) k)) (fun v _ _ => n - (intOf v).toNat)
  case atStart => exact ⟨0, Nat.zero_le _, rfl, Lib.hid (Below.refl _ _), Lib.hid rfl⟩
  case round =>
    obtain ⟨k, hk, rfl, HW, HF⟩ := hrel
    by_cases hkn : k < n
    · obtain ⟨b, off, x, s, t, la, ln, lc, rfl, hbb, hx, ⟨q0, q1, q2, q3, q4⟩, hs1, ht1, hnn⟩ := (HN.out.below (HW.out.mono hb)).at_ hkn
      have hfd := HF.out.trans (idxE_at (nm := nm.toList) hx)
      have cn := fun W hW hl => named_any s nm t x.2.kind x.2.num la ln lc A W hW hl
      have ha1 := (HW.out.cell (p := ⟨A, 0, none⟩) hlt).trans HA.out
      have hs5 := hs
      cases he : s.toList == nm.toList
      · rw [he] at cn
        rw [if_neg (by rw [← hs1]; rw [beq_eq_false_iff_ne] at he; exact he)] at hfd
        have CN := Lib.hid (cn wr ha1 (by have := HW.out.size; omega))
        have HZ := Lib.hid hfd
        clear cn hfd he hs1 ht1 hnn hx
        go_wp2_with (first
          | (go_at_call 59; (with_reducible refine CN.out.mono ?_)
             rintro e w1 ⟨rfl, hb1⟩
             have HB1 := Lib.hid (below_on HW.out hb1)
             clear hb1)
          | fail)
        go_roundw
        case rel => exact ⟨k + 1, by omega, by go_num, HB1, HZ⟩
        case measure => simp [intOf]; omega
      · rw [he] at cn
        rw [if_pos (by rw [← hs1]; exact eq_of_beq he)] at hfd
        have CN := Lib.hid (cn wr ha1 (by have := HW.out.size; omega))
        have HZ := Lib.hid hfd
        clear cn hfd he hs1 ht1 hnn hx
        go_wp2_with (first
          | (go_at_call 59; (with_reducible refine CN.out.mono ?_)
             rintro e w1 ⟨rfl, hb1⟩
             have HB1 := Lib.hid (below_on HW.out hb1)
             clear hb1)
          | fail)
        go_ret
        exact ⟨ret_int (by rw [HZ.out]), HB1.out⟩
    · have HZ := Lib.hid (show idxE nm.toList env 0 = -1 by rw [HF.out, List.drop_of_length_le (by rw [hl.out]; omega), idxE])
      go_wp2
      go_ret
      exact ⟨ret_int (by rw [HZ.out]), HW.out⟩
end Go.Proofs.Ythbakfceaaaamaa
