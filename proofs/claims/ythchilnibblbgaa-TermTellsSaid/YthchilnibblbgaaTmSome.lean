/- Contract of some: are the binds few, and their lists short? -/
import Derived.Test.YthchilnibblbgaaTmEnv
namespace Go.Proofs.Ythchilnibblbgaa
open Go.RowKit

/-- The slice, however long, reads as these binds. -/
def BindsL (w : World) (bound : Nat) (a : Option Addr) (n : Nat) (env : List (Str × Val)) : Prop :=
  env.length = n ∧ n ≤ 9223372036854775807 ∧ (0 < n → ∃ b off, a = some ⟨b, off, none⟩ ∧ b < bound ∧ ∀ (j : Nat) (x : Str × Val), env[j]? = some x → ∃ s t la ln lc,
    (w.cell? ⟨b, off + j * 5, none⟩ = some (.string s) ∧ w.cell? ⟨b, off + j * 5 + 1, none⟩ = some (.int .i64 x.2.kind) ∧ w.cell? ⟨b, off + j * 5 + 2, none⟩ = some (.int .i64 x.2.num) ∧
    w.cell? ⟨b, off + j * 5 + 3, none⟩ = some (.string t) ∧ w.cell? ⟨b, off + j * 5 + 4, none⟩ = some (.slice la ln lc)) ∧ s.toList = x.1 ∧ t.toList = x.2.text ∧ Nums w bound la ln x.2.list)
theorem BindsL.short {w : World} {bound : Nat} {a : Option Addr} {n : Nat} {env : List (Str × Val)} (h : BindsL w bound a n env) (hn : n ≤ 1000) : Binds w bound a n env := ⟨h.1, by omega, h.2.2⟩
theorem BindsL.at_ {w : World} {bound : Nat} {a : Option Addr} {n : Nat} {env : List (Str × Val)} (h : BindsL w bound a n env) {k : Nat} (hk : k < n) : ∃ b off x s t la ln lc, a = some ⟨b, off, none⟩ ∧ b < bound ∧ env[k]? = some x ∧
    (w.cell? ⟨b, off + k * 5, none⟩ = some (.string s) ∧ w.cell? ⟨b, off + k * 5 + 1, none⟩ = some (.int .i64 x.2.kind) ∧ w.cell? ⟨b, off + k * 5 + 2, none⟩ = some (.int .i64 x.2.num) ∧
    w.cell? ⟨b, off + k * 5 + 3, none⟩ = some (.string t) ∧ w.cell? ⟨b, off + k * 5 + 4, none⟩ = some (.slice la ln lc)) ∧ s.toList = x.1 ∧ t.toList = x.2.text ∧ Nums w bound la ln x.2.list := by
  obtain ⟨b, off, e, hb, hc⟩ := h.2.2 (by omega)
  have hk' : k < env.length := by rw [h.1]; exact hk
  obtain ⟨s, t, la, ln, lc, c, h1, h2, h3⟩ := hc k _ (List.getElem?_eq_getElem hk')
  exact ⟨b, off, env[k], s, t, la, ln, lc, e, hb, List.getElem?_eq_getElem hk', c, h1, h2, h3⟩
theorem BindsL.below {w w' : World} {bound : Nat} {a : Option Addr} {n : Nat} {env : List (Str × Val)} (h : BindsL w bound a n env) (hb : Below bound w w') : BindsL w' bound a n env :=
  ⟨h.1, h.2.1, fun hn => by
    obtain ⟨b, off, e, hbb, hc⟩ := h.2.2 hn
    refine ⟨b, off, e, hbb, fun j t hj => ?_⟩
    obtain ⟨s, u, la, ln, lc, ⟨c0, c1, c2, c3, c4⟩, h1, h2, h3⟩ := hc j t hj
    exact ⟨s, u, la, ln, lc, ⟨(hb.cell (p := ⟨b, _, none⟩) hbb).trans c0, (hb.cell (p := ⟨b, _, none⟩) hbb).trans c1, (hb.cell (p := ⟨b, _, none⟩) hbb).trans c2, (hb.cell (p := ⟨b, _, none⟩) hbb).trans c3, (hb.cell (p := ⟨b, _, none⟩) hbb).trans c4⟩, h1, h2, h3.below hb⟩⟩
def shortE (env : List (Str × Val)) : Bool := env.all fun x => decide (x.2.list.length ≤ 40)
def someE (env : List (Str × Val)) : Bool := shortE env && decide (env.length ≤ 40)
theorem shortE_at {env : List (Str × Val)} {k : Nat} {x : Str × Val} (h : env[k]? = some x) : shortE (env.drop k) = (decide (x.2.list.length ≤ 40) && shortE (env.drop (k + 1))) := by
  obtain ⟨h1, e⟩ := List.getElem?_eq_some_iff.1 h
  rw [List.drop_eq_getElem_cons h1, e]
  rfl
theorem someE_iff {env : List (Str × Val)} : someE env = true ↔ env.length ≤ 40 ∧ ∀ x ∈ env, x.2.list.length ≤ 40 := by
  unfold someE shortE
  rw [Bool.and_eq_true, List.all_eq_true, decide_eq_true_eq]
  simp only [decide_eq_true_eq]
  exact and_comm
set_option maxHeartbeats 4000000 in
theorem some_any (a : Option Addr) (n c : Nat) (env : List (Str × Val)) (w : World) (bound : Nat) (h : BindsL w bound a n env) :
    Calls Try.prog 14 #[.slice a n c] w fun e w' => e = .returned (.bool (someE env)) ∧ w = w' := by
  have hl := h.1
  have hnb := h.2.1
  have HN := Lib.hid h
  have HL := Lib.hid hl
  have HG := Lib.hid (show someE env = (shortE env && decide (env.length ≤ 40)) from rfl)
  generalize someE env = R at HG ⊢
  clear h hl
  go_enter Try.func14, Try.ntmps14
  go_wp2
  go_loop [3] (fun i => ∃ k : Nat, k ≤ n ∧ i = .int .i64 k ∧ Hid (R = (shortE (env.drop k) && decide (env.length ≤ 40)))) (fun i => n - (intOf i).toNat)
  case atStart => exact ⟨0, Nat.zero_le _, rfl, Lib.hid (by rw [HG.out]; rfl)⟩
  case round =>
    obtain ⟨k, hk, rfl, HR⟩ := hrel
    by_cases hlt : k < n
    · obtain ⟨b, off, x, s, t, la, ln, lc, rfl, hbb, hx, ⟨q0, q1, q2, q3, q4⟩, _, _, hnums⟩ := HN.out.at_ hlt
      have hln := hnums.1
      have q5 : w.cell? ⟨b, off + k * 5 + 1 + 3, none⟩ = some (.slice la ln lc) := q4
      have hs := shortE_at hx
      rw [hln] at hs
      have HR2 := Lib.hid (HR.out.trans (by rw [hs]))
      by_cases h40 : 40 < ln
      · have d1 : decide ((40 : Int) < (ln : Int)) = true := decide_eq_true (by omega)
        have HZ := Lib.hid (show R = false by rw [HR2.out, decide_eq_false (by omega)]; rfl)
        clear hs hx hnums hln
        go_wp2
        go_ret
        exact ⟨ret_bool HZ.out.symm, rfl⟩
      · have d1 : decide ((40 : Int) < (ln : Int)) = false := decide_eq_false (by omega)
        have HZ := Lib.hid (show R = (shortE (env.drop (k + 1)) && decide (env.length ≤ 40)) by rw [HR2.out, decide_eq_true (by omega), Bool.true_and])
        clear hs hx hnums hln
        go_wp2
        go_round
        case rel => exact ⟨k + 1, by omega, by go_num, HZ⟩
        case measure => simp [intOf]; omega
    · have HZ := Lib.hid (show R = decide ((n : Int) ≤ 40) by
        rw [HR.out, List.drop_of_length_le (by have := HL.out; omega), HL.out, show shortE [] = true from rfl, Bool.true_and, decide_eq_decide]
        omega)
      go_wp2
      go_ret
      exact ⟨ret_bool HZ.out.symm, rfl⟩
end Go.Proofs.Ythchilnibblbgaa
