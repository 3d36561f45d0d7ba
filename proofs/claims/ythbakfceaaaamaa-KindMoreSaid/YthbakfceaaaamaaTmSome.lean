/- Contract of some: are the binds few, and their lists short? -/
import Derived.Test.YthbakfceaaaamaaTmEnv
namespace Go.Proofs.Ythbakfceaaaamaa
open Go.RowKit

/-- The slice, however long, reads as these binds. -/
def BindsL (w : World) (bound : Nat) (a : Option Addr) (n : Nat) (env : List (Str × Val)) : Prop :=
  env.length = n ∧ n ≤ 9223372036854775807 ∧ (0 < n → ∃ b off, a = some ⟨b, off, none⟩ ∧ b < bound ∧ ∀ (j : Nat) (x : Str × Val), env[j]? = some x → ∃ s t la ln lc,
    (w.cell? ⟨b, off + j * 5, none⟩ = some (.string s) ∧ w.cell? ⟨b, off + j * 5 + 1, none⟩ = some (.int .i64 x.2.kind) ∧ w.cell? ⟨b, off + j * 5 + 2, none⟩ = some (.int .i64 x.2.num) ∧
    w.cell? ⟨b, off + j * 5 + 3, none⟩ = some (.string t) ∧ w.cell? ⟨b, off + j * 5 + 4, none⟩ = some (.slice la ln lc)) ∧ s.toList = x.1 ∧ t.toList = x.2.text ∧ Nums w bound la ln x.2.list)
theorem BindsL.short {w : World} {bound : Nat} {a : Option Addr} {n : Nat} {env : List (Str × Val)} (h : BindsL w bound a n env) (hn : n ≤ 1000) : Binds w bound a n env := ⟨h.1, by omega, h.2.2⟩
theorem BindsL.at_ {w : World} {bound : Nat} {a : Option Addr} {n : Nat} {env : List (Str × Val)} (h : BindsL w bound a n env) {k : Nat} (hk : k < n) : ∃ b off x s t la ln lc, a = some ⟨b, off, none⟩ ∧ b < bound ∧ env[k]? = some x ∧
    (w.cell? ⟨b, off + k * 5, none⟩ = some (.string s) ∧ w.cell? ⟨b, off + k * 5 + 1, none⟩ = some (.int .i64 x.2.kind) ∧ w.cell? ⟨b, off + k * 5 + 2, none⟩ = some (.int .i64 x.2.num) ∧
    w.cell? ⟨b, off + k * 5 + 3, none⟩ = some (.string t) ∧ w.cell? ⟨b, off + k * 5 + 4, none⟩ = some (.slice la ln lc)) ∧ s.toList = x.1 ∧ t.toList = x.2.text ∧ Nums w bound la ln x.2.list := by
  obtain ⟨b, off, e, hb, hc⟩ := h.2.2 (by omega)
  have hk' : k < env.length := by rw [h.1]; exact hk
  obtain ⟨s, t, la, ln, lc, c, h1, h2, h3⟩ := hc k _ (List.getElem?_eq_getElem hk')
  exact ⟨b, off, env[k], s, t, la, ln, lc, e, hb, List.getElem?_eq_getElem hk', c, h1, h2, h3⟩
theorem BindsL.below {w w' : World} {bound : Nat} {a : Option Addr} {n : Nat} {env : List (Str × Val)} (h : BindsL w bound a n env) (hb : Below bound w w') : BindsL w' bound a n env :=
  ⟨h.1, h.2.1, fun hn => by
    obtain ⟨b, off, e, hbb, hc⟩ := h.2.2 hn
    refine ⟨b, off, e, hbb, fun j t hj => ?_⟩
    obtain ⟨s, u, la, ln, lc, ⟨c0, c1, c2, c3, c4⟩, h1, h2, h3⟩ := hc j t hj
    exact ⟨s, u, la, ln, lc, ⟨(hb.cell (p := ⟨b, _, none⟩) hbb).trans c0, (hb.cell (p := ⟨b, _, none⟩) hbb).trans c1, (hb.cell (p := ⟨b, _, none⟩) hbb).trans c2, (hb.cell (p := ⟨b, _, none⟩) hbb).trans c3, (hb.cell (p := ⟨b, _, none⟩) hbb).trans c4⟩, h1, h2, h3.below hb⟩⟩
def shortE (env : List (Str × Val)) : Bool := env.all fun x => decide (x.2.list.length ≤ 40)
def someE (env : List (Str × Val)) : Bool := shortE env && decide (env.length ≤ 40)
theorem shortE_at {env : List (Str × Val)} {k : Nat} {x : Str × Val} (h : env[k]? = some x) : shortE (env.drop k) = (decide (x.2.list.length ≤ 40) && shortE (env.drop (k + 1))) := by
  obtain ⟨h1, e⟩ := List.getElem?_eq_some_iff.1 h
  rw [List.drop_eq_getElem_cons h1, e]
  rfl
theorem someE_iff {env : List (Str × Val)} : someE env = true ↔ env.length ≤ 40 ∧ ∀ x ∈ env, x.2.list.length ≤ 40 := by
  unfold someE shortE
  rw [Bool.and_eq_true, List.all_eq_true, decide_eq_true_eq]
  simp only [decide_eq_true_eq]
  exact and_comm
end Go.Proofs.Ythbakfceaaaamaa
