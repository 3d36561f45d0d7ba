/- Rows of slices of arms; contract of the reference's turnArms. -/
import Derived.Test.YtbbdmipfbnfpfaaTuInts
namespace Go.Proofs.Ytbbdmipfbnfpfaa
open Go.RowKit

/-- The slice with this address and length reads as these rows of arms. -/
def ArmsR (w : World) (bound : Nat) (a : Option Addr) (n : Nat) (f : List (List ArmL)) : Prop :=
  f.length = n ∧ n ≤ 1000000 ∧ (0 < n → ∃ b off, a = some ⟨b, off, none⟩ ∧ b < bound ∧ ∀ (j : Nat) (l : List ArmL), f[j]? = some l → ∃ (aa : Option Addr) (an ac : Nat), w.cell? ⟨b, off + j, none⟩ = some (.slice aa an ac) ∧ Arms w bound aa an l)
section
variable {w w' : World} {bound bound' : Nat} {a : Option Addr} {n : Nat} {f : List (List ArmL)}
theorem ArmsR.keep (h : ArmsR w bound a n f) (hk : ∀ p : Addr, p.block < bound → w'.cell? p = w.cell? p) : ArmsR w' bound a n f :=
  ⟨h.1, h.2.1, fun hn => by
    obtain ⟨b, off, e, hb, hc⟩ := h.2.2 hn
    refine ⟨b, off, e, hb, fun j x hj => ?_⟩
    obtain ⟨aa, an, ac, c0, h1⟩ := hc j x hj
    exact ⟨aa, an, ac, (hk _ hb).trans c0, h1.keep hk⟩⟩
theorem ArmsR.below (h : ArmsR w bound a n f) (hb : Below bound w w') : ArmsR w' bound a n f := h.keep fun _ hp => hb.cell hp
theorem ArmsR.more (h : ArmsR w bound a n f) (hb : bound ≤ bound') : ArmsR w bound' a n f :=
  ⟨h.1, h.2.1, fun hn => by
    obtain ⟨b, off, e, hlt, hc⟩ := h.2.2 hn
    refine ⟨b, off, e, by omega, fun j x hj => ?_⟩
    obtain ⟨aa, an, ac, c, h1⟩ := hc j x hj
    exact ⟨aa, an, ac, c, h1.more hb⟩⟩
theorem ArmsR.on {W W' : World} {a : Option Addr} {n : Nat} {f : List (List ArmL)} (h : ArmsR W W.heap.size a n f) (hb : Below W.heap.size W W') : ArmsR W' W'.heap.size a n f := (h.below hb).more hb.size
theorem ArmsR.at_ (h : ArmsR w bound a n f) {k : Nat} (hk : k < n) : ∃ (b off : Nat) (aa : Option Addr) (an ac : Nat) (l : List ArmL), a = some ⟨b, off, none⟩ ∧ b < bound ∧ f[k]? = some l ∧ w.cell? ⟨b, off + k, none⟩ = some (.slice aa an ac) ∧ Arms w bound aa an l := by
  obtain ⟨b, off, e, hb, hc⟩ := h.2.2 (by omega)
  have hk' : k < f.length := by rw [h.1]; exact hk
  obtain ⟨aa, an, ac, c, h1⟩ := hc k _ (List.getElem?_eq_getElem hk')
  exact ⟨b, off, aa, an, ac, f[k], e, hb, List.getElem?_eq_getElem hk', c, h1⟩
end
def encS3 (r : Option Addr × Nat × Nat) : Value := .slice r.1 r.2.1 r.2.2
/-- The slice v, which the call made, holds slices that read as these rows of arms; these lie below bound. -/
def ROwn (w : World) (base bound : Nat) (v : Value) (f : List (List ArmL)) : Prop :=
  ∃ rs : List (Option Addr × Nat × Nat), w.ownsRow base 38 1 v f.length (rs.map encS3) ∧ rs.length = f.length ∧ ∀ (j : Nat) (r : Option Addr × Nat × Nat) (l : List ArmL), rs[j]? = some r → f[j]? = some l → Arms w bound r.1 r.2.1 l
theorem ROwn.zero (w : World) (base bound : Nat) : ROwn w base bound (.slice none 0 0) [] := ⟨[], World.ownsRow_nil w base 38 1, rfl, fun j r l h => by simp at h⟩
theorem info_armS : (Try.prog.info? 38).map (fun i => (i.zero, i.size, i.bytes)) = some (some (.slice none 0 0), 1, 24) := by kernel_rfl
theorem ROwn.sees {w : World} {base bound : Nat} {v : Value} {f : List (List ArmL)} (h : ROwn w base bound v f) (hl : f.length ≤ 1000000) (hb : bound ≤ w.heap.size) : ∃ a c, v = .slice a f.length c ∧ ArmsR w w.heap.size a f.length f := by
  obtain ⟨rs, h, hrl, hrd⟩ := h
  have hlt := h.lt
  rcases h.2 with ⟨h0, h1⟩ | ⟨g, cap, cur, rfl, hbase, hh, h1, h2, h3, h4⟩
  · have hz : f = [] := List.eq_nil_of_length_eq_zero h1
    subst hz
    exact ⟨none, 0, h0, rfl, by simp, fun h => absurd h (Nat.lt_irrefl 0)⟩
  · refine ⟨_, cap, rfl, rfl, hl, fun _ => ⟨g, 0, rfl, (hlt g rfl).2, fun j l hj => ?_⟩⟩
    have hj' : j < f.length := (List.getElem?_eq_some_iff.1 hj).1
    have hr := List.getElem?_eq_getElem (l := rs) (i := j) (by omega)
    refine ⟨(rs[j]'(by omega)).1, (rs[j]'(by omega)).2.1, (rs[j]'(by omega)).2.2, ?_, (hrd j _ l hr hj).more hb⟩
    rw [cell_of_row w g _ cur 38 (0, 0) hh]
    have : (cur.toList.take (f.length * 1))[j]? = (rs.map encS3)[j]? := by rw [h4]
    rw [List.getElem?_take, if_pos (by omega), List.getElem?_map, hr] at this
    rw [Nat.zero_add, ← Array.getElem?_toList, this]
    rfl

end Go.Proofs.Ytbbdmipfbnfpfaa
