/- Plain: what terms evaluate to. No program stands in this text. -/
import Derived.Test.YthbakfceaaaamaaTmPlain
namespace Go.Proofs.Ythbakfceaaaamaa
open Go.RowKit

def zeroV : Val := ⟨0, 0, [], []⟩
def intV (n : Int) : Val := ⟨1, n, [], []⟩
def boolV (b : Bool) : Val := ⟨2, if b then 1 else 0, [], []⟩
def textV (s : Str) : Val := ⟨3, 0, s, []⟩
def listV (l : List Int) : Val := ⟨4, 0, [], l⟩
/-- The value that env has first under a name. -/
def holdV : List (Str × Val) → Str → Val × Int
  | [], _ => (zeroV, 401)
  | (s, v) :: r, nm => if s = nm then (if mayV v then (v, 0) else (zeroV, 402)) else holdV r nm
def leafV (env : List (Str × Val)) (t : Trm) : Val × Int :=
  if t.kind = 0 then holdV env t.name else if t.kind = 1 then (intV t.num, 0) else if t.kind = 2 then (boolV (t.num == 1), 0) else if t.kind = 3 then (textV t.text, 0) else if t.kind = 4 then (listV [], 0) else (zeroV, 0)
def oneV (k : Int) (a : Val) : Val × Int :=
  if k = 15 then (if a.kind = 2 then (boolV (a.num == 0), 0) else (zeroV, 402))
  else if a.kind = 3 then (intV (a.text.length : Int), 0) else if a.kind = 4 then (intV (a.list.length : Int), 0) else (zeroV, 402)
/-- A term of two numbers. -/
def calcV (k x y : Int) : Val × Int :=
  if k = 6 then (intV (wrap64 (x + y)), 0) else if k = 7 then (intV (wrap64 (x - y)), 0) else if k = 8 then (intV (wrap64 (x * y)), 0) else if k = 12 then (boolV (decide (x < y)), 0)
  else if y = 0 then (zeroV, 403) else if k = 9 then (intV (wrap64 (x.tdiv y)), 0) else (intV (x.tmod y), 0)
def fitsV (k : Int) (a b : Val) : Bool :=
  if k = 11 then a.kind == b.kind && a.kind != 5 else if k = 13 ∨ k = 14 then a.kind == 2 && b.kind == 2 else if k = 17 ∨ k = 18 then a.kind == 4 && b.kind == 1
  else if k = 19 then a.kind == 3 && b.kind == 3 else a.kind == 1 && b.kind == 1
def elemV (l : List Int) (p : Int) : Val × Int := if 0 ≤ p ∧ p < l.length then (intV (l.getD p.toNat 0), 0) else (zeroV, 404)
def pushV (l : List Int) (x : Int) : Val × Int := if 16 ≤ l.length then (zeroV, 405) else (listV (l ++ [x]), 0)
def joinV (s t : Str) : Val × Int := if 24 < s.length + t.length then (zeroV, 405) else (textV (s ++ t), 0)
def combV (k : Int) (a b : Val) : Val × Int :=
  if k = 11 then (boolV (sameV a b), 0) else if k = 13 then (boolV (a.num == 1 && b.num == 1), 0) else if k = 14 then (boolV (a.num == 1 || b.num == 1), 0)
  else if k = 17 then elemV a.list b.num
  else if k = 18 then pushV a.list b.num
  else if k = 19 then joinV a.text b.text
  else calcV k a.num b.num
def twoV (k : Int) (a b : Val) : Val × Int := if fitsV k a b then combV k a b else (zeroV, 402)
def evalE (env : List (Str × Val)) : Exp → Val × Int
  | .leaf _ t => leafV env t
  | .one _ t a => if (evalE env a).2 = 0 then oneV t.kind (evalE env a).1 else (zeroV, (evalE env a).2)
  | .two _ t a b => if (evalE env a).2 = 0 then (if (evalE env b).2 = 0 then twoV t.kind (evalE env a).1 (evalE env b).1 else (zeroV, (evalE env b).2)) else (zeroV, (evalE env a).2)

theorem mayV_zero : mayV zeroV = true := rfl
theorem mayV_int (n : Int) : mayV (intV n) = true := rfl
theorem mayV_bool (b : Bool) : mayV (boolV b) = true := by cases b <;> rfl
theorem mayV_text {s : Str} (h : s.length ≤ 24) : mayV (textV s) = true := by
  unfold mayV textV
  simp [h]
theorem mayV_list {l : List Int} (h : l.length ≤ 16) : mayV (listV l) = true := by
  unfold mayV listV
  simp [h]
theorem holdV_may : ∀ (env : List (Str × Val)) (nm : Str), mayV (holdV env nm).1 = true
  | [], _ => rfl
  | (s, v) :: r, nm => by
    unfold holdV
    split
    · split
      · assumption
      · rfl
    · exact holdV_may r nm
/-- What a tree evaluates to is a valid value. -/
theorem evalE_may {L : List Trm} (env : List (Str × Val)) : ∀ {e : Exp}, Fits L e → mayV (evalE env e).1 = true := by
  intro e
  induction e with
  | leaf i t =>
    intro h
    have hs := h.2.1
    simp only [evalE, leafV]
    split
    · exact holdV_may _ _
    split
    · exact mayV_int _
    split
    · exact mayV_bool _
    split
    · rename_i h3
      refine mayV_text ?_
      unfold soundT at hs
      simp only [Bool.and_eq_true, Bool.or_eq_true, decide_eq_true_eq, List.isEmpty_iff] at hs
      rcases hs.2 with h | h
      · rw [h]; simp
      · exact h.2
    split
    · exact mayV_list (by simp)
    · rfl
  | one i t a ih =>
    intro h
    have ha := ih h.2.2.2.2.2
    simp only [evalE]
    split
    · unfold oneV
      split
      · split
        · exact mayV_bool _
        · rfl
      · split
        · exact mayV_int _
        · split
          · exact mayV_int _
          · rfl
    · rfl
  | two i t a b iha ihb =>
    intro h
    have ha := iha h.2.2.2.2.2.2.2.1
    have hb := ihb h.2.2.2.2.2.2.2.2
    simp only [evalE]
    split
    · split
      · unfold twoV
        split
        · unfold combV
          split
          · exact mayV_bool _
          split
          · exact mayV_bool _
          split
          · exact mayV_bool _
          split
          · unfold elemV
            split
            · exact mayV_int _
            · rfl
          split
          · unfold pushV
            split
            · rfl
            · exact mayV_list (by simp; omega)
          split
          · unfold joinV
            split
            · rfl
            · exact mayV_text (by simp; omega)
          · unfold calcV
            split
            · exact mayV_int _
            split
            · exact mayV_int _
            split
            · exact mayV_int _
            split
            · exact mayV_bool _
            split
            · rfl
            split
            · exact mayV_int _
            · exact mayV_int _
        · rfl
      · rfl
    · rfl
/-- Which fields a valid value has. -/
theorem mayV_bool_num {v : Val} (h : mayV v = true) (hk : v.kind = 2) : v.num = 0 ∨ v.num = 1 := by
  unfold mayV at h
  rw [hk] at h
  simp at h
  exact h.1.1
theorem mayV_text_list {v : Val} (h : mayV v = true) (hk : v.kind = 3) : v.list = [] ∧ v.text.length ≤ 24 := by
  unfold mayV at h
  rw [hk] at h
  simp at h
  exact ⟨h.2, h.1.2⟩
theorem mayV_list_text {v : Val} (h : mayV v = true) (hk : v.kind = 4) : v.text = [] ∧ v.list.length ≤ 16 := by
  unfold mayV at h
  rw [hk] at h
  simp at h
  exact ⟨h.1.2, h.2⟩
/-- The value of a root. -/
noncomputable def evalF (L : List Trm) (root : Int) (env : List (Str × Val)) : Val × Int :=
  open Classical in if h : ∃ e, Good L root e then evalE env h.choose else (zeroV, 400)
theorem evalF_good {L : List Trm} {root : Int} {env : List (Str × Val)} {e : Exp} (h : Good L root e) : evalF L root env = evalE env e := by
  unfold evalF
  rw [dif_pos ⟨e, h⟩]
  exact congrArg (evalE env) ((Classical.choose_spec (⟨e, h⟩ : ∃ e, Good L root e)).same h)
theorem evalF_none {L : List Trm} {root : Int} {env : List (Str × Val)} (h : mayF L root = false) : evalF L root env = (zeroV, 400) := by
  unfold evalF
  rw [dif_neg (mayF_no h)]
end Go.Proofs.Ythbakfceaaaamaa
