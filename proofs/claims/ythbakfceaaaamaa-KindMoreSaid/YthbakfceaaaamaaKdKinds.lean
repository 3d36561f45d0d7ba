/- Plain: the kinds of terms, and that they are sound. No program stands in this text. -/
import Derived.Test.YthbakfceaaaamaaTmName
import Derived.Test.YthbakfceaaaamaaTmEnv
import Derived.Laws.EntriesVeiled
import Derived.Laws.StructEq
import Derived.ChangeKeysEq
import Derived.RegionTactic
import Derived.BigQuiet
namespace Go.Proofs.Ythbakfceaaaamaa
open Go.RowKit

/-- The kind that a typing has first under a name. -/
def typedK : List (Str × Int) → Str → Int × Int
  | [], _ => (0, 501)
  | (s, k) :: r, nm => if s = nm then (if 0 ≤ k ∧ k ≤ 5 then (k, 0) else (0, 502)) else typedK r nm
def leafK (env : List (Str × Int)) (t : Trm) : Int × Int :=
  if t.kind = 0 then typedK env t.name else if t.kind = 1 then (1, 0) else if t.kind = 2 then (2, 0) else if t.kind = 3 then (3, 0) else if t.kind = 4 then (4, 0) else (0, 0)
def oneK (k a : Int) : Int × Int :=
  if k = 15 then (if a = 2 then (2, 0) else (0, 502)) else if a = 3 ∨ a = 4 then (1, 0) else (0, 502)
def fitsK (k a b : Int) : Bool :=
  if k = 11 then a == b && a != 5 else if k = 13 ∨ k = 14 then a == 2 && b == 2 else if k = 17 ∨ k = 18 then a == 4 && b == 1
  else if k = 19 then a == 3 && b == 3 else a == 1 && b == 1
def resK (k : Int) : Int := if k = 11 ∨ k = 12 ∨ k = 13 ∨ k = 14 then 2 else if k = 18 then 4 else if k = 19 then 3 else 1
def twoK (k a b : Int) : Int × Int := if fitsK k a b then (resK k, 0) else (0, 502)
def kindE (env : List (Str × Int)) : Exp → Int × Int
  | .leaf _ t => leafK env t
  | .one _ t a => if (kindE env a).2 = 0 then oneK t.kind (kindE env a).1 else (0, (kindE env a).2)
  | .two _ t a b => if (kindE env a).2 = 0 then (if (kindE env b).2 = 0 then twoK t.kind (kindE env a).1 (kindE env b).1 else (0, (kindE env b).2)) else (0, (kindE env a).2)
/-- The kinds of some binds' values. -/
def kindsOf (env : List (Str × Val)) : List (Str × Int) := env.map fun b => (b.1, b.2.kind)
theorem mayV_kinds {v : Val} (h : mayV v = true) : 0 ≤ v.kind ∧ v.kind ≤ 5 := by
  unfold mayV at h
  split at h
  · rename_i hk; simp at hk; omega
  split at h
  · rename_i hk; simp at hk; omega
  split at h
  · rename_i hk; simp at hk; omega
  split at h
  · rename_i hk; simp at hk; omega
  split at h
  · rename_i hk; simp at hk; omega
  · simp at h; omega
theorem hold_kinds (nm : Str) : ∀ {env : List (Str × Val)}, (∀ b ∈ env, mayV b.2 = true) → ((typedK (kindsOf env) nm).2 = 0 ∧ (holdV env nm).2 = 0 ∧ (holdV env nm).1.kind = (typedK (kindsOf env) nm).1) ∨ ((typedK (kindsOf env) nm).2 ≠ 0 ∧ (holdV env nm).2 ≠ 0)
  | [], _ => .inr ⟨by simp [kindsOf, typedK], by simp [holdV]⟩
  | (s, v) :: r, h => by
    have hv := h (s, v) (by simp)
    have hk := mayV_kinds hv
    dsimp only at hv hk
    have ih := hold_kinds nm (env := r) (fun b hb => h b (by simp [hb]))
    unfold kindsOf at ih ⊢
    rw [List.map_cons, typedK, holdV]
    by_cases hs : s = nm
    · rw [if_pos hs, if_pos hs, if_pos hk, if_pos hv]
      exact .inl ⟨rfl, rfl, rfl⟩
    · rw [if_neg hs, if_neg hs]
      exact ih
/-- What a term of a kind may come to. -/
def Sound (k : Int × Int) (v : Val × Int) : Prop := if k.2 = 0 then ((v.2 = 0 ∧ v.1.kind = k.1) ∨ v.2 = 403 ∨ v.2 = 404 ∨ v.2 = 405) else v.2 ≠ 0
theorem Sound.ok {k : Int × Int} {v : Val × Int} (h : k.2 = 0) (h1 : (v.2 = 0 ∧ v.1.kind = k.1) ∨ v.2 = 403 ∨ v.2 = 404 ∨ v.2 = 405) : Sound k v := by unfold Sound; rw [if_pos h]; exact h1
theorem Sound.no {k : Int × Int} {v : Val × Int} (h : k.2 ≠ 0) (h1 : v.2 ≠ 0) : Sound k v := by unfold Sound; rw [if_neg h]; exact h1
theorem Sound.three {k : Int × Int} {v : Val × Int} (h : v.2 = 403 ∨ v.2 = 404 ∨ v.2 = 405) : Sound k v := by
  unfold Sound
  split
  · exact .inr h
  · omega
theorem one_sound (k : Int) (v : Val) : Sound (oneK k v.kind) (oneV k v) := by
  unfold oneK oneV
  split
  · split
    · exact .ok rfl (.inl ⟨rfl, rfl⟩)
    · exact .no (by decide) (by decide)
  · by_cases h3 : v.kind = 3
    · rw [if_pos (.inl h3), if_pos h3]
      exact .ok rfl (.inl ⟨rfl, rfl⟩)
    · rw [if_neg h3]
      by_cases h4 : v.kind = 4
      · rw [if_pos (.inr h4), if_pos h4]
        exact .ok rfl (.inl ⟨rfl, rfl⟩)
      · rw [if_neg (fun h => h.elim h3 h4), if_neg h4]
        exact .no (by decide) (by decide)
theorem fits_kinds (k : Int) (a b : Val) : fitsV k a b = fitsK k a.kind b.kind := rfl
theorem two_sound (k : Int) (a b : Val) (hk : arT k = 2) : Sound (twoK k a.kind b.kind) (twoV k a b) := by
  unfold twoK twoV
  rw [fits_kinds]
  cases fitsK k a.kind b.kind
  · rw [if_neg (by decide), if_neg (by decide)]
    exact .no (by simp) (by simp)
  · rw [if_pos rfl, if_pos rfl]
    refine .ok rfl ?_
    by_cases h11 : k = 11
    · subst h11; exact .inl ⟨rfl, rfl⟩
    by_cases h13 : k = 13
    · subst h13; exact .inl ⟨rfl, rfl⟩
    by_cases h14 : k = 14
    · subst h14; exact .inl ⟨rfl, rfl⟩
    by_cases h17 : k = 17
    · subst h17
      show ((elemV a.list b.num).2 = 0 ∧ (elemV a.list b.num).1.kind = 1) ∨ (elemV a.list b.num).2 = 403 ∨ (elemV a.list b.num).2 = 404 ∨ (elemV a.list b.num).2 = 405
      unfold elemV
      split
      · exact .inl ⟨rfl, rfl⟩
      · exact .inr (.inr (.inl rfl))
    by_cases h18 : k = 18
    · subst h18
      show ((pushV a.list b.num).2 = 0 ∧ (pushV a.list b.num).1.kind = 4) ∨ (pushV a.list b.num).2 = 403 ∨ (pushV a.list b.num).2 = 404 ∨ (pushV a.list b.num).2 = 405
      unfold pushV
      split
      · exact .inr (.inr (.inr rfl))
      · exact .inl ⟨rfl, rfl⟩
    by_cases h19 : k = 19
    · subst h19
      show ((joinV a.text b.text).2 = 0 ∧ (joinV a.text b.text).1.kind = 3) ∨ (joinV a.text b.text).2 = 403 ∨ (joinV a.text b.text).2 = 404 ∨ (joinV a.text b.text).2 = 405
      unfold joinV
      split
      · exact .inr (.inr (.inr rfl))
      · exact .inl ⟨rfl, rfl⟩
    unfold combV resK
    rw [if_neg h11, if_neg h13, if_neg h14, if_neg h17, if_neg h18, if_neg h19]
    by_cases h12 : k = 12
    · subst h12; exact .inl ⟨rfl, rfl⟩
    rw [if_neg (by omega), if_neg h18, if_neg h19]
    unfold calcV
    split
    · exact .inl ⟨rfl, rfl⟩
    split
    · exact .inl ⟨rfl, rfl⟩
    split
    · exact .inl ⟨rfl, rfl⟩
    split
    · exact .inr (.inl rfl)
    split
    · exact .inl ⟨rfl, rfl⟩
    · exact .inl ⟨rfl, rfl⟩
/-- P5.2. -/
theorem kind_sound {L : List Trm} {env : List (Str × Val)} (hm : ∀ b ∈ env, mayV b.2 = true) : ∀ {e : Exp}, Fits L e → Sound (kindE (kindsOf env) e) (evalE env e) := by
  intro e
  induction e with
  | leaf i t =>
    intro _
    simp only [kindE, evalE]
    unfold leafK leafV
    by_cases h0 : t.kind = 0
    · rw [if_pos h0, if_pos h0]
      rcases hold_kinds t.name hm with ⟨h1, h2, h3⟩ | ⟨h1, h2⟩
      · exact .ok h1 (.inl ⟨h2, h3⟩)
      · exact .no h1 h2
    rw [if_neg h0, if_neg h0]
    split
    · exact .ok rfl (.inl ⟨rfl, rfl⟩)
    split
    · exact .ok rfl (.inl ⟨rfl, rfl⟩)
    split
    · exact .ok rfl (.inl ⟨rfl, rfl⟩)
    split
    · exact .ok rfl (.inl ⟨rfl, rfl⟩)
    · exact .ok rfl (.inl ⟨rfl, rfl⟩)
  | one i t a ih =>
    intro h
    have ha := ih h.2.2.2.2.2
    simp only [kindE, evalE]
    unfold Sound at ha
    by_cases hk : (kindE (kindsOf env) a).2 = 0
    · rw [if_pos hk] at ha
      rw [if_pos hk]
      rcases ha with ⟨h1, h2⟩ | ha
      · rw [if_pos h1, ← h2]
        exact one_sound _ _
      · have hne : ¬ (evalE env a).2 = 0 := by omega
        rw [if_neg hne]
        exact .three ha
    · rw [if_neg hk] at ha
      rw [if_neg hk, if_neg ha]
      exact .no hk ha
  | two i t a b iha ihb =>
    intro h
    have har := h.2.2.1
    have ha := iha h.2.2.2.2.2.2.2.1
    have hb := ihb h.2.2.2.2.2.2.2.2
    simp only [kindE, evalE]
    unfold Sound at ha hb
    by_cases hk : (kindE (kindsOf env) a).2 = 0
    · rw [if_pos hk] at ha
      rw [if_pos hk]
      rcases ha with ⟨h1, h2⟩ | ha
      · rw [if_pos h1]
        by_cases hq : (kindE (kindsOf env) b).2 = 0
        · rw [if_pos hq] at hb
          rw [if_pos hq]
          rcases hb with ⟨h3, h4⟩ | hb
          · rw [if_pos h3, ← h2, ← h4]
            exact two_sound _ _ _ har
          · have hne : ¬ (evalE env b).2 = 0 := by omega
            rw [if_neg hne]
            exact .three hb
        · rw [if_neg hq] at hb
          rw [if_neg hq, if_neg hb]
          exact .no hq hb
      · have hne : ¬ (evalE env a).2 = 0 := by omega
        rw [if_neg hne]
        exact .three ha
    · rw [if_neg hk] at ha
      rw [if_neg hk, if_neg ha]
      exact .no hk ha
end Go.Proofs.Ythbakfceaaaamaa

/- Typings in memory; contracts of slices.IndexFunc over typings by a name, of the program's variable and of the reference's typed. -/
namespace Go.Proofs.Ythbakfceaaaamaa
open Go.RowKit

/-- The slice with this address and length reads as these typings (a name and a kind each); all that is read lies in a block below bound. -/
def Typs (w : World) (bound : Nat) (a : Option Addr) (n : Nat) (env : List (Str × Int)) : Prop :=
  env.length = n ∧ n ≤ 4611686018427387904 ∧ (0 < n → ∃ b off, a = some ⟨b, off, none⟩ ∧ b < bound ∧ ∀ (j : Nat) (x : Str × Int), env[j]? = some x → ∃ s z,
    (w.cell? ⟨b, off + j * 3, none⟩ = some (.string s) ∧ w.cell? ⟨b, off + j * 3 + 1, none⟩ = some (.int .i64 x.2) ∧ w.cell? ⟨b, off + j * 3 + 2, none⟩ = some (.int .i64 z)) ∧ s.toList = x.1)
section
variable {w w' : World} {bound bound' : Nat} {a : Option Addr} {n : Nat} {env : List (Str × Int)}
theorem Typs.keep (h : Typs w bound a n env) (hk : ∀ p : Addr, p.block < bound → w'.cell? p = w.cell? p) : Typs w' bound a n env :=
  ⟨h.1, h.2.1, fun hn => by
    obtain ⟨b, off, e, hb, hc⟩ := h.2.2 hn
    refine ⟨b, off, e, hb, fun j t hj => ?_⟩
    obtain ⟨s, z, ⟨c0, c1, c2⟩, h1⟩ := hc j t hj
    exact ⟨s, z, ⟨(hk _ hb).trans c0, (hk _ hb).trans c1, (hk _ hb).trans c2⟩, h1⟩⟩
theorem Typs.below (h : Typs w bound a n env) (hb : Below bound w w') : Typs w' bound a n env := h.keep fun _ hp => hb.cell hp
theorem Typs.more (h : Typs w bound a n env) (hb : bound ≤ bound') : Typs w bound' a n env :=
  ⟨h.1, h.2.1, fun hn => by
    obtain ⟨b, off, e, hlt, hc⟩ := h.2.2 hn
    exact ⟨b, off, e, by omega, hc⟩⟩
theorem Typs.zero (w : World) (bound : Nat) (a : Option Addr) : Typs w bound a 0 [] := ⟨rfl, by omega, fun h => absurd h (Nat.lt_irrefl 0)⟩
theorem Typs.on {W W' : World} {a : Option Addr} {n : Nat} {env : List (Str × Int)} (h : Typs W W.heap.size a n env) (hb : Below W.heap.size W W') : Typs W' W'.heap.size a n env := (h.below hb).more hb.size
theorem Typs.at_ (h : Typs w bound a n env) {k : Nat} (hk : k < n) : ∃ b off x s z, a = some ⟨b, off, none⟩ ∧ b < bound ∧ env[k]? = some x ∧
    (w.cell? ⟨b, off + k * 3, none⟩ = some (.string s) ∧ w.cell? ⟨b, off + k * 3 + 1, none⟩ = some (.int .i64 x.2) ∧ w.cell? ⟨b, off + k * 3 + 2, none⟩ = some (.int .i64 z)) ∧ s.toList = x.1 := by
  obtain ⟨b, off, e, hb, hc⟩ := h.2.2 (by omega)
  have hk' : k < env.length := by rw [h.1]; exact hk
  obtain ⟨s, z, c, h1⟩ := hc k _ (List.getElem?_eq_getElem hk')
  exact ⟨b, off, env[k], s, z, e, hb, List.getElem?_eq_getElem hk', c, h1⟩
end
/-- The call hands back this kind and this error. -/
def KdRet (w : World) (r : Int × Int) (e : Ending) (w' : World) : Prop := e = .returned (.tuple #[.int .i64 r.1, .int .i64 r.2]) ∧ Below w.heap.size w w'
theorem KdRet.is {w w' : World} {e : Ending} {r r' : Int × Int} (h : KdRet w r' e w') (he : r = r') : KdRet w r e w' := he ▸ h
/-- The first place of a name, from a place on. -/
def idxK (nm : Str) : List (Str × Int) → Nat → Int
  | [], _ => -1
  | x :: r, i => if x.1 = nm then (i : Int) else idxK nm r (i + 1)
theorem idxK_at {nm : Str} {env : List (Str × Int)} {k : Nat} {x : Str × Int} (h : env[k]? = some x) : idxK nm (env.drop k) k = if x.1 = nm then (k : Int) else idxK nm (env.drop (k + 1)) (k + 1) := by
  obtain ⟨h1, e⟩ := List.getElem?_eq_some_iff.1 h
  rw [List.drop_eq_getElem_cons h1, e, idxK]
theorem typedK_idx (nm : Str) : ∀ (env : List (Str × Int)) (i : Nat), (idxK nm env i = -1 ∧ typedK env nm = (0, 501)) ∨ ∃ k x, idxK nm env i = ((i + k : Nat) : Int) ∧ env[k]? = some x ∧ typedK env nm = if 0 ≤ x.2 ∧ x.2 ≤ 5 then (x.2, 0) else (0, 502)
  | [], i => .inl ⟨rfl, rfl⟩
  | (s, v) :: r, i => by
    rw [idxK, typedK]
    by_cases h : s = nm
    · rw [if_pos h, if_pos h]
      exact .inr ⟨0, (s, v), rfl, rfl, rfl⟩
    · rw [if_neg h, if_neg h]
      rcases typedK_idx nm r (i + 1) with ⟨h1, h2⟩ | ⟨k, x, h1, h2, h3⟩
      · exact .inl ⟨h1, h2⟩
      · exact .inr ⟨k + 1, x, by rw [h1]; congr 1; omega, by rw [List.getElem?_cons_succ]; exact h2, h3⟩

theorem kNamed_any (s nm : ByteArray) (k z : Int) (A : Nat) (w : World) (hA : w.cell? ⟨A, 0, none⟩ = some (.string nm)) (hlt : A < w.heap.size) :
    Calls Try.prog 50 #[.agg #[.string s, .int .i64 k, .int .i64 z], .pointer (some ⟨A, 0, none⟩)] w fun e w' => e = .returned (.bool (s.toList == nm.toList)) ∧ Below w.heap.size w w' := by
  have HB := Lib.hid ((Below.refl w.heap.size w).alloc (Nat.le_refl _) (.cells #[.string s, .int .i64 k, .int .i64 z] 46))
  go_enter Try.func50, Try.ntmps50
  go_wp2
  go_ret
  exact ⟨rfl, HB.out⟩

set_option maxHeartbeats 2000000 in
theorem kIndexFunc_any (a : Option Addr) (n c A : Nat) (env : List (Str × Int)) (nm : ByteArray) (w : World) (bound : Nat) (hb : bound ≤ w.heap.size) (h : Typs w bound a n env) (hA : w.cell? ⟨A, 0, none⟩ = some (.string nm)) (hlt : A < w.heap.size) :
    Calls Try.prog 49 #[.slice a n c, .func (.func 50) #[] #[.pointer (some ⟨A, 0, none⟩)]] w fun e w' => e = .returned (.int .i64 (idxK nm.toList env 0)) ∧ Below w.heap.size w w' := by
  have hl := Lib.hid h.1
  have hs := h.2.1
  have HN := Lib.hid h
  have HA := Lib.hid hA
  clear h hA
  go_enter Try.func49, Try.ntmps49
  go_wp2
  go_loopw [8, 5] (fun v _ wr => ∃ k : Nat, k ≤ n ∧ v = .int .i64 k ∧ Hid (Below w.heap.size w wr) ∧ Hid (idxK nm.toList env 0 = idxK nm.toList (env.drop k) k)) (fun v _ _ => n - (intOf v).toNat)
  case atStart => exact ⟨0, Nat.zero_le _, rfl, Lib.hid (Below.refl _ _), Lib.hid rfl⟩
  case round =>
    obtain ⟨k, hk, rfl, HW, HF⟩ := hrel
    by_cases hkn : k < n
    · obtain ⟨b, off, x, s, z, rfl, hbb, hx, ⟨q0, q1, q2⟩, hs1⟩ := (HN.out.below (HW.out.mono hb)).at_ hkn
      have hfd := HF.out.trans (idxK_at (nm := nm.toList) hx)
      have cn := fun W hW hl => kNamed_any s nm x.2 z A W hW hl
      have ha1 := (HW.out.cell (p := ⟨A, 0, none⟩) hlt).trans HA.out
      have hs5 := hs
      cases he : s.toList == nm.toList
      · rw [he] at cn
        rw [if_neg (by rw [← hs1]; rw [beq_eq_false_iff_ne] at he; exact he)] at hfd
        have CN := Lib.hid (cn wr ha1 (by have := HW.out.size; omega))
        have HZ := Lib.hid hfd
        clear cn hfd he hs1 hx
        go_wp2_with (first
          | (go_at_call 50; (with_reducible refine CN.out.mono ?_)
             rintro e w1 ⟨rfl, hb1⟩
             have HB1 := Lib.hid (below_on HW.out hb1)
             clear hb1)
          | fail)
        go_roundw
        case rel => exact ⟨k + 1, by omega, by go_num, HB1, HZ⟩
        case measure => simp [intOf]; omega
      · rw [he] at cn
        rw [if_pos (by rw [← hs1]; exact eq_of_beq he)] at hfd
        have CN := Lib.hid (cn wr ha1 (by have := HW.out.size; omega))
        have HZ := Lib.hid hfd
        clear cn hfd he hs1 hx
        go_wp2_with (first
          | (go_at_call 50; (with_reducible refine CN.out.mono ?_)
             rintro e w1 ⟨rfl, hb1⟩
             have HB1 := Lib.hid (below_on HW.out hb1)
             clear hb1)
          | fail)
        go_ret
        exact ⟨ret_int (by rw [HZ.out]), HB1.out⟩
    · have HZ := Lib.hid (show idxK nm.toList env 0 = -1 by rw [HF.out, List.drop_of_length_le (by rw [hl.out]; omega), idxK])
      go_wp2
      go_ret
      exact ⟨ret_int (by rw [HZ.out]), HW.out⟩

set_option maxHeartbeats 4000000 in
theorem kVariable_any (a : Option Addr) (n c : Nat) (env : List (Str × Int)) (nm : ByteArray) (w : World) (bound : Nat) (hb : bound ≤ w.heap.size) (h : Typs w bound a n env) :
    Calls Try.prog 29 #[.string nm, .slice a n c] w (KdRet w (typedK env nm.toList)) := by
  have hmf : ∀ (fn : Fn) (first cap : Array Value) (w : World), (Instr.makeFunc fn first cap).run Try.prog w = .ok (.func fn first cap) w := fun _ _ _ _ => rfl
  have HB := Lib.hid ((Below.refl w.heap.size w).alloc (Nat.le_refl _) (.cells #[.string nm] 9))
  have hsz := h.2.1
  have CX := Lib.hid (kIndexFunc_any a n c w.heap.size env nm (w.alloc (.cells #[.string nm] 9)) bound (by simp <;> omega) (h.below (HB.out.mono hb)) (by simp) (by simp))
  rcases typedK_idx nm.toList env 0 with ⟨h1, h2⟩ | ⟨k, x, h1, hx, h2⟩
  · rw [h1] at CX
    generalize typedK env nm.toList = r at h2 ⊢
    have HG := Lib.hid h2
    clear h1 h2 h
    go_enter Try.func29, Try.ntmps29
    go_wp2_with (first
      | (go_at_call 49; (with_reducible refine CX.out.mono ?_)
         rintro e w1 ⟨rfl, hb1⟩
         have HB1 := Lib.hid (below_on HB.out hb1)
         clear hb1)
      | fail)
    go_ret2
    exact KdRet.is ⟨rfl, HB1.out⟩ HG.out
  · rw [h1, Nat.zero_add] at CX
    generalize typedK env nm.toList = r at h2 ⊢
    have hkn : k < n := by
      have hl := h.1
      obtain ⟨h3, _⟩ := List.getElem?_eq_some_iff.1 hx
      omega
    obtain ⟨b, off, x', s, z, rfl, hbb, hx', ⟨q0, q1, q2⟩, hs1⟩ := h.at_ hkn
    rw [hx] at hx'
    obtain rfl := Option.some.inj hx'
    have HQ := Lib.hid q1
    obtain ⟨xk, hxk⟩ : ∃ xk, xk = x.2 := ⟨_, rfl⟩
    rw [← hxk] at HQ h2
    have hbw : b < w.heap.size := by omega
    clear h1 h q0 q1 q2 hs1 hx hxk
    by_cases c1 : xk < 0
    · rw [if_neg (by omega)] at h2
      have HG := Lib.hid h2
      have d1 : decide (xk < 0) = true := decide_eq_true c1
      clear h2 c1
      go_enter Try.func29, Try.ntmps29
      go_wp2_with (first
        | (go_at_call 49; (with_reducible refine CX.out.mono ?_)
           rintro e w1 ⟨rfl, hb1⟩
           have HB1 := Lib.hid (below_on HB.out hb1)
           have r1 := (HB1.out.cell (p := ⟨b, off + k * 3 + 1, none⟩) hbw).trans HQ.out
           clear hb1)
        | fail)
      go_ret2
      exact KdRet.is ⟨rfl, HB1.out⟩ HG.out
    have d1 : decide (xk < 0) = false := decide_eq_false c1
    by_cases c2 : 5 < xk
    · rw [if_neg (by omega)] at h2
      have HG := Lib.hid h2
      have d2 : decide (5 < xk) = true := decide_eq_true c2
      clear h2 c1 c2
      go_enter Try.func29, Try.ntmps29
      go_wp2_with (first
        | (go_at_call 49; (with_reducible refine CX.out.mono ?_)
           rintro e w1 ⟨rfl, hb1⟩
           have HB1 := Lib.hid (below_on HB.out hb1)
           have r1 := (HB1.out.cell (p := ⟨b, off + k * 3 + 1, none⟩) hbw).trans HQ.out
           clear hb1)
        | fail)
      go_ret2
      exact KdRet.is ⟨rfl, HB1.out⟩ HG.out
    · rw [if_pos (by omega)] at h2
      have HG := Lib.hid h2
      have d2 : decide (5 < xk) = false := decide_eq_false c2
      clear h2 c1 c2
      go_enter Try.func29, Try.ntmps29
      go_wp2_with (first
        | (go_at_call 49; (with_reducible refine CX.out.mono ?_)
           rintro e w1 ⟨rfl, hb1⟩
           have HB1 := Lib.hid (below_on HB.out hb1)
           have r1 := (HB1.out.cell (p := ⟨b, off + k * 3 + 1, none⟩) hbw).trans HQ.out
           clear hb1)
        | fail)
      go_ret2
      exact KdRet.is ⟨rfl, HB1.out⟩ HG.out

set_option maxHeartbeats 4000000 in
theorem refTyped_any (a : Option Addr) (n c : Nat) (env : List (Str × Int)) (nm : ByteArray) (w : World) (bound : Nat) (h : Typs w bound a n env) :
    Calls Try.prog 53 #[.slice a n c, .string nm] w (KdRet w (typedK env nm.toList)) := by
  have hsz := h.2.1
  have HL := Lib.hid h.1
  have HN := Lib.hid h
  have HG := Lib.hid (show typedK env nm.toList = typedK (env.drop 0) nm.toList by rw [List.drop_zero])
  generalize typedK env nm.toList = R at HG ⊢
  clear h
  go_enter Try.func53, Try.ntmps53
  go_wp2
  go_loop [6] (fun i => ∃ k : Nat, k ≤ n ∧ i = .int .i64 k ∧ Hid (R = typedK (env.drop k) nm.toList)) (fun i => n - (intOf i).toNat)
  case atStart => exact ⟨0, Nat.zero_le _, rfl, HG⟩
  case round =>
    obtain ⟨k, hk, rfl, HR⟩ := hrel
    by_cases hlt : k < n
    · obtain ⟨b, off, x, s, z, rfl, hbb, hx, ⟨q0, q1, q2⟩, hs⟩ := HN.out.at_ hlt
      have hstep : typedK (env.drop k) nm.toList = if x.1 = nm.toList then (if 0 ≤ x.2 ∧ x.2 ≤ 5 then (x.2, 0) else (0, 502)) else typedK (env.drop (k + 1)) nm.toList := by
        obtain ⟨h1, e⟩ := List.getElem?_eq_some_iff.1 hx
        rw [List.drop_eq_getElem_cons h1, e]
        rfl
      rw [← hs] at hstep
      obtain ⟨xk, hxk⟩ : ∃ xk, xk = x.2 := ⟨_, rfl⟩
      rw [← hxk] at q1 hstep
      clear hxk
      cases hu : (s.toList == nm.toList)
      · have HZ := Lib.hid (HR.out.trans (hstep.trans (if_neg (fun e => by rw [beq_eq_false_iff_ne] at hu; exact hu e))))
        clear hstep hx hs
        go_wp2_with fail
        go_round
        case rel => exact ⟨k + 1, by omega, by go_num, HZ⟩
        case measure => simp [intOf] <;> omega
      · have hz := HR.out.trans (hstep.trans (if_pos (eq_of_beq hu)))
        clear hstep hx hs
        by_cases c1 : xk < 0
        · rw [if_neg (by omega)] at hz
          have HZ := Lib.hid hz
          have d1 : decide (xk < 0) = true := decide_eq_true c1
          clear hz c1
          go_wp2_with fail
          go_ret2
          exact KdRet.is ⟨rfl, Below.refl _ _⟩ HZ.out
        have d1 : decide (xk < 0) = false := decide_eq_false c1
        by_cases c2 : 5 < xk
        · rw [if_neg (by omega)] at hz
          have HZ := Lib.hid hz
          have d2 : decide (5 < xk) = true := decide_eq_true c2
          clear hz c1 c2
          go_wp2_with fail
          go_ret2
          exact KdRet.is ⟨rfl, Below.refl _ _⟩ HZ.out
        · rw [if_pos (by omega)] at hz
          have HZ := Lib.hid hz
          have d2 : decide (5 < xk) = false := decide_eq_false c2
          clear hz c1 c2
          go_wp2_with fail
          go_ret2
          exact KdRet.is ⟨rfl, Below.refl _ _⟩ HZ.out
    · have HZ := Lib.hid (show R = (0, 501) by rw [HR.out, List.drop_of_length_le (by rw [HL.out]; omega), typedK])
      go_wp2
      go_ret2
      exact KdRet.is ⟨rfl, Below.refl _ _⟩ HZ.out
end Go.Proofs.Ythbakfceaaaamaa

/- Pairs of numbers in memory; contract of slices.Contains over pairs. -/
namespace Go.Proofs.Ythbakfceaaaamaa
open Go.RowKit

/-- The slice with this address and length reads as these pairs; its cells lie in a block below bound. -/
def Prs (w : World) (bound : Nat) (a : Option Addr) (n : Nat) (l : List (Int × Int)) : Prop :=
  l.length = n ∧ n ≤ 1000 ∧ (0 < n → ∃ b off, a = some ⟨b, off, none⟩ ∧ b < bound ∧ ∀ (j : Nat) (x : Int × Int), l[j]? = some x →
    w.cell? ⟨b, off + j * 2, none⟩ = some (.int .i64 x.1) ∧ w.cell? ⟨b, off + j * 2 + 1, none⟩ = some (.int .i64 x.2))
section
variable {w w' : World} {bound bound' : Nat} {a : Option Addr} {n : Nat} {l : List (Int × Int)}
theorem Prs.keep (h : Prs w bound a n l) (hk : ∀ p : Addr, p.block < bound → w'.cell? p = w.cell? p) : Prs w' bound a n l :=
  ⟨h.1, h.2.1, fun hn => by
    obtain ⟨b, off, e, hb, hc⟩ := h.2.2 hn
    refine ⟨b, off, e, hb, fun j t hj => ?_⟩
    obtain ⟨c0, c1⟩ := hc j t hj
    exact ⟨(hk _ hb).trans c0, (hk _ hb).trans c1⟩⟩
theorem Prs.below (h : Prs w bound a n l) (hb : Below bound w w') : Prs w' bound a n l := h.keep fun _ hp => hb.cell hp
theorem Prs.more (h : Prs w bound a n l) (hb : bound ≤ bound') : Prs w bound' a n l :=
  ⟨h.1, h.2.1, fun hn => by
    obtain ⟨b, off, e, hlt, hc⟩ := h.2.2 hn
    exact ⟨b, off, e, by omega, hc⟩⟩
theorem Prs.zero (w : World) (bound : Nat) (a : Option Addr) : Prs w bound a 0 [] := ⟨rfl, by omega, fun h => absurd h (Nat.lt_irrefl 0)⟩
theorem Prs.on {W W' : World} {a : Option Addr} {n : Nat} {l : List (Int × Int)} (h : Prs W W.heap.size a n l) (hb : Below W.heap.size W W') : Prs W' W'.heap.size a n l := (h.below hb).more hb.size
theorem Prs.at_ (h : Prs w bound a n l) {k : Nat} (hk : k < n) : ∃ b off x, a = some ⟨b, off, none⟩ ∧ b < bound ∧ l[k]? = some x ∧
    w.cell? ⟨b, off + k * 2, none⟩ = some (.int .i64 x.1) ∧ w.cell? ⟨b, off + k * 2 + 1, none⟩ = some (.int .i64 x.2) := by
  obtain ⟨b, off, e, hb, hc⟩ := h.2.2 (by omega)
  have hk' : k < l.length := by rw [h.1]; exact hk
  exact ⟨b, off, l[k], e, hb, List.getElem?_eq_getElem hk', hc k _ (List.getElem?_eq_getElem hk')⟩
end
def encPr (x : Int × Int) : List Value := [.int .i64 x.1, .int .i64 x.2]
theorem Prs.made (W : World) (cs : Array Value) (l : List (Int × Int)) (n g : Nat) (hg : g = W.heap.size) (hc : cs = (l.flatMap encPr).toArray) (hn : l.length = n) (hl : n ≤ 1000) :
    Prs (W.alloc (.cells cs 66)) (W.alloc (.cells cs 66)).heap.size (some ⟨g, 0, none⟩) n l := by
  subst hg hc
  refine ⟨hn, hl, fun _ => ⟨W.heap.size, 0, rfl, by simp, fun j t hj => ?_⟩⟩
  have hf : ∀ (l : List (Int × Int)) (j : Nat) (t : Int × Int), l[j]? = some t → ∀ i, i < 2 → (l.flatMap encPr)[j * 2 + i]? = (encPr t)[i]? := by
    intro l
    induction l with
    | nil => intro j t h; cases h
    | cons x l ih =>
      intro j t h i hi
      rw [List.flatMap_cons]
      cases j with
      | zero =>
        injection h with h
        subst h
        rw [Nat.zero_mul, Nat.zero_add, List.getElem?_append_left hi]
      | succ j =>
        have e : (j + 1) * 2 + i = 2 + (j * 2 + i) := by omega
        rw [e, List.getElem?_append_right (by show 2 ≤ _; omega)]
        show (l.flatMap encPr)[2 + (j * 2 + i) - 2]? = _
        rw [Nat.add_sub_cancel_left]
        exact ih j t h i hi
  have hc : ∀ i, i < 2 → (W.alloc (.cells (l.flatMap encPr).toArray 66)).cell? ⟨W.heap.size, 0 + j * 2 + i, none⟩ = (encPr t)[i]? := fun i hi => by
    rw [cell_of_row _ _ _ _ _ _ (heap_alloc_new W _), List.getElem?_toArray, Nat.zero_add]
    exact hf l j t hj i hi
  exact ⟨by have := hc 0 (by omega); rw [Nat.add_zero] at this; rw [this]; rfl, by rw [hc 1 (by omega)]; rfl⟩
/-- The first place of a pair, from a place on. -/
def idxP (p : Int × Int) : List (Int × Int) → Nat → Int
  | [], _ => -1
  | x :: r, i => if x = p then (i : Int) else idxP p r (i + 1)
theorem idxP_at {p : Int × Int} {l : List (Int × Int)} {k : Nat} {x : Int × Int} (h : l[k]? = some x) : idxP p (l.drop k) k = if x = p then (k : Int) else idxP p (l.drop (k + 1)) (k + 1) := by
  obtain ⟨h1, e⟩ := List.getElem?_eq_some_iff.1 h
  rw [List.drop_eq_getElem_cons h1, e, idxP]
theorem idxP_has (p : Int × Int) : ∀ (l : List (Int × Int)) (i : Nat), decide (0 ≤ idxP p l i) = l.contains p
  | [], i => rfl
  | x :: r, i => by
    rw [idxP, List.contains_cons]
    by_cases h : x = p
    · rw [if_pos h, decide_eq_true (by omega), h]; simp
    · rw [if_neg h, idxP_has p r (i + 1)]
      have : (p == x) = false := by rw [beq_eq_false_iff_ne]; exact fun e => h e.symm
      rw [this, Bool.false_or]

theorem pair_info : (Try.prog.info? 3).isSome = true := by kernel_rfl
theorem pair_cells : Try.prog.cellsOf 3 = 1 := by kernel_rfl
theorem run_eq_int (d : Nat) (a b : Int) (w : World) : (Op.equalIn (d + 1) 3 (.int .i64 a) (.int .i64 b)).run Try.prog w = .ok (a == b) w :=
  run_equalIn_int w d 3 .i64 .i64 a b Try.underlying3
theorem part_pair (x y : Int) (w : World) : (part 3 #[.int .i64 x, .int .i64 y] 0).run Try.prog w = .ok (.int .i64 x) w ∧ (part 3 #[.int .i64 x, .int .i64 y] 1).run Try.prog w = .ok (.int .i64 y) w := by
  constructor
  all_goals
    unfold part
    simp [go_sem]
theorem run_eq_pair (a b x y : Int) (w : World) : (Op.equalIn 10000 66 (.agg #[.int .i64 a, .int .i64 b]) (.agg #[.int .i64 x, .int .i64 y])).run Try.prog w = .ok (a == x && b == y) w := by
  obtain ⟨i, hi⟩ := Option.isSome_iff_exists.1 pair_info
  rw [run_equalIn_array w 9999 (e := 3) (n := 2) (i := i) _ _ Try.underlying66 hi, pair_cells]
  obtain ⟨p0, p1⟩ := part_pair a b w
  obtain ⟨q0, q1⟩ := part_pair x y w
  have r0 := run_eq_int 9998 a x w
  have r1 := run_eq_int 9998 b y w
  rw [show List.range 2 = [0, 1] from rfl]
  simp only [Op.eqItems, Sem.run_bind, Nat.zero_mul, Nat.one_mul, p0, q0, Result.andThen_ok, r0]
  cases a == x
  · simp
  · cases hby : (b == y)
    · rw [hby] at r1
      simp [p1, q1, r1]
    · rw [hby] at r1
      simp [p1, q1, r1]

set_option maxHeartbeats 2000000 in
theorem kIndex_any (a : Option Addr) (n c : Nat) (l : List (Int × Int)) (x y : Int) (w : World) (bound : Nat) (hb : bound ≤ w.heap.size) (h : Prs w bound a n l) :
    Calls Try.prog 51 #[.slice a n c, .agg #[.int .i64 x, .int .i64 y]] w fun e w' => e = .returned (.int .i64 (idxP (x, y) l 0)) ∧ Below w.heap.size w w' := by
  have hl := Lib.hid h.1
  have hs := h.2.1
  have hb0 := (Below.refl w.heap.size w).alloc (Nat.le_refl _) (.cells #[.int .i64 x, .int .i64 y] 66)
  have HN := Lib.hid (h.below (hb0.mono hb))
  have HB := Lib.hid hb0
  have heq := fun p q W => run_eq_pair x y p q W
  have HX := Lib.hid (show (w.alloc (.cells #[.int .i64 x, .int .i64 y] 66)).cell? ⟨w.heap.size, 0, none⟩ = some (.int .i64 x) ∧ (w.alloc (.cells #[.int .i64 x, .int .i64 y] 66)).cell? ⟨w.heap.size, 1, none⟩ = some (.int .i64 y) by simp)
  clear h hb0
  go_enter Try.func51, Try.ntmps51
  go_wp2
  go_loopw [8, 5] (fun v _ wr => ∃ k : Nat, k ≤ n ∧ v = .int .i64 k ∧ Hid (Below (w.alloc (.cells #[.int .i64 x, .int .i64 y] 66)).heap.size (w.alloc (.cells #[.int .i64 x, .int .i64 y] 66)) wr) ∧ Hid (idxP (x, y) l 0 = idxP (x, y) (l.drop k) k)) (fun v _ _ => n - (intOf v).toNat)
  case atStart => exact ⟨0, Nat.zero_le _, rfl, Lib.hid (Below.refl _ _), Lib.hid rfl⟩
  case round =>
    obtain ⟨k, hk, rfl, HW, HF⟩ := hrel
    have hx0 := (HW.out.cell (p := ⟨w.heap.size, 0, none⟩) (by simp)).trans HX.out.1
    have hx1 := (HW.out.cell (p := ⟨w.heap.size, 1, none⟩) (by simp)).trans HX.out.2
    by_cases hkn : k < n
    · obtain ⟨b, off, z, rfl, hbb, hx, q0, q1⟩ := (HN.out.below (HW.out.mono (by simp; omega))).at_ hkn
      have hfd := HF.out.trans (idxP_at (p := (x, y)) hx)
      obtain ⟨z1, z2⟩ := z
      dsimp only at q0 q1
      have hq := heq z1 z2
      cases he : (x == z1 && y == z2)
      · rw [if_neg (by rintro e; injection e with e1 e2; subst e1 e2; simp at he)] at hfd
        rw [he] at hq
        have HZ := Lib.hid hfd
        clear hfd he hx heq
        go_wp2
        go_quiet (fail)
        go_wp2
        go_roundw
        case rel => exact ⟨k + 1, by omega, by go_num, Lib.hid (below_drewN HW.out nq), HZ⟩
        case measure => simp [intOf]; omega
      · rw [if_pos (by simp at he; rw [he.1, he.2])] at hfd
        rw [he] at hq
        have HZ := Lib.hid hfd
        clear hfd he hx heq
        go_wp2
        go_quiet (fail)
        go_wp2
        go_ret
        exact ⟨ret_int (by rw [HZ.out]), below_drewN (HB.out.trans (HW.out.mono (by simp))) nq⟩
    · have HZ := Lib.hid (show idxP (x, y) l 0 = -1 by rw [HF.out, List.drop_of_length_le (by rw [hl.out]; omega), idxP])
      go_wp2
      go_ret
      exact ⟨ret_int (by rw [HZ.out]), HB.out.trans (HW.out.mono (by simp))⟩

theorem kContains_any (a : Option Addr) (n c : Nat) (l : List (Int × Int)) (x y : Int) (w : World) (bound : Nat) (hb : bound ≤ w.heap.size) (h : Prs w bound a n l) :
    Calls Try.prog 31 #[.slice a n c, .agg #[.int .i64 x, .int .i64 y]] w fun e w' => e = .returned (.bool (l.contains (x, y))) ∧ Below w.heap.size w w' := by
  have HB := Lib.hid ((Below.refl w.heap.size w).alloc (Nat.le_refl _) (.cells #[.int .i64 x, .int .i64 y] 66))
  have CX := Lib.hid (kIndex_any a n c l x y (w.alloc (.cells #[.int .i64 x, .int .i64 y] 66)) bound (by simp; omega) (h.below (HB.out.mono hb)))
  have HZ := Lib.hid (idxP_has (x, y) l 0)
  generalize l.contains (x, y) = r at HZ ⊢
  obtain ⟨i, hi⟩ : ∃ i, i = idxP (x, y) l 0 := ⟨_, rfl⟩
  rw [← hi] at HZ CX
  clear hi h
  go_enter Try.func31, Try.ntmps31
  go_wp2_with (first
    | (go_at_call 51; (with_reducible refine CX.out.mono ?_)
       rintro e w1 ⟨rfl, hb1⟩
       have HB1 := Lib.hid (below_on HB.out hb1)
       clear hb1)
    | fail)
  go_ret
  exact ⟨ret_bool HZ.out, HB1.out⟩
end Go.Proofs.Ythbakfceaaaamaa

/- Contract of the program's row: the table of the kinds that a term's operands may have. -/
namespace Go.Proofs.Ythbakfceaaaamaa
open Go.RowKit

/-- The choices of kinds for the operands of a kind of term, and the kind of its value. -/
def rowK (k : Int) : List (Int × Int) × Int :=
  if k = 1 then ([(-1, -1)], 1) else if k = 2 then ([(-1, -1)], 2) else if k = 3 then ([(-1, -1)], 3) else if k = 4 then ([(-1, -1)], 4) else if k = 5 then ([(-1, -1)], 0)
  else if k = 11 then ([(0, 0), (1, 1), (2, 2), (3, 3), (4, 4)], 2) else if k = 12 then ([(1, 1)], 2) else if k = 13 ∨ k = 14 then ([(2, 2)], 2) else if k = 15 then ([(2, -1)], 2)
  else if k = 16 then ([(3, -1), (4, -1)], 1) else if k = 17 then ([(4, 1)], 1) else if k = 18 then ([(4, 1)], 4) else if k = 19 then ([(3, 3)], 3) else ([(1, 1)], 1)
def RowRet (w : World) (r : List (Int × Int) × Int) (e : Ending) (w' : World) : Prop := (∃ a n c, e = .returned (.tuple #[.slice a n c, .int .i64 r.2]) ∧ Prs w' w'.heap.size a n r.1) ∧ Below w.heap.size w w'
theorem RowRet.is {w w' : World} {e : Ending} {r r' : List (Int × Int) × Int} (h : RowRet w r' e w') (he : r = r') : RowRet w r e w' := he ▸ h
theorem up1 (w : World) (o : Obj) : Below w.heap.size w (w.alloc o) := (Below.refl _ w).alloc (Nat.le_refl _) o
theorem up2 (w : World) (o p : Obj) : Below w.heap.size w ((w.alloc o).alloc p) := below_on (up1 w o) (up1 _ p)
theorem up3 (w : World) (o p q : Obj) : Below w.heap.size w (((w.alloc o).alloc p).alloc q) := below_on (up2 w o p) (up1 _ q)

theorem row_1 (w : World) : Calls Try.prog 30 #[.int .i64 1] w (RowRet w (rowK 1)) := by
  go_enter Try.func30, Try.ntmps30
  go_wp2
  go_ret2
  exact RowRet.is (r' := ([(-1, -1)], 1)) ⟨⟨_, _, _, rfl, (Prs.made w _ [(-1, -1)] 1 _ rfl rfl rfl (by omega)).on (up1 _ _)⟩, up2 _ _ _⟩ rfl

theorem row_2 (w : World) : Calls Try.prog 30 #[.int .i64 2] w (RowRet w (rowK 2)) := by
  go_enter Try.func30, Try.ntmps30
  go_wp2
  go_ret2
  exact RowRet.is (r' := ([(-1, -1)], 2)) ⟨⟨_, _, _, rfl, (Prs.made w _ [(-1, -1)] 1 _ rfl rfl rfl (by omega)).on (up1 _ _)⟩, up2 _ _ _⟩ rfl

theorem row_3 (w : World) : Calls Try.prog 30 #[.int .i64 3] w (RowRet w (rowK 3)) := by
  go_enter Try.func30, Try.ntmps30
  go_wp2
  go_ret2
  exact RowRet.is (r' := ([(-1, -1)], 3)) ⟨⟨_, _, _, rfl, (Prs.made w _ [(-1, -1)] 1 _ rfl rfl rfl (by omega)).on (up1 _ _)⟩, up2 _ _ _⟩ rfl

theorem row_4 (w : World) : Calls Try.prog 30 #[.int .i64 4] w (RowRet w (rowK 4)) := by
  go_enter Try.func30, Try.ntmps30
  go_wp2
  go_ret2
  exact RowRet.is (r' := ([(-1, -1)], 4)) ⟨⟨_, _, _, rfl, (Prs.made w _ [(-1, -1)] 1 _ rfl rfl rfl (by omega)).on (up1 _ _)⟩, up2 _ _ _⟩ rfl

theorem row_5 (w : World) : Calls Try.prog 30 #[.int .i64 5] w (RowRet w (rowK 5)) := by
  go_enter Try.func30, Try.ntmps30
  go_wp2
  go_ret2
  exact RowRet.is (r' := ([(-1, -1)], 0)) ⟨⟨_, _, _, rfl, (Prs.made w _ [(-1, -1)] 1 _ rfl rfl rfl (by omega)).on (up1 _ _)⟩, up2 _ _ _⟩ rfl

theorem row_6 (w : World) : Calls Try.prog 30 #[.int .i64 6] w (RowRet w (rowK 6)) := by
  go_enter Try.func30, Try.ntmps30
  go_wp2
  go_ret2
  exact RowRet.is (r' := ([(1, 1)], 1)) ⟨⟨_, _, _, rfl, Prs.made _ _ [(1, 1)] 1 _ (by simp) rfl rfl (by omega)⟩, up2 _ _ _⟩ rfl

theorem row_7 (w : World) : Calls Try.prog 30 #[.int .i64 7] w (RowRet w (rowK 7)) := by
  go_enter Try.func30, Try.ntmps30
  go_wp2
  go_ret2
  exact RowRet.is (r' := ([(1, 1)], 1)) ⟨⟨_, _, _, rfl, Prs.made _ _ [(1, 1)] 1 _ (by simp) rfl rfl (by omega)⟩, up2 _ _ _⟩ rfl

theorem row_8 (w : World) : Calls Try.prog 30 #[.int .i64 8] w (RowRet w (rowK 8)) := by
  go_enter Try.func30, Try.ntmps30
  go_wp2
  go_ret2
  exact RowRet.is (r' := ([(1, 1)], 1)) ⟨⟨_, _, _, rfl, Prs.made _ _ [(1, 1)] 1 _ (by simp) rfl rfl (by omega)⟩, up2 _ _ _⟩ rfl

theorem row_9 (w : World) : Calls Try.prog 30 #[.int .i64 9] w (RowRet w (rowK 9)) := by
  go_enter Try.func30, Try.ntmps30
  go_wp2
  go_ret2
  exact RowRet.is (r' := ([(1, 1)], 1)) ⟨⟨_, _, _, rfl, Prs.made _ _ [(1, 1)] 1 _ (by simp) rfl rfl (by omega)⟩, up2 _ _ _⟩ rfl

theorem row_10 (w : World) : Calls Try.prog 30 #[.int .i64 10] w (RowRet w (rowK 10)) := by
  go_enter Try.func30, Try.ntmps30
  go_wp2
  go_ret2
  exact RowRet.is (r' := ([(1, 1)], 1)) ⟨⟨_, _, _, rfl, Prs.made _ _ [(1, 1)] 1 _ (by simp) rfl rfl (by omega)⟩, up2 _ _ _⟩ rfl

theorem row_11 (w : World) : Calls Try.prog 30 #[.int .i64 11] w (RowRet w (rowK 11)) := by
  go_enter Try.func30, Try.ntmps30
  go_wp2
  go_ret2
  exact RowRet.is (r' := ([(0, 0), (1, 1), (2, 2), (3, 3), (4, 4)], 2)) ⟨⟨_, _, _, rfl, Prs.made _ _ [(0, 0), (1, 1), (2, 2), (3, 3), (4, 4)] 5 _ (by simp) rfl rfl (by omega)⟩, up3 _ _ _ _⟩ rfl

theorem row_12 (w : World) : Calls Try.prog 30 #[.int .i64 12] w (RowRet w (rowK 12)) := by
  go_enter Try.func30, Try.ntmps30
  go_wp2
  go_ret2
  exact RowRet.is (r' := ([(1, 1)], 2)) ⟨⟨_, _, _, rfl, Prs.made _ _ [(1, 1)] 1 _ (by simp) rfl rfl (by omega)⟩, up2 _ _ _⟩ rfl

theorem row_13 (w : World) : Calls Try.prog 30 #[.int .i64 13] w (RowRet w (rowK 13)) := by
  go_enter Try.func30, Try.ntmps30
  go_wp2
  go_ret2
  exact RowRet.is (r' := ([(2, 2)], 2)) ⟨⟨_, _, _, rfl, Prs.made _ _ [(2, 2)] 1 _ (by simp) rfl rfl (by omega)⟩, up3 _ _ _ _⟩ rfl

theorem row_14 (w : World) : Calls Try.prog 30 #[.int .i64 14] w (RowRet w (rowK 14)) := by
  go_enter Try.func30, Try.ntmps30
  go_wp2
  go_ret2
  exact RowRet.is (r' := ([(2, 2)], 2)) ⟨⟨_, _, _, rfl, Prs.made _ _ [(2, 2)] 1 _ (by simp) rfl rfl (by omega)⟩, up3 _ _ _ _⟩ rfl

theorem row_15 (w : World) : Calls Try.prog 30 #[.int .i64 15] w (RowRet w (rowK 15)) := by
  go_enter Try.func30, Try.ntmps30
  go_wp2
  go_ret2
  exact RowRet.is (r' := ([(2, -1)], 2)) ⟨⟨_, _, _, rfl, Prs.made _ _ [(2, -1)] 1 _ (by simp) rfl rfl (by omega)⟩, up3 _ _ _ _⟩ rfl

theorem row_16 (w : World) : Calls Try.prog 30 #[.int .i64 16] w (RowRet w (rowK 16)) := by
  go_enter Try.func30, Try.ntmps30
  go_wp2
  go_ret2
  exact RowRet.is (r' := ([(3, -1), (4, -1)], 1)) ⟨⟨_, _, _, rfl, Prs.made _ _ [(3, -1), (4, -1)] 2 _ (by simp) rfl rfl (by omega)⟩, up3 _ _ _ _⟩ rfl

theorem row_17 (w : World) : Calls Try.prog 30 #[.int .i64 17] w (RowRet w (rowK 17)) := by
  go_enter Try.func30, Try.ntmps30
  go_wp2
  go_ret2
  exact RowRet.is (r' := ([(4, 1)], 1)) ⟨⟨_, _, _, rfl, Prs.made _ _ [(4, 1)] 1 _ (by simp) rfl rfl (by omega)⟩, up3 _ _ _ _⟩ rfl

theorem row_18 (w : World) : Calls Try.prog 30 #[.int .i64 18] w (RowRet w (rowK 18)) := by
  go_enter Try.func30, Try.ntmps30
  go_wp2
  go_ret2
  exact RowRet.is (r' := ([(4, 1)], 4)) ⟨⟨_, _, _, rfl, Prs.made _ _ [(4, 1)] 1 _ (by simp) rfl rfl (by omega)⟩, up3 _ _ _ _⟩ rfl

theorem row_19 (w : World) : Calls Try.prog 30 #[.int .i64 19] w (RowRet w (rowK 19)) := by
  go_enter Try.func30, Try.ntmps30
  go_wp2
  go_ret2
  exact RowRet.is (r' := ([(3, 3)], 3)) ⟨⟨_, _, _, rfl, Prs.made _ _ [(3, 3)] 1 _ (by simp) rfl rfl (by omega)⟩, up3 _ _ _ _⟩ rfl

theorem row_any (k : Int) (h0 : 1 ≤ k) (h1 : k ≤ 19) (w : World) : Calls Try.prog 30 #[.int .i64 k] w (RowRet w (rowK k)) := by
  have h : k = 1 ∨ k = 2 ∨ k = 3 ∨ k = 4 ∨ k = 5 ∨ k = 6 ∨ k = 7 ∨ k = 8 ∨ k = 9 ∨ k = 10 ∨ k = 11 ∨ k = 12 ∨ k = 13 ∨ k = 14 ∨ k = 15 ∨ k = 16 ∨ k = 17 ∨ k = 18 ∨ k = 19 := by omega
  rcases h with rfl | rfl | rfl | rfl | rfl | rfl | rfl | rfl | rfl | rfl | rfl | rfl | rfl | rfl | rfl | rfl | rfl | rfl | rfl
  · exact row_1 w
  · exact row_2 w
  · exact row_3 w
  · exact row_4 w
  · exact row_5 w
  · exact row_6 w
  · exact row_7 w
  · exact row_8 w
  · exact row_9 w
  · exact row_10 w
  · exact row_11 w
  · exact row_12 w
  · exact row_13 w
  · exact row_14 w
  · exact row_15 w
  · exact row_16 w
  · exact row_17 w
  · exact row_18 w
  · exact row_19 w
end Go.Proofs.Ythbakfceaaaamaa

/- Plain: what the table says of a term's operands is what the kinds ask. -/
namespace Go.Proofs.Ythbakfceaaaamaa
open Go.RowKit

theorem kd_bounds {t : Trm} (h : soundT t = true) : 0 ≤ t.kind ∧ t.kind ≤ 19 := by
  unfold soundT at h
  simp only [Bool.and_eq_true, decide_eq_true_eq] at h
  exact ⟨h.1.1.1.1.1.1, h.1.1.1.1.1.2⟩
theorem kd_ends {t : Trm} (h : soundT t = true) : (arT t.kind = 2 ∨ t.r = -1) ∧ (1 ≤ arT t.kind ∨ t.l = -1) := by
  unfold soundT at h
  simp only [Bool.and_eq_true, Bool.or_eq_true, decide_eq_true_eq, beq_iff_eq] at h
  exact ⟨h.1.1.1.1.2, h.1.1.1.2⟩
theorem kd_leaf {k : Int} (h : arT k = 0) : k = 0 ∨ k = 1 ∨ k = 2 ∨ k = 3 ∨ k = 4 ∨ k = 5 := by
  unfold arT at h
  split at h
  · cases h
  · split at h
    · omega
    · cases h
theorem kd_one {k : Int} (h : arT k = 1) : k = 15 ∨ k = 16 := by
  unfold arT at h
  split at h
  · assumption
  · split at h <;> cases h
theorem kd_two {k : Int} (h0 : 0 ≤ k) (h19 : k ≤ 19) (h : arT k = 2) : k = 6 ∨ k = 7 ∨ k = 8 ∨ k = 9 ∨ k = 10 ∨ k = 11 ∨ k = 12 ∨ k = 13 ∨ k = 14 ∨ k = 17 ∨ k = 18 ∨ k = 19 := by
  unfold arT at h
  split at h
  · omega
  · split at h
    · omega
    · omega
theorem typedK_range (nm : Str) : ∀ env : List (Str × Int), (typedK env nm).2 = 0 → 0 ≤ (typedK env nm).1 ∧ (typedK env nm).1 ≤ 5
  | [], h => by simp [typedK] at h
  | (s, k) :: r, h => by
    rw [typedK] at h ⊢
    split
    · rename_i hs
      rw [if_pos hs] at h
      split
      · assumption
      · rename_i hk
        rw [if_neg hk] at h
        simp at h
    · rename_i hs
      rw [if_neg hs] at h
      exact typedK_range nm r h
theorem leafK_range (env : List (Str × Int)) (t : Trm) (h : (leafK env t).2 = 0) : 0 ≤ (leafK env t).1 ∧ (leafK env t).1 ≤ 5 := by
  unfold leafK at h ⊢
  by_cases h0 : t.kind = 0
  · rw [if_pos h0] at h ⊢; exact typedK_range _ _ h
  rw [if_neg h0]
  split
  · exact ⟨by decide, by decide⟩
  split
  · exact ⟨by decide, by decide⟩
  split
  · exact ⟨by decide, by decide⟩
  split
  · exact ⟨by decide, by decide⟩
  · exact ⟨by decide, by decide⟩
theorem kindE_range (env : List (Str × Int)) (e : Exp) (h : (kindE env e).2 = 0) : 0 ≤ (kindE env e).1 ∧ (kindE env e).1 ≤ 5 := by
  cases e with
  | leaf i t => exact leafK_range env t h
  | one i t a =>
    simp only [kindE] at h ⊢
    split
    · unfold oneK
      split
      · split
        · exact ⟨by decide, by decide⟩
        · exact ⟨by decide, by decide⟩
      · split
        · exact ⟨by decide, by decide⟩
        · exact ⟨by decide, by decide⟩
    · exact ⟨Int.le_refl 0, by show (0 : Int) ≤ 5; decide⟩
  | two i t a b =>
    simp only [kindE] at h ⊢
    split
    · split
      · unfold twoK
        split
        · dsimp only
          unfold resK
          split
          · exact ⟨by decide, by decide⟩
          split
          · exact ⟨by decide, by decide⟩
          split
          · exact ⟨by decide, by decide⟩
          · exact ⟨by decide, by decide⟩
        · exact ⟨by decide, by decide⟩
      · exact ⟨Int.le_refl 0, by show (0 : Int) ≤ 5; decide⟩
    · exact ⟨Int.le_refl 0, by show (0 : Int) ≤ 5; decide⟩
theorem leaf_row {k : Int} (h : k = 1 ∨ k = 2 ∨ k = 3 ∨ k = 4 ∨ k = 5) (env : List (Str × Int)) (nm : Str) (x : Int) (tx : Str) (l r : Int) :
    (rowK k).1.contains (-1, -1) = true ∧ leafK env ⟨k, nm, x, tx, l, r⟩ = ((rowK k).2, 0) := by
  rcases h with rfl | rfl | rfl | rfl | rfl <;> exact ⟨rfl, rfl⟩
theorem one_row {k : Int} (h : k = 15 ∨ k = 16) (a : Int) : oneK k a = if (rowK k).1.contains (a, -1) then ((rowK k).2, 0) else (0, 502) := by
  rcases h with rfl | rfl
  · rw [show rowK 15 = ([(2, -1)], 2) from rfl]
    unfold oneK
    rw [if_pos rfl]
    by_cases h : a = 2
    · simp [h]
    · simp [h]
  · rw [show rowK 16 = ([(3, -1), (4, -1)], 1) from rfl]
    unfold oneK
    rw [if_neg (by decide)]
    by_cases h : a = 3
    · simp [h]
    by_cases h4 : a = 4
    · simp [h4]
    · simp [h, h4]
theorem pair_one (a b x y : Int) : List.contains [(x, y)] (a, b) = (a == x && b == y) := by
  rw [List.contains_cons]
  simp
  rfl
theorem pairs_eq {a b : Int} (h0 : 0 ≤ a) (h5 : a ≤ 5) : List.contains [(0, 0), (1, 1), (2, 2), (3, 3), ((4 : Int), (4 : Int))] (a, b) = (a == b && a != 5) := by
  have ha : a = 0 ∨ a = 1 ∨ a = 2 ∨ a = 3 ∨ a = 4 ∨ a = 5 := by omega
  rcases ha with rfl | rfl | rfl | rfl | rfl | rfl
  all_goals
    by_cases hb : b = 0 ∨ b = 1 ∨ b = 2 ∨ b = 3 ∨ b = 4 ∨ b = 5
    · rcases hb with rfl | rfl | rfl | rfl | rfl | rfl <;> decide
    · rw [Bool.eq_iff_iff]
      simp <;> omega
theorem two_row {k a b : Int} (h0 : 0 ≤ k) (h19 : k ≤ 19) (h : arT k = 2) (ha0 : 0 ≤ a) (ha5 : a ≤ 5) : twoK k a b = if (rowK k).1.contains (a, b) then ((rowK k).2, 0) else (0, 502) := by
  unfold twoK
  rcases kd_two h0 h19 h with rfl | rfl | rfl | rfl | rfl | rfl | rfl | rfl | rfl | rfl | rfl | rfl
  · rw [show rowK 6 = ([(1, 1)], 1) from rfl, pair_one]; rfl
  · rw [show rowK 7 = ([(1, 1)], 1) from rfl, pair_one]; rfl
  · rw [show rowK 8 = ([(1, 1)], 1) from rfl, pair_one]; rfl
  · rw [show rowK 9 = ([(1, 1)], 1) from rfl, pair_one]; rfl
  · rw [show rowK 10 = ([(1, 1)], 1) from rfl, pair_one]; rfl
  · rw [show rowK 11 = ([(0, 0), (1, 1), (2, 2), (3, 3), (4, 4)], 2) from rfl, pairs_eq ha0 ha5]; rfl
  · rw [show rowK 12 = ([(1, 1)], 2) from rfl, pair_one]; rfl
  · rw [show rowK 13 = ([(2, 2)], 2) from rfl, pair_one]; rfl
  · rw [show rowK 14 = ([(2, 2)], 2) from rfl, pair_one]; rfl
  · rw [show rowK 17 = ([(4, 1)], 1) from rfl, pair_one]; rfl
  · rw [show rowK 18 = ([(4, 1)], 4) from rfl, pair_one]; rfl
  · rw [show rowK 19 = ([(3, 3)], 3) from rfl, pair_one]; rfl
end Go.Proofs.Ythbakfceaaaamaa
