/- The statements' terms; the examples that each of them begins with. -/
import Derived.Test.YthbakfceaaaamaaTmEvalO
namespace Go.Proofs.Ythbakfceaaaamaa
open Go.RowKit

def encTrm (t : Trm) : List Value := [.int .i64 t.kind, .string (lxS t.name), .int .i64 t.num, .string (lxS t.text), .int .i64 t.l, .int .i64 t.r]
def encTrms (L : List Trm) : List Value := L.flatMap encTrm
/-- The parts of an element in a row of many. -/
theorem flat_at {α : Type} {f : α → List Value} {m : Nat} (hf : ∀ x, (f x).length = m) : ∀ (l : List α) (j : Nat) (t : α), l[j]? = some t → ∀ i, i < m → (l.flatMap f)[j * m + i]? = (f t)[i]? := by
  intro l
  induction l with
  | nil => intro j t h; cases h
  | cons x l ih =>
    intro j t h i hi
    rw [List.flatMap_cons]
    cases j with
    | zero =>
      injection h with h
      subst h
      rw [Nat.zero_mul, Nat.zero_add, List.getElem?_append_left (by rw [hf]; exact hi)]
    | succ j =>
      have e : (j + 1) * m + i = m + (j * m + i) := by rw [Nat.add_mul]; omega
      rw [e, List.getElem?_append_right (by rw [hf]; omega), hf, Nat.add_sub_cancel_left]
      exact ih j t h i hi
theorem Trms.made (W : World) (cs : Array Value) (L : List Trm) (n g : Nat) (hg : g = W.heap.size) (hc : cs = (encTrms L).toArray) (hn : L.length = n) (hl : n ≤ 100000) (hm : ∀ t ∈ L, t.name.length ≤ maxLen ∧ t.text.length ≤ maxLen) :
    Trms (W.alloc (.cells cs 49)) (W.alloc (.cells cs 49)).heap.size (some ⟨g, 0, none⟩) n L := by
  subst hg hc
  refine ⟨hn, by omega, hm, fun _ => ⟨W.heap.size, 0, rfl, by simp, fun j t hj => ?_⟩⟩
  have hc : ∀ i, i < 6 → (W.alloc (.cells (encTrms L).toArray 49)).cell? ⟨W.heap.size, 0 + j * 6 + i, none⟩ = (encTrm t)[i]? := fun i hi => by
    rw [cell_of_row _ _ _ _ _ _ (heap_alloc_new W _), List.getElem?_toArray, Nat.zero_add]
    exact flat_at (m := 6) (fun _ => rfl) L j t hj i hi
  exact ⟨by have := hc 0 (by omega); rw [Nat.add_zero] at this; rw [this]; rfl, by rw [hc 1 (by omega)]; rfl, by rw [hc 2 (by omega)]; rfl, by rw [hc 3 (by omega)]; rfl, by rw [hc 4 (by omega)]; rfl, by rw [hc 5 (by omega)]; rfl⟩
/-- A bind as it is laid: its name, its value's parts. -/
structure BB where
  nm : ByteArray
  k : Int
  x : Int
  s : ByteArray
  a : Option Addr
  n : Nat
  c : Nat
def encBB (b : BB) : List Value := [.string b.nm, .int .i64 b.k, .int .i64 b.x, .string b.s, .slice b.a b.n b.c]
theorem Binds.made (W : World) (cs : Array Value) (bs : List BB) (env : List (Str × Val)) (n g : Nat) (hg : g = W.heap.size) (hc : cs = (bs.flatMap encBB).toArray) (hn : env.length = n) (hbn : bs.length = n) (hl : n ≤ 100000)
    (hp : ∀ (j : Nat) (b : BB) (x : Str × Val), bs[j]? = some b → env[j]? = some x → b.nm.toList = x.1 ∧ b.k = x.2.kind ∧ b.x = x.2.num ∧ b.s.toList = x.2.text ∧ Nums W W.heap.size b.a b.n x.2.list) :
    Binds (W.alloc (.cells cs 35)) (W.alloc (.cells cs 35)).heap.size (some ⟨g, 0, none⟩) n env := by
  subst hg hc
  refine ⟨hn, by omega, fun _ => ⟨W.heap.size, 0, rfl, by simp, fun j x hj => ?_⟩⟩
  have hjb : j < bs.length := by
    obtain ⟨h1, _⟩ := List.getElem?_eq_some_iff.1 hj
    omega
  obtain ⟨p0, p1, p2, p3, p4⟩ := hp j bs[j] x (List.getElem?_eq_getElem hjb) hj
  have hc : ∀ i, i < 5 → (W.alloc (.cells (bs.flatMap encBB).toArray 35)).cell? ⟨W.heap.size, 0 + j * 5 + i, none⟩ = (encBB bs[j])[i]? := fun i hi => by
    rw [cell_of_row _ _ _ _ _ _ (heap_alloc_new W _), List.getElem?_toArray, Nat.zero_add]
    exact flat_at (m := 5) (fun _ => rfl) bs j _ (List.getElem?_eq_getElem hjb) i hi
  refine ⟨bs[j].nm, bs[j].s, bs[j].a, bs[j].n, bs[j].c, ⟨?_, ?_, ?_, ?_, ?_⟩, p0, p3, (p4.alloc (Nat.le_refl _) _).more (by simp)⟩
  · have := hc 0 (by omega); rw [Nat.add_zero] at this; rw [this]; rfl
  · rw [hc 1 (by omega), ← p1]; rfl
  · rw [hc 2 (by omega), ← p2]; rfl
  · rw [hc 3 (by omega)]; rfl
  · rw [hc 4 (by omega)]; rfl

def numT (n : Int) : Trm := ⟨1, [], n, [], -1, -1⟩
def varT (s : Str) : Trm := ⟨0, s, 0, [], -1, -1⟩
def twoT (k l r : Int) : Trm := ⟨k, [], 0, [], l, r⟩
theorem sound_num (n : Int) : soundT (numT n) = true := by simp [soundT, numT, arT]
theorem sound_var {s : Str} (h : may s = true) : soundT (varT s) = true := by simp [soundT, varT, arT, h]
theorem sound_two {k : Int} (l r : Int) (h : arT k = 2) (h0 : 0 ≤ k) (h1 : k ≤ 19) : soundT (twoT k l r) = true := by
  have hk : k ≠ 0 := by
    intro e; subst e; cases h
  simp [soundT, twoT, h, h0, h1, hk]
theorem short_trms {L : List Trm} (h : L.all (fun t => decide (t.name.length ≤ 100000) && decide (t.text.length ≤ 100000)) = true) : ∀ t ∈ L, t.name.length ≤ maxLen ∧ t.text.length ≤ maxLen := fun t ht => by
  have := List.all_eq_true.1 h t ht
  simp only [Bool.and_eq_true, decide_eq_true_eq] at this
  unfold maxLen
  omega
/-- Eval of terms that were just laid. -/
theorem evalMade_any (cs : Array Value) (L : List Trm) (n : Nat) (root : Int) (ea : Option Addr) (en ec : Nat) (env : List (Str × Val)) (W : World) (bound g : Nat) (hg : g = W.heap.size) (hc : cs = (encTrms L).toArray) (hn : L.length = n) (hl : n ≤ 100000) (hm : ∀ t ∈ L, t.name.length ≤ maxLen ∧ t.text.length ≤ maxLen)
    (hb : bound ≤ W.heap.size) (hE : Binds W bound ea en env) {r : Val × Int} (hr : evalF L root env = r) :
    Calls Try.prog 13 #[.slice (some ⟨g, 0, none⟩) n n, .int .i64 root, .slice ea en ec] (W.alloc (.cells cs 49)) (PairRet W r) := by
  have hT := Trms.made W cs L n g hg hc hn hl hm
  have hba : Below W.heap.size W (W.alloc (.cells cs 49)) := (Below.refl _ W).alloc (Nat.le_refl _) _
  refine (termEval_any (some ⟨g, 0, none⟩) n n L root ea en ec env (W.alloc (.cells cs 49)) (W.alloc (.cells cs 49)).heap.size (Nat.le_refl _) hT ((hE.below (hba.mono hb)).more (by simp; omega))).mono ?_
  rintro e w' ⟨⟨s, a, n, c, rfl, hv, hf⟩, hb'⟩
  rw [hr] at hv ⊢
  exact ⟨⟨s, a, n, c, rfl, hv, hf.low (by simp)⟩, below_on hba hb'⟩
theorem mayMade_any (cs : Array Value) (L : List Trm) (n : Nat) (root : Int) (W : World) (g : Nat) (hg : g = W.heap.size) (hc : cs = (encTrms L).toArray) (hn : L.length = n) (hl : n ≤ 100000) (hm : ∀ t ∈ L, t.name.length ≤ maxLen ∧ t.text.length ≤ maxLen) {r : Bool} (hr : mayF L root = r) :
    Calls Try.prog 16 #[.slice (some ⟨g, 0, none⟩) n n, .int .i64 root] (W.alloc (.cells cs 49)) fun e w' => e = .returned (.bool r) ∧ Below W.heap.size W w' :=
  (termMay_any (some ⟨g, 0, none⟩) n n L root (W.alloc (.cells cs 49)) _ (Nat.le_refl _) (Trms.made W cs L n g hg hc hn hl hm)).mono fun e w' h => ⟨by rw [h.1, hr], below_on ((Below.refl _ W).alloc (Nat.le_refl _) _) h.2⟩
/-- Two leaves and a term over them. -/
theorem evalF_two {t0 t1 : Trm} {k : Int} (env : List (Str × Val)) (h0 : soundT t0 = true) (a0 : arT t0.kind = 0) (h1 : soundT t1 = true) (a1 : arT t1.kind = 0) (h : arT k = 2) (hk0 : 0 ≤ k) (hk1 : k ≤ 19) :
    evalF [t0, t1, twoT k 0 1] 2 env = evalE env (.two 2 (twoT k 0 1) (.leaf 0 t0) (.leaf 1 t1)) :=
  evalF_good ⟨by simp, rfl, ⟨rfl, sound_two 0 1 h hk0 hk1, h, rfl, rfl, by simp [Exp.at_], by simp [Exp.at_], ⟨rfl, h0, a0⟩, ⟨rfl, h1, a1⟩⟩, by simp [Exp.places], by simp [Exp.deep]⟩
theorem may_x : may [120] = true := by decide
theorem first_ev1 : evalF [numT 7, numT 0, twoT 9 0 1] 2 [] = (⟨0, 0, [], []⟩, 403) := by
  rw [evalF_two [] (sound_num 7) rfl (sound_num 0) rfl rfl (by omega) (by omega)]
  rfl
theorem first_ev2 : evalF [numT 7, varT [120], twoT 6 0 1] 2 [([120], intV 5)] = (⟨1, 12, [], []⟩, 0) := by
  rw [evalF_two _ (sound_num 7) rfl (sound_var may_x) rfl rfl (by omega) (by omega)]
  simp [evalE, leafV, twoT, numT, varT, holdV, mayV_int, twoV, fitsV, combV, calcV]
  simp [intV, wrap64]
theorem first_may1 : mayF [numT 1] 0 = true := by
  rw [mayF_iff]
  exact ⟨.leaf 0 (numT 1), by simp, rfl, ⟨rfl, sound_num 1, rfl⟩, by simp [Exp.places], by simp [Exp.deep]⟩
theorem first_may0 : mayF [] 0 = false := by
  unfold mayF
  simp
/-- The same where the binds were laid behind the terms. -/
theorem evalMade2_any (cs es : Array Value) (L : List Trm) (n m : Nat) (root : Int) (bs : List BB) (env : List (Str × Val)) (W : World) (g g' : Nat) (hg : g = W.heap.size) (hg' : g' = W.heap.size + 1) (hc : cs = (encTrms L).toArray) (hn : L.length = n) (hl : n ≤ 100000) (hm : ∀ t ∈ L, t.name.length ≤ maxLen ∧ t.text.length ≤ maxLen)
    (he : es = (bs.flatMap encBB).toArray) (hen : env.length = m) (hbn : bs.length = m) (hml : m ≤ 100000)
    (hp : ∀ (j : Nat) (b : BB) (x : Str × Val), bs[j]? = some b → env[j]? = some x → b.nm.toList = x.1 ∧ b.k = x.2.kind ∧ b.x = x.2.num ∧ b.s.toList = x.2.text ∧ Nums W W.heap.size b.a b.n x.2.list) {r : Val × Int} (hr : evalF L root env = r) :
    Calls Try.prog 13 #[.slice (some ⟨g, 0, none⟩) n n, .int .i64 root, .slice (some ⟨g', 0, none⟩) m m] ((W.alloc (.cells cs 49)).alloc (.cells es 35)) (PairRet W r) := by
  have hT := Trms.made W cs L n g hg hc hn hl hm
  have hba : Below W.heap.size W (W.alloc (.cells cs 49)) := (Below.refl _ W).alloc (Nat.le_refl _) _
  have hbb : Below (W.alloc (.cells cs 49)).heap.size (W.alloc (.cells cs 49)) ((W.alloc (.cells cs 49)).alloc (.cells es 35)) := (Below.refl _ _).alloc (Nat.le_refl _) _
  have hE := Binds.made (W.alloc (.cells cs 49)) es bs env m g' (by rw [World.size_alloc]; exact hg') he hen hbn hml (fun j b x h1 h2 => by
    obtain ⟨p0, p1, p2, p3, p4⟩ := hp j b x h1 h2
    exact ⟨p0, p1, p2, p3, (p4.alloc (Nat.le_refl _) _).more (by simp)⟩)
  refine (termEval_any (some ⟨g, 0, none⟩) n n L root (some ⟨g', 0, none⟩) m m env _ ((W.alloc (.cells cs 49)).alloc (.cells es 35)).heap.size (Nat.le_refl _) ((hT.below hbb).more (by simp)) hE).mono ?_
  rintro e w' ⟨⟨s, a, n, c, rfl, hv, hf⟩, hb'⟩
  rw [hr] at hv ⊢
  exact ⟨⟨s, a, n, c, rfl, hv, hf.low (by simp <;> omega)⟩, below_on (below_on hba hbb) hb'⟩

end Go.Proofs.Ythbakfceaaaamaa
