/- Plain: local types: valid arms, arms in order, the places that are reached, trims. No program stands in this text. -/
import Derived.Test.YtgefhgcpnfbigaaPlain
import Derived.Test.YtgefhgcpnfbigaaTmMems
import Derived.Test.YtgefhgcpnfbigaaRef2
namespace Go.Proofs.Ytgefhgcpnfbigaa
open Go.RowKit

structure ArmL where
  label : Str
  ck : Int
  cn : Str
  next : Int
structure TurnL where
  kind : Int
  peer : Str
  arms : List ArmL
/-- A text at its first dot. -/
def dotS : Str → Option (Str × Str)
  | [] => none
  | c :: r => if c = 46 then some ([], r) else (dotS r).map fun p => (c :: p.1, p.2)
/-- A name, or two with a dot between. -/
def typeB (s : Str) : Bool := match dotS s with
  | none => may s
  | some (a, b) => may a && may b
def carriesB (k : Int) (s : Str) : Bool := if k = 5 then typeB s else decide (0 ≤ k) && decide (k < 5) && s.isEmpty
def armB (places : Nat) (a : ArmL) : Bool := may a.label && carriesB a.ck a.cn && decide (0 ≤ a.next) && decide (a.next < (places : Int))
def armsB (places : Nat) (l : List ArmL) : Bool := l.all (armB places) && decide ((l.map ArmL.label).Nodup) && decide (1 ≤ l.length) && decide (l.length ≤ 6)
def turnB (n : Nat) (t : TurnL) : Bool := if t.kind = 0 then t.peer.isEmpty && t.arms.isEmpty else if t.kind = 1 ∨ t.kind = 2 then may t.peer && armsB n t.arms else false
def locB (ts : List TurnL) : Bool := decide (1 ≤ ts.length) && decide (ts.length ≤ 40) && ts.all (turnB ts.length)

/-- An arm in its place among arms in order: behind those that are not above it. -/
def insA (a : ArmL) : List ArmL → List ArmL
  | [] => [a]
  | b :: r => if a.label < b.label then a :: b :: r else b :: insA a r
def sortA (l : List ArmL) : List ArmL := l.foldl (fun o a => insA a o) []
theorem insA_perm (a : ArmL) : ∀ l : List ArmL, (insA a l).Perm (a :: l)
  | [] => .refl _
  | b :: r => by
    rw [insA]
    split
    · exact .refl _
    · exact ((insA_perm a r).cons b).trans (.swap a b r)
theorem foldA_perm : ∀ (l o : List ArmL), (l.foldl (fun o a => insA a o) o).Perm (o ++ l)
  | [], o => by rw [List.foldl_nil, List.append_nil]
  | a :: l, o => by
    rw [List.foldl_cons]
    refine (foldA_perm l _).trans ?_
    refine ((insA_perm a o).append_right l).trans ?_
    exact List.perm_middle.symm
theorem sortA_perm (l : List ArmL) : (sortA l).Perm l := foldA_perm l []
theorem mem_sortA {l : List ArmL} {a : ArmL} : a ∈ sortA l ↔ a ∈ l := (sortA_perm l).mem_iff
/-- In order, by labels. -/
abbrev UpA (l : List ArmL) : Prop := l.Pairwise (fun a b => a.label ≤ b.label)
theorem insA_up (a : ArmL) : ∀ l : List ArmL, UpA l → UpA (insA a l)
  | [], _ => List.pairwise_singleton _ _
  | b :: r, h => by
    obtain ⟨h1, h2⟩ := List.pairwise_cons.1 h
    rw [insA]
    split
    · rename_i hlt
      refine List.pairwise_cons.2 ⟨fun c hc => ?_, h⟩
      rcases List.mem_cons.1 hc with rfl | hc
      · exact List.le_of_lt hlt
      · exact List.le_trans (List.le_of_lt hlt) (h1 c hc)
    · rename_i hlt
      refine List.pairwise_cons.2 ⟨fun c hc => ?_, insA_up a r h2⟩
      rcases List.mem_cons.1 ((insA_perm a r).mem_iff.1 hc) with rfl | hc
      · exact List.not_lt.1 hlt
      · exact h1 c hc
theorem foldA_up : ∀ (l o : List ArmL), UpA o → UpA (l.foldl (fun o a => insA a o) o)
  | [], _, h => h
  | a :: l, o, h => foldA_up l _ (insA_up a o h)
theorem sortA_up (l : List ArmL) : UpA (sortA l) := foldA_up l [] List.Pairwise.nil
theorem labels_sort {l : List ArmL} (h : (l.map ArmL.label).Nodup) : ((sortA l).map ArmL.label).Nodup := ((sortA_perm l).map ArmL.label).nodup_iff.2 h
/-- What is in order, with labels that all differ, is the only such list of its arms. -/
theorem upA_ext : ∀ (l m : List ArmL), UpA l → UpA m → (l.map ArmL.label).Nodup → l.Perm m → l = m
  | [], m, _, _, _, h => (List.nil_perm.1 h).symm
  | a :: l, [], _, _, _, h => absurd h.length_eq (by simp)
  | a :: l, b :: m, hl, hm, hn, h => by
    obtain ⟨l1, l2⟩ := List.pairwise_cons.1 hl
    obtain ⟨m1, m2⟩ := List.pairwise_cons.1 hm
    rw [List.map_cons, List.nodup_cons] at hn
    have hab : a = b := by
      rcases List.mem_cons.1 (h.mem_iff.1 (List.mem_cons_self : a ∈ a :: l)) with e | ha
      · exact e
      · rcases List.mem_cons.1 (h.mem_iff.2 (List.mem_cons_self : b ∈ b :: m)) with e | hb
        · exact e.symm
        · have e : a.label = b.label := List.le_antisymm (l1 b hb) (m1 a ha)
          exact absurd (List.mem_map.2 ⟨b, hb, e.symm⟩) hn.1
    subst hab
    rw [upA_ext l m l2 m2 hn.2 ((List.perm_cons a).1 h)]
theorem sortA_ext {l m : List ArmL} (hn : (l.map ArmL.label).Nodup) (h : l.Perm m) : sortA l = sortA m :=
  upA_ext _ _ (sortA_up l) (sortA_up m) (labels_sort hn) ((sortA_perm l).trans (h.trans (sortA_perm m).symm))
theorem sortA_of_up {l : List ArmL} (hn : (l.map ArmL.label).Nodup) (h : UpA l) : sortA l = l := upA_ext _ _ (sortA_up l) h (labels_sort hn) (sortA_perm l)
theorem sortA_sortA {l : List ArmL} (hn : (l.map ArmL.label).Nodup) : sortA (sortA l) = sortA l := sortA_of_up (labels_sort hn) (sortA_up l)
theorem insA_map {h : ArmL → ArmL} (hl : ∀ a, (h a).label = a.label) (a : ArmL) : ∀ l : List ArmL, insA (h a) (l.map h) = (insA a l).map h
  | [] => rfl
  | b :: r => by
    rw [List.map_cons, insA, insA, hl, hl]
    split
    · rfl
    · rw [insA_map hl a r, List.map_cons]
theorem foldA_map {h : ArmL → ArmL} (hl : ∀ a, (h a).label = a.label) : ∀ (l o : List ArmL), (l.map h).foldl (fun o a => insA a o) (o.map h) = (l.foldl (fun o a => insA a o) o).map h
  | [], _ => rfl
  | a :: l, o => by rw [List.map_cons, List.foldl_cons, List.foldl_cons, insA_map hl, foldA_map hl l]
theorem sortA_map {h : ArmL → ArmL} (hl : ∀ a, (h a).label = a.label) (l : List ArmL) : sortA (l.map h) = (sortA l).map h := foldA_map hl l []

/-- Some places, and others behind them as they are first met. -/
def addN (o : List Nat) : List Nat → List Nat
  | [] => o
  | x :: r => if x ∈ o then addN o r else addN (o ++ [x]) r
theorem addN_mem (x : Nat) : ∀ (l o : List Nat), x ∈ addN o l ↔ x ∈ o ∨ x ∈ l
  | [], o => by simp [addN]
  | y :: l, o => by
    rw [addN]
    split
    · rename_i hy
      rw [addN_mem x l o, List.mem_cons]
      constructor
      · rintro (h | h)
        · exact .inl h
        · exact .inr (.inr h)
      · rintro (h | rfl | h)
        · exact .inl h
        · exact .inl hy
        · exact .inr h
    · rw [addN_mem x l _, List.mem_append, List.mem_singleton, List.mem_cons, or_assoc]
theorem addN_nodup : ∀ (l o : List Nat), o.Nodup → (addN o l).Nodup
  | [], _, h => h
  | y :: l, o, h => by
    rw [addN]
    split
    · exact addN_nodup l o h
    · rename_i hy
      refine addN_nodup l _ (List.nodup_append.2 ⟨h, by simp, ?_⟩)
      intro a ha b hb e
      rw [List.mem_singleton] at hb
      subst hb e
      exact hy ha
theorem addN_prefix : ∀ (l o : List Nat), o <+: addN o l
  | [], o => List.prefix_refl o
  | y :: l, o => by
    rw [addN]
    split
    · exact addN_prefix l o
    · exact (List.prefix_append o [y]).trans (addN_prefix l _)
theorem addN_map {f : Nat → Nat} : ∀ (l o : List Nat), (∀ x ∈ addN o l, ∀ y ∈ addN o l, f x = f y → x = y) → addN (o.map f) (l.map f) = (addN o l).map f
  | [], _, _ => rfl
  | y :: l, o, h => by
    have hm := addN_mem
    rw [List.map_cons, addN, addN]
    by_cases hy : y ∈ o
    · rw [if_pos hy, if_pos (List.mem_map.2 ⟨y, hy, rfl⟩)]
      rw [addN, if_pos hy] at h
      exact addN_map l o h
    · have hn : ¬ f y ∈ o.map f := by
        intro hc
        obtain ⟨z, hz, e⟩ := List.mem_map.1 hc
        have := h z ((hm z _ _).2 (.inl hz)) y ((hm y _ _).2 (.inr (by simp))) e
        exact hy (this ▸ hz)
      rw [if_neg hy, if_neg hn]
      rw [addN, if_neg hy] at h
      have := addN_map l (o ++ [y]) h
      rw [List.map_append] at this
      exact this

/-- Breadth first: the places behind the i-th, one after the other. -/
def bfs (g : Nat → List Nat) : Nat → Nat → List Nat → List Nat
  | 0, _, out => out
  | fuel + 1, i, out => match out[i]? with
    | none => out
    | some p => bfs g fuel (i + 1) (addN out (g p))
theorem bfs_none {g : Nat → List Nat} (fuel : Nat) {i : Nat} {out : List Nat} (h : out.length ≤ i) : bfs g fuel i out = out := by
  cases fuel with
  | zero => rfl
  | succ n => rw [bfs, List.getElem?_eq_none h]
theorem bfs_some {g : Nat → List Nat} (fuel : Nat) {i p : Nat} {out : List Nat} (h : out[i]? = some p) : bfs g (fuel + 1) i out = bfs g fuel (i + 1) (addN out (g p)) := by rw [bfs, h]
theorem bfs_prefix (g : Nat → List Nat) : ∀ (fuel i : Nat) (out : List Nat), out <+: bfs g fuel i out
  | 0, _, out => List.prefix_refl out
  | fuel + 1, i, out => by
    rcases h : out[i]? with _ | p
    · rw [bfs, h]; exact List.prefix_refl out
    · rw [bfs_some fuel h]; exact (addN_prefix _ _).trans (bfs_prefix g fuel (i + 1) _)
theorem bfs_sub {g : Nat → List Nat} {fuel i : Nat} {out : List Nat} {x : Nat} (h : x ∈ out) : x ∈ bfs g fuel i out := (bfs_prefix g fuel i out).subset h
theorem bfs_nodup (g : Nat → List Nat) : ∀ (fuel i : Nat) (out : List Nat), out.Nodup → (bfs g fuel i out).Nodup
  | 0, _, _, h => h
  | fuel + 1, i, out, h => by
    rcases hi : out[i]? with _ | p
    · rw [bfs, hi]; exact h
    · rw [bfs_some fuel hi]; exact bfs_nodup g fuel (i + 1) _ (addN_nodup _ _ h)
theorem bfs_lt {g : Nat → List Nat} {n : Nat} (hg : ∀ p < n, ∀ x ∈ g p, x < n) : ∀ (fuel i : Nat) (out : List Nat), (∀ x ∈ out, x < n) → ∀ x ∈ bfs g fuel i out, x < n
  | 0, _, _, h => h
  | fuel + 1, i, out, h => by
    rcases hi : out[i]? with _ | p
    · rw [bfs, hi]; exact h
    · rw [bfs_some fuel hi]
      refine bfs_lt hg fuel (i + 1) _ fun x hx => ?_
      rcases (addN_mem x _ _).1 hx with hx | hx
      · exact h x hx
      · exact hg p (h p (List.mem_of_getElem? hi)) x hx
theorem few_sub : ∀ (l m : List Nat), l.Nodup → (∀ x ∈ l, x ∈ m) → l.length ≤ m.length
  | [], _, _, _ => Nat.zero_le _
  | x :: l, m, hn, hs => by
    have hn' := List.nodup_cons.1 hn
    have hx := hs x (by simp)
    have := few_sub l (m.erase x) hn'.2 (fun y hy => (List.mem_erase_of_ne (fun e : y = x => hn'.1 (by rw [← e]; exact hy))).2 (hs y (by simp [hy])))
    rw [List.length_erase_of_mem hx] at this
    have := List.length_pos_of_mem hx
    simp only [List.length_cons]
    omega
theorem nodup_few {l : List Nat} {n : Nat} (hn : l.Nodup) (h : ∀ x ∈ l, x < n) : l.length ≤ n := by
  have := few_sub l (List.range n) hn (fun x hx => List.mem_range.2 (h x hx))
  rwa [List.length_range] at this
/-- With rounds enough, more of them change nothing. -/
theorem bfs_fuel {g : Nat → List Nat} {n : Nat} (hg : ∀ p < n, ∀ x ∈ g p, x < n) : ∀ (fuel i : Nat) (out : List Nat), out.Nodup → (∀ x ∈ out, x < n) → n ≤ i + fuel → ∀ k, bfs g (fuel + k) i out = bfs g fuel i out
  | 0, i, out, hn, h, hf, k => by
    have := nodup_few hn h
    rw [bfs_none _ (by omega), bfs_none _ (by omega)]
  | fuel + 1, i, out, hn, h, hf, k => by
    rcases hi : out[i]? with _ | p
    · have hl : out.length ≤ i := by
        rcases Nat.lt_or_ge i out.length with h1 | h1
        · rw [List.getElem?_eq_getElem h1] at hi; cases hi
        · exact h1
      rw [bfs_none _ hl, bfs_none _ hl]
    · rw [show fuel + 1 + k = fuel + k + 1 by omega, bfs_some _ hi, bfs_some _ hi]
      refine bfs_fuel hg fuel (i + 1) _ (addN_nodup _ _ hn) (fun x hx => ?_) (by omega) k
      rcases (addN_mem x _ _).1 hx with hx | hx
      · exact h x hx
      · exact hg p (h p (List.mem_of_getElem? hi)) x hx
/-- All that is met from a place that was met was met. -/
theorem bfs_closed {g : Nat → List Nat} {n : Nat} (hg : ∀ p < n, ∀ x ∈ g p, x < n) : ∀ (fuel i : Nat) (out : List Nat), out.Nodup → (∀ x ∈ out, x < n) → n ≤ i + fuel → (∀ j < i, ∀ p, out[j]? = some p → ∀ x ∈ g p, x ∈ out) →
    ∀ p ∈ bfs g fuel i out, ∀ x ∈ g p, x ∈ bfs g fuel i out
  | 0, i, out, hn, h, hf, hc => by
    intro p hp x hx
    rw [bfs] at hp ⊢
    obtain ⟨j, hj, e⟩ := List.mem_iff_getElem.1 hp
    have := nodup_few hn h
    exact hc j (by omega) p (by rw [List.getElem?_eq_getElem hj, e]) x hx
  | fuel + 1, i, out, hn, h, hf, hc => by
    rcases hi : out[i]? with _ | p
    · have hl : out.length ≤ i := by
        rcases Nat.lt_or_ge i out.length with h1 | h1
        · rw [List.getElem?_eq_getElem h1] at hi; cases hi
        · exact h1
      rw [bfs_none _ hl]
      intro p hp x hx
      obtain ⟨j, hj, e⟩ := List.mem_iff_getElem.1 hp
      exact hc j (by omega) p (by rw [List.getElem?_eq_getElem hj, e]) x hx
    · rw [bfs_some _ hi]
      refine bfs_closed hg fuel (i + 1) _ (addN_nodup _ _ hn) (fun x hx => ?_) (by omega) (fun j hj q hq x hx => ?_)
      · rcases (addN_mem x _ _).1 hx with hx | hx
        · exact h x hx
        · exact hg p (h p (List.mem_of_getElem? hi)) x hx
      · have hil : i < out.length := (List.getElem?_eq_some_iff.1 hi).1
        have hq' : out[j]? = some q := by
          obtain ⟨t, ht⟩ := addN_prefix (g p) out
          rw [← ht, List.getElem?_append_left (by omega)] at hq
          exact hq
        rcases Nat.lt_or_ge j i with hji | hji
        · exact (addN_mem x _ _).2 (.inl (hc j hji q hq' x hx))
        · obtain rfl : j = i := by omega
          rw [hi] at hq'
          obtain rfl := Option.some.inj hq'
          exact (addN_mem x _ _).2 (.inr hx)
theorem bfs_map {g g' : Nat → List Nat} {f : Nat → Nat} : ∀ (fuel i : Nat) (out : List Nat),
    (∀ x ∈ bfs g fuel i out, ∀ y ∈ bfs g fuel i out, f x = f y → x = y) → (∀ p ∈ bfs g fuel i out, g' (f p) = (g p).map f) → bfs g' fuel i (out.map f) = (bfs g fuel i out).map f
  | 0, _, _, _, _ => rfl
  | fuel + 1, i, out, hf, hg => by
    rcases hi : out[i]? with _ | p
    · rw [bfs, List.getElem?_map, hi]
      rw [bfs, hi]
      rfl
    · rw [bfs_some fuel hi] at hf hg ⊢
      have hp : p ∈ bfs g fuel (i + 1) (addN out (g p)) := bfs_sub ((addN_mem p _ _).2 (.inl (List.mem_of_getElem? hi)))
      rw [bfs_some fuel (by rw [List.getElem?_map, hi]; rfl), hg p hp, addN_map _ _ (fun x hx y hy => hf x (bfs_sub hx) y (bfs_sub hy))]
      exact bfs_map fuel (i + 1) _ hf hg

def armsOf (ts : List TurnL) (p : Nat) : List ArmL := (ts[p]?.map TurnL.arms).getD []
def nextsOf (ts : List TurnL) (p : Nat) : List Nat := (sortA (armsOf ts p)).map fun a => a.next.toNat
def reachT (ts : List TurnL) : List Nat := bfs (nextsOf ts) ts.length 0 [0]
def toA (a : ArmL) (n : Nat) : ArmL := ⟨a.label, a.ck, a.cn, (n : Int)⟩
def movedA (row : List Nat) (l : List ArmL) : List ArmL := (sortA l).map fun a => toA a (row.idxOf a.next.toNat)
def turnOf (ts : List TurnL) (p : Nat) : TurnL := (ts[p]?).getD ⟨0, [], []⟩
def trimT (ts : List TurnL) : List TurnL := (reachT ts).map fun p => ⟨(turnOf ts p).kind, (turnOf ts p).peer, movedA (reachT ts) (turnOf ts p).arms⟩
theorem locB_one {ts : List TurnL} (h : locB ts = true) : 1 ≤ ts.length ∧ ts.length ≤ 40 ∧ ∀ t ∈ ts, turnB ts.length t = true := by
  unfold locB at h
  simp only [Bool.and_eq_true, decide_eq_true_eq, List.all_eq_true] at h
  exact ⟨h.1.1, h.1.2, h.2⟩
theorem armsB_all {n : Nat} {l : List ArmL} (h : armsB n l = true) : (∀ a ∈ l, armB n a = true) ∧ (l.map ArmL.label).Nodup ∧ 1 ≤ l.length ∧ l.length ≤ 6 := by
  unfold armsB at h
  simp only [Bool.and_eq_true, decide_eq_true_eq, List.all_eq_true] at h
  exact ⟨h.1.1.1, h.1.1.2, h.1.2, h.2⟩
theorem armB_all {n : Nat} {a : ArmL} (h : armB n a = true) : may a.label = true ∧ carriesB a.ck a.cn = true ∧ 0 ≤ a.next ∧ a.next < (n : Int) := by
  unfold armB at h
  simp only [Bool.and_eq_true, decide_eq_true_eq] at h
  exact ⟨h.1.1.1, h.1.1.2, h.1.2, h.2⟩
/-- The arms of a valid turn: none at an end, valid ones else. -/
theorem turnB_arms {n : Nat} {t : TurnL} (h : turnB n t = true) : (t.kind = 0 ∧ t.peer = [] ∧ t.arms = []) ∨ ((t.kind = 1 ∨ t.kind = 2) ∧ may t.peer = true ∧ armsB n t.arms = true) := by
  unfold turnB at h
  split at h
  · rename_i hk
    simp only [Bool.and_eq_true, List.isEmpty_iff] at h
    exact .inl ⟨hk, h.1, h.2⟩
  · split at h
    · rename_i hk
      simp only [Bool.and_eq_true] at h
      exact .inr ⟨hk, h.1, h.2⟩
    · cases h
theorem turn_ok {n : Nat} {t : TurnL} (h : turnB n t = true) : (∀ a ∈ t.arms, armB n a = true) ∧ (t.arms.map ArmL.label).Nodup := by
  rcases turnB_arms h with ⟨_, _, e⟩ | ⟨_, _, e⟩
  · rw [e]; exact ⟨by simp, by simp⟩
  · exact ⟨(armsB_all e).1, (armsB_all e).2.1⟩
theorem arms_ok {ts : List TurnL} (h : locB ts = true) (p : Nat) : (∀ a ∈ armsOf ts p, armB ts.length a = true) ∧ ((armsOf ts p).map ArmL.label).Nodup := by
  unfold armsOf
  rcases hp : ts[p]? with _ | t
  · simp
  · exact turn_ok ((locB_one h).2.2 t (List.mem_of_getElem? hp))
theorem nexts_lt {ts : List TurnL} (h : locB ts = true) : ∀ p < ts.length, ∀ x ∈ nextsOf ts p, x < ts.length := by
  intro p _ x hx
  obtain ⟨a, ha, rfl⟩ := List.mem_map.1 hx
  have := (armB_all ((arms_ok h p).1 a (mem_sortA.1 ha))).2.2
  omega
theorem reach_lt {ts : List TurnL} (h : locB ts = true) : ∀ x ∈ reachT ts, x < ts.length :=
  bfs_lt (nexts_lt h) _ _ _ (by simp; have := (locB_one h).1; omega)
theorem reach_nodup (ts : List TurnL) : (reachT ts).Nodup := bfs_nodup _ _ _ _ (by simp)
theorem reach_zero (ts : List TurnL) : ∃ r, reachT ts = 0 :: r := by
  obtain ⟨t, ht⟩ := bfs_prefix (nextsOf ts) ts.length 0 [0]
  exact ⟨t, ht.symm⟩
theorem reach_closed {ts : List TurnL} (h : locB ts = true) : ∀ p ∈ reachT ts, ∀ a ∈ armsOf ts p, a.next.toNat ∈ reachT ts := by
  intro p hp a ha
  exact bfs_closed (nexts_lt h) _ _ _ (by simp) (by simp; have := (locB_one h).1; omega) (by omega) (by simp) p hp _ (List.mem_map.2 ⟨a, mem_sortA.2 ha, rfl⟩)
theorem reach_few {ts : List TurnL} (h : locB ts = true) : (reachT ts).length ≤ ts.length := nodup_few (reach_nodup ts) (reach_lt h)
/-- us has, where f leads, what ts has where one comes. -/
structure Sims (ts us : List TurnL) (f : Nat → Nat) : Prop where
  zero : f 0 = 0
  inj : ∀ p ∈ reachT ts, ∀ q ∈ reachT ts, f p = f q → p = q
  turn : ∀ p ∈ reachT ts, ∀ t, ts[p]? = some t → ∃ l, us[f p]? = some ⟨t.kind, t.peer, l⟩ ∧ sortA l = (sortA t.arms).map fun a => toA a (f a.next.toNat)
theorem Sims.nexts {ts us : List TurnL} {f : Nat → Nat} (s : Sims ts us f) (h : locB ts = true) : ∀ p ∈ reachT ts, nextsOf us (f p) = (nextsOf ts p).map f := by
  intro p hp
  have hlt := reach_lt h p hp
  obtain ⟨l, h1, h2⟩ := s.turn p hp _ (List.getElem?_eq_getElem hlt)
  unfold nextsOf armsOf
  rw [h1, List.getElem?_eq_getElem hlt]
  simp only [Option.map_some, Option.getD_some]
  rw [h2, List.map_map, List.map_map]
  rfl
theorem Sims.reach {ts us : List TurnL} {f : Nat → Nat} (s : Sims ts us f) (h : locB ts = true) (h' : locB us = true) : reachT us = (reachT ts).map f := by
  have hm : bfs (nextsOf us) ts.length 0 [0] = (reachT ts).map f := by
    have := bfs_map (g := nextsOf ts) (g' := nextsOf us) (f := f) ts.length 0 [0] s.inj (s.nexts h)
    rw [List.map_cons, s.zero] at this
    exact this
  have e : ∀ k, bfs (nextsOf us) (us.length + k) 0 [0] = bfs (nextsOf us) us.length 0 [0] := bfs_fuel (nexts_lt h') us.length 0 [0] (by simp) (by simp; have := (locB_one h').1; omega) (by omega)
  have hn : ((reachT ts).map f).Nodup := by rw [← hm]; exact bfs_nodup _ _ _ _ (by simp)
  unfold reachT at hm ⊢
  rw [← hm]
  rcases Nat.le_total us.length ts.length with hle | hle
  · have := e (ts.length - us.length)
    rw [show us.length + (ts.length - us.length) = ts.length by omega] at this
    exact this.symm
  · have hc : ∀ k, bfs (nextsOf us) (ts.length + k) 0 [0] = (reachT ts).map f := fun k => by
      have e2 := bfs_fuel (nexts_lt h) ts.length 0 [0] (by simp) (by simp; have := (locB_one h).1; omega) (by omega) k
      have := bfs_map (g := nextsOf ts) (g' := nextsOf us) (f := f) (ts.length + k) 0 [0] (by rw [e2]; exact s.inj) (by rw [e2]; exact s.nexts h)
      rw [List.map_cons, s.zero, e2] at this
      exact this
    have := hc (us.length - ts.length)
    rw [show ts.length + (us.length - ts.length) = us.length by omega] at this
    rw [this, hm]
    rfl
theorem idx_map {f : Nat → Nat} : ∀ (l : List Nat) (x : Nat), x ∈ l → (∀ p ∈ l, ∀ q ∈ l, f p = f q → p = q) → (l.map f).idxOf (f x) = l.idxOf x
  | [], _, h, _ => by cases h
  | y :: l, x, h, hi => by
    rw [List.map_cons, List.idxOf_cons, List.idxOf_cons]
    by_cases e : y = x
    · subst e; simp
    · have e2 : f y ≠ f x := fun k => e (hi y (by simp) x h k)
      have hx : x ∈ l := by
        rcases List.mem_cons.1 h with k | k
        · exact absurd k.symm e
        · exact k
      rw [beq_eq_false_iff_ne.2 e, beq_eq_false_iff_ne.2 e2, cond_false, cond_false, idx_map l x hx (fun p hp q hq => hi p (by simp [hp]) q (by simp [hq]))]
theorem Sims.trim {ts us : List TurnL} {f : Nat → Nat} (s : Sims ts us f) (h : locB ts = true) (h' : locB us = true) : trimT us = trimT ts := by
  unfold trimT
  rw [s.reach h h', List.map_map]
  refine List.map_congr_left fun p hp => ?_
  have hlt := reach_lt h p hp
  obtain ⟨l, h1, h2⟩ := s.turn p hp _ (List.getElem?_eq_getElem hlt)
  have e1 : turnOf us (f p) = ⟨ts[p].kind, ts[p].peer, l⟩ := by unfold turnOf; rw [h1]; rfl
  have e2 : turnOf ts p = ts[p] := by unfold turnOf; rw [List.getElem?_eq_getElem hlt]; rfl
  show TurnL.mk (turnOf us (f p)).kind _ _ = _
  rw [e1, e2]
  dsimp only
  congr 1
  unfold movedA
  rw [h2, List.map_map]
  refine List.map_congr_left fun a ha => ?_
  have hn : a.next.toNat ∈ reachT ts := reach_closed h p hp a (by unfold armsOf; rw [List.getElem?_eq_getElem hlt]; exact mem_sortA.1 ha)
  show toA (toA a (f a.next.toNat)) _ = _
  unfold toA
  simp only [Int.toNat_natCast]
  rw [idx_map _ _ hn s.inj]
end Go.Proofs.Ytgefhgcpnfbigaa

/- Plain: what follows for local types: a trim is valid, its own trim, and walks as the type does. No program stands in this text. -/
namespace Go.Proofs.Ytgefhgcpnfbigaa
open Go.RowKit

theorem moved_labels (row : List Nat) (l : List ArmL) : (movedA row l).map ArmL.label = (sortA l).map ArmL.label := by
  unfold movedA
  rw [List.map_map]
  rfl
theorem moved_len (row : List Nat) (l : List ArmL) : (movedA row l).length = l.length := by
  unfold movedA
  rw [List.length_map, (sortA_perm l).length_eq]
theorem moved_up (row : List Nat) (l : List ArmL) : UpA (movedA row l) := by
  unfold movedA UpA
  rw [List.pairwise_map]
  exact sortA_up l
theorem moved_sort {row : List Nat} {l : List ArmL} (hn : (l.map ArmL.label).Nodup) : sortA (movedA row l) = movedA row l :=
  sortA_of_up (by rw [moved_labels]; exact labels_sort hn) (moved_up row l)
theorem turnOf_lt {ts : List TurnL} {p : Nat} (h : p < ts.length) : turnOf ts p = ts[p] := by unfold turnOf; rw [List.getElem?_eq_getElem h]; rfl
theorem armsOf_lt {ts : List TurnL} {p : Nat} (h : p < ts.length) : armsOf ts p = ts[p].arms := by unfold armsOf; rw [List.getElem?_eq_getElem h]; rfl
theorem trim_len (ts : List TurnL) : (trimT ts).length = (reachT ts).length := by unfold trimT; rw [List.length_map]
theorem trim_valid {ts : List TurnL} (h : locB ts = true) : locB (trimT ts) = true := by
  obtain ⟨h1, h40, hall⟩ := locB_one h
  obtain ⟨r, hr⟩ := reach_zero ts
  have hle := reach_few h
  unfold locB
  rw [trim_len]
  simp only [Bool.and_eq_true, decide_eq_true_eq, List.all_eq_true]
  refine ⟨⟨by rw [hr]; simp, by omega⟩, fun t ht => ?_⟩
  unfold trimT at ht
  obtain ⟨p, hp, rfl⟩ := List.mem_map.1 ht
  have hlt := reach_lt h p hp
  have hv := hall _ (List.getElem_mem hlt)
  rw [turnOf_lt hlt]
  rcases turnB_arms hv with ⟨e1, e2, e3⟩ | ⟨e1, e2, e3⟩
  · unfold turnB
    rw [if_pos e1, e2, e3]
    rfl
  · obtain ⟨a1, a2, a3, a4⟩ := armsB_all e3
    unfold turnB
    rw [if_neg (by dsimp only; omega), if_pos e1]
    simp only [Bool.and_eq_true]
    refine ⟨e2, ?_⟩
    unfold armsB
    simp only [Bool.and_eq_true, decide_eq_true_eq, List.all_eq_true]
    refine ⟨⟨⟨fun b hb => ?_, by rw [moved_labels]; exact labels_sort a2⟩, by rw [moved_len]; exact a3⟩, by rw [moved_len]; exact a4⟩
    unfold movedA at hb
    obtain ⟨a, ha, rfl⟩ := List.mem_map.1 hb
    have ha' := mem_sortA.1 ha
    obtain ⟨b1, b2, b3, b4⟩ := armB_all (a1 a ha')
    have hn := reach_closed h p hp a (by rw [armsOf_lt hlt]; exact ha')
    have := List.idxOf_lt_length_of_mem hn
    unfold armB toA
    simp only [Bool.and_eq_true, decide_eq_true_eq]
    exact ⟨⟨⟨b1, b2⟩, by omega⟩, by omega⟩
theorem idx_back {l : List Nat} {x : Nat} (h : x ∈ l) : l[l.idxOf x]? = some x := by
  have hl := List.idxOf_lt_length_of_mem h
  rw [List.getElem?_eq_getElem hl, List.getElem_idxOf hl]
theorem trim_sims {ts : List TurnL} (h : locB ts = true) : Sims ts (trimT ts) (fun p => (reachT ts).idxOf p) where
  zero := by
    obtain ⟨r, hr⟩ := reach_zero ts
    rw [hr]
    simp
  inj := fun p hp q hq e => by
    have h1 := idx_back hp
    have h2 := idx_back hq
    rw [e, h2] at h1
    exact (Option.some.inj h1).symm
  turn := fun p hp t ht => by
    have hlt := reach_lt h p hp
    rw [List.getElem?_eq_getElem hlt] at ht
    obtain rfl := Option.some.inj ht
    refine ⟨movedA (reachT ts) ts[p].arms, ?_, ?_⟩
    · show (trimT ts)[(reachT ts).idxOf p]? = _
      unfold trimT
      rw [List.getElem?_map, idx_back hp, Option.map_some, turnOf_lt hlt]
    · have hn := (arms_ok h p).2
      rw [armsOf_lt hlt] at hn
      rw [moved_sort hn]
      rfl
theorem reach_trim {ts : List TurnL} (h : locB ts = true) : reachT (trimT ts) = List.range (reachT ts).length := by
  rw [(trim_sims h).reach h (trim_valid h)]
  refine List.ext_getElem? fun i => ?_
  rw [List.getElem?_map]
  rcases Nat.lt_or_ge i (reachT ts).length with hi | hi
  · rw [List.getElem?_eq_getElem hi, List.getElem?_range hi, Option.map_some, (reach_nodup ts).idxOf_getElem]
  · rw [List.getElem?_eq_none hi, List.getElem?_eq_none (by rw [List.length_range]; exact hi)]; rfl
theorem trim_trim {ts : List TurnL} (h : locB ts = true) : trimT (trimT ts) = trimT ts := (trim_sims h).trim h (trim_valid h)
theorem trim_zero {ts : List TurnL} : (trimT ts)[0]?.map (fun t => (t.kind, t.peer)) = some ((turnOf ts 0).kind, (turnOf ts 0).peer) := by
  obtain ⟨r, hr⟩ := reach_zero ts
  unfold trimT
  rw [List.getElem?_map, hr]
  rfl

/-- The arm of a label. -/
def findA (l : List ArmL) (s : Str) : Option ArmL := l.find? fun a => a.label == s
theorem findA_some {l : List ArmL} {s : Str} {a : ArmL} (hn : (l.map ArmL.label).Nodup) : findA l s = some a ↔ a ∈ l ∧ a.label = s := by
  induction l with
  | nil => simp [findA]
  | cons b l ih =>
    rw [List.map_cons, List.nodup_cons] at hn
    unfold findA at ih ⊢
    rw [List.find?_cons]
    by_cases hb : b.label = s
    · rw [beq_iff_eq.2 hb]
      constructor
      · intro e
        obtain rfl := Option.some.inj e
        exact ⟨by simp, hb⟩
      · rintro ⟨h1, h2⟩
        rcases List.mem_cons.1 h1 with rfl | h1
        · rfl
        · exact absurd (List.mem_map.2 ⟨a, h1, h2.trans hb.symm⟩) hn.1
    · rw [beq_eq_false_iff_ne.2 hb]
      show l.find? _ = _ ↔ _
      rw [ih hn.2, List.mem_cons]
      constructor
      · rintro ⟨h1, h2⟩; exact ⟨.inr h1, h2⟩
      · rintro ⟨rfl | h1, h2⟩
        · exact absurd h2 hb
        · exact ⟨h1, h2⟩
theorem findA_perm {l m : List ArmL} (hn : (l.map ArmL.label).Nodup) (h : l.Perm m) (s : Str) : findA l s = findA m s := by
  have hn' : (m.map ArmL.label).Nodup := (h.map ArmL.label).nodup_iff.1 hn
  refine Option.ext fun a => ?_
  rw [findA_some hn, findA_some hn', h.mem_iff]
theorem findA_map {f : ArmL → ArmL} (hl : ∀ a, (f a).label = a.label) (s : Str) : ∀ l : List ArmL, findA (l.map f) s = (findA l s).map f
  | [] => rfl
  | a :: l => by
    have ih := findA_map hl s l
    unfold findA at ih ⊢
    rw [List.map_cons, List.find?_cons, List.find?_cons, hl]
    cases a.label == s
    · exact ih
    · rfl
/-- Where labels lead from a place. -/
def walkT (ts : List TurnL) : Nat → List Str → Option Nat
  | p, [] => some p
  | p, s :: r => match findA (armsOf ts p) s with
    | none => none
    | some a => walkT ts a.next.toNat r
theorem walk_in {ts : List TurnL} (h : locB ts = true) : ∀ (ls : List Str) (p q : Nat), p ∈ reachT ts → walkT ts p ls = some q → q ∈ reachT ts
  | [], p, q, hp, e => by
    obtain rfl := Option.some.inj e
    exact hp
  | s :: r, p, q, hp, e => by
    rw [walkT] at e
    rcases hf : findA (armsOf ts p) s with _ | a
    · rw [hf] at e; cases e
    · rw [hf] at e
      have ha := ((findA_some (arms_ok h p).2).1 hf).1
      exact walk_in h r _ q (reach_closed h p hp a ha) e
theorem Sims.walk {ts us : List TurnL} {f : Nat → Nat} (s : Sims ts us f) (h : locB ts = true) (h' : locB us = true) : ∀ (ls : List Str) (p : Nat), p ∈ reachT ts → walkT us (f p) ls = (walkT ts p ls).map f
  | [], _, _ => rfl
  | x :: r, p, hp => by
    have hlt := reach_lt h p hp
    obtain ⟨l, h1, h2⟩ := s.turn p hp _ (List.getElem?_eq_getElem hlt)
    have hn := (arms_ok h p).2
    have hn' := (arms_ok h' (f p)).2
    have e1 : armsOf us (f p) = l := by unfold armsOf; rw [h1]; rfl
    have e2 : armsOf ts p = ts[p].arms := armsOf_lt hlt
    rw [e1] at hn'
    rw [e2] at hn
    rw [walkT, walkT, e1, e2]
    have hf : findA l x = (findA ts[p].arms x).map fun a => toA a (f a.next.toNat) := by
      rw [findA_perm hn' (sortA_perm l).symm, h2, findA_map (f := fun a => toA a (f a.next.toNat)) (fun a => rfl), ← findA_perm hn (sortA_perm _).symm]
    rw [hf]
    rcases hg : findA ts[p].arms x with _ | a
    · rfl
    · have ha := ((findA_some hn).1 hg).1
      have hr := reach_closed h p hp a (by rw [e2]; exact ha)
      have := Sims.walk s h h' r a.next.toNat hr
      show walkT us (toA a (f a.next.toNat)).next.toNat r = _
      unfold toA
      simp only [Int.toNat_natCast]
      exact this
theorem walk_trim {ts : List TurnL} (h : locB ts = true) (ls : List Str) : walkT (trimT ts) 0 ls = (walkT ts 0 ls).map fun p => (reachT ts).idxOf p := by
  obtain ⟨r, hr⟩ := reach_zero ts
  have h0 : (0 : Nat) ∈ reachT ts := by rw [hr]; simp
  have := (trim_sims h).walk h (trim_valid h) ls 0 h0
  rwa [(trim_sims h).zero] at this
end Go.Proofs.Ytgefhgcpnfbigaa

/- Arms and turns in memory. -/
namespace Go.Proofs.Ytgefhgcpnfbigaa
open Go.RowKit

/-- The slice with this address and length, however long, reads as these arms; all that is read lies in a block below bound. -/
def Arms (w : World) (bound : Nat) (a : Option Addr) (n : Nat) (l : List ArmL) : Prop :=
  l.length = n ∧ n ≤ 9223372036854775807 ∧ (0 < n → ∃ b off, a = some ⟨b, off, none⟩ ∧ b < bound ∧ ∀ (j : Nat) (x : ArmL), l[j]? = some x → ∃ s u : ByteArray,
    (w.cell? ⟨b, off + j * 4, none⟩ = some (.string s) ∧ w.cell? ⟨b, off + j * 4 + 1, none⟩ = some (.int .i64 x.ck) ∧ w.cell? ⟨b, off + j * 4 + 2, none⟩ = some (.string u) ∧ w.cell? ⟨b, off + j * 4 + 3, none⟩ = some (.int .i64 x.next)) ∧
    (s.toList = x.label ∧ u.toList = x.cn ∧ s.size ≤ maxLen ∧ u.size ≤ maxLen))
/-- The slice with this address and length, however long, reads as these turns. -/
def Turns (w : World) (bound : Nat) (a : Option Addr) (n : Nat) (ts : List TurnL) : Prop :=
  ts.length = n ∧ n ≤ 9223372036854775807 ∧ (0 < n → ∃ b off, a = some ⟨b, off, none⟩ ∧ b < bound ∧ ∀ (j : Nat) (x : TurnL), ts[j]? = some x → ∃ (s : ByteArray) (aa : Option Addr) (an ac : Nat),
    (w.cell? ⟨b, off + j * 3, none⟩ = some (.int .i64 x.kind) ∧ w.cell? ⟨b, off + j * 3 + 1, none⟩ = some (.string s) ∧ w.cell? ⟨b, off + j * 3 + 2, none⟩ = some (.slice aa an ac)) ∧
    (s.toList = x.peer ∧ s.size ≤ maxLen ∧ Arms w bound aa an x.arms))
section
variable {w w' : World} {bound bound' : Nat} {a : Option Addr} {n : Nat} {l : List ArmL} {ts : List TurnL}
theorem Arms.keep (h : Arms w bound a n l) (hk : ∀ p : Addr, p.block < bound → w'.cell? p = w.cell? p) : Arms w' bound a n l :=
  ⟨h.1, h.2.1, fun hn => by
    obtain ⟨b, off, e, hb, hc⟩ := h.2.2 hn
    refine ⟨b, off, e, hb, fun j x hj => ?_⟩
    obtain ⟨s, u, ⟨c0, c1, c2, c3⟩, h1⟩ := hc j x hj
    exact ⟨s, u, ⟨(hk _ hb).trans c0, (hk _ hb).trans c1, (hk _ hb).trans c2, (hk _ hb).trans c3⟩, h1⟩⟩
theorem Arms.below (h : Arms w bound a n l) (hb : Below bound w w') : Arms w' bound a n l := h.keep fun _ hp => hb.cell hp
theorem Arms.more (h : Arms w bound a n l) (hb : bound ≤ bound') : Arms w bound' a n l :=
  ⟨h.1, h.2.1, fun hn => by
    obtain ⟨b, off, e, hlt, hc⟩ := h.2.2 hn
    exact ⟨b, off, e, by omega, hc⟩⟩
theorem Arms.zero (w : World) (bound : Nat) (a : Option Addr) : Arms w bound a 0 [] := ⟨rfl, by omega, fun h => absurd h (Nat.lt_irrefl 0)⟩
theorem Arms.on {W W' : World} {a : Option Addr} {n : Nat} {l : List ArmL} (h : Arms W W.heap.size a n l) (hb : Below W.heap.size W W') : Arms W' W'.heap.size a n l := (h.below hb).more hb.size
theorem Arms.at_ (h : Arms w bound a n l) {k : Nat} (hk : k < n) : ∃ (b off : Nat) (s u : ByteArray) (ck nx : Int), a = some ⟨b, off, none⟩ ∧ b < bound ∧ l[k]? = some ⟨s.toList, ck, u.toList, nx⟩ ∧
    (w.cell? ⟨b, off + k * 4, none⟩ = some (.string s) ∧ w.cell? ⟨b, off + k * 4 + 1, none⟩ = some (.int .i64 ck) ∧ w.cell? ⟨b, off + k * 4 + 2, none⟩ = some (.string u) ∧ w.cell? ⟨b, off + k * 4 + 3, none⟩ = some (.int .i64 nx)) ∧
    s.size ≤ maxLen ∧ u.size ≤ maxLen := by
  obtain ⟨b, off, e, hb, hc⟩ := h.2.2 (by omega)
  have hk' : k < l.length := by rw [h.1]; exact hk
  obtain ⟨s, u, c, h1, h2, h3, h4⟩ := hc k _ (List.getElem?_eq_getElem hk')
  exact ⟨b, off, s, u, l[k].ck, l[k].next, e, hb, by rw [List.getElem?_eq_getElem hk', h1, h2], c, h3, h4⟩
theorem Turns.keep (h : Turns w bound a n ts) (hk : ∀ p : Addr, p.block < bound → w'.cell? p = w.cell? p) : Turns w' bound a n ts :=
  ⟨h.1, h.2.1, fun hn => by
    obtain ⟨b, off, e, hb, hc⟩ := h.2.2 hn
    refine ⟨b, off, e, hb, fun j x hj => ?_⟩
    obtain ⟨s, aa, an, ac, ⟨c0, c1, c2⟩, h1, h2, h3⟩ := hc j x hj
    exact ⟨s, aa, an, ac, ⟨(hk _ hb).trans c0, (hk _ hb).trans c1, (hk _ hb).trans c2⟩, h1, h2, h3.keep hk⟩⟩
theorem Turns.below (h : Turns w bound a n ts) (hb : Below bound w w') : Turns w' bound a n ts := h.keep fun _ hp => hb.cell hp
theorem Turns.more (h : Turns w bound a n ts) (hb : bound ≤ bound') : Turns w bound' a n ts :=
  ⟨h.1, h.2.1, fun hn => by
    obtain ⟨b, off, e, hlt, hc⟩ := h.2.2 hn
    refine ⟨b, off, e, by omega, fun j x hj => ?_⟩
    obtain ⟨s, aa, an, ac, c, h1, h2, h3⟩ := hc j x hj
    exact ⟨s, aa, an, ac, c, h1, h2, h3.more hb⟩⟩
theorem Turns.zero (w : World) (bound : Nat) (a : Option Addr) : Turns w bound a 0 [] := ⟨rfl, by omega, fun h => absurd h (Nat.lt_irrefl 0)⟩
theorem Turns.on {W W' : World} {a : Option Addr} {n : Nat} {ts : List TurnL} (h : Turns W W.heap.size a n ts) (hb : Below W.heap.size W W') : Turns W' W'.heap.size a n ts := (h.below hb).more hb.size
theorem Turns.at_ (h : Turns w bound a n ts) {k : Nat} (hk : k < n) : ∃ (b off : Nat) (kd : Int) (s : ByteArray) (aa : Option Addr) (an ac : Nat) (l : List ArmL), a = some ⟨b, off, none⟩ ∧ b < bound ∧ ts[k]? = some ⟨kd, s.toList, l⟩ ∧
    (w.cell? ⟨b, off + k * 3, none⟩ = some (.int .i64 kd) ∧ w.cell? ⟨b, off + k * 3 + 1, none⟩ = some (.string s) ∧ w.cell? ⟨b, off + k * 3 + 2, none⟩ = some (.slice aa an ac)) ∧ s.size ≤ maxLen ∧ Arms w bound aa an l := by
  obtain ⟨b, off, e, hb, hc⟩ := h.2.2 (by omega)
  have hk' : k < ts.length := by rw [h.1]; exact hk
  obtain ⟨s, aa, an, ac, c, h1, h2, h3⟩ := hc k _ (List.getElem?_eq_getElem hk')
  exact ⟨b, off, ts[k].kind, s, aa, an, ac, ts[k].arms, e, hb, by rw [List.getElem?_eq_getElem hk', h1], c, h2, h3⟩
end
end Go.Proofs.Ytgefhgcpnfbigaa
