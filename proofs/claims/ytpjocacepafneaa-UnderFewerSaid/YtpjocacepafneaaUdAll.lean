/- Plain: subtyping of nodes: what a pair asks for, pairs gone through one by one, sets that hold. No program stands in this text. -/
import Derived.Test.YtpjocacepafneaaBkPlain
import Derived.Test.YtpjocacepafneaaBkText
import Derived.WideKeyPair
import Derived.Maps.Own
import Derived.Maps.Views
import Derived.Test.YtpjocacepafneaaBkMayB
import Derived.BigQuiet
import Derived.Deep.RegionHeld3
import Derived.Deep.DeepCutAuto
import Derived.Deep.CutBlock
import Derived.Test.YtpjocacepafneaaTuSearchs
import Derived.RegionTactic
import Derived.Test.YtpjocacepafneaaBkMake
import Derived.Laws.StructEq
import Derived.ChangeKeysEq
namespace Go.Proofs.Ytpjocacepafneaa
open Go.RowKit

abbrev UpS (l : List Str) : Prop := l.Pairwise (· < ·)
theorem upS_ext : ∀ (l m : List Str), UpS l → UpS m → (∀ x, x ∈ l ↔ x ∈ m) → l = m
  | [], [], _, _, _ => rfl
  | [], y :: m, _, _, h => absurd ((h y).2 (by simp)) (by simp)
  | x :: l, [], _, _, h => absurd ((h x).1 (by simp)) (by simp)
  | x :: l, y :: m, hl, hm, h => by
    have hl' := List.pairwise_cons.1 hl
    have hm' := List.pairwise_cons.1 hm
    have hxy : x = y := by
      rcases List.mem_cons.1 ((h x).1 (by simp)) with e | hx
      · exact e
      · rcases List.mem_cons.1 ((h y).2 (by simp)) with e | hy
        · exact e.symm
        · exact absurd (List.lt_trans (hl'.1 y hy) (hm'.1 x hx)) (List.lt_irrefl x)
    subst hxy
    rw [upS_ext l m hl'.2 hm'.2 (fun z => ⟨fun hz => by
      rcases List.mem_cons.1 ((h z).1 (by simp [hz])) with e | k
      · subst e; exact absurd (hl'.1 z hz) (List.lt_irrefl z)
      · exact k, fun hz => by
      rcases List.mem_cons.1 ((h z).2 (by simp [hz])) with e | k
      · subst e; exact absurd (hm'.1 z hz) (List.lt_irrefl z)
      · exact k⟩)]
theorem upS_nodup {l : List Str} (h : UpS l) : l.Nodup := h.imp (fun {a b} hab e => by subst e; exact List.lt_irrefl a hab)
/-- x's edge and y's edge of each label that both have. -/
def comB (x y : List EdgeL) : List (EdgeL × EdgeL) := x.flatMap fun e => (y.filter fun f => decide (e.label = f.label)).map fun f => (e, f)
def needB (x y : NodeL) : List EdgeL := if x.kind = 2 then x.arms else y.arms
def carB (k x y : Int) : Int × Int := if k = 1 then (y, x) else (x, y)
def askB (k : Int) (p : EdgeL × EdgeL) : List (Int × Int) := (if p.1.sk = 5 then [carB k p.1.at_ p.2.at_] else []) ++ [(p.1.next, p.2.next)]
def obF (k : Int) (l : List (EdgeL × EdgeL)) : Option (List (Int × Int)) := if l.all (fun p => decide (p.1.sk = p.2.sk)) then some (l.flatMap (askB k)) else none
def obB (x y : NodeL) : Option (List (Int × Int)) := if x.kind = y.kind ∧ x.peer = y.peer ∧ (needB x y).length ≤ (comB x.arms y.arms).length then obF x.kind (comB x.arms y.arms) else none
def inP (n : Nat) (p : Int × Int) : Bool := inBk n p.1 && inBk n p.2
/-- What a pair of places asks for. -/
def Ask (ns : List NodeL) (p : Int × Int) : Option (List (Int × Int)) := match ns[p.1.toNat]?, ns[p.2.toNat]? with
  | some a, some b => obB a b
  | _, _ => none
def USim (ns : List NodeL) (R : Int × Int → Prop) : Prop := ∀ p, R p → inP ns.length p = true ∧ ∃ l, Ask ns p = some l ∧ ∀ q ∈ l, R q
/-- The one node is under the other. -/
def Und (ns : List NodeL) (p : Int × Int) : Prop := ∃ R, USim ns R ∧ R p
theorem und_sim (ns : List NodeL) : USim ns (Und ns) := by
  intro p ⟨R, hR, hp⟩
  obtain ⟨h1, l, h2, h3⟩ := hR p hp
  exact ⟨h1, l, h2, fun q hq => ⟨R, hR, h3 q hq⟩⟩
theorem inP_iff {n : Nat} {p : Int × Int} : inP n p = true ↔ (0 ≤ p.1 ∧ p.1.toNat < n) ∧ 0 ≤ p.2 ∧ p.2.toNat < n := by
  unfold inP
  rw [Bool.and_eq_true, inBk_iff, inBk_iff]
/-! what the labels say -/
def labN (l : List EdgeL) : Prop := (l.map EdgeL.label).Nodup
theorem labN_one {l : List EdgeL} (h : labN l) {e f : EdgeL} (he : e ∈ l) (hf : f ∈ l) (hl : e.label = f.label) : e = f := by
  obtain ⟨i, hi, rfl⟩ := List.mem_iff_getElem.1 he
  obtain ⟨j, hj, rfl⟩ := List.mem_iff_getElem.1 hf
  have hn : ∀ i j (hi : i < (l.map EdgeL.label).length) (hj : j < (l.map EdgeL.label).length), i < j → (l.map EdgeL.label)[i] ≠ (l.map EdgeL.label)[j] := fun i j hi hj hij => (List.pairwise_iff_getElem.1 h) i j hi hj hij
  have e1 : (l.map EdgeL.label)[i]'(by simpa using hi) = l[i].label := by simp
  have e2 : (l.map EdgeL.label)[j]'(by simpa using hj) = l[j].label := by simp
  rcases Nat.lt_trichotomy i j with h1 | h1 | h1
  · exact absurd (by rw [e1, e2]; exact hl) (hn i j (by simpa using hi) (by simpa using hj) h1)
  · subst h1; rfl
  · exact absurd (by rw [e1, e2]; exact hl.symm) (hn j i (by simpa using hj) (by simpa using hi) h1)
theorem nodeB_up {n : Nat} {t : NodeL} (h : nodeB n t = true) : UpS (t.arms.map EdgeL.label) := by
  rcases nodeB_arms h with h0 | h1
  · rw [h0]; exact List.Pairwise.nil
  · unfold edgesB at h1
    simp only [Bool.and_eq_true] at h1
    have h2 := h1.1.1.2
    unfold upB at h2
    exact of_decide_eq_true h2
theorem nodeB_labN {n : Nat} {t : NodeL} (h : nodeB n t = true) : labN t.arms := upS_nodup (nodeB_up h)
theorem mem_com {x y : List EdgeL} {p : EdgeL × EdgeL} : p ∈ comB x y ↔ p.1 ∈ x ∧ p.2 ∈ y ∧ p.1.label = p.2.label := by
  unfold comB
  simp only [List.mem_flatMap, List.mem_map, List.mem_filter, decide_eq_true_eq]
  constructor
  · rintro ⟨e, he, f, ⟨hf, hl⟩, rfl⟩
    exact ⟨he, hf, hl⟩
  · rintro ⟨h1, h2, h3⟩
    exact ⟨p.1, h1, p.2, ⟨h2, h3⟩, rfl⟩
theorem filter_one : ∀ (y : List EdgeL) (s : Str), labN y → (y.filter fun f => decide (s = f.label)).length ≤ 1
  | [], _, _ => by simp
  | f :: y, s, h => by
    obtain ⟨h1, h2⟩ := List.nodup_cons.1 h
    by_cases e : s = f.label
    · have h0 : (y.filter fun f => decide (s = f.label)) = [] := by
        rw [List.filter_eq_nil_iff]
        intro g hg hs
        rw [decide_eq_true_eq] at hs
        exact h1 (by rw [← e, hs]; exact List.mem_map_of_mem hg)
      rw [List.filter_cons_of_pos (by rw [decide_eq_true_eq]; exact e), h0]
      simp
    · rw [List.filter_cons_of_neg (by rw [decide_eq_true_eq]; exact e)]
      exact filter_one y s h2
theorem com_nodup : ∀ (x y : List EdgeL), labN x → labN y → ((comB x y).map fun p => p.1.label).Nodup
  | [], _, _, _ => by simp [comB]
  | e :: x, y, hx, hy => by
    obtain ⟨h1, h2⟩ := List.nodup_cons.1 hx
    have ih := com_nodup x y h2 hy
    have h3 := filter_one y e.label hy
    have e0 : comB (e :: x) y = ((y.filter fun f => decide (e.label = f.label)).map fun f => (e, f)) ++ comB x y := rfl
    rw [e0, List.map_append, List.map_map, List.nodup_append]
    refine ⟨?_, ih, ?_⟩
    · generalize (y.filter fun f => decide (e.label = f.label)) = z at h3
      match z, h3 with
      | [], _ => simp
      | [f], _ => simp
      | f :: g :: z, h3 => simp at h3
    · intro a ha b hb hab
      obtain ⟨f, _, rfl⟩ := List.mem_map.1 ha
      obtain ⟨p, hp, rfl⟩ := List.mem_map.1 hb
      exact h1 (List.mem_map.2 ⟨p.1, (mem_com.1 hp).1, hab.symm⟩)
theorem sub_len {α : Type} [DecidableEq α] : ∀ (l m : List α), l.Nodup → (∀ x ∈ l, x ∈ m) → l.length ≤ m.length
  | [], _, _, _ => Nat.zero_le _
  | a :: l, m, h, hs => by
    obtain ⟨h1, h2⟩ := List.nodup_cons.1 h
    have ha : a ∈ m := hs a (by simp)
    have ih := sub_len l (m.erase a) h2 (fun x hx => (List.mem_erase_of_ne (by rintro rfl; exact h1 hx)).2 (hs x (by simp [hx])))
    rw [List.length_erase_of_mem ha] at ih
    have : 0 < m.length := List.length_pos_of_mem ha
    rw [List.length_cons]
    omega
theorem sub_full {α : Type} [DecidableEq α] {l m : List α} (h : l.Nodup) (hs : ∀ x ∈ l, x ∈ m) (hl : m.length ≤ l.length) : ∀ x ∈ m, x ∈ l := fun x hx => by
  by_cases hm : x ∈ l
  · exact hm
  · have := sub_len (x :: l) m (List.nodup_cons.2 ⟨hm, h⟩) (fun y hy => by
      rcases List.mem_cons.1 hy with rfl | hy
      · exact hx
      · exact hs y hy)
    rw [List.length_cons] at this
    omega
/-- Locally valid, in words of labels. -/
def LV (a b : NodeL) : Prop := a.kind = b.kind ∧ a.peer = b.peer ∧ (a.kind = 2 → ∀ e ∈ a.arms, ∃ f ∈ b.arms, e.label = f.label) ∧ (a.kind ≠ 2 → ∀ f ∈ b.arms, ∃ e ∈ a.arms, e.label = f.label) ∧
  ∀ e ∈ a.arms, ∀ f ∈ b.arms, e.label = f.label → e.sk = f.sk
def Obl (a b : NodeL) (q : Int × Int) : Prop := ∃ e ∈ a.arms, ∃ f ∈ b.arms, e.label = f.label ∧ (q = (e.next, f.next) ∨ e.sk = 5 ∧ q = carB a.kind e.at_ f.at_)
theorem need_iff {a b : NodeL} (ha : labN a.arms) (hb : labN b.arms) : (needB a b).length ≤ (comB a.arms b.arms).length ↔
    ((a.kind = 2 → ∀ e ∈ a.arms, ∃ f ∈ b.arms, e.label = f.label) ∧ (a.kind ≠ 2 → ∀ f ∈ b.arms, ∃ e ∈ a.arms, e.label = f.label)) := by
  have hn := com_nodup a.arms b.arms ha hb
  have hsa : ∀ s ∈ (comB a.arms b.arms).map fun p => p.1.label, s ∈ a.arms.map EdgeL.label := fun s hs => by
    obtain ⟨p, hp, rfl⟩ := List.mem_map.1 hs
    exact List.mem_map_of_mem (mem_com.1 hp).1
  have hsb : ∀ s ∈ (comB a.arms b.arms).map fun p => p.1.label, s ∈ b.arms.map EdgeL.label := fun s hs => by
    obtain ⟨p, hp, rfl⟩ := List.mem_map.1 hs
    have hh := mem_com.1 hp
    rw [hh.2.2]
    exact List.mem_map_of_mem hh.2.1
  unfold needB
  by_cases hk : a.kind = 2
  · rw [if_pos hk]
    constructor
    · intro h
      refine ⟨fun _ e he => ?_, fun h2 => absurd hk h2⟩
      have := sub_full hn hsa (by simpa using h) e.label (List.mem_map_of_mem he)
      obtain ⟨p, hp, hpe⟩ := List.mem_map.1 this
      have hh := mem_com.1 hp
      exact ⟨p.2, hh.2.1, by rw [← hpe]; exact hh.2.2⟩
    · rintro ⟨h, _⟩
      have := sub_len (a.arms.map EdgeL.label) ((comB a.arms b.arms).map fun p => p.1.label) ha (fun s hs => by
        obtain ⟨e, he, rfl⟩ := List.mem_map.1 hs
        obtain ⟨f, hf, hl⟩ := h hk e he
        exact List.mem_map.2 ⟨(e, f), mem_com.2 ⟨he, hf, hl⟩, rfl⟩)
      simpa using this
  · rw [if_neg hk]
    constructor
    · intro h
      refine ⟨fun h2 => absurd h2 hk, fun _ f hf => ?_⟩
      have := sub_full hn hsb (by simpa using h) f.label (List.mem_map_of_mem hf)
      obtain ⟨p, hp, hpe⟩ := List.mem_map.1 this
      exact ⟨p.1, (mem_com.1 hp).1, hpe⟩
    · rintro ⟨_, h⟩
      have := sub_len (b.arms.map EdgeL.label) ((comB a.arms b.arms).map fun p => p.1.label) hb (fun s hs => by
        obtain ⟨f, hf, rfl⟩ := List.mem_map.1 hs
        obtain ⟨e, he, hl⟩ := h hk f hf
        exact List.mem_map.2 ⟨(e, f), mem_com.2 ⟨he, hf, hl⟩, hl⟩)
      simpa using this
theorem obB_lv {a b : NodeL} (ha : labN a.arms) (hb : labN b.arms) {l : List (Int × Int)} (h : obB a b = some l) : LV a b ∧ ∀ q, q ∈ l ↔ Obl a b q := by
  unfold obB obF at h
  split at h
  · rename_i h1
    split at h
    · rename_i h2
      injection h with h
      subst h
      obtain ⟨k1, k2, k3⟩ := h1
      obtain ⟨n1, n2⟩ := (need_iff ha hb).1 k3
      refine ⟨⟨k1, k2, n1, n2, fun e he f hf hl => ?_⟩, fun q => ?_⟩
      · have := (List.all_eq_true.1 h2) (e, f) (mem_com.2 ⟨he, hf, hl⟩)
        exact of_decide_eq_true this
      · constructor
        · intro hq
          obtain ⟨p, hp, hq⟩ := List.mem_flatMap.1 hq
          obtain ⟨p1, p2, p3⟩ := mem_com.1 hp
          refine ⟨p.1, p1, p.2, p2, p3, ?_⟩
          unfold askB at hq
          rcases List.mem_append.1 hq with hq | hq
          · split at hq
            · rename_i h5
              exact .inr ⟨h5, List.mem_singleton.1 hq⟩
            · cases hq
          · exact .inl (List.mem_singleton.1 hq)
        · rintro ⟨e, he, f, hf, hl, hq⟩
          refine List.mem_flatMap.2 ⟨(e, f), mem_com.2 ⟨he, hf, hl⟩, ?_⟩
          unfold askB
          rcases hq with rfl | ⟨h5, rfl⟩
          · simp
          · rw [if_pos h5]; simp
    · cases h
  · cases h
theorem lv_obB {a b : NodeL} (ha : labN a.arms) (hb : labN b.arms) (h : LV a b) : ∃ l, obB a b = some l := by
  obtain ⟨k1, k2, k3, k4, k5⟩ := h
  unfold obB obF
  rw [if_pos ⟨k1, k2, (need_iff ha hb).2 ⟨k3, k4⟩⟩, if_pos (List.all_eq_true.2 fun p hp => by
    obtain ⟨p1, p2, p3⟩ := mem_com.1 hp
    exact decide_eq_true (k5 _ p1 _ p2 p3))]
  exact ⟨_, rfl⟩
theorem ask_at {ns : List NodeL} {p : Int × Int} {a b : NodeL} (ha : ns[p.1.toNat]? = some a) (hb : ns[p.2.toNat]? = some b) : Ask ns p = obB a b := by
  unfold Ask
  rw [ha, hb]
theorem ask_some {ns : List NodeL} {p : Int × Int} {l : List (Int × Int)} (h : Ask ns p = some l) : ∃ a b, ns[p.1.toNat]? = some a ∧ ns[p.2.toNat]? = some b ∧ obB a b = some l := by
  unfold Ask at h
  split at h
  · exact ⟨_, _, by assumption, by assumption, h⟩
  · cases h
theorem NodesOk.lab {ns : List NodeL} (h : NodesOk ns) {i : Nat} {a : NodeL} (ha : ns[i]? = some a) : labN a.arms := nodeB_labN (h.2 i a ha)
theorem obl_in {ns : List NodeL} (h : NodesOk ns) {i j : Nat} {a b : NodeL} (ha : ns[i]? = some a) (hb : ns[j]? = some b) {q : Int × Int} (hq : Obl a b q) : inP ns.length q = true := by
  obtain ⟨e, he, f, hf, _, hq⟩ := hq
  have h1 := h.edge ha he
  have h2 := h.edge hb hf
  rw [inP_iff]
  rcases hq with rfl | ⟨_, rfl⟩
  · exact ⟨h1.2.2.2, h2.2.2.2⟩
  · unfold carB
    split
    · exact ⟨h2.2.2.1, h1.2.2.1⟩
    · exact ⟨h1.2.2.1, h2.2.2.1⟩
theorem ask_in {ns : List NodeL} (h : NodesOk ns) {p : Int × Int} {l : List (Int × Int)} (ha : Ask ns p = some l) : ∀ q ∈ l, inP ns.length q = true := fun q hq => by
  obtain ⟨a, b, ha, hb, hab⟩ := ask_some ha
  exact obl_in h ha hb (((obB_lv (h.lab ha) (h.lab hb) hab).2 q).1 hq)
/-- What being under another node means, in words of labels. -/
theorem und_at {ns : List NodeL} (h : NodesOk ns) {p : Int × Int} (hu : Und ns p) : inP ns.length p = true ∧ ∃ a b, ns[p.1.toNat]? = some a ∧ ns[p.2.toNat]? = some b ∧ LV a b ∧ ∀ q, Obl a b q → Und ns q := by
  obtain ⟨h1, l, h2, h3⟩ := und_sim ns p hu
  obtain ⟨a, b, ha, hb, hab⟩ := ask_some h2
  obtain ⟨h4, h5⟩ := obB_lv (h.lab ha) (h.lab hb) hab
  exact ⟨h1, a, b, ha, hb, h4, fun q hq => h3 q ((h5 q).2 hq)⟩
/-- A relation by labels. -/
theorem und_of {ns : List NodeL} (h : NodesOk ns) (R : Int × Int → Prop) (hR : ∀ p, R p → inP ns.length p = true ∧ ∃ a b, ns[p.1.toNat]? = some a ∧ ns[p.2.toNat]? = some b ∧ LV a b ∧ ∀ q, Obl a b q → R q) {p : Int × Int} (hp : R p) : Und ns p := by
  refine ⟨R, fun p hp => ?_, hp⟩
  obtain ⟨h1, a, b, ha, hb, hl, ho⟩ := hR p hp
  obtain ⟨l, hl2⟩ := lv_obB (h.lab ha) (h.lab hb) hl
  refine ⟨h1, l, by rw [ask_at ha hb]; exact hl2, fun q hq => ho q (((obB_lv (h.lab ha) (h.lab hb) hl2).2 q).1 hq)⟩
theorem LV.self {a : NodeL} (ha : labN a.arms) : LV a a := ⟨rfl, rfl, fun _ e he => ⟨e, he, rfl⟩, fun _ f hf => ⟨f, hf, rfl⟩, fun _ he _ hf hl => by rw [labN_one ha he hf hl]⟩
theorem obl_self {ns : List NodeL} (h : NodesOk ns) {i : Nat} {a : NodeL} (ha : ns[i]? = some a) {q : Int × Int} (hq : Obl a a q) : q.1 = q.2 ∧ inP ns.length q = true := by
  refine ⟨?_, obl_in h ha ha hq⟩
  obtain ⟨e, he, f, hf, hl, hq⟩ := hq
  obtain rfl := labN_one (h.lab ha) he hf hl
  rcases hq with rfl | ⟨_, rfl⟩
  · rfl
  · unfold carB; split <;> rfl
theorem und_refl {ns : List NodeL} (h : NodesOk ns) {x : Int} (hx : inBk ns.length x = true) : Und ns (x, x) := by
  refine und_of h (fun p => p.1 = p.2 ∧ inP ns.length p = true) ?_ ⟨rfl, by unfold inP; rw [hx]; rfl⟩
  rintro ⟨i, j⟩ ⟨hij, hi⟩
  obtain rfl : i = j := hij
  have hlt := (inP_iff.1 hi).1.2
  have ha := List.getElem?_eq_getElem hlt
  exact ⟨hi, _, _, ha, ha, LV.self (h.lab ha), fun q hq => obl_self h ha hq⟩
theorem LV.mid {a b c : NodeL} (h : LV a b) (k : LV b c) {e g : EdgeL} (he : e ∈ a.arms) (hg : g ∈ c.arms) (hl : e.label = g.label) : ∃ f ∈ b.arms, e.label = f.label := by
  by_cases hk : a.kind = 2
  · exact h.2.2.1 hk e he
  · obtain ⟨f, hf, hfl⟩ := k.2.2.2.1 (by rw [← h.1]; exact hk) g hg
    exact ⟨f, hf, hl.trans hfl.symm⟩
theorem LV.trans {a b c : NodeL} (h : LV a b) (k : LV b c) : LV a c := by
  refine ⟨h.1.trans k.1, h.2.1.trans k.2.1, fun h2 e he => ?_, fun h2 g hg => ?_, fun e he g hg hl => ?_⟩
  · obtain ⟨f, hf, h1⟩ := h.2.2.1 h2 e he
    obtain ⟨g, hg, h3⟩ := k.2.2.1 (by rw [← h.1]; exact h2) f hf
    exact ⟨g, hg, h1.trans h3⟩
  · obtain ⟨f, hf, h1⟩ := k.2.2.2.1 (by rw [← h.1]; exact h2) g hg
    obtain ⟨e, he, h3⟩ := h.2.2.2.1 h2 f hf
    exact ⟨e, he, h3.trans h1⟩
  · obtain ⟨f, hf, h1⟩ := h.mid k he hg hl
    exact (h.2.2.2.2 e he f hf h1).trans (k.2.2.2.2 f hf g hg (h1.symm.trans hl))
theorem und_trans {ns : List NodeL} (h : NodesOk ns) {x y z : Int} (h1 : Und ns (x, y)) (h2 : Und ns (y, z)) : Und ns (x, z) := by
  refine und_of h (fun p => ∃ m, Und ns (p.1, m) ∧ Und ns (m, p.2)) ?_ ⟨y, h1, h2⟩
  rintro ⟨i, j⟩ ⟨m, hi, hj⟩
  obtain ⟨i1, a, b, ha, hb, hab, hob⟩ := und_at h hi
  obtain ⟨j1, b', c, hb', hc, hbc, hoc⟩ := und_at h hj
  obtain rfl : b = b' := Option.some.inj (hb.symm.trans hb')
  refine ⟨inP_iff.2 ⟨(inP_iff.1 i1).1, (inP_iff.1 j1).2⟩, a, c, ha, hc, hab.trans hbc, fun q hq => ?_⟩
  obtain ⟨e, he, g, hg, hl, hq⟩ := hq
  obtain ⟨f, hf, hfl⟩ := hab.mid hbc he hg hl
  have hfg := hfl.symm.trans hl
  rcases hq with rfl | ⟨h5, rfl⟩
  · exact ⟨f.next, hob _ ⟨e, he, f, hf, hfl, .inl rfl⟩, hoc _ ⟨f, hf, g, hg, hfg, .inl rfl⟩⟩
  · have o1 := hob _ ⟨e, he, f, hf, hfl, .inr ⟨h5, rfl⟩⟩
    have o2 := hoc _ ⟨f, hf, g, hg, hfg, .inr ⟨by rw [← hab.2.2.2.2 e he f hf hfl]; exact h5, rfl⟩⟩
    rw [← hab.1] at o2
    unfold carB at o1 o2 ⊢
    by_cases hk : a.kind = 1
    · rw [if_pos hk] at o1 o2 ⊢
      exact ⟨f.at_, o2, o1⟩
    · rw [if_neg hk] at o1 o2 ⊢
      exact ⟨f.at_, o1, o2⟩
theorem alike_labels {a b : NodeL} (h : Alike a b) : a.arms.map EdgeL.label = b.arms.map EdgeL.label := by
  have := congrArg (List.map Prod.fst) h.2.2
  simpa [List.map_map, Function.comp_def] using this
theorem alike_pair {a b : NodeL} (h : Alike a b) (hb : labN b.arms) {e f : EdgeL} (he : e ∈ a.arms) (hf : f ∈ b.arms) (hl : e.label = f.label) : ∃ j : Nat, a.arms[j]? = some e ∧ b.arms[j]? = some f ∧ e.sk = f.sk := by
  obtain ⟨j, hj, rfl⟩ := List.mem_iff_getElem.1 he
  have h1 := List.getElem?_eq_getElem hj
  obtain ⟨g, hg, g1, g2⟩ := h.at_ h1
  obtain rfl := labN_one hb (List.mem_of_getElem? hg) hf (g1.trans hl)
  exact ⟨j, h1, hg, g2.symm⟩
/-- Equal nodes are under each other. -/
theorem eqv_und {ns : List NodeL} (h : NodesOk ns) {x y : Nat} (hxy : Eqv ns x y) : Und ns ((x : Int), (y : Int)) := by
  refine und_of h (fun p => inP ns.length p = true ∧ Eqv ns p.1.toNat p.2.toNat) ?_ ⟨inP_iff.2 ⟨⟨by omega, by simpa using hxy.lt.1⟩, by omega, by simpa using hxy.lt.2⟩, by simpa using hxy⟩
  rintro ⟨i, j⟩ ⟨hij, he⟩
  obtain ⟨a, b, ha, hb, hab, ho⟩ := eqv_bis ns _ _ he
  have hlb := h.lab hb
  have hla := h.lab ha
  refine ⟨hij, a, b, ha, hb, ⟨hab.1, hab.2.1, fun _ e he => ?_, fun _ f hf => ?_, fun e he f hf hl => ?_⟩, fun q hq => ⟨obl_in h ha hb hq, ?_⟩⟩
  · obtain ⟨k, hk, rfl⟩ := List.mem_iff_getElem.1 he
    obtain ⟨f, hf, h1, _⟩ := hab.at_ (List.getElem?_eq_getElem hk)
    exact ⟨f, List.mem_of_getElem? hf, h1.symm⟩
  · obtain ⟨k, hk, rfl⟩ := List.mem_iff_getElem.1 hf
    obtain ⟨e, he, h1, _⟩ := hab.symm.at_ (List.getElem?_eq_getElem hk)
    exact ⟨e, List.mem_of_getElem? he, h1⟩
  · exact (alike_pair hab hlb he hf hl).choose_spec.2.2
  · obtain ⟨e, he, f, hf, hl, hq⟩ := hq
    obtain ⟨k, k1, k2, k3⟩ := alike_pair hab hlb he hf hl
    obtain ⟨o1, o2⟩ := ho k e f k1 k2
    rcases hq with rfl | ⟨h5, rfl⟩
    · exact o1
    · unfold carB
      split
      · exact (o2 h5).symm
      · exact o2 h5
theorem map_ext_at {x y : List EdgeL} (hl : x.map EdgeL.label = y.map EdgeL.label) (hs : ∀ e ∈ x, ∀ f ∈ y, e.label = f.label → e.sk = f.sk) : x.map (fun e => (e.label, e.sk)) = y.map (fun e => (e.label, e.sk)) := by
  have hlen : x.length = y.length := by simpa using congrArg List.length hl
  refine List.ext_getElem (by simpa using hlen) fun i h1 h2 => ?_
  have hi : i < x.length := by simpa using h1
  have hj : i < y.length := by simpa using h2
  have e1 : x[i].label = y[i].label := by
    have := congrArg (fun l => l[i]?) hl
    simp only [List.getElem?_map, List.getElem?_eq_getElem hi, List.getElem?_eq_getElem hj, Option.map_some] at this
    exact Option.some.inj this
  rw [List.getElem_map, List.getElem_map, e1, hs _ (List.getElem_mem hi) _ (List.getElem_mem hj) e1]
/-- Nodes that are under each other are equal. -/
theorem und_eqv {ns : List NodeL} (h : NodesOk ns) {x y : Nat} (h1 : Und ns ((x : Int), (y : Int))) (h2 : Und ns ((y : Int), (x : Int))) : Eqv ns x y := by
  refine ⟨fun i j => Und ns ((i : Int), (j : Int)) ∧ Und ns ((j : Int), (i : Int)), ?_, h1, h2⟩
  rintro i j ⟨u1, u2⟩
  obtain ⟨_, a, b, ha, hb, hab, hob⟩ := und_at h u1
  obtain ⟨_, b', a', hb', ha', hba, hoa⟩ := und_at h u2
  simp only [Int.toNat_natCast] at ha hb ha' hb'
  obtain rfl : a = a' := Option.some.inj (ha.symm.trans ha')
  obtain rfl : b = b' := Option.some.inj (hb.symm.trans hb')
  have hll : a.arms.map EdgeL.label = b.arms.map EdgeL.label := by
    refine upS_ext _ _ (nodeB_up (h.2 i a ha)) (nodeB_up (h.2 j b hb)) fun s => ⟨fun hs => ?_, fun hs => ?_⟩
    · obtain ⟨e, he, rfl⟩ := List.mem_map.1 hs
      by_cases hk : a.kind = 2
      · obtain ⟨f, hf, hl⟩ := hab.2.2.1 hk e he
        exact List.mem_map.2 ⟨f, hf, hl.symm⟩
      · obtain ⟨f, hf, hl⟩ := hba.2.2.2.1 (by rw [hba.1]; exact hk) e he
        exact List.mem_map.2 ⟨f, hf, hl⟩
    · obtain ⟨f, hf, rfl⟩ := List.mem_map.1 hs
      by_cases hk : a.kind = 2
      · obtain ⟨e, he, hl⟩ := hba.2.2.1 (by rw [hba.1]; exact hk) f hf
        exact List.mem_map.2 ⟨e, he, hl.symm⟩
      · obtain ⟨e, he, hl⟩ := hab.2.2.2.1 hk f hf
        exact List.mem_map.2 ⟨e, he, hl⟩
  have hlike : Alike a b := ⟨hab.1, hab.2.1, map_ext_at hll hab.2.2.2.2⟩
  refine ⟨a, b, ha, hb, hlike, fun k e f he hf => ?_⟩
  have hl : e.label = f.label := by
    obtain ⟨g, hg, g1, _⟩ := hlike.at_ he
    obtain rfl := Option.some.inj (hf.symm.trans hg)
    exact g1.symm
  have hem := List.mem_of_getElem? he
  have hfm := List.mem_of_getElem? hf
  have ee := h.edge ha hem
  have ef := h.edge hb hfm
  have o1 := hob _ ⟨e, hem, f, hfm, hl, .inl rfl⟩
  have o2 := hoa _ ⟨f, hfm, e, hem, hl.symm, .inl rfl⟩
  have n1 : ((e.next.toNat : Nat) : Int) = e.next := Int.toNat_of_nonneg ee.2.2.2.1
  have n2 : ((f.next.toNat : Nat) : Int) = f.next := Int.toNat_of_nonneg ef.2.2.2.1
  have n3 : ((e.at_.toNat : Nat) : Int) = e.at_ := Int.toNat_of_nonneg ee.2.2.1.1
  have n4 : ((f.at_.toNat : Nat) : Int) = f.at_ := Int.toNat_of_nonneg ef.2.2.1.1
  refine ⟨by show Und ns (_, _) ∧ Und ns (_, _); rw [n1, n2]; exact ⟨o1, o2⟩, fun h5 => ?_⟩
  show Und ns (_, _) ∧ Und ns (_, _)
  rw [n3, n4]
  have p1 := hob _ ⟨e, hem, f, hfm, hl, .inr ⟨h5, rfl⟩⟩
  have p2 := hoa _ ⟨f, hfm, e, hem, hl.symm, .inr ⟨by rw [← hab.2.2.2.2 e hem f hfm hl]; exact h5, rfl⟩⟩
  rw [hba.1] at p2
  unfold carB at p1 p2
  split at p1
  · rename_i hk; rw [if_pos hk] at p2; exact ⟨p2, p1⟩
  · rename_i hk; rw [if_neg hk] at p2; exact ⟨p1, p2⟩
/-! pairs gone through one by one -/
def addP : List (Int × Int) → List (Int × Int) → List (Int × Int)
  | row, [] => row
  | row, p :: r => addP (if p ∈ row then row else row ++ [p]) r
theorem addP_mem (x : Int × Int) : ∀ (l row : List (Int × Int)), x ∈ addP row l ↔ x ∈ row ∨ x ∈ l
  | [], row => by simp [addP]
  | p :: l, row => by
    rw [addP, addP_mem x l]
    by_cases h : p ∈ row
    · rw [if_pos h, List.mem_cons]
      constructor
      · rintro (h1 | h1)
        · exact .inl h1
        · exact .inr (.inr h1)
      · rintro (h1 | rfl | h1)
        · exact .inl h1
        · exact .inl h
        · exact .inr h1
    · rw [if_neg h, List.mem_append, List.mem_singleton, List.mem_cons, or_assoc]
theorem addP_nodup : ∀ (l row : List (Int × Int)), row.Nodup → (addP row l).Nodup
  | [], _, h => h
  | p :: l, row, h => by
    rw [addP]
    refine addP_nodup l _ ?_
    by_cases hp : p ∈ row
    · rw [if_pos hp]; exact h
    · rw [if_neg hp, List.nodup_append]
      exact ⟨h, by simp, fun a ha b hb e => hp (by rw [← List.mem_singleton.1 hb, ← e]; exact ha)⟩
theorem addP_pre : ∀ (l row : List (Int × Int)), ∃ r, addP row l = row ++ r
  | [], row => ⟨[], by simp [addP]⟩
  | p :: l, row => by
    rw [addP]
    obtain ⟨r, hr⟩ := addP_pre l (if p ∈ row then row else row ++ [p])
    by_cases hp : p ∈ row
    · rw [if_pos hp] at hr ⊢; exact ⟨r, hr⟩
    · rw [if_neg hp] at hr ⊢; exact ⟨[p] ++ r, by rw [hr, List.append_assoc]⟩
theorem addP_snoc (p : Int × Int) : ∀ (l row : List (Int × Int)), addP row (l ++ [p]) = if p ∈ addP row l then addP row l else addP row l ++ [p]
  | [], row => rfl
  | q :: l, row => by rw [List.cons_append, addP, addP_snoc p l, addP]
def pairsF (ns : List NodeL) : Nat → Nat → List (Int × Int) → Option (List (Int × Int))
  | 0, _, row => some row
  | f + 1, i, row => match row[i]? with
    | none => some row
    | some p => match Ask ns p with
      | none => none
      | some l => pairsF ns f (i + 1) (addP row l)
theorem pair_few {l : List (Int × Int)} {n : Nat} (hn : l.Nodup) (h : ∀ p ∈ l, inP n p = true) : l.length ≤ n * n := by
  have hinj : ∀ p q : Int × Int, inP n p = true → inP n q = true → p.1.toNat * n + p.2.toNat = q.1.toNat * n + q.2.toNat → p = q := fun p q hp hq e => by
    obtain ⟨⟨p1, p2⟩, p3, p4⟩ := inP_iff.1 hp
    obtain ⟨⟨q1, q2⟩, q3, q4⟩ := inP_iff.1 hq
    have e1 : p.1.toNat = q.1.toNat := by
      have h1 := congrArg (· / n) e
      rwa [Nat.add_comm, Nat.add_mul_div_right _ _ (by omega), Nat.div_eq_of_lt p4, Nat.zero_add, Nat.add_comm, Nat.add_mul_div_right _ _ (by omega), Nat.div_eq_of_lt q4, Nat.zero_add] at h1
    rw [e1] at e
    have e2 : p.2.toNat = q.2.toNat := by omega
    exact Prod.ext (by omega) (by omega)
  have h1 := sub_len (l.map fun p => p.1.toNat * n + p.2.toNat) (List.range (n * n)) ?_ (fun x hx => ?_)
  · simpa using h1
  · refine List.pairwise_map.2 ((List.Pairwise.and_mem.1 hn).imp fun {p q} hpq e => hpq.2.2 (hinj p q (h p hpq.1) (h q hpq.2.1) e))
  · obtain ⟨p, hp, rfl⟩ := List.mem_map.1 hx
    obtain ⟨⟨p1, p2⟩, p3, p4⟩ := inP_iff.1 (h p hp)
    rw [List.mem_range]
    calc p.1.toNat * n + p.2.toNat < p.1.toNat * n + n := by omega
      _ = (p.1.toNat + 1) * n := by rw [Nat.add_mul, Nat.one_mul]
      _ ≤ n * n := Nat.mul_le_mul_right _ (by omega)
/-- What stands in hand when so many pairs have been gone through. -/
structure PInv (ns : List NodeL) (i : Nat) (row : List (Int × Int)) : Prop where
  nd : row.Nodup
  inn : ∀ p ∈ row, inP ns.length p = true
  one : 1 ≤ row.length
  done : ∀ j, j < i → ∀ p, row[j]? = some p → ∃ l, Ask ns p = some l ∧ ∀ q ∈ l, q ∈ row
theorem PInv.start {ns : List NodeL} {p : Int × Int} (hp : inP ns.length p = true) : PInv ns 0 [p] := ⟨by simp, by simpa using hp, by simp, fun j hj => absurd hj (Nat.not_lt_zero _)⟩
theorem PInv.few {ns : List NodeL} {i : Nat} {row : List (Int × Int)} (h : PInv ns i row) : row.length ≤ ns.length * ns.length := pair_few h.nd h.inn
theorem PInv.next {ns : List NodeL} (hn : NodesOk ns) {i : Nat} {row : List (Int × Int)} (h : PInv ns i row) {p : Int × Int} (hp : row[i]? = some p) {l : List (Int × Int)} (hl : Ask ns p = some l) : PInv ns (i + 1) (addP row l) := by
  obtain ⟨r, hr⟩ := addP_pre l row
  have hi : i < row.length := (List.getElem?_eq_some_iff.1 hp).1
  refine ⟨addP_nodup l row h.nd, fun q hq => ?_, by rw [hr, List.length_append]; have := h.one; omega, fun j hj q hq => ?_⟩
  · rcases (addP_mem q l row).1 hq with hq | hq
    · exact h.inn q hq
    · exact ask_in hn hl q hq
  · rw [hr, List.getElem?_append_left (by omega)] at hq
    rcases Nat.lt_or_ge j i with h1 | h1
    · obtain ⟨m, hm, hs⟩ := h.done j h1 q hq
      exact ⟨m, hm, fun x hx => (addP_mem x l row).2 (.inl (hs x hx))⟩
    · obtain rfl : j = i := by omega
      obtain rfl := Option.some.inj (hq.symm.trans hp)
      exact ⟨l, hl, fun x hx => (addP_mem x l row).2 (.inr hx)⟩
theorem pairsF_spec {ns : List NodeL} (hn : NodesOk ns) : ∀ (f i : Nat) (row : List (Int × Int)), PInv ns i row → ns.length * ns.length < i + f →
    (∀ out, pairsF ns f i row = some out → PInv ns out.length out ∧ ∃ r, out = row ++ r) ∧ (pairsF ns f i row = none → ¬ ∀ p ∈ row, Und ns p)
  | 0, i, row, h, hf => by
    have := h.few
    refine ⟨fun out ho => ?_, fun h => by cases h⟩
    obtain rfl := Option.some.inj ho
    exact ⟨⟨h.nd, h.inn, h.one, fun j hj => h.done j (by omega)⟩, [], by simp⟩
  | f + 1, i, row, h, hf => by
    rcases hi : row[i]? with _ | p
    · have e : pairsF ns (f + 1) i row = some row := by rw [pairsF, hi]
      have hl := List.getElem?_eq_none_iff.1 hi
      refine ⟨fun out ho => ?_, fun h => by rw [e] at h; cases h⟩
      rw [e] at ho
      obtain rfl := Option.some.inj ho
      exact ⟨⟨h.nd, h.inn, h.one, fun j hj => h.done j (by omega)⟩, [], by simp⟩
    · rcases hl : Ask ns p with _ | l
      · have e : pairsF ns (f + 1) i row = none := by rw [pairsF, hi]; simp only [hl]
        refine ⟨fun out ho => (by rw [e] at ho; cases ho), fun _ hall => ?_⟩
        obtain ⟨_, l, h2, _⟩ := und_sim ns p (hall p (List.mem_of_getElem? hi))
        rw [hl] at h2
        cases h2
      · have e : pairsF ns (f + 1) i row = pairsF ns f (i + 1) (addP row l) := by rw [pairsF, hi]; simp only [hl]
        obtain ⟨h1, h2⟩ := pairsF_spec hn f (i + 1) (addP row l) (h.next hn hi hl) (by omega)
        rw [e]
        refine ⟨fun out ho => ?_, fun ho hall => h2 ho fun q hq => ?_⟩
        · obtain ⟨g1, r, g2⟩ := h1 out ho
          obtain ⟨r2, hr2⟩ := addP_pre l row
          exact ⟨g1, r2 ++ r, by rw [g2, hr2, List.append_assoc]⟩
        · rcases (addP_mem q l row).1 hq with hq | hq
          · exact hall q hq
          · obtain ⟨_, l', h3, h4⟩ := und_sim ns p (hall p (List.mem_of_getElem? hi))
            obtain rfl := Option.some.inj (hl.symm.trans h3)
            exact h4 q hq
def pairsP (ns : List NodeL) (p : Int × Int) : Option (List (Int × Int)) := pairsF ns (ns.length * ns.length + 1) 0 [p]
theorem pairs_some {ns : List NodeL} (hn : NodesOk ns) {p : Int × Int} (hp : inP ns.length p = true) {out : List (Int × Int)} (h : pairsP ns p = some out) : PInv ns out.length out ∧ out[0]? = some p ∧ ∀ q ∈ out, Und ns q := by
  obtain ⟨h1, r, h2⟩ := (pairsF_spec hn _ 0 [p] (PInv.start hp) (by omega)).1 out h
  refine ⟨h1, by rw [h2]; rfl, fun q hq => ⟨fun q => q ∈ out, fun q hq => ⟨h1.inn q hq, ?_⟩, hq⟩⟩
  obtain ⟨j, hj, rfl⟩ := List.mem_iff_getElem.1 hq
  exact h1.done j hj _ (List.getElem?_eq_getElem hj)
theorem pairs_none {ns : List NodeL} (hn : NodesOk ns) {p : Int × Int} (hp : inP ns.length p = true) (h : pairsP ns p = none) : ¬ Und ns p := fun hu =>
  (pairsF_spec hn _ 0 [p] (PInv.start hp) (by omega)).2 h fun q hq => by rw [List.mem_singleton.1 hq]; exact hu
/-- What Pairs answers. -/
def pairsQ (b : BookL) (p : Int × Int) : Option (List (Int × Int)) := if bookB b = true ∧ inP b.nodes.length p = true then pairsP b.nodes p else none
def isQ (b : BookL) (p : Int × Int) : Bool := (pairsQ b p).isSome
theorem isQ_iff {b : BookL} (hb : bookB b = true) {p : Int × Int} : isQ b p = true ↔ Und b.nodes p := by
  have hn := (bookB_ok hb).1
  unfold isQ pairsQ
  by_cases hp : inP b.nodes.length p = true
  · rw [if_pos ⟨hb, hp⟩]
    constructor
    · intro h
      obtain ⟨out, ho⟩ := Option.isSome_iff_exists.1 h
      obtain ⟨_, h1, h2⟩ := pairs_some hn hp ho
      exact h2 p (List.mem_of_getElem? h1)
    · intro h
      rcases ho : pairsP b.nodes p with _ | out
      · exact absurd h (pairs_none hn hp ho)
      · rfl
  · rw [if_neg fun h => hp h.2]
    constructor
    · intro h; cases h
    · intro h; exact absurd (und_sim _ _ h).1 hp
/-- What Holds answers. -/
def holdsQ (b : BookL) (l : List (Int × Int)) : Bool := bookB b && l.all (inP b.nodes.length) && l.all fun p => match Ask b.nodes p with
  | none => false
  | some a => a.all fun q => decide (q ∈ l)
theorem holdsQ_und {b : BookL} {l : List (Int × Int)} (h : holdsQ b l = true) : ∀ p ∈ l, Und b.nodes p := by
  unfold holdsQ at h
  simp only [Bool.and_eq_true, List.all_eq_true] at h
  intro p hp
  refine ⟨fun p => p ∈ l, fun p hp => ⟨h.1.2 p hp, ?_⟩, hp⟩
  have h1 := h.2 p hp
  rcases ha : Ask b.nodes p with _ | a
  · rw [ha] at h1; cases h1
  · rw [ha] at h1
    exact ⟨a, rfl, fun q hq => of_decide_eq_true (List.all_eq_true.1 h1 q hq)⟩
theorem pairsQ_holds {b : BookL} {p : Int × Int} {out : List (Int × Int)} (h : pairsQ b p = some out) : holdsQ b out = true := by
  unfold pairsQ at h
  split at h
  · rename_i hb
    obtain ⟨h1, _, _⟩ := pairs_some (bookB_ok hb.1).1 hb.2 h
    unfold holdsQ
    simp only [Bool.and_eq_true, List.all_eq_true]
    refine ⟨⟨hb.1, h1.inn⟩, fun q hq => ?_⟩
    obtain ⟨j, hj, rfl⟩ := List.mem_iff_getElem.1 hq
    obtain ⟨l, hl, hs⟩ := h1.done j hj _ (List.getElem?_eq_getElem hj)
    rw [hl]
    exact List.all_eq_true.2 fun x hx => decide_eq_true (hs x hx)
  · cases h
theorem pairsQ_some {b : BookL} {p : Int × Int} {out : List (Int × Int)} (h : pairsQ b p = some out) : out[0]? = some p ∧ (∀ q ∈ out, isQ b q = true) ∧ 1 ≤ out.length ∧ out.length ≤ b.nodes.length * b.nodes.length := by
  unfold pairsQ at h
  split at h
  · rename_i hb
    obtain ⟨h1, h2, h3⟩ := pairs_some (bookB_ok hb.1).1 hb.2 h
    exact ⟨h2, fun q hq => (isQ_iff hb.1).2 (h3 q hq), h1.one, h1.few⟩
  · cases h
end Go.Proofs.Ytpjocacepafneaa

/- Pairs of places, pairs of edges and a set of pairs in memory. -/
namespace Go.Proofs.Ytpjocacepafneaa
open Go.RowKit Go.Maps Go.WideMaps

/-- The slice with this address and length, however long, reads as these pairs. -/
def Prs2 (w : World) (bound : Nat) (a : Option Addr) (n : Nat) (l : List (Int × Int)) : Prop :=
  l.length = n ∧ n ≤ 9223372036854775807 ∧ (0 < n → ∃ b off, a = some ⟨b, off, none⟩ ∧ b < bound ∧ ∀ (j : Nat) (x : Int × Int), l[j]? = some x →
    w.cell? ⟨b, off + j * 2, none⟩ = some (.int .i64 x.1) ∧ w.cell? ⟨b, off + j * 2 + 1, none⟩ = some (.int .i64 x.2))
section
variable {w w' : World} {bound bound' : Nat} {a : Option Addr} {n : Nat} {l : List (Int × Int)}
theorem Prs2.keep (h : Prs2 w bound a n l) (hk : ∀ p : Addr, p.block < bound → w'.cell? p = w.cell? p) : Prs2 w' bound a n l :=
  ⟨h.1, h.2.1, fun hn => by
    obtain ⟨b, off, e, hb, hc⟩ := h.2.2 hn
    refine ⟨b, off, e, hb, fun j t hj => ?_⟩
    obtain ⟨c0, c1⟩ := hc j t hj
    exact ⟨(hk _ hb).trans c0, (hk _ hb).trans c1⟩⟩
theorem Prs2.below (h : Prs2 w bound a n l) (hb : Below bound w w') : Prs2 w' bound a n l := h.keep fun _ hp => hb.cell hp
theorem Prs2.more (h : Prs2 w bound a n l) (hb : bound ≤ bound') : Prs2 w bound' a n l :=
  ⟨h.1, h.2.1, fun hn => by
    obtain ⟨b, off, e, hlt, hc⟩ := h.2.2 hn
    exact ⟨b, off, e, by omega, hc⟩⟩
theorem Prs2.zero (w : World) (bound : Nat) (a : Option Addr) : Prs2 w bound a 0 [] := ⟨rfl, by omega, fun h => absurd h (Nat.lt_irrefl 0)⟩
theorem Prs2.on {W W' : World} {a : Option Addr} {n : Nat} {l : List (Int × Int)} (h : Prs2 W W.heap.size a n l) (hb : Below W.heap.size W W') : Prs2 W' W'.heap.size a n l := (h.below hb).more hb.size
theorem Prs2.at_ (h : Prs2 w bound a n l) {k : Nat} (hk : k < n) : ∃ b off x y, a = some ⟨b, off, none⟩ ∧ b < bound ∧ l[k]? = some (x, y) ∧
    w.cell? ⟨b, off + k * 2, none⟩ = some (.int .i64 x) ∧ w.cell? ⟨b, off + k * 2 + 1, none⟩ = some (.int .i64 y) := by
  obtain ⟨b, off, e, hb, hc⟩ := h.2.2 (by omega)
  have hk' : k < l.length := by rw [h.1]; exact hk
  exact ⟨b, off, l[k].1, l[k].2, e, hb, List.getElem?_eq_getElem hk', hc k _ (List.getElem?_eq_getElem hk')⟩
end
def encP2 (x : Int × Int) : List Value := [.int .i64 x.1, .int .i64 x.2]
/-- The slice v, which the call made, holds just these pairs. -/
def PrOwn (w : World) (base : Nat) (v : Value) (l : List (Int × Int)) : Prop := w.ownsRow base 51 2 v l.length (l.flatMap encP2)
def PrRow (w : World) (ad : Option Addr) (m : Nat) (l : List (Int × Int)) : Prop := l.length = m ∧ (0 < m → ∃ a', ad = some a' ∧ ∀ (j : Nat) (u : Value), (l.flatMap encP2)[j]? = some u → w.cell? (a'.add j) = some u)
theorem flatP2_at : ∀ (l : List (Int × Int)) (j : Nat) (t : Int × Int), l[j]? = some t → ∀ i, i < 2 → (l.flatMap encP2)[j * 2 + i]? = (encP2 t)[i]? := by
  intro l
  induction l with
  | nil => intro j t h; cases h
  | cons x l ih =>
    intro j t h i hi
    rw [List.flatMap_cons]
    cases j with
    | zero =>
      injection h with h
      subst h
      rw [Nat.zero_mul, Nat.zero_add, List.getElem?_append_left hi]
    | succ j =>
      have e : (j + 1) * 2 + i = 2 + (j * 2 + i) := by omega
      rw [e, List.getElem?_append_right (by show 2 ≤ _; omega)]
      show (l.flatMap encP2)[2 + (j * 2 + i) - 2]? = _
      rw [Nat.add_sub_cancel_left]
      exact ih j t h i hi
theorem encP2s_len (l : List (Int × Int)) : (l.flatMap encP2).length = l.length * 2 := by
  induction l with
  | nil => rfl
  | cons t l ih => rw [List.flatMap_cons, List.length_append, ih, List.length_cons]; show 2 + _ = _; omega
theorem encP2_cell {u : Value} {l : List (Int × Int)} (h : u ∈ l.flatMap encP2) : u.oneCell' = true := by
  obtain ⟨t, _, ht⟩ := List.mem_flatMap.1 h
  unfold encP2 at ht
  simp only [List.mem_cons, List.not_mem_nil, or_false] at ht
  rcases ht with rfl | rfl <;> rfl
theorem PrRow.one {W : World} {cs : Array Value} (t : Int × Int) {g : Nat} (hg : g = W.heap.size) (hc : cs = (encP2 t).toArray) : PrRow (W.alloc (.cells cs 51)) (some ⟨g, 0, none⟩) 1 [t] := by
  subst hg hc
  refine ⟨rfl, fun _ => ⟨_, rfl, fun j u hu => ?_⟩⟩
  rw [Go.WideShapes.add_plain, cell_of_row _ _ _ _ _ _ (heap_alloc_new W _), List.getElem?_toArray, Nat.zero_add]
  rw [show ([t].flatMap encP2) = encP2 t by simp] at hu
  exact hu
theorem PrOwn.zero (w : World) (base : Nat) : PrOwn w base (.slice none 0 0) [] := World.ownsRow_nil w base 51 2
theorem PrOwn.alloc {w : World} {base : Nat} {v : Value} {l : List (Int × Int)} (h : PrOwn w base v l) (o : Obj) : PrOwn (w.alloc o) base v l := World.ownsRow.alloc h o
theorem PrOwn.low {w : World} {base base' : Nat} {v : Value} {l : List (Int × Int)} (h : PrOwn w base v l) (hb : base' ≤ base) : PrOwn w base' v l := by
  refine ⟨h.1, ?_⟩
  rcases h.2 with h0 | ⟨g, cap, cur, rfl, hbase, hh, h1, h2, h3, h4⟩
  · exact .inl h0
  · exact .inr ⟨g, cap, cur, rfl, Nat.le_trans hb hbase, hh, h1, h2, h3, h4⟩
theorem PrOwn.stay {w w' : World} {base : Nat} {v : Value} {l : List (Int × Int)} (h : PrOwn w base v l) (hk : ∀ b, v.ownBlock = some b → w'.heap[b]? = w.heap[b]?) : PrOwn w' base v l := by
  refine ⟨h.1, ?_⟩
  rcases h.2 with h0 | ⟨g, cap, cur, rfl, hbase, hh, h1, h2, h3, h4⟩
  · exact .inl h0
  · exact .inr ⟨g, cap, cur, rfl, hbase, (hk g rfl).trans hh, h1, h2, h3, h4⟩
theorem PrOwn.kept {w w' : World} {base : Nat} {v : Value} {l : List (Int × Int)} (h : PrOwn w base v l) (hb : Below w.heap.size w w') : PrOwn w' base v l := by
  have hlt := h.lt
  exact h.stay fun b e => hb.block b (hlt b e).2
theorem PrOwn.one {W : World} {cs : Array Value} {base g : Nat} (t : Int × Int) (hg : g = W.heap.size) (hc : cs = (encP2 t).toArray) (hb : base ≤ g) : PrOwn (W.alloc (.cells cs 51)) base (.slice (some ⟨g, 0, none⟩) 1 1) [t] := by
  subst hg hc
  exact ⟨rfl, .inr ⟨W.heap.size, 1, _, rfl, hb, heap_alloc_new W _, Nat.le_refl _, by unfold maxLen; omega, rfl, by simp [encP2]⟩⟩
theorem info_p2 : (Try.prog.info? 51).map (fun i => (i.zero, i.size, i.bytes)) = some (some (.agg #[.int .i64 0, .int .i64 0]), 2, 16) := by kernel_rfl
/-- Pairs behind those that the call made. -/
theorem PrOwn.add {w : World} {base : Nat} {v : Value} {l : List (Int × Int)} (h : PrOwn w base v l) (hb : base ≤ w.heap.size) {a : Option Addr} {m : Nat} (c : Nat) {l2 : List (Int × Int)} (hr : PrRow w a m l2) (hlen : l.length + m ≤ 1000000) (ty : Nat) :
    ∃ v' w', (Builtin.append_ #[48, 48] ty #[v, .slice a m c]).run Try.prog w = .ok v' w' ∧ PrOwn w' base v' (l ++ l2) ∧ (∀ B, B ≤ base → ∀ w0, Below B w0 w → Below B w0 w') ∧ Keeps v w w' ∧ (v'.ownBlock = v.ownBlock ∨ v'.ownBlock = some w.heap.size) := by
  obtain ⟨i0, hi0, hzz⟩ := Option.map_eq_some_iff.1 info_p2
  simp only [Prod.mk.injEq] at hzz
  obtain ⟨hz, hs1, hb1⟩ := hzz
  obtain ⟨hl2, hc⟩ := hr
  rcases a with _ | ad
  · have hm : m = 0 := by
      rcases Nat.eq_zero_or_pos m with h0 | h0
      · exact h0
      · obtain ⟨_, h, _⟩ := hc h0; cases h
    subst hm
    have hn : l2 = [] := List.eq_nil_of_length_eq_zero hl2
    subst hn
    refine ⟨v, w, ?_, by rw [List.append_nil]; exact h, fun B _ w0 hw => hw, Keeps.refl _ _, .inl rfl⟩
    rcases h.2 with ⟨h0, _⟩ | ⟨g, cap, cur, rfl, _, hh, h1, h2, h3, h4⟩
    · rw [h0]; simp [Builtin.append_, run_underlying Try.underlying48, sizeOf, typeInfo, hi0, Builtin.lenOf, Builtin.firstCells]
    · simp [Builtin.append_, run_underlying Try.underlying48, sizeOf, typeInfo, hi0, Builtin.lenOf, Builtin.firstCells, storeCells]
      intro hx
      omega
  · have hcells : ∀ (j : Nat) (u : Value), (l2.flatMap encP2)[j]? = some u → w.cell? (ad.add j) = some u := fun j u hu => by
      rcases Nat.eq_zero_or_pos m with h0 | h0
      · rw [List.eq_nil_of_length_eq_zero (hl2.trans h0)] at hu; cases hu
      · obtain ⟨a', e, hcc⟩ := hc h0
        obtain rfl := Option.some.inj e
        exact hcc j u hu
    obtain ⟨v', w', hrun, hown, hgr, _, hat⟩ := run_append_own_at (P := Try.prog) w base 48 ty 51 i0 _ 2 16 Try.underlying48 hi0 hz hs1 hb1 rfl (by omega) v l.length (l.flatMap encP2) h ad m c (l2.flatMap encP2) (by rw [encP2s_len, hl2]) hcells
      (fun u hu => encP2_cell hu) (by unfold maxLen; omega) (by omega) hb
    have hlt := h.lt
    have hbel : ∀ B, B ≤ base → ∀ w0, Below B w0 w → Below B w0 w' := fun B hB w0 hw0 => hw0.grown hgr (by omega) (fun k hk => by
      have := hlt k hk
      omega)
    refine ⟨v', w', hrun, ?_, hbel, ⟨hgr.size, fun b hb hne => hgr.block b hb (fun e => hne e.symm)⟩, hat⟩
    unfold PrOwn
    rw [List.length_append, List.flatMap_append, hl2]
    exact hown
theorem wpList_append_prs {ops : Array Oper} {rest : List Oper} {o : Oper} {a : Act} {Q : Exit → Act → World → Prop} {W : World} (hgd : o.guard = none) (s x : Operand)
    (ho : o.op = .call { callee := .builtin .append, args := #[s, x], argTypes := #[48, 48] }) (base : Nat) (v : Value) (l : List (Int × Int)) (ad : Option Addr) (m c : Nat) (l2 : List (Int × Int))
    (hs : a.eval s = v) (hx : a.eval x = .slice ad m c) (hB : PrOwn W base v l) (hr : PrRow W ad m l2) (hb : base ≤ W.heap.size) (hlen : l.length + m ≤ 1000000)
    (h : ∀ v' w', PrOwn w' base v' (l ++ l2) → Below base W w' → Keeps v W w' ∧ (v'.ownBlock = v.ownBlock ∨ v'.ownBlock = some W.heap.size) → wpList Try.prog ops Q rest (a.put o.dst v') w') : wpList Try.prog ops Q (o :: rest) a W := by
  obtain ⟨v', w', hrun, hown, hbel, hk⟩ := hB.add hb c hr hlen o.type
  exact wpList_append_lx hgd s x _ ho _ _ _ hs hx hrun (h v' w' hown (hbel base (Nat.le_refl _) W (Below.refl _ _)) hk)
theorem PrOwn.other {w : World} {base : Nat} {v : Value} {l : List (Int × Int)} (h : PrOwn w base v l) {g : Nat} {cs : Array Value} {e : TypeId} {fr : Nat × Nat} (hg : w.heap[g]? = some (.cells cs e fr)) (he : e ≠ 51) : v.ownBlock ≠ some g := fun e1 => by
  rcases h.2 with ⟨rfl, _⟩ | ⟨b, cap, cur, rfl, _, hh, _⟩
  · cases e1
  · obtain rfl := Option.some.inj e1
    rw [hh] at hg
    exact he (Obj.cells.inj (Option.some.inj hg)).2.1.symm
theorem PrOwn.sees {w : World} {base : Nat} {v : Value} {l : List (Int × Int)} (h : PrOwn w base v l) (hl : l.length ≤ 1000000) : ∃ a c, v = .slice a l.length c ∧ Prs2 w w.heap.size a l.length l ∧ l.length ≤ c ∧ c ≤ maxLen := by
  have hlt := h.lt
  rcases h.2 with ⟨h0, h1⟩ | ⟨g, cap, cur, rfl, hbase, hh, h1, h2, h3, h4⟩
  · have hz : l = [] := List.eq_nil_of_length_eq_zero h1
    subst hz
    exact ⟨none, 0, h0, Prs2.zero _ _ _, Nat.le_refl _, Nat.zero_le _⟩
  · refine ⟨_, cap, rfl, ⟨rfl, by omega, fun _ => ⟨g, 0, rfl, (hlt g rfl).2, fun j x hj => ?_⟩⟩, h1, h2⟩
    have hj' : j < l.length := (List.getElem?_eq_some_iff.1 hj).1
    have hc : ∀ i, i < 2 → w.cell? ⟨g, 0 + j * 2 + i, none⟩ = (encP2 x)[i]? := fun i hi => by
      rw [cell_of_row w g _ cur 51 (0, 0) hh]
      have : (cur.toList.take (l.length * 2))[j * 2 + i]? = (l.flatMap encP2)[j * 2 + i]? := by rw [h4]
      rw [List.getElem?_take, if_pos (by omega)] at this
      rw [Nat.zero_add, ← Array.getElem?_toList, this]
      exact flatP2_at l j _ hj i hi
    exact ⟨by have := hc 0 (by omega); rw [Nat.add_zero] at this; rw [this]; rfl, by rw [hc 1 (by omega)]; rfl⟩
/-! pairs of edges -/
def Eds2 (w : World) (bound : Nat) (a : Option Addr) (n : Nat) (l : List (EdgeL × EdgeL)) : Prop :=
  l.length = n ∧ n ≤ 1000000 ∧ (0 < n → ∃ b off, a = some ⟨b, off, none⟩ ∧ b < bound ∧ ∀ (j : Nat) (x : EdgeL × EdgeL), l[j]? = some x → ∃ s t : ByteArray,
    (w.cell? ⟨b, off + j * 8, none⟩ = some (.string s) ∧ w.cell? ⟨b, off + j * 8 + 1, none⟩ = some (.int .i64 x.1.sk) ∧ w.cell? ⟨b, off + j * 8 + 2, none⟩ = some (.int .i64 x.1.at_) ∧ w.cell? ⟨b, off + j * 8 + 3, none⟩ = some (.int .i64 x.1.next)) ∧
    (w.cell? ⟨b, off + j * 8 + 4, none⟩ = some (.string t) ∧ w.cell? ⟨b, off + j * 8 + 5, none⟩ = some (.int .i64 x.2.sk) ∧ w.cell? ⟨b, off + j * 8 + 6, none⟩ = some (.int .i64 x.2.at_) ∧ w.cell? ⟨b, off + j * 8 + 7, none⟩ = some (.int .i64 x.2.next)) ∧
    s.toList = x.1.label ∧ t.toList = x.2.label)
theorem Eds2.below {w w' : World} {bound : Nat} {a : Option Addr} {n : Nat} {l : List (EdgeL × EdgeL)} (h : Eds2 w bound a n l) (hb : Below bound w w') : Eds2 w' bound a n l :=
  ⟨h.1, h.2.1, fun hn => by
    obtain ⟨b, off, e, hlt, hc⟩ := h.2.2 hn
    refine ⟨b, off, e, hlt, fun j x hj => ?_⟩
    obtain ⟨s, t, ⟨c0, c1, c2, c3⟩, ⟨c4, c5, c6, c7⟩, h1⟩ := hc j x hj
    exact ⟨s, t, ⟨(hb.cell hlt).trans c0, (hb.cell hlt).trans c1, (hb.cell hlt).trans c2, (hb.cell hlt).trans c3⟩, ⟨(hb.cell hlt).trans c4, (hb.cell hlt).trans c5, (hb.cell hlt).trans c6, (hb.cell hlt).trans c7⟩, h1⟩⟩
theorem Eds2.more {w : World} {bound bound' : Nat} {a : Option Addr} {n : Nat} {l : List (EdgeL × EdgeL)} (h : Eds2 w bound a n l) (hb : bound ≤ bound') : Eds2 w bound' a n l :=
  ⟨h.1, h.2.1, fun hn => by
    obtain ⟨b, off, e, hlt, hc⟩ := h.2.2 hn
    exact ⟨b, off, e, by omega, hc⟩⟩
theorem Eds2.on {W W' : World} {a : Option Addr} {n : Nat} {l : List (EdgeL × EdgeL)} (h : Eds2 W W.heap.size a n l) (hb : Below W.heap.size W W') : Eds2 W' W'.heap.size a n l := (h.below hb).more hb.size
theorem Eds2.zero (w : World) (bound : Nat) (a : Option Addr) : Eds2 w bound a 0 [] := ⟨rfl, by omega, fun h => absurd h (Nat.lt_irrefl 0)⟩
def encER2 (t : ER × ER) : List Value := encER t.1 ++ encER t.2
def edgeR2 (t : ER × ER) : EdgeL × EdgeL := (edgeR t.1, edgeR t.2)
def E2Own (w : World) (base : Nat) (v : Value) (l : List (EdgeL × EdgeL)) : Prop := ∃ ts : List (ER × ER), w.ownsRow base 90 8 v l.length (ts.flatMap encER2) ∧ ts.map edgeR2 = l
theorem flatE2_at : ∀ (l : List (ER × ER)) (j : Nat) (t : ER × ER), l[j]? = some t → ∀ i, i < 8 → (l.flatMap encER2)[j * 8 + i]? = (encER2 t)[i]? := by
  intro l
  induction l with
  | nil => intro j t h; cases h
  | cons x l ih =>
    intro j t h i hi
    rw [List.flatMap_cons]
    cases j with
    | zero =>
      injection h with h
      subst h
      rw [Nat.zero_mul, Nat.zero_add, List.getElem?_append_left (by show i < 8; exact hi)]
    | succ j =>
      have e : (j + 1) * 8 + i = 8 + (j * 8 + i) := by omega
      rw [e, List.getElem?_append_right (by show 8 ≤ _; omega)]
      show (l.flatMap encER2)[8 + (j * 8 + i) - 8]? = _
      rw [Nat.add_sub_cancel_left]
      exact ih j t h i hi
theorem encER2s_len (l : List (ER × ER)) : (l.flatMap encER2).length = l.length * 8 := by
  induction l with
  | nil => rfl
  | cons t l ih => rw [List.flatMap_cons, List.length_append, ih, List.length_cons]; show 8 + _ = _; omega
theorem encER2_cell {u : Value} {l : List (ER × ER)} (h : u ∈ l.flatMap encER2) : u.oneCell' = true := by
  obtain ⟨t, _, ht⟩ := List.mem_flatMap.1 h
  unfold encER2 encER at ht
  simp only [List.mem_append, List.mem_cons, List.not_mem_nil, or_false] at ht
  rcases ht with (rfl | rfl | rfl | rfl) | rfl | rfl | rfl | rfl <;> rfl
theorem E2Own.zero (w : World) (base : Nat) : E2Own w base (.slice none 0 0) [] := ⟨[], World.ownsRow_nil w base 90 8, rfl⟩
theorem E2Own.alloc {w : World} {base : Nat} {v : Value} {l : List (EdgeL × EdgeL)} (h : E2Own w base v l) (o : Obj) : E2Own (w.alloc o) base v l := by
  obtain ⟨ts, h1, h2⟩ := h
  exact ⟨ts, World.ownsRow.alloc h1 o, h2⟩
theorem E2Own.kept {w w' : World} {base : Nat} {v : Value} {l : List (EdgeL × EdgeL)} (h : E2Own w base v l) (hb : Below w.heap.size w w') : E2Own w' base v l := by
  obtain ⟨ts, h, h2⟩ := h
  have hlt := h.lt
  refine ⟨ts, ⟨h.1, ?_⟩, h2⟩
  rcases h.2 with h0 | ⟨g, cap, cur, rfl, hbase, hh, h1, h2, h3, h4⟩
  · exact .inl h0
  · exact .inr ⟨g, cap, cur, rfl, hbase, (hb.block g (hlt g rfl).2).trans hh, h1, h2, h3, h4⟩
theorem info_e2 : (Try.prog.info? 90).map (fun i => (i.zero, i.size, i.bytes)) = some (some (.agg #[.string ⟨#[]⟩, .int .i64 0, .int .i64 0, .int .i64 0, .string ⟨#[]⟩, .int .i64 0, .int .i64 0, .int .i64 0]), 8, 80) := by kernel_rfl
/-- One pair of edges more, which the world holds in a new array. -/
theorem E2Own.more1 {w : World} {base : Nat} {v : Value} {l : List (EdgeL × EdgeL)} (h : E2Own w base v l) (hb : base ≤ w.heap.size) (t : ER × ER) {cs : Array Value} (hcs : cs = (encER2 t).toArray) (hlen : l.length + 1 ≤ 1000000) (ty : Nat) :
    ∃ v' w', (Builtin.append_ #[87, 87] ty #[v, .slice (some ⟨w.heap.size, 0, none⟩) 1 1]).run Try.prog (w.alloc (.cells cs 90)) = .ok v' w' ∧ E2Own w' base v' (l ++ [edgeR2 t]) ∧ (∀ B, B ≤ base → ∀ w0, Below B w0 w → Below B w0 w') ∧ Keeps v w w' := by
  subst hcs
  obtain ⟨i0, hi0, hzz⟩ := Option.map_eq_some_iff.1 info_e2
  simp only [Prod.mk.injEq] at hzz
  obtain ⟨hz, hs1, hb1⟩ := hzz
  obtain ⟨bs, ho, hl⟩ := h
  obtain ⟨v', w', hrun, hown, hgr, _, hat⟩ := run_append_own_at (P := Try.prog) (w.alloc (.cells (encER2 t).toArray 90)) base 87 ty 90 i0 _ 8 80 Try.underlying87 hi0 hz hs1 hb1 rfl (by omega) v l.length (bs.flatMap encER2) (World.ownsRow.alloc ho _) ⟨w.heap.size, 0, none⟩ 1 1 (encER2 t) rfl
    (fun j u hu => by
      rw [Go.WideShapes.add_plain, cell_of_row _ _ _ _ _ _ (heap_alloc_new w _), List.getElem?_toArray, Nat.zero_add]
      exact hu)
    (fun u hu => encER2_cell (l := [t]) (by simpa using hu)) (by unfold maxLen; omega) (by omega) (by simp; omega)
  refine ⟨v', w', hrun, ⟨bs ++ [t], ?_, by rw [List.map_append, hl]; rfl⟩, fun B hB w0 hw0 => ?_, by have := hgr.size; simp at this; omega, fun b hb hne => (hgr.block b (by simp; omega) (fun e => hne e.symm)).trans ((tu1 w _).block b hb)⟩
  · rw [List.length_append, List.flatMap_append]
    show w'.ownsRow base 90 8 v' (l.length + 1) _
    rw [show ([t].flatMap encER2) = encER2 t by simp]
    exact hown
  · exact (hw0.alloc (by omega) _).grown hgr (by simp; omega) (fun k hk => by
      have := (World.ownsRow.alloc ho (.cells (encER2 t).toArray 90)).lt k hk
      omega)
theorem wpList_append_e2 {ops : Array Oper} {rest : List Oper} {o : Oper} {a : Act} {Q : Exit → Act → World → Prop} {W : World} {cells : Array Value} (hgd : o.guard = none) (s x : Operand)
    (ho : o.op = .call { callee := .builtin .append, args := #[s, x], argTypes := #[87, 87] }) (base : Nat) (v : Value) (l : List (EdgeL × EdgeL)) (t : ER × ER) (hc : cells = (encER2 t).toArray)
    (hs : a.eval s = v) {g : Nat} (hx : a.eval x = .slice (some ⟨g, 0, none⟩) 1 1) (hg : g = W.heap.size) (hB : E2Own W base v l) (hb : base ≤ W.heap.size) (hlen : l.length + 1 ≤ 1000000)
    (h : ∀ v' w', E2Own w' base v' (l ++ [edgeR2 t]) → Below base W w' → Keeps v W w' → wpList Try.prog ops Q rest (a.put o.dst v') w') : wpList Try.prog ops Q (o :: rest) a (W.alloc (.cells cells 90)) := by
  subst hg
  obtain ⟨v', w', hrun, hown, hbel, hk⟩ := hB.more1 hb t hc hlen o.type
  exact wpList_append_lx hgd s x _ ho _ _ _ hs hx hrun (h v' w' hown (hbel base (Nat.le_refl _) W (Below.refl _ _)) hk)
theorem E2Own.other {w : World} {base : Nat} {v : Value} {l : List (EdgeL × EdgeL)} (h : E2Own w base v l) {g : Nat} {cs : Array Value} {e : TypeId} {fr : Nat × Nat} (hg : w.heap[g]? = some (.cells cs e fr)) (he : e ≠ 90) : v.ownBlock ≠ some g := fun e1 => by
  obtain ⟨ts, h, _⟩ := h
  rcases h.2 with ⟨rfl, _⟩ | ⟨b, cap, cur, rfl, _, hh, _⟩
  · cases e1
  · obtain rfl := Option.some.inj e1
    rw [hh] at hg
    exact he (Obj.cells.inj (Option.some.inj hg)).2.1.symm
theorem E2Own.sees {w : World} {base : Nat} {v : Value} {l : List (EdgeL × EdgeL)} (h : E2Own w base v l) (hl : l.length ≤ 1000000) : ∃ a c, v = .slice a l.length c ∧ Eds2 w w.heap.size a l.length l := by
  obtain ⟨bs, h, hbl⟩ := h
  have hlen : bs.length = l.length := by rw [← hbl, List.length_map]
  have hlt := h.lt
  rcases h.2 with ⟨h0, h1⟩ | ⟨g, cap, cur, rfl, hbase, hh, h1, h2, h3, h4⟩
  · have hz : l = [] := List.eq_nil_of_length_eq_zero h1
    subst hz
    exact ⟨none, 0, h0, Eds2.zero _ _ _⟩
  · refine ⟨_, cap, rfl, ⟨rfl, by omega, fun _ => ⟨g, 0, rfl, (hlt g rfl).2, fun j x hj => ?_⟩⟩⟩
    have hj' : j < l.length := (List.getElem?_eq_some_iff.1 hj).1
    have hb' := List.getElem?_eq_getElem (l := bs) (i := j) (by omega)
    have hx : x = edgeR2 (bs[j]'(by omega)) := by
      rw [← hbl, List.getElem?_map, hb'] at hj
      exact (Option.some.inj hj).symm
    have hc : ∀ i, i < 8 → w.cell? ⟨g, 0 + j * 8 + i, none⟩ = (encER2 (bs[j]'(by omega)))[i]? := fun i hi => by
      rw [cell_of_row w g _ cur 90 (0, 0) hh]
      have : (cur.toList.take (l.length * 8))[j * 8 + i]? = (bs.flatMap encER2)[j * 8 + i]? := by rw [h4]
      rw [List.getElem?_take, if_pos (by omega)] at this
      rw [Nat.zero_add, ← Array.getElem?_toList, this]
      exact flatE2_at bs j _ hb' i hi
    refine ⟨(bs[j]'(by omega)).1.s, (bs[j]'(by omega)).2.s, ⟨?_, ?_, ?_, ?_⟩, ⟨?_, ?_, ?_, ?_⟩, by rw [hx]; rfl, by rw [hx]; rfl⟩
    · have := hc 0 (by omega); rw [Nat.add_zero] at this; rw [this]; rfl
    · rw [hc 1 (by omega), hx]; rfl
    · rw [hc 2 (by omega), hx]; rfl
    · rw [hc 3 (by omega), hx]; rfl
    · rw [hc 4 (by omega)]; rfl
    · rw [hc 5 (by omega), hx]; rfl
    · rw [hc 6 (by omega), hx]; rfl
    · rw [hc 7 (by omega), hx]; rfl
/-! a set of pairs -/
theorem arrP : ArrKey Try.prog 51 3 2 := ⟨Try.underlying51, by kernel_rfl, by kernel_rfl, by kernel_rfl⟩
theorem keyedP : Keyed Try.prog 51 := Keyed.of_law arrP.law
theorem typesP : ∃ m, Try.prog.types.size = m + 1 := ⟨Try.prog.types.size - 1, by kernel_rfl⟩
def keyP (p : Int × Int) : Lit := .string (keyBytes [.int .i64 p.1, .int .i64 p.2])
def smallP (p : Int × Int) : Prop := -9223372036854775808 ≤ p.1 ∧ p.1 ≤ 9223372036854775807 ∧ -9223372036854775808 ≤ p.2 ∧ p.2 ≤ 9223372036854775807
theorem wf_small {a : Int} (h0 : -9223372036854775808 ≤ a) (h1 : a ≤ 9223372036854775807) : (Lit.int .i64 a).wf = true := by
  have e0 : IntKind.min .i64 = -9223372036854775808 := by decide
  have e1 : IntKind.max .i64 = 9223372036854775807 := by decide
  show (decide (IntKind.min .i64 ≤ a) && decide (a ≤ IntKind.max .i64)) = true
  rw [e0, e1, decide_eq_true h0, decide_eq_true h1]
  rfl
theorem keyOfP {p : Int × Int} (h : smallP p) : keyOf Try.prog 51 (.agg #[.int .i64 p.1, .int .i64 p.2]) = some (keyP p) :=
  keyOf_pair arrP Try.underlying3 typesP (wf_small h.1 h.2.1) (wf_small h.2.2.1 h.2.2.2)
theorem keyP_ne {p q : Int × Int} (hp : smallP p) (hq : smallP q) (h : p ≠ q) : keyP p ≠ keyP q := fun e => by
  have h1 := keyedP.inj (keyOfP hp) (by rw [e]; exact keyOfP hq)
  injection h1 with h1
  have h2 := congrArg Array.toList h1
  injection h2 with h3 h4
  injection h3 with _ h3
  injection h4 with h4 _
  injection h4 with _ h4
  exact h (Prod.ext h3 h4)
/-- The block holds a set of pairs: a map to truths. -/
def PSet (w : World) (b : Nat) (row : List (Int × Int)) : Prop :=
  ∃ (n : Nat) (D : DataW Unit), w.ownsMap Try.prog 51 (plainElem Try.prog 4) b n D ∧ n ≤ row.length ∧ row.length ≤ 1000001 ∧
    ∀ x, smallP x → D.atKey (keyP x) (.lit (.bool false)) = .lit (.bool (decide (x ∈ row)))
theorem PSet.made (w : World) : PSet (w.alloc (.map #[] 0)) w.heap.size [] :=
  ⟨0, .map [], World.ownsMap_made _ _ _ _, Nat.le_refl _, by simp, fun x _ => rfl⟩
theorem PSet.kept {w w' : World} {b : Nat} {row : List (Int × Int)} {r : Option Nat} (h : PSet w b row) (hg : w.grownBy w' r) (hne : some b ≠ r) : PSet w' b row := by
  obtain ⟨n, D, h1, h2⟩ := h
  exact ⟨n, D, h1.kept hg hne, h2⟩
theorem PSet.lt {w : World} {b : Nat} {row : List (Int × Int)} (h : PSet w b row) : b < w.heap.size := by
  obtain ⟨n, D, h1, _⟩ := h
  exact h1.lt
theorem PSet.block {w w' : World} {b : Nat} {row : List (Int × Int)} (h : PSet w b row) (hb : w'.heap[b]? = w.heap[b]?) : PSet w' b row := by
  obtain ⟨n, D, ⟨es, clock, h1, h2⟩, h3⟩ := h
  exact ⟨n, D, ⟨es, clock, hb.trans h1, h2⟩, h3⟩
theorem PSet.on {w w' : World} {b : Nat} {row : List (Int × Int)} (h : PSet w b row) (hb : Below w.heap.size w w') : PSet w' b row := h.block (hb.block b h.lt)
set_option maxRecDepth 20000 in
theorem PSet.look {w : World} {b : Nat} {row : List (Int × Int)} (h : PSet w b row) {x y : Int} (hx : smallP (x, y)) :
    (Instr.lookup 72 (.map (some b)) (.agg #[.int .i64 x, .int .i64 y]) false).run Try.prog w = .ok (.bool (decide ((x, y) ∈ row))) w := by
  obtain ⟨n, D, h1, _, _, h4⟩ := h
  obtain ⟨v, ps, hrun, hv⟩ := h1.lookup keyedP Try.underlying72 (z := .bool false) (by kernel_rfl) (plainElem_bool Try.underlying4 false) (keyOfP hx)
  have h5 := h4 (x, y) hx
  rw [h5] at hv
  unfold plainElem at hv
  rw [Try.underlying4] at hv
  cases v <;> simp at hv
  obtain ⟨rfl, _⟩ := hv
  exact hrun
theorem PSet.put {w : World} {b : Nat} {row : List (Int × Int)} (h : PSet w b row) {x y : Int} (hx : smallP (x, y)) (hl : row.length ≤ 1000000) :
    ∃ w', (Instr.mapUpdate 72 (.map (some b)) (.agg #[.int .i64 x, .int .i64 y]) (.bool true)).run Try.prog w = .ok () w' ∧ PSet w' b (row ++ [(x, y)]) ∧ w.grownBy w' (some b) := by
  obtain ⟨n, D, h1, h2, h3, h4⟩ := h
  obtain ⟨w', hrun, hown, hgr⟩ := h1.update keyedP Try.underlying72 (by unfold maxLen; omega) (keyOfP hx) (plainElem_bool Try.underlying4 true)
  refine ⟨w', hrun, ⟨n + 1, _, hown, by simp; omega, by simp; omega, fun z hz => ?_⟩, hgr⟩
  by_cases e : z = (x, y)
  · subst e
    rw [atKey_put_same h1.isMap (show WideAt.IsKeyLit (keyP (x, y)) from trivial)]
    simp
  · have hne := keyP_ne hz hx e
    have h5 := h4 z hz
    have hiff : z ∈ row ++ [(x, y)] ↔ z ∈ row := by simp [e]
    rw [atKey_put_other hne, h5, decide_eq_decide.2 hiff]
theorem wpList_mapUpdate_pair {ops : Array Oper} {rest : List Oper} {o : Oper} {a : Act} {Q : Exit → Act → World → Prop} {W : World} (hg : o.guard = none) (m x v : Operand) (hop : o.op = Op.mapUpdate 72 m x v)
    (b : Nat) (row : List (Int × Int)) (hm : a.eval m = .map (some b)) (hown : PSet W b row) (y z : Int) (hy : smallP (y, z)) (hl : row.length ≤ 1000000) (hx : a.eval x = .agg #[.int .i64 y, .int .i64 z]) (hv : a.eval v = .bool true)
    (hK : ∀ w', PSet w' b (row ++ [(y, z)]) → W.grownBy w' (some b) → wpList Try.prog ops Q rest (a.put o.dst undef) w') :
    wpList Try.prog ops Q (o :: rest) a W := by
  refine wpList_plain hg fun K' hK' => ?_
  obtain ⟨w', hrun, r1, r2⟩ := hown.put hy hl
  unfold Oper.wp
  simp [execOp, hop, hm, hx, hv, hrun, Result.andThen]
  exact hK' _ _ (hK w' r1 r2)
end Go.Proofs.Ytpjocacepafneaa

/- Contracts of under.common, needed, carried and areNodes. -/
namespace Go.Proofs.Ytpjocacepafneaa
open Go.RowKit Go.Sort

theorem comB_take {x y : List EdgeL} {k : Nat} {e : EdgeL} (h : x[k]? = some e) : comB (x.take (k + 1)) y = comB (x.take k) y ++ (y.filter fun f => decide (e.label = f.label)).map fun f => (e, f) := by
  unfold comB
  rw [List.take_add_one, h, Option.toList_some, List.flatMap_append]
  simp
theorem comF_take {e : EdgeL} {y : List EdgeL} {k : Nat} {f : EdgeL} (h : y[k]? = some f) : ((y.take (k + 1)).filter fun f => decide (e.label = f.label)).map (fun f => (e, f)) = ((y.take k).filter fun f => decide (e.label = f.label)).map (fun f => (e, f)) ++ if e.label = f.label then [(e, f)] else [] := by
  rw [List.take_add_one, h, Option.toList_some, List.filter_append, List.map_append]
  congr 1
  by_cases hl : e.label = f.label
  · rw [if_pos hl, List.filter_cons_of_pos (by rw [decide_eq_true_eq]; exact hl)]; rfl
  · rw [if_neg hl, List.filter_cons_of_neg (by rw [decide_eq_true_eq]; exact hl)]; rfl
theorem filter_le {α : Type} (p : α → Bool) (l : List α) : (l.filter p).length ≤ l.length := List.length_filter_le p l
theorem com_few (x y : List EdgeL) : (comB x y).length ≤ x.length * y.length := by
  induction x with
  | nil => simp [comB]
  | cons e x ih =>
    have e0 : comB (e :: x) y = ((y.filter fun f => decide (e.label = f.label)).map fun f => (e, f)) ++ comB x y := rfl
    rw [e0, List.length_append, List.length_map, List.length_cons, Nat.add_mul, Nat.one_mul]
    have := filter_le (fun f => decide (e.label = f.label)) y
    omega
abbrev nodeV (k : Int) (p : ByteArray) (a : Option Addr) (n c : Nat) : Value := .agg #[.int .i64 k, .string p, .slice a n c]
theorem NBox.block {W W' : World} {g : Nat} {kd : Int} {s : ByteArray} {aa : Option Addr} {an ac : Nat} (h : NBox W g kd s aa an ac) (hb : W'.heap[g]? = W.heap[g]?) : NBox W' g kd s aa an ac := hb.trans h
theorem carried_any (k x y : Int) (w : World) : Calls Try.prog 63 #[.int .i64 k, .int .i64 x, .int .i64 y] w fun e w' => e = .returned (.agg #[.int .i64 (carB k x y).1, .int .i64 (carB k x y).2]) ∧ Below w.heap.size w w' := by
  by_cases hk : k = 1
  · subst hk
    go_enter Try.func63, Try.ntmps63
    go_wp2_with fail
    refine bodyPost_ret (v := .agg #[.int .i64 y, .int .i64 x]) (by simp [results, go_sem]) rfl ?_
    exact ⟨rfl, (tu1 w _)⟩
  · have hk2 : ((k : Int) == 1) = false := by rw [beq_eq_false_iff_ne]; exact hk
    have HC := Lib.hid (show carB k x y = (x, y) by unfold carB; rw [if_neg hk])
    clear hk
    go_enter Try.func63, Try.ntmps63
    go_wp2_with fail
    refine bodyPost_ret (v := .agg #[.int .i64 x, .int .i64 y]) (by simp [results, go_sem]) rfl ?_
    exact ⟨by rw [HC.out], (tu1 w _)⟩
theorem needed_any (xk : Int) (xp : ByteArray) (xa : Option Addr) (xn xc : Nat) (yk : Int) (yp : ByteArray) (ya : Option Addr) (yn yc : Nat) (w : World) :
    Calls Try.prog 62 #[nodeV xk xp xa xn xc, nodeV yk yp ya yn yc] w fun e w' => e = .returned (if xk = 2 then .slice xa xn xc else .slice ya yn yc) ∧ Below w.heap.size w w' := by
  have HB := Lib.hid (below_on (tu1 w (.cells #[.int .i64 xk, .string xp, .slice xa xn xc] 39)) (tu1 _ (.cells #[.int .i64 yk, .string yp, .slice ya yn yc] 39)))
  by_cases hk : xk = 2
  · subst hk
    rw [if_pos rfl]
    go_enter Try.func62, Try.ntmps62
    go_wp2_with fail
    go_ret
    exact ⟨rfl, HB.out⟩
  · rw [if_neg hk]
    have hk2 : ((xk : Int) == 2) = false := by rw [beq_eq_false_iff_ne]; exact hk
    clear hk
    go_enter Try.func62, Try.ntmps62
    go_wp2_with fail
    go_ret
    exact ⟨rfl, HB.out⟩
theorem inBk_low {n : Nat} {x : Int} (h : decide (x < 0) = true) : inBk n x = false := by
  rw [decide_eq_true_eq] at h
  unfold inBk
  rw [decide_eq_false (by omega)]
  rfl
theorem inBk_high {n : Nat} {x : Int} (h : decide ((n : Int) ≤ x) = true) : inBk n x = false := by
  rw [decide_eq_true_eq] at h
  unfold inBk
  rw [decide_eq_false (p := x < (n : Int)) (by omega), Bool.and_false]
theorem inBk_yes {n : Nat} {x : Int} (h : decide (x < 0) = false) (k : decide ((n : Int) ≤ x) = false) : inBk n x = true := by
  rw [decide_eq_false_iff_not] at h k
  unfold inBk
  rw [decide_eq_true (by omega), decide_eq_true (by omega)]
  rfl
set_option maxHeartbeats 4000000 in
set_option maxRecDepth 20000 in
theorem areNodes_any (na : Option Addr) (nn nc : Nat) (sa : Option Addr) (sn sc : Nat) (ra : Option Addr) (rn rc : Nat) (x y : Int) (w : World) :
    Calls Try.prog 49 #[bkV na nn nc sa sn sc ra rn rc, .agg #[.int .i64 x, .int .i64 y]] w fun e w' => e = .returned (.bool (inP nn (x, y))) ∧ Below w.heap.size w w' := by
  have HB := Lib.hid (below_on (tu1 w (.cells #[.slice na nn nc, .slice sa sn sc, .slice ra rn rc] 26)) (tu1 _ (.cells #[.int .i64 x, .int .i64 y] 51)))
  obtain ⟨R, hR⟩ : ∃ R, R = inP nn (x, y) := ⟨_, rfl⟩
  rw [← hR]
  have HR := Lib.hid (show R = (inBk nn x && inBk nn y) from hR)
  clear hR
  have i0 : ∀ W : World, (Instr.index 51 (.agg #[.int .i64 x, .int .i64 y]) (.int .i64 0)).run Try.prog W = .ok (.int .i64 x) W := fun W => by kernel_rfl
  have i1 : ∀ W : World, (Instr.index 51 (.agg #[.int .i64 x, .int .i64 y]) (.int .i64 1)).run Try.prog W = .ok (.int .i64 y) W := fun W => by kernel_rfl
  go_enter Try.func49, Try.ntmps49
  go_wp2_with fail
  go_loopw [8] (fun v wr => (v = .int .i64 0 ∨ v = .int .i64 1 ∧ inBk nn x = true ∨ v = .int .i64 2 ∧ inBk nn x = true ∧ inBk nn y = true) ∧ Hid (BBox wr w.heap.size na nn nc sa sn sc ra rn rc) ∧ Hid (Below w.heap.size w wr)) (fun v _ => 2 - (intOf v).toNat)
  case atStart => exact ⟨.inl rfl, Lib.hid ((tu1 _ (.cells #[.int .i64 x, .int .i64 y] 51)).block _ (by simp) |>.trans (heap_alloc_new w _)), HB⟩
  case round =>
    clear HB
    obtain ⟨hk, HX, HB⟩ := hrel
    obtain ⟨b0, b1, b2⟩ := HX.out.cells
    rcases hk with rfl | ⟨rfl, hx⟩ | ⟨rfl, hx, hy⟩
    · cases h1 : decide (x < 0)
      · cases h2 : decide ((nn : Int) ≤ x)
        · have hx := inBk_yes h1 h2
          go_wp2_with fail
          go_roundw
          case rel => exact ⟨.inr (.inl ⟨rfl, hx⟩), HX, HB⟩
          case measure => simp [intOf]
        · have HZ := Lib.hid (show R = false by rw [HR.out, inBk_high h2]; rfl)
          go_wp2_with fail
          go_ret
          exact ⟨ret_bool HZ.out.symm, HB.out⟩
      · have HZ := Lib.hid (show R = false by rw [HR.out, inBk_low h1]; rfl)
        go_wp2_with fail
        go_ret
        exact ⟨ret_bool HZ.out.symm, HB.out⟩
    · cases h1 : decide (y < 0)
      · cases h2 : decide ((nn : Int) ≤ y)
        · have hy := inBk_yes h1 h2
          go_wp2_with fail
          go_roundw
          case rel => exact ⟨.inr (.inr ⟨rfl, hx, hy⟩), HX, HB⟩
          case measure => simp [intOf]
        · have HZ := Lib.hid (show R = false by rw [HR.out, inBk_high h2, Bool.and_false])
          clear hx
          go_wp2_with fail
          go_ret
          exact ⟨ret_bool HZ.out.symm, HB.out⟩
      · have HZ := Lib.hid (show R = false by rw [HR.out, inBk_low h1, Bool.and_false])
        clear hx
        go_wp2_with fail
        go_ret
        exact ⟨ret_bool HZ.out.symm, HB.out⟩
    · have HZ := Lib.hid (show R = true by rw [HR.out, hx, hy]; rfl)
      clear hx hy
      go_wp2_with fail
      go_ret
      exact ⟨ret_bool HZ.out.symm, HB.out⟩
set_option maxHeartbeats 8000000 in
set_option maxRecDepth 20000 in
theorem common_any (xk : Int) (xp : ByteArray) (xa : Option Addr) (xn xc : Nat) (xl : List EdgeL) (yk : Int) (yp : ByteArray) (ya : Option Addr) (yn yc : Nat) (yl : List EdgeL) (w : World) (bound : Nat) (hb : bound ≤ w.heap.size) (hx : Edges w bound xa xn xl) (hy : Edges w bound ya yn yl) (hx6 : xn ≤ 6) (hy6 : yn ≤ 6) :
    Calls Try.prog 61 #[nodeV xk xp xa xn xc, nodeV yk yp ya yn yc] w fun e w' => (∃ a n c, e = .returned (.slice a n c) ∧ Eds2 w' w'.heap.size a n (comB xl yl)) ∧ Below w.heap.size w w' := by
  obtain ⟨W1, hW1⟩ : ∃ W1, W1 = (w.alloc (.cells #[.int .i64 xk, .string xp, .slice xa xn xc] 39)).alloc (.cells #[.int .i64 yk, .string yp, .slice ya yn yc] 39) := ⟨_, rfl⟩
  have hz1 : W1.heap.size = w.heap.size + 2 := by rw [hW1]; simp
  have HB1 := Lib.hid (show Below w.heap.size w W1 by rw [hW1]; exact below_on (tu1 w _) (tu1 _ _))
  have HX1 := Lib.hid (show NBox W1 w.heap.size xk xp xa xn xc by rw [hW1]; exact (tu1 _ _).block _ (by simp) |>.trans (heap_alloc_new w _))
  have HY1 := Lib.hid (show NBox W1 (w.heap.size + 1) yk yp ya yn yc by
    have h1 := heap_alloc_new (w.alloc (.cells #[.int .i64 xk, .string xp, .slice xa xn xc] 39)) (.cells #[.int .i64 yk, .string yp, .slice ya yn yc] 39)
    rw [World.size_alloc] at h1
    rw [hW1]; exact h1)
  have HEX := Lib.hid hx
  have HEY := Lib.hid hy
  have HLX := Lib.hid hx.1
  have HLY := Lib.hid hy.1
  clear hx hy
  subst hW1
  go_enter Try.func61, Try.ntmps61
  obtain ⟨x0, x1, x2⟩ := HX1.out.cells
  go_wp2_with fail
  clear x0 x1 x2
  generalize ((w.alloc (.cells #[.int .i64 xk, .string xp, .slice xa xn xc] 39)).alloc (.cells #[.int .i64 yk, .string yp, .slice ya yn yc] 39)) = W1 at hz1 HB1 HX1 HY1 ⊢
  go_loopw [5, 13] (fun s i wr => ∃ (j : Nat) (v : Value), j ≤ xn ∧ i = .int .i64 j ∧ v = s ∧ Hid (E2Own wr W1.heap.size v (comB (xl.take j) yl)) ∧ Hid (Below W1.heap.size W1 wr)) (fun _ i _ => xn - (intOf i).toNat)
  case atStart => exact ⟨0, _, Nat.zero_le _, rfl, rfl, Lib.hid (E2Own.zero _ _), Lib.hid (Below.refl _ _)⟩
  case round =>
    obtain ⟨j, v, hj, rfl, hvs, HO, HBr⟩ := hrel
    subst hvs
    have hzr := HBr.out.size
    by_cases hlt : j < xn
    · obtain ⟨b, off, s, sk, ta, nx, rfl, hbb, hx, ⟨q0, q1, q2, q3⟩, hs⟩ := ((HEX.out.below (HB1.out.mono hb)).below (HBr.out.mono (by omega))).at_ hlt
      have i1 : (j : Int) < (xn : Int) := by omega
      have i2 : (0 : Int) ≤ (j : Int) := by omega
      have HT := Lib.hid (comB_take (y := yl) hx)
      have HJ := Lib.hid (show (comB (xl.take j) yl).length ≤ 36 by
        have h1 := com_few (xl.take j) yl
        rw [List.length_take] at h1
        have h2 : min j xl.length * yl.length ≤ 6 * 6 := Nat.mul_le_mul (by omega) (by rw [HLY.out]; omega)
        omega)
      have HEB := Lib.hid (show EBox (wr.alloc (.cells #[.string s, .int .i64 sk, .int .i64 ta, .int .i64 nx] 43)) wr.heap.size s sk ta nx from heap_alloc_new wr _)
      have HOB := Lib.hid (HO.out.alloc (.cells #[.string s, .int .i64 sk, .int .i64 ta, .int .i64 nx] 43))
      have HBb := Lib.hid (HBr.out.alloc hzr (.cells #[.string s, .int .i64 sk, .int .i64 ta, .int .i64 nx] 43))
      obtain ⟨y0, y1, y2⟩ := (HY1.out.block (HBb.out.block (w.heap.size + 1) (by omega))).cells
      clear hx
      go_wp2_with fail
      clear y0 y1 y2 q0 q1 q2 q3
      obtain ⟨g, hg⟩ : ∃ g, g = wr.heap.size := ⟨_, rfl⟩
      have hszb : (wr.alloc (.cells #[.string s, .int .i64 sk, .int .i64 ta, .int .i64 nx] 43)).heap.size = g + 1 := by rw [World.size_alloc, hg]
      rw [← hg] at HEB ⊢
      have hgz : W1.heap.size ≤ g := by omega
      clear hg
      generalize wr.alloc (.cells #[.string s, .int .i64 sk, .int .i64 ta, .int .i64 nx] 43) = wb at hszb HEB HOB HBb ⊢
      obtain ⟨J, hJ⟩ : ∃ J, J = comB (xl.take j) yl := ⟨_, rfl⟩
      rw [← hJ] at HOB HT HJ
      clear hJ HO HBr hzr
      go_loopw [5, 20] (fun s2 i wt => ∃ (k : Nat) (v2 : Value), k ≤ yn ∧ i = .int .i64 k ∧ v2 = s2 ∧ Hid (E2Own wt W1.heap.size v2 (J ++ ((yl.take k).filter fun f => decide (s.toList = f.label)).map fun f => ((⟨s.toList, sk, ta, nx⟩ : EdgeL), f))) ∧ Hid (EBox wt g s sk ta nx) ∧ Hid (Below W1.heap.size W1 wt)) (fun _ i _ => yn - (intOf i).toNat)
      case atStart => exact ⟨0, _, Nat.zero_le _, rfl, rfl, Lib.hid (by rw [List.take_zero]; show E2Own _ _ _ (J ++ []); rw [List.append_nil]; exact HOB.out), HEB, HBb⟩
      case round =>
        clear HOB HEB HBb hszb
        obtain ⟨k, v2, hk, rfl, hvs, HO, HEB, HBr⟩ := hrel
        subst hvs
        have hzr := HBr.out.size
        obtain ⟨c0, c1, c2, c3⟩ := HEB.out.cells
        have hglt := (Array.getElem?_eq_some_iff.1 HEB.out).1
        by_cases hlt2 : k < yn
        · obtain ⟨b2, off2, u, uk, ut, un, rfl, hbb2, hy, ⟨q0, q1, q2, q3⟩, hu⟩ := ((HEY.out.below (HB1.out.mono hb)).below (HBr.out.mono (by omega))).at_ hlt2
          have j1 : (k : Int) < (yn : Int) := by omega
          have j2 : (0 : Int) ≤ (k : Int) := by omega
          have HF := Lib.hid (comF_take (e := (⟨s.toList, sk, ta, nx⟩ : EdgeL)) hy)
          have HKL := Lib.hid (show (J ++ ((yl.take k).filter fun f => decide (s.toList = f.label)).map fun f => ((⟨s.toList, sk, ta, nx⟩ : EdgeL), f)).length ≤ 42 by
            have h1 := List.length_filter_le (fun f : EdgeL => decide (s.toList = f.label)) (yl.take k)
            have h2 := HJ.out
            rw [List.length_append, List.length_map]
            rw [List.length_take] at h1
            omega)
          clear hy
          cases hq : (s.toList == u.toList)
          · have hne : ¬ s.toList = u.toList := by rw [beq_eq_false_iff_ne] at hq; exact hq
            have hT := HF.out
            rw [if_neg hne, List.append_nil] at hT
            have HT2 := Lib.hid hT
            clear hne hT HF
            go_wp2_with fail
            go_roundw
            case rel => exact ⟨k + 1, _, by omega, by go_num, rfl, Lib.hid (by have h1 := HT2.out; dsimp only at h1; rw [h1]; exact HO.out.alloc _), Lib.hid ((tu1 wr _).block g hglt |>.trans HEB.out), Lib.hid (HBr.out.alloc hzr _)⟩
            case measure => simp [intOf]; omega
          · have hne : s.toList = u.toList := eq_of_beq hq
            have hT := HF.out
            rw [if_pos hne] at hT
            have HT2 := Lib.hid hT
            clear hne hT HF
            have HEG := Lib.hid (show EBox (wr.alloc (.cells #[.string u, .int .i64 uk, .int .i64 ut, .int .i64 un] 43)) wr.heap.size u uk ut un from heap_alloc_new wr _)
            obtain ⟨d0, d1, d2, d3⟩ := HEG.out.cells
            go_wp2_with (first
              | (at_builtin
                 refine wpList_append_e2 rfl (.tmp 29) (.tmp 33) rfl W1.heap.size _ _ (⟨s, sk, ta, nx⟩, ⟨u, uk, ut, un⟩) rfl rfl rfl (by simp) (HO.out.alloc _) (by simp; omega) (by have := HKL.out; omega) ?_
                 intro v3 w3 ho3 hb3 hk3
                 have HO3 := Lib.hid ho3
                 have HB3 := Lib.hid ((HBr.out.alloc hzr (.cells #[.string u, .int .i64 uk, .int .i64 ut, .int .i64 un] 43)).trans hb3)
                 have HE3 := Lib.hid (show EBox w3 g s sk ta nx from (hk3.2 g (by simp; omega) (HO.out.alloc (.cells #[.string u, .int .i64 uk, .int .i64 ut, .int .i64 un] 43) |>.other (((tu1 wr _).block g hglt).trans HEB.out) (by decide))).trans (((tu1 wr _).block g hglt).trans HEB.out))
                 clear ho3 hb3 hk3)
              | fail)
            go_roundw
            case rel => exact ⟨k + 1, _, by omega, by go_num, rfl, Lib.hid (by have h1 := HT2.out; dsimp only at h1; rw [h1, ← List.append_assoc]; exact HO3.out), HE3, HB3⟩
            case measure => simp [intOf]; omega
        · obtain rfl : k = yn := by omega
          have HZ := Lib.hid (show J ++ ((yl.take k).filter fun f => decide (s.toList = f.label)).map (fun f => ((⟨s.toList, sk, ta, nx⟩ : EdgeL), f)) = comB (xl.take (j + 1)) yl by
            rw [HT.out, List.take_of_length_le (by rw [HLY.out]; exact Nat.le_refl _)])
          have d3 : decide ((k : Int) < (k : Int)) = false := decide_eq_false (by omega)
          clear c0 c1 c2 c3
          go_wp2_with fail
          go_roundw
          case rel => exact ⟨j + 1, _, by omega, by go_num, rfl, Lib.hid (by rw [← HZ.out]; exact HO.out), HBr⟩
          case measure => simp [intOf]; omega
    · obtain rfl : j = xn := by omega
      have d3 : decide ((j : Int) < (j : Int)) = false := decide_eq_false (by omega)
      have hlen : (comB xl yl).length ≤ 1000000 := by
        have h1 := com_few xl yl
        have h2 : xl.length * yl.length ≤ 6 * 6 := Nat.mul_le_mul (by rw [HLX.out]; omega) (by rw [HLY.out]; omega)
        omega
      have HO2 := Lib.hid (show E2Own wr W1.heap.size v (comB xl yl) from by have h1 := HO.out; rwa [List.take_of_length_le (by rw [HLX.out]; exact Nat.le_refl _)] at h1)
      clear HO
      obtain ⟨oa, oc, rfl, ho⟩ := HO2.out.sees hlen
      have HE2 := Lib.hid ho
      clear ho hlen
      go_wp2_with fail
      go_ret
      exact ⟨⟨_, _, _, rfl, HE2.out⟩, HB1.out.trans (HBr.out.mono (by omega))⟩
end Go.Proofs.Ytpjocacepafneaa

/- Contract of under.obligations. -/
namespace Go.Proofs.Ytpjocacepafneaa
open Go.RowKit Go.Sort

theorem nodU_two (w : World) (k k' : Int) (s s' : ByteArray) (a a' : Option Addr) (n c n' c' : Nat) :
    let W := ((w.alloc (.cells #[.int .i64 k, .string s, .slice a n c] 39)).alloc (.cells #[.int .i64 k', .string s', .slice a' n' c'] 39)).drew
    NBox W w.heap.size k s a n c ∧ NBox W (w.heap.size + 1) k' s' a' n' c' ∧ Below w.heap.size w W := by
  intro W
  have h2 : W.heap[w.heap.size + 1]? = some (.cells #[.int .i64 k', .string s', .slice a' n' c'] 39 (0, 0)) := by
    have := heap_alloc_new (w.alloc (.cells #[.int .i64 k, .string s, .slice a n c] 39)) (.cells #[.int .i64 k', .string s', .slice a' n' c'] 39)
    rw [World.size_alloc] at this
    exact this
  exact ⟨((tu1 (w.alloc (.cells #[.int .i64 k, .string s, .slice a n c] 39)) (.cells #[.int .i64 k', .string s', .slice a' n' c'] 39)).block w.heap.size (by simp)).trans (heap_alloc_new w _), h2, bel_drewN (below_on (tu1 w _) (tu1 _ _)) 1⟩
theorem edgU_two (w : World) (s : ByteArray) (k u x : Int) (s' : ByteArray) (k' u' x' : Int) :
    let W := ((w.alloc (.cells #[.string s, .int .i64 k, .int .i64 u, .int .i64 x] 43)).alloc (.cells #[.string s', .int .i64 k', .int .i64 u', .int .i64 x'] 43)).drew
    EBox W w.heap.size s k u x ∧ EBox W (w.heap.size + 1) s' k' u' x' ∧ Below w.heap.size w W := by
  intro W
  have h2 : W.heap[w.heap.size + 1]? = some (.cells #[.string s', .int .i64 k', .int .i64 u', .int .i64 x'] 43 (0, 0)) := by
    have := heap_alloc_new (w.alloc (.cells #[.string s, .int .i64 k, .int .i64 u, .int .i64 x] 43)) (.cells #[.string s', .int .i64 k', .int .i64 u', .int .i64 x'] 43)
    rw [World.size_alloc] at this
    exact this
  exact ⟨((tu1 (w.alloc (.cells #[.string s, .int .i64 k, .int .i64 u, .int .i64 x] 43)) (.cells #[.string s', .int .i64 k', .int .i64 u', .int .i64 x'] 43)).block w.heap.size (by simp)).trans (heap_alloc_new w _), h2, bel_drewN (below_on (tu1 w _) (tu1 _ _)) 1⟩
theorem bel_drewU {B : Nat} {w W : World} (h : Below B w W) : Below B w W.drew := bel_drewN h 1
theorem askF_take {k : Int} {l : List (EdgeL × EdgeL)} {j : Nat} {p : EdgeL × EdgeL} (h : l[j]? = some p) : (l.take (j + 1)).flatMap (askB k) = (l.take j).flatMap (askB k) ++ askB k p := by
  rw [List.take_add_one, h, Option.toList_some, List.flatMap_append]
  simp
theorem askF_len (k : Int) (l : List (EdgeL × EdgeL)) : (l.flatMap (askB k)).length ≤ l.length * 2 := by
  induction l with
  | nil => simp
  | cons p l ih =>
    rw [List.flatMap_cons, List.length_append, List.length_cons]
    have : (askB k p).length ≤ 2 := by unfold askB; split <;> simp
    omega
theorem arms_fewU {ns : List NodeL} (h : NodesOk ns) {x : Nat} {a : NodeL} (ha : ns[x]? = some a) : a.arms.length ≤ 6 := by
  rcases nodeB_arms (h.2 x a ha) with h0 | h1
  · rw [h0]; exact Nat.zero_le _
  · unfold edgesB at h1
    simp only [Bool.and_eq_true, decide_eq_true_eq] at h1
    exact h1.2
/-- What obligations answers. -/
def ObRet (r : Option (List (Int × Int))) (base : Nat) (e : Ending) (w' : World) : Prop := ∃ a n c, e = .returned (.tuple #[.slice a n c, .bool r.isSome]) ∧ (∀ g o, a = some ⟨g, o, none⟩ → base ≤ g) ∧ (r = none → n = 0) ∧ ∀ l, r = some l → Prs2 w' w'.heap.size a n l
theorem ObRet.none' (base : Nat) (w' : World) : ObRet none base (.returned (.tuple #[.slice none 0 0, .bool false])) w' := ⟨_, _, _, rfl, fun _ _ h => (by cases h), fun _ => rfl, fun _ h => by cases h⟩
set_option maxHeartbeats 16000000 in
set_option maxRecDepth 20000 in
theorem oblig_any (na : Option Addr) (nn nc : Nat) (sa : Option Addr) (sn sc : Nat) (ra : Option Addr) (rn rc : Nat) (b : BookL) (x y : Int) (w : World) (bound : Nat) (hb : bound ≤ w.heap.size) (h : BkIn w bound na nn sa sn ra rn b) (hok : NodesOk b.nodes) (hp : inP nn (x, y) = true) :
    Calls Try.prog 50 #[bkV na nn nc sa sn sc ra rn rc, .agg #[.int .i64 x, .int .i64 y]] w fun e w' => ObRet (Ask b.nodes (x, y)) w.heap.size e w' ∧ Below w.heap.size w w' := by
  obtain ⟨⟨x0, x1⟩, y0, y1⟩ := inP_iff.1 hp
  obtain ⟨u, rfl⟩ : ∃ u : Nat, x = (u : Int) := ⟨x.toNat, (Int.toNat_of_nonneg x0).symm⟩
  obtain ⟨v, rfl⟩ : ∃ v : Nat, y = (v : Int) := ⟨y.toNat, (Int.toNat_of_nonneg y0).symm⟩
  have hu : u < nn := by simpa using x1
  have hv : v < nn := by simpa using y1
  obtain ⟨nb, no, xk, xp, xa, xn, xc, xl, hna, hnb, hxx, ⟨xc0, xc1, xc2⟩, hxs, hXE⟩ := h.nodes.at_ hu
  obtain ⟨nb', no', yk, yp, ya, yn, yc, yl, e, _, hyy, ⟨yc0, yc1, yc2⟩, hys, hYE⟩ := h.nodes.at_ hv
  rw [hna] at e
  obtain ⟨e1, e2, _⟩ := Addr.mk.inj (Option.some.inj e)
  subst hna
  subst e1 e2
  obtain ⟨R, hR⟩ : ∃ R, R = Ask b.nodes ((u : Int), (v : Int)) := ⟨_, rfl⟩
  rw [← hR]
  have HASK := Lib.hid (show R = obB ⟨xk, xp.toList, xl⟩ ⟨yk, yp.toList, yl⟩ from hR.trans (ask_at (by simpa using hxx) (by simpa using hyy)))
  clear hR
  have HX6 := Lib.hid (show xn ≤ 6 by have h1 := arms_fewU hok hxx; rw [hXE.1] at h1; exact h1)
  have HY6 := Lib.hid (show yn ≤ 6 by have h1 := arms_fewU hok hyy; rw [hYE.1] at h1; exact h1)
  have HLX := Lib.hid hXE.1
  have HLY := Lib.hid hYE.1
  obtain ⟨W1, hW1⟩ : ∃ W1, W1 = (w.alloc (.cells #[.slice (some ⟨nb, no, none⟩) nn nc, .slice sa sn sc, .slice ra rn rc] 26)).alloc (.cells #[.int .i64 (u : Int), .int .i64 (v : Int)] 51) := ⟨_, rfl⟩
  have hz1 : W1.heap.size = w.heap.size + 2 := by rw [hW1]; simp
  have HB1 := Lib.hid (show Below w.heap.size w W1 by rw [hW1]; exact below_on (tu1 w _) (tu1 _ _))
  have HBX := Lib.hid (show BBox W1 w.heap.size (some ⟨nb, no, none⟩) nn nc sa sn sc ra rn rc by rw [hW1]; exact (tu1 _ _).block _ (by simp) |>.trans (heap_alloc_new w _))
  have HPX := Lib.hid (show W1.heap[w.heap.size + 1]? = some (.cells #[.int .i64 (u : Int), .int .i64 (v : Int)] 51 (0, 0)) by
    have h1 := heap_alloc_new (w.alloc (.cells #[.slice (some ⟨nb, no, none⟩) nn nc, .slice sa sn sc, .slice ra rn rc] 26)) (.cells #[.int .i64 (u : Int), .int .i64 (v : Int)] 51)
    rw [World.size_alloc] at h1
    rw [hW1]; exact h1)
  have HK := Lib.hid (fun (W : World) (hW : Below W1.heap.size W1 W) => show (W.cell? ⟨w.heap.size, 0, none⟩ = some (.slice (some ⟨nb, no, none⟩) nn nc) ∧ W.cell? ⟨w.heap.size + 1, 0, none⟩ = some (.int .i64 (u : Int)) ∧ W.cell? ⟨w.heap.size + 1, 1, none⟩ = some (.int .i64 (v : Int))) ∧ (W.cell? ⟨nb, no + u * 3, none⟩ = some (.int .i64 xk) ∧ W.cell? ⟨nb, no + u * 3 + 1, none⟩ = some (.string xp) ∧ W.cell? ⟨nb, no + u * 3 + 2, none⟩ = some (.slice xa xn xc)) ∧ W.cell? ⟨nb, no + v * 3, none⟩ = some (.int .i64 yk) ∧ W.cell? ⟨nb, no + v * 3 + 1, none⟩ = some (.string yp) ∧ W.cell? ⟨nb, no + v * 3 + 2, none⟩ = some (.slice ya yn yc) from by
    have hx : W.heap[w.heap.size]? = _ := (hW.block w.heap.size (by omega)).trans HBX.out
    have hy := (hW.block (w.heap.size + 1) (by omega)).trans HPX.out
    have hq : ∀ o, W.cell? ⟨nb, o, none⟩ = w.cell? ⟨nb, o, none⟩ := fun o => (hW.cell (p := ⟨nb, o, none⟩) (by show nb < _; omega)).trans (HB1.out.cell (p := ⟨nb, o, none⟩) (by show nb < _; omega))
    exact ⟨⟨by rw [cell_of_row _ _ _ _ _ _ hx]; rfl, by rw [cell_of_row _ _ _ _ _ _ hy]; rfl, by rw [cell_of_row _ _ _ _ _ _ hy]; rfl⟩, ⟨(hq _).trans xc0, (hq _).trans xc1, (hq _).trans xc2⟩, (hq _).trans yc0, (hq _).trans yc1, (hq _).trans yc2⟩)
  have HD := Lib.hid (Below.refl W1.heap.size W1)
  have HEX := Lib.hid (hXE.below (HB1.out.mono hb))
  have HEY := Lib.hid (hYE.below (HB1.out.mono hb))
  have j1 : (u : Int) < (nn : Int) := by omega
  have j2 : (0 : Int) ≤ (u : Int) := by omega
  have j3 : (v : Int) < (nn : Int) := by omega
  have j4 : (0 : Int) ≤ (v : Int) := by omega
  have hbz : bound ≤ W1.heap.size := by omega
  have HZ1 := Lib.hid hz1
  clear h hok hp x0 x1 y0 y1 hxx hyy xc0 xc1 xc2 yc0 yc1 yc2 hXE hYE e hz1
  subst hW1
  go_enter Try.func50, Try.ntmps50
  go_upto_region 1 with fail
  generalize hW1 : (w.alloc (.cells #[.slice (some ⟨nb, no, none⟩) nn nc, .slice sa sn sc, .slice ra rn rc] 26)).alloc (.cells #[.int .i64 (u : Int), .int .i64 (v : Int)] 51) = W1 at HZ1 HB1 HBX HPX HK HD HEX HEY hbz ⊢
  clear hW1
  go_cut [6, 7] (fun s6 s7 wx => ∃ gx gy : Nat, s6 = .pointer (some ⟨gx, 0, none⟩) ∧ s7 = .pointer (some ⟨gy, 0, none⟩) ∧ Hid (NBox wx gx xk xp xa xn xc) ∧ Hid (NBox wx gy yk yp ya yn yc) ∧ Hid (Below W1.heap.size W1 wx))
  case first =>
    go_region_held3 (fun W => (W.cell? ⟨w.heap.size, 0, none⟩ = some (.slice (some ⟨nb, no, none⟩) nn nc) ∧ W.cell? ⟨w.heap.size + 1, 0, none⟩ = some (.int .i64 (u : Int)) ∧ W.cell? ⟨w.heap.size + 1, 1, none⟩ = some (.int .i64 (v : Int))) ∧ (W.cell? ⟨nb, no + u * 3, none⟩ = some (.int .i64 xk) ∧ W.cell? ⟨nb, no + u * 3 + 1, none⟩ = some (.string xp) ∧ W.cell? ⟨nb, no + u * 3 + 2, none⟩ = some (.slice xa xn xc)) ∧ W.cell? ⟨nb, no + v * 3, none⟩ = some (.int .i64 yk) ∧ W.cell? ⟨nb, no + v * 3 + 1, none⟩ = some (.string yp) ∧ W.cell? ⟨nb, no + v * 3 + 2, none⟩ = some (.slice ya yn yc))
      (first | exact HK.out _ HD.out | exact HK.out _ (bel_drewU HD.out) | (refine HK.out _ ?_; ((repeat' (first | exact HD.out | with_reducible apply bel_drewU | with_reducible apply Below.setCell | with_reducible apply Below.alloc)) <;> simp)))
      (fail)
    all_goals (go_wp2_with fail; go_meet)
    case rel =>
      have h := nodU_two W1 xk yk xp yp xa ya xn xc yn yc
      exact ⟨_, _, rfl, rfl, Lib.hid h.1, Lib.hid h.2.1, Lib.hid h.2.2⟩
    case rel =>
      have h := nodU_two W1 yk xk yp xp ya xa yn yc xn xc
      exact ⟨_, _, rfl, rfl, Lib.hid h.2.1, Lib.hid h.1, Lib.hid h.2.2⟩
  case rest =>
    obtain ⟨gx, gy, e6, e7, HNX, HNY, HBE⟩ := hcut
    subst e6 e7
    obtain ⟨W2, hW2⟩ : ∃ W2 : World, W2 = wc := ⟨_, rfl⟩
    subst hW2
    have hze := HBE.out.size
    have HB2 := Lib.hid (HB1.out.trans (HBE.out.mono (by have := HZ1.out; omega)))
    have HEX2 := Lib.hid (HEX.out.below (HBE.out.mono hbz))
    have HEY2 := Lib.hid (HEY.out.below (HBE.out.mono hbz))
    have hbz2 : bound ≤ W2.heap.size := by omega
    have CC := Lib.hid (common_any xk xp xa xn xc xl yk yp ya yn yc yl W2 bound hbz2 HEX2.out HEY2.out HX6.out HY6.out)
    clear HK HD HBX HPX HEX HEY HB1 j1 j2 j3 j4 hu hv hze HBE hbz HZ1
    obtain ⟨x0, x1, x2⟩ := HNX.out.cells
    obtain ⟨y0, y1, y2⟩ := HNY.out.cells
    go_upto_region 3 with (first
      | (go_at_call 61; (with_reducible refine CC.out.mono ?_)
         rintro e w3 ⟨⟨ca, cn, cc, rfl, hc3⟩, hb3⟩
         have HC3 := Lib.hid hc3
         have HB3 := Lib.hid (below_on HB2.out hb3)
         have HNX3 := Lib.hid (HNX.out.block (hb3.block gx (Array.getElem?_eq_some_iff.1 HNX.out).1))
         have HNY3 := Lib.hid (HNY.out.block (hb3.block gy (Array.getElem?_eq_some_iff.1 HNY.out).1))
         clear hc3 hb3)
      | fail)
    clear x0 x1 x2 y0 y1 y2 HNX HNY HB2 HEX2 HEY2 CC hbz2
    obtain ⟨C, hC⟩ : ∃ C, C = comB xl yl := ⟨_, rfl⟩
    rw [← hC] at HC3
    have hcl : C.length = cn := HC3.out.1
    have hc36 : cn ≤ 36 := by
      have h1 := com_few xl yl
      have h2 : xl.length * yl.length ≤ 6 * 6 := Nat.mul_le_mul (by rw [HLX.out]; exact HX6.out) (by rw [HLY.out]; exact HY6.out)
      rw [← hC] at h1
      omega
    have HOB := Lib.hid (show obB ⟨xk, xp.toList, xl⟩ ⟨yk, yp.toList, yl⟩ = if xk = yk ∧ xp.toList = yp.toList ∧ (if xk = 2 then xn else yn) ≤ cn then obF xk C else none by
      unfold obB needB
      dsimp only
      rw [← hC, hcl]
      by_cases hk : xk = 2
      · rw [if_pos hk, if_pos hk, HLX.out]
      · rw [if_neg hk, if_neg hk, HLY.out])
    have HCL := Lib.hid hcl
    clear hC hcl
    obtain ⟨x0, x1, x2⟩ := HNX3.out.cells
    obtain ⟨y0, y1, y2⟩ := HNY3.out.cells
    cases hA : (xk != yk)
    · obtain rfl : xk = yk := by simpa using hA
      cases hP : (xp.toList == yp.toList)
      · have HZ := Lib.hid (show R = none by
          rw [HASK.out, HOB.out, if_neg]
          rintro ⟨_, h2, _⟩
          rw [h2] at hP
          simp at hP)
        clear HOB HASK
        go_wp2_with fail
        go_ret2
        exact ⟨by rw [HZ.out]; exact ObRet.none' _ _, HB3.out⟩
      · have hpe : xp.toList = yp.toList := eq_of_beq hP
        obtain ⟨ma, mn, mc, hmv, hmn⟩ : ∃ (ma : Option Addr) (mn mc : Nat), (if xk = 2 then (.slice xa xn xc : Value) else .slice ya yn yc) = .slice ma mn mc ∧ mn = if xk = 2 then xn else yn := by
          by_cases hk : xk = 2
          · exact ⟨xa, xn, xc, by rw [if_pos hk], by rw [if_pos hk]⟩
          · exact ⟨ya, yn, yc, by rw [if_neg hk], by rw [if_neg hk]⟩
        have CN := Lib.hid (needed_any xk xp xa xn xc xk yp ya yn yc w3)
        rw [hmv] at CN
        cases hL : decide (cn < mn)
        · have HOB2 := Lib.hid (show R = obF xk C by
            rw [HASK.out, HOB.out, if_pos]
            rw [decide_eq_false_iff_not] at hL
            refine ⟨rfl, hpe, ?_⟩
            rw [← hmn]
            omega)
          clear hpe hmv hmn HOB HASK
          go_wp2_with (first
            | (go_at_call 62; (with_reducible refine CN.out.mono ?_)
               rintro e w4 ⟨rfl, hb4⟩
               have HB4 := Lib.hid (below_on HB3.out hb4)
               have HC4 := Lib.hid (HC3.out.on hb4)
               have HNX4 := Lib.hid (HNX3.out.block (hb4.block gx (Array.getElem?_eq_some_iff.1 HNX3.out).1))
               clear hb4)
            | fail)
          clear x0 x1 x2 y0 y1 y2 HNX3 HNY3 HB3 HC3 CN hA hP hL
          have hgx4 := (Array.getElem?_eq_some_iff.1 HNX4.out).1
          go_loopw [9, 52] (fun s i wr => ∃ (k : Nat) (o : Value), k ≤ cn ∧ i = .int .i64 k ∧ o = s ∧ Hid (PrOwn wr w4.heap.size o ((C.take k).flatMap (askB xk))) ∧ Hid (∀ p ∈ C.take k, p.1.sk = p.2.sk) ∧ Hid (Below w4.heap.size w4 wr)) (fun _ i _ => cn - (intOf i).toNat)
          case atStart => exact ⟨0, _, Nat.zero_le _, rfl, rfl, Lib.hid (PrOwn.zero _ _), Lib.hid (by simp), Lib.hid (Below.refl _ _)⟩
          case round =>
            obtain ⟨k, o, hk, rfl, hos, HO, HEQ, HBr⟩ := hrel
            subst hos
            have hzr := HBr.out.size
            by_cases hlt : k < cn
            · obtain ⟨cb, co, hca, hcb, hcells⟩ := (HC4.out.below HBr.out).2.2 (by omega)
              have hk2 : k < C.length := by rw [HCL.out]; exact hlt
              have hck := List.getElem?_eq_getElem hk2
              obtain ⟨⟨e, f⟩, hef⟩ : ∃ p, p = C[k] := ⟨_, rfl⟩
              rw [← hef] at hck
              obtain ⟨s, t, ⟨q0, q1, q2, q3⟩, ⟨q4, q5, q6, q7⟩, hsl, htl⟩ := hcells k _ hck
              dsimp only at q1 q2 q3 q5 q6 q7 hsl htl
              subst hca
              have HTK := Lib.hid (askF_take (k := xk) hck)
              have HMEM := Lib.hid (List.mem_of_getElem? hck)
              have HEQ2 := Lib.hid (show e.sk = f.sk → ∀ p ∈ C.take (k + 1), p.1.sk = p.2.sk from fun h p hp => by
                rw [List.take_add_one, hck, Option.toList_some] at hp
                rcases List.mem_append.1 hp with hp | hp
                · exact HEQ.out p hp
                · rw [List.mem_singleton.1 hp]; exact h)
              have hol : ((C.take k).flatMap (askB xk)).length ≤ 72 := by
                have h1 := askF_len xk (C.take k)
                rw [List.length_take] at h1
                omega
              have HOL := Lib.hid hol
              obtain ⟨K, hK⟩ : ∃ K, K = (C.take k).flatMap (askB xk) := ⟨_, rfl⟩
              rw [← hK] at HO HTK HOL
              obtain ⟨es, eu, ex, hes, heu, hex⟩ : ∃ a b c, a = e.sk ∧ b = e.at_ ∧ c = e.next := ⟨_, _, _, rfl, rfl, rfl⟩
              obtain ⟨fs, fu, fx, hfs, hfu, hfx⟩ : ∃ a b c, a = f.sk ∧ b = f.at_ ∧ c = f.next := ⟨_, _, _, rfl, rfl, rfl⟩
              rw [← hes] at q1 HEQ2
              rw [← heu] at q2
              rw [← hex] at q3
              rw [← hfs] at q5 HEQ2
              rw [← hfu] at q6
              rw [← hfx] at q7
              have HASKK := Lib.hid (show askB xk (e, f) = (if es = 5 then [carB xk eu fu] else []) ++ [(ex, fx)] by unfold askB; dsimp only; rw [hes, heu, hex, hfu, hfx])
              have HSK := Lib.hid (And.intro hes hfs)
              clear hes heu hex hfs hfu hfx hsl htl hK hef hcells hck hk2 hol
              have i1 : (k : Int) < (cn : Int) := by omega
              have i2 : (0 : Int) ≤ (k : Int) := by omega
              go_upto_region 9 with fail
              obtain ⟨gp, hgp⟩ : ∃ gp, gp = wr.heap.size := ⟨_, rfl⟩
              obtain ⟨wp, hwp⟩ : ∃ wp, wp = wr.alloc (.cells #[.string s, .int .i64 es, .int .i64 eu, .int .i64 ex, .string t, .int .i64 fs, .int .i64 fu, .int .i64 fx] 90) := ⟨_, rfl⟩
              have HPB := Lib.hid (show wp.heap[gp]? = some (.cells #[.string s, .int .i64 es, .int .i64 eu, .int .i64 ex, .string t, .int .i64 fs, .int .i64 fu, .int .i64 fx] 90 (0, 0)) by rw [hwp, hgp]; exact heap_alloc_new wr _)
              have hgl := (Array.getElem?_eq_some_iff.1 HPB.out).1
              have HBp := Lib.hid (show Below w4.heap.size w4 wp by rw [hwp]; exact HBr.out.alloc hzr _)
              have HOp := Lib.hid (show PrOwn wp w4.heap.size o K by rw [hwp]; exact HO.out.alloc _)
              rw [← hgp, ← hwp]
              clear hwp hgp HO HBr hzr q0 q1 q2 q3 q4 q5 q6 q7
              have HKP := Lib.hid (fun (W : World) (hW : Below wp.heap.size wp W) => show (W.cell? ⟨gp, 0, none⟩ = some (.string s) ∧ W.cell? ⟨gp, 1, none⟩ = some (.int .i64 es) ∧ W.cell? ⟨gp, 2, none⟩ = some (.int .i64 eu) ∧ W.cell? ⟨gp, 3, none⟩ = some (.int .i64 ex)) ∧ W.cell? ⟨gp, 4, none⟩ = some (.string t) ∧ W.cell? ⟨gp, 5, none⟩ = some (.int .i64 fs) ∧ W.cell? ⟨gp, 6, none⟩ = some (.int .i64 fu) ∧ W.cell? ⟨gp, 7, none⟩ = some (.int .i64 fx) from by
                have hx := (hW.block gp hgl).trans HPB.out
                refine ⟨⟨?_, ?_, ?_, ?_⟩, ?_, ?_, ?_, ?_⟩ <;> (rw [cell_of_row _ _ _ _ _ _ hx]; rfl))
              have HD := Lib.hid (Below.refl wp.heap.size wp)
              go_cut [12, 13] (fun s12 s13 wx => ∃ ge gf : Nat, s12 = .pointer (some ⟨ge, 0, none⟩) ∧ s13 = .pointer (some ⟨gf, 0, none⟩) ∧ Hid (EBox wx ge s es eu ex) ∧ Hid (EBox wx gf t fs fu fx) ∧ Hid (Below wp.heap.size wp wx))
              case first =>
                go_region_held3 (fun W => (W.cell? ⟨gp, 0, none⟩ = some (.string s) ∧ W.cell? ⟨gp, 1, none⟩ = some (.int .i64 es) ∧ W.cell? ⟨gp, 2, none⟩ = some (.int .i64 eu) ∧ W.cell? ⟨gp, 3, none⟩ = some (.int .i64 ex)) ∧ W.cell? ⟨gp, 4, none⟩ = some (.string t) ∧ W.cell? ⟨gp, 5, none⟩ = some (.int .i64 fs) ∧ W.cell? ⟨gp, 6, none⟩ = some (.int .i64 fu) ∧ W.cell? ⟨gp, 7, none⟩ = some (.int .i64 fx))
                  (first | exact HKP.out _ HD.out | exact HKP.out _ (bel_drewU HD.out) | (refine HKP.out _ ?_; ((repeat' (first | exact HD.out | with_reducible apply bel_drewU | with_reducible apply Below.setCell | with_reducible apply Below.alloc)) <;> simp)))
                  (fail)
                all_goals (go_wp2_with fail; go_meet)
                case rel =>
                  have h := edgU_two wp s es eu ex t fs fu fx
                  exact ⟨_, _, rfl, rfl, Lib.hid h.1, Lib.hid h.2.1, Lib.hid h.2.2⟩
                case rel =>
                  have h := edgU_two wp t fs fu fx s es eu ex
                  exact ⟨_, _, rfl, rfl, Lib.hid h.2.1, Lib.hid h.1, Lib.hid h.2.2⟩
              case rest =>
                obtain ⟨ge, gf, e12, e13, HEe, HEf, HBE⟩ := hcut
                subst e12 e13
                obtain ⟨we, hwe⟩ : ∃ we : World, we = wc := ⟨_, rfl⟩
                subst hwe
                have hze := HBE.out.size
                have HBe := Lib.hid (HBp.out.trans (HBE.out.mono HBp.out.size))
                have HOe := Lib.hid (HOp.out.kept HBE.out)
                clear HKP HD HPB HBp HOp HBE hgl
                obtain ⟨c0, c1, c2, c3⟩ := HEe.out.cells
                obtain ⟨d0, d1, d2, d3⟩ := HEf.out.cells
                cases hS : (es != fs)
                · have hsf : es = fs := by simpa using hS
                  have HEQ3 := Lib.hid (HEQ2.out hsf)
                  subst hsf
                  cases h5 : (es == 5)
                  · have HNEW := Lib.hid (show (C.take (k + 1)).flatMap (askB xk) = K ++ [(ex, fx)] by
                      rw [HTK.out, HASKK.out, if_neg (by rw [beq_eq_false_iff_ne] at h5; exact h5)]
                      rfl)
                    clear HTK HASKK HEQ2 HSK HMEM
                    go_wp2_with (first
                      | (at_builtin
                         refine wpList_append_prs rfl (.tmp 83) (.tmp 89) rfl w4.heap.size o K (some ⟨we.heap.size, 0, none⟩) 1 1 [(ex, fx)] rfl rfl (HOe.out.alloc _) (PrRow.one (ex, fx) rfl rfl) (by have := HBe.out.size; simp; omega) (by have := HOL.out; omega) ?_
                         intro v5 w5 ho5 hb5 hk5
                         have HO5 := Lib.hid ho5
                         have HB5 := Lib.hid ((HBe.out.alloc HBe.out.size (.cells #[.int .i64 ex, .int .i64 fx] 51)).trans hb5)
                         clear ho5 hb5 hk5)
                      | fail)
                    go_roundw
                    case rel => exact ⟨k + 1, _, by omega, by go_num, rfl, Lib.hid (by rw [HNEW.out]; exact HO5.out), HEQ3, HB5⟩
                    case measure => simp [intOf]; omega
                  · have HNEW := Lib.hid (show (C.take (k + 1)).flatMap (askB xk) = (K ++ [carB xk eu fu]) ++ [(ex, fx)] by
                      rw [HTK.out, HASKK.out, if_pos (eq_of_beq h5), List.append_assoc])
                    have CK := Lib.hid (carried_any xk eu fu we)
                    obtain ⟨q, hq⟩ : ∃ q, q = carB xk eu fu := ⟨_, rfl⟩
                    rw [← hq] at HNEW CK
                    obtain ⟨n0, n1, n2⟩ := (HNX4.out.block (HBe.out.block gx hgx4)).cells
                    clear HTK HASKK HEQ2 HSK HMEM hq
                    go_wp2_with (first
                      | (go_at_call 63; (with_reducible refine CK.out.mono ?_)
                         rintro e w5 ⟨rfl, hb5⟩
                         have HO5 := Lib.hid (HOe.out.kept hb5)
                         have HB5 := Lib.hid (HBe.out.trans (hb5.mono HBe.out.size))
                         have HE5 := Lib.hid (show EBox w5 ge s es eu ex from (hb5.block ge (Array.getElem?_eq_some_iff.1 HEe.out).1).trans HEe.out)
                         have HF5 := Lib.hid (show EBox w5 gf t es fu fx from (hb5.block gf (Array.getElem?_eq_some_iff.1 HEf.out).1).trans HEf.out)
                         clear hb5)
                      | (at_builtin
                         refine wpList_append_prs rfl (.tmp 71) (.tmp 81) rfl w4.heap.size o K (some ⟨w5.heap.size, 0, none⟩) 1 1 [q] rfl rfl (HO5.out.alloc _) (PrRow.one q rfl rfl) (by have := HB5.out.size; simp; omega) (by have := HOL.out; omega) ?_
                         intro v6 w6 ho6 hb6 hk6
                         have HO6 := Lib.hid ho6
                         have HB6 := Lib.hid ((HB5.out.alloc HB5.out.size (.cells #[.int .i64 q.1, .int .i64 q.2] 51)).trans hb6)
                         have HE6 := Lib.hid (show EBox w6 ge s es eu ex from (hk6.1.2 ge (by have := (Array.getElem?_eq_some_iff.1 HE5.out).1; simp; omega) ((HO5.out.alloc (.cells #[.int .i64 q.1, .int .i64 q.2] 51)).other (((tu1 w5 _).block ge (Array.getElem?_eq_some_iff.1 HE5.out).1).trans HE5.out) (by decide))).trans (((tu1 w5 _).block ge (Array.getElem?_eq_some_iff.1 HE5.out).1).trans HE5.out))
                         have HF6 := Lib.hid (show EBox w6 gf t es fu fx from (hk6.1.2 gf (by have := (Array.getElem?_eq_some_iff.1 HF5.out).1; simp; omega) ((HO5.out.alloc (.cells #[.int .i64 q.1, .int .i64 q.2] 51)).other (((tu1 w5 _).block gf (Array.getElem?_eq_some_iff.1 HF5.out).1).trans HF5.out) (by decide))).trans (((tu1 w5 _).block gf (Array.getElem?_eq_some_iff.1 HF5.out).1).trans HF5.out))
                         obtain ⟨g0, g1, g2, g3⟩ := HE6.out.cells
                         obtain ⟨h0, h1, h2, h3⟩ := HF6.out.cells
                         clear ho6 hb6 hk6)
                      | (at_builtin
                         refine wpList_append_prs rfl (.tmp 83) (.tmp 89) rfl w4.heap.size v6 (K ++ [q]) (some ⟨w6.heap.size, 0, none⟩) 1 1 [(ex, fx)] rfl rfl (HO6.out.alloc _) (PrRow.one (ex, fx) rfl rfl) (by have := HB6.out.size; simp; omega) (by have := HOL.out; simp; omega) ?_
                         intro v7 w7 ho7 hb7 hk7
                         have HO7 := Lib.hid ho7
                         have HB7 := Lib.hid ((HB6.out.alloc HB6.out.size (.cells #[.int .i64 ex, .int .i64 fx] 51)).trans hb7)
                         clear ho7 hb7 hk7)
                      | fail)
                    go_roundw
                    case rel => exact ⟨k + 1, _, by omega, by go_num, rfl, Lib.hid (by rw [HNEW.out]; exact HO7.out), HEQ3, HB7⟩
                    case measure => simp [intOf]; omega
                · have HZ := Lib.hid (show R = none by
                    rw [HOB2.out]
                    unfold obF
                    rw [if_neg]
                    intro h1
                    have h2 := List.all_eq_true.1 h1 _ HMEM.out
                    rw [decide_eq_true_eq] at h2
                    dsimp only at h2
                    rw [← HSK.out.1, ← HSK.out.2] at h2
                    rw [h2] at hS
                    simp at hS)
                  clear HOB2 HMEM HSK HEQ2 HTK HASKK
                  go_wp2_with fail
                  go_ret2
                  exact ⟨by rw [HZ.out]; exact ObRet.none' _ _, HB4.out.trans (HBe.out.mono HB4.out.size)⟩
            · obtain rfl : k = cn := by omega
              have d3 : decide ((k : Int) < (k : Int)) = false := decide_eq_false (by omega)
              have HZ := Lib.hid (show R = some (C.flatMap (askB xk)) by
                rw [HOB2.out]
                unfold obF
                rw [if_pos]
                refine List.all_eq_true.2 fun p hp => decide_eq_true (HEQ.out p ?_)
                rw [List.take_of_length_le (by rw [HCL.out]; exact Nat.le_refl _)]
                exact hp)
              have HO2 := Lib.hid (show PrOwn wr w4.heap.size o (C.flatMap (askB xk)) from by
                have h1 := HO.out
                rw [List.take_of_length_le (by rw [HCL.out]; exact Nat.le_refl _)] at h1
                exact h1)
              obtain ⟨oa, oc, rfl, hon, _, _⟩ := HO2.out.sees (by have h1 := askF_len xk C; rw [HCL.out] at h1; omega)
              have HON := Lib.hid hon
              have HLT := Lib.hid (fun (g off : Nat) (e : oa = some ⟨g, off, none⟩) => show w.heap.size ≤ g from Nat.le_trans HB4.out.size (HO2.out.lt g (by rw [e]; rfl)).1)
              clear hon HOB2 HEQ HO HO2
              go_wp2_with fail
              go_ret2
              exact ⟨by rw [HZ.out]; exact ⟨_, _, _, rfl, HLT.out, fun h => (by cases h), fun l hl => by rw [← Option.some.inj hl]; exact HON.out⟩, HB4.out.trans (HBr.out.mono HB4.out.size)⟩
        · have HZ := Lib.hid (show R = none by
            rw [HASK.out, HOB.out, if_neg]
            rintro ⟨_, _, h3⟩
            rw [← hmn] at h3
            rw [decide_eq_true_eq] at hL
            omega)
          clear hpe hmv hmn HOB HASK
          go_wp2_with (first
            | (go_at_call 62; (with_reducible refine CN.out.mono ?_)
               rintro e w4 ⟨rfl, hb4⟩
               have HB4 := Lib.hid (below_on HB3.out hb4)
               clear hb4)
            | fail)
          go_ret2
          exact ⟨by rw [HZ.out]; exact ObRet.none' _ _, HB4.out⟩
    · have HZ := Lib.hid (show R = none by
        rw [HASK.out, HOB.out, if_neg]
        rintro ⟨h1, _⟩
        rw [h1] at hA
        simp at hA)
      clear HOB HASK
      go_wp2_with fail
      go_ret2
      exact ⟨by rw [HZ.out]; exact ObRet.none' _ _, HB3.out⟩
end Go.Proofs.Ytpjocacepafneaa

/- Contracts of under.Pairs and under.Is. -/
namespace Go.Proofs.Ytpjocacepafneaa
open Go.RowKit Go.Sort Go.Maps Go.WideMaps

theorem Two.keeps {g m : Nat} {w w' w2 : World} {v : Value} (h : Two g m w w') (hk : Keeps v w' w2) (hr : ∀ k, v.ownBlock = some k → k = g ∨ k = m ∨ w.heap.size ≤ k) : Two g m w w2 :=
  ⟨Nat.le_trans h.size hk.1, fun k hkk h1 h2 => (hk.2 k (Nat.lt_of_lt_of_le hkk h.size) (fun e => by
    rcases hr k e with e | e | e
    · exact h1 e
    · exact h2 e
    · omega)).trans (h.block k hkk h1 h2)⟩
theorem smallP_in {n : Nat} (hn : n ≤ 400) {p : Int × Int} (h : inP n p = true) : smallP p := by
  obtain ⟨⟨h1, h2⟩, h3, h4⟩ := inP_iff.1 h
  unfold smallP
  omega
theorem PrOwn.aside {w : World} {base : Nat} {v : Value} {l l' : List (Int × Int)} {m : Nat} (h : PrOwn w base v l) (hm : PSet w m l') : v.ownBlock ≠ some m := fun e => by
  obtain ⟨n, D, ⟨es, clock, hb, _⟩, _⟩ := hm
  rcases h.2 with ⟨rfl, _⟩ | ⟨g, cap, cur, rfl, _, hh, _⟩
  · cases e
  · obtain rfl := Option.some.inj e
    rw [hb] at hh
    cases hh
theorem PrOwn.grown {w w' : World} {base : Nat} {v : Value} {l : List (Int × Int)} {r : Option Nat} (h : PrOwn w base v l) (hg : w.grownBy w' r) (hr : ∀ b, v.ownBlock = some b → r ≠ some b) : PrOwn w' base v l := by
  have hlt := h.lt
  exact h.stay fun b e => hg.block b (hlt b e).2 (fun e2 => hr b e e2.symm)
theorem pairsF_done {ns : List NodeL} {f i : Nat} {row : List (Int × Int)} (h : row.length ≤ i) : pairsF ns f i row = some row := by
  cases f with
  | zero => rfl
  | succ f => rw [pairsF, List.getElem?_eq_none h]
theorem pairsF_none {ns : List NodeL} {f i : Nat} {row : List (Int × Int)} {p : Int × Int} (h : row[i]? = some p) (ha : Ask ns p = none) : pairsF ns (f + 1) i row = none := by
  rw [pairsF, h]
  simp only [ha]
theorem pairsF_some {ns : List NodeL} {f i : Nat} {row : List (Int × Int)} {p : Int × Int} (h : row[i]? = some p) {l : List (Int × Int)} (ha : Ask ns p = some l) : pairsF ns (f + 1) i row = pairsF ns f (i + 1) (addP row l) := by
  rw [pairsF, h]
  simp only [ha]
set_option maxHeartbeats 32000000 in
set_option maxRecDepth 20000 in
theorem pairs_any (na : Option Addr) (nn nc : Nat) (sa : Option Addr) (sn sc : Nat) (ra : Option Addr) (rn rc : Nat) (b : BookL) (x y : Int) (w : World) (bound : Nat) (hb : bound ≤ w.heap.size) (h : BkIn w bound na nn sa sn ra rn b) :
    Calls Try.prog 27 #[bkV na nn nc sa sn sc ra rn rc, .int .i64 x, .int .i64 y] w fun e w' => ObRet (pairsQ b (x, y)) w.heap.size e w' ∧ Below w.heap.size w w' := by
  obtain ⟨R, hR⟩ : ∃ R, R = pairsQ b (x, y) := ⟨_, rfl⟩
  rw [← hR]
  have HR := Lib.hid hR
  have hnl := h.nodes.1
  obtain ⟨W1, hW1⟩ : ∃ W1, W1 = (w.alloc (.cells #[.slice na nn nc, .slice sa sn sc, .slice ra rn rc] 26)).alloc (.cells #[.int .i64 x, .int .i64 y] 51) := ⟨_, rfl⟩
  have hz1 : W1.heap.size = w.heap.size + 2 := by rw [hW1]; simp
  have HB1 := Lib.hid (show Below w.heap.size w W1 by rw [hW1]; exact below_on (tu1 w _) (tu1 _ _))
  have HBX := Lib.hid (show BBox W1 w.heap.size na nn nc sa sn sc ra rn rc by rw [hW1]; exact (tu1 _ _).block _ (by simp) |>.trans (heap_alloc_new w _))
  have HPX := Lib.hid (show W1.heap[w.heap.size + 1]? = some (.cells #[.int .i64 x, .int .i64 y] 51 (0, 0)) by
    have h1 := heap_alloc_new (w.alloc (.cells #[.slice na nn nc, .slice sa sn sc, .slice ra rn rc] 26)) (.cells #[.int .i64 x, .int .i64 y] 51)
    rw [World.size_alloc] at h1
    rw [hW1]; exact h1)
  have HIN := Lib.hid (h.below (HB1.out.mono hb))
  have CM := Lib.hid (bookMay_any na nn nc sa sn sc ra rn rc b W1 bound (by omega) HIN.out)
  have CA := Lib.hid (fun W => areNodes_any na nn nc sa sn sc ra rn rc x y W)
  have HZ1 := Lib.hid hz1
  clear h hR hz1
  subst hW1
  go_enter Try.func27, Try.ntmps27
  go_upto_region 2 with fail
  generalize hW1 : (w.alloc (.cells #[.slice na nn nc, .slice sa sn sc, .slice ra rn rc] 26)).alloc (.cells #[.int .i64 x, .int .i64 y] 51) = W1 at HZ1 HB1 HBX HPX HIN CM ⊢
  clear hW1
  obtain ⟨b0, b1, b2⟩ := HBX.out.cells
  cases hv : bookB b
  · rw [hv] at CM
    have HZ := Lib.hid (show R = none by rw [HR.out]; unfold pairsQ; rw [if_neg]; rintro ⟨h1, _⟩; rw [hv] at h1; cases h1)
    clear hv
    go_wp2_with (first
      | (go_at_call 32; (with_reducible refine CM.out.mono ?_)
         rintro e w3 ⟨rfl, hb3⟩
         have HB3 := Lib.hid (HB1.out.trans (hb3.mono (by have := HZ1.out; omega)))
         clear hb3)
      | fail)
    go_ret2
    exact ⟨by rw [HZ.out]; exact ObRet.none' _ _, HB3.out⟩
  rw [hv] at CM
  have HM := Lib.hid (fun (w3 : World) (hb3 : Below W1.heap.size W1 w3) => And.intro (HBX.out.on hb3 (by have := HZ1.out; omega)).cells (show w3.cell? ⟨w.heap.size + 1, 0, none⟩ = some (.int .i64 x) ∧ w3.cell? ⟨w.heap.size + 1, 1, none⟩ = some (.int .i64 y) from by
    have hx := (hb3.block (w.heap.size + 1) (by have := HZ1.out; omega)).trans HPX.out
    exact ⟨by rw [cell_of_row _ _ _ _ _ _ hx]; rfl, by rw [cell_of_row _ _ _ _ _ _ hx]; rfl⟩))
  cases hp : inP nn (x, y)
  · rw [hp] at CA
    have HZ := Lib.hid (show R = none by rw [HR.out]; unfold pairsQ; rw [if_neg]; rintro ⟨_, h1⟩; rw [hnl, hp] at h1; cases h1)
    clear hv hp
    go_wp2_with (first
      | (go_at_call 32; (with_reducible refine CM.out.mono ?_)
         rintro e w3 ⟨rfl, hb3⟩
         have HB3 := Lib.hid (HB1.out.trans (hb3.mono (by have := HZ1.out; omega)))
         obtain ⟨⟨d0, d1, d2⟩, q0, q1⟩ := HM.out w3 hb3
         clear hb3)
      | (go_at_call 49; (with_reducible refine (CA.out w3).mono ?_)
         rintro e w4 ⟨rfl, hb4⟩
         have HB4 := Lib.hid (below_on HB3.out hb4)
         clear hb4)
      | fail)
    go_ret2
    exact ⟨by rw [HZ.out]; exact ObRet.none' _ _, HB4.out⟩
  rw [hp] at CA
  obtain ⟨hok, _⟩ := bookB_ok hv
  have hn4 : nn ≤ 400 := by rw [← hnl]; exact hok.1
  have HSM := Lib.hid (smallP_in hn4 hp)
  have HRP := Lib.hid (show R = pairsF b.nodes (nn * nn + 1) 0 [(x, y)] by rw [HR.out]; unfold pairsQ pairsP; rw [if_pos ⟨hv, by rw [hnl]; exact hp⟩, hnl])
  have HINV0 := Lib.hid (PInv.start (ns := b.nodes) (p := (x, y)) (by rw [hnl]; exact hp))
  have HNL := Lib.hid hnl
  have HOK := Lib.hid hok
  clear hv hp hnl hok HR
  go_upto_region 4 with (first
    | (go_at_call 32; (with_reducible refine CM.out.mono ?_)
       rintro e w3 ⟨rfl, hb3⟩
       have HX3 := Lib.hid hb3
       obtain ⟨⟨d0, d1, d2⟩, q0, q1⟩ := HM.out w3 hb3
       clear hb3)
    | (go_at_call 49; (with_reducible refine (CA.out w3).mono ?_)
       rintro e w4 ⟨rfl, hb4⟩
       have HX4 := Lib.hid (HX3.out.trans (hb4.mono HX3.out.size))
       clear hb4)
    | fail)
  clear b0 b1 b2 d0 d1 d2 q0 q1 CM CA HX3
  obtain ⟨_, q0, q1⟩ := HM.out w4 HX4.out
  have hz4 := HX4.out.size
  have hgl : w.heap.size + 1 < w4.heap.size := by have := HZ1.out; omega
  have HB4 := Lib.hid (HB1.out.trans (HX4.out.mono (by have := HZ1.out; omega)))
  have HBX4 := Lib.hid (HBX.out.on HX4.out (by have := HZ1.out; omega))
  have HIN4 := Lib.hid (HIN.out.below (HX4.out.mono (by have := HZ1.out; omega)))
  clear HM HBX HPX HIN HX4 hz4 HB1 HZ1
  obtain ⟨wc, hins, hps, hgr⟩ := (PSet.made (w4.alloc (.cells #[.int .i64 x, .int .i64 y] 51))).put (x := x) (y := y) HSM.out (by simp)
  have hsa : (w4.alloc (.cells #[.int .i64 x, .int .i64 y] 51)).heap.size = w4.heap.size + 1 := World.size_alloc _ _
  rw [hsa] at hins hps hgr
  have HPS := Lib.hid hps
  have HPO := Lib.hid (show PrOwn wc w4.heap.size (.slice (some ⟨w4.heap.size, 0, none⟩) 1 1) [(x, y)] from ((PrOwn.one (W := w4) (base := w4.heap.size) (x, y) rfl rfl (Nat.le_refl _)).alloc (.map #[] 0)).grown hgr (fun b e => by
    have h1 : w4.heap.size = b := Option.some.inj e
    intro e2
    have h2 := Option.some.inj e2
    omega))
  have HBc := Lib.hid (show Below w4.heap.size w4 wc from ((below_on (tu1 w4 (.cells #[.int .i64 x, .int .i64 y] 51)) (tu1 _ (.map #[] 0)))).grown hgr (by simp; omega) (fun j e => by have := Option.some.inj e; omega))
  have hmm := @run_makeMap Try.prog
  have hbb := below_on (tu1 w4 (.cells #[.int .i64 x, .int .i64 y] 51)) (tu1 _ (.map #[] 0))
  have r0 := (hbb.cell (p := ⟨w.heap.size + 1, 0, none⟩) hgl).trans q0
  have r1 := (hbb.cell (p := ⟨w.heap.size + 1, 1, none⟩) hgl).trans q1
  clear hps hgr hsa hbb
  go_wp2_with fail
  clear r0 r1 q0 q1 hins hmm
  obtain ⟨S, hS⟩ : ∃ S, S = w4.heap.size := ⟨_, rfl⟩
  rw [← hS] at HPS HPO HBc hgl ⊢
  have hsz4 : w4.heap.size = S := hS.symm
  clear hS
  have HZ4 := Lib.hid hsz4
  clear hsz4
  go_loopw [9, 11] (fun s i wr => ∃ (j : Nat) (row : List (Int × Int)) (v : Value), i = .int .i64 j ∧ v = s ∧ j ≤ row.length ∧ Hid (PInv b.nodes j row) ∧ Hid (pairsF b.nodes (nn * nn + 1 - j) j row = R) ∧ Hid (PrOwn wr S v row) ∧ Hid (PSet wr (S + 1) row) ∧ Hid (Below S w4 wr)) (fun _ i _ => nn * nn - (intOf i).toNat)
  case atStart => exact ⟨0, _, _, rfl, rfl, Nat.zero_le _, HINV0, Lib.hid HRP.out.symm, HPO, HPS, HBc⟩
  case round =>
    clear HPO HPS HBc HINV0
    obtain ⟨j, row, v, rfl, hvs, hj, HIV, HF, HO, HP, HBr⟩ := hrel
    subst hvs
    obtain ⟨wo, hwo⟩ : ∃ wo : World, wo = wr := ⟨_, rfl⟩
    subst hwo
    have hzr := HBr.out.size
    rw [HZ4.out] at hzr
    have hfew := HIV.out.few
    rw [HNL.out] at hfew
    have hn2 : nn * nn ≤ 160000 := Nat.le_trans (Nat.mul_le_mul hn4 hn4) (by omega)
    have hone := HIV.out.one
    obtain ⟨oa, oc, hva, hon, _, _⟩ := HO.out.sees (by omega)
    have hown : ∀ g o, oa = some ⟨g, o, none⟩ → v.ownBlock = some g ∧ S ≤ g ∧ g < wo.heap.size := fun g o e => by
      have h1 : v.ownBlock = some g := by rw [hva, e]; rfl
      exact ⟨h1, HO.out.lt g h1⟩
    have HAS := Lib.hid (HO.out.aside HP.out)
    have hpl := HP.out.lt
    have HBXr := Lib.hid (HBX4.out.on HBr.out (by omega))
    have HINr := Lib.hid (HIN4.out.below (HBr.out.mono (by omega)))
    have HBWr := Lib.hid (HB4.out.trans (HBr.out.mono (by omega)))
    obtain ⟨b0, b1, b2⟩ := HBXr.out.cells
    by_cases hlt : j < row.length
    · have hp := List.getElem?_eq_getElem hlt
      obtain ⟨⟨px, py⟩, hpe⟩ : ∃ p, row[j] = p := ⟨_, rfl⟩
      rw [hpe] at hp
      have hpin := HIV.out.inn _ (List.mem_of_getElem? hp)
      obtain ⟨ob, oo, x1, y1, hoa, hob, hx1, k0, k1⟩ := hon.at_ hlt
      have hxy := Option.some.inj (hp.symm.trans hx1)
      obtain ⟨rfl, rfl⟩ := Prod.mk.inj hxy
      obtain ⟨hob1, hob2, hob3⟩ := hown ob oo hoa
      subst hoa
      have hob4 : ob ≠ S + 1 := fun e => HAS.out (by rw [hob1, e])
      rw [HNL.out] at hpin
      have CO := Lib.hid (oblig_any na nn nc sa sn sc ra rn rc b px py wo.drew bound (by show bound ≤ wo.heap.size; omega) (HINr.out.below ⟨rfl, rfl, rfl, Nat.le_refl _, fun _ _ => rfl⟩) HOK.out hpin)
      have hi1 : (j : Int) < (row.length : Int) := by omega
      have hi2 : (0 : Int) ≤ (j : Int) := by omega
      have hjn : j < nn * nn := by omega
      rcases hA : Ask b.nodes (px, py) with _ | l
      · rw [hA] at CO
        have HZ := Lib.hid (show R = none by
          have h1 := HF.out
          rw [show nn * nn + 1 - j = (nn * nn - j) + 1 by omega, pairsF_none hp hA] at h1
          exact h1.symm)
        clear hp hpe hx1 hxy hon hA hpin
        subst hva
        go_wp2
        go_region_with (first
          | (go_at_call 50; (with_reducible refine CO.out.mono ?_)
             rintro e w5 ⟨⟨aa, an, ac, he, _, _, _⟩, hb5⟩
             have he : e = .returned (.tuple #[.slice aa an ac, .bool false]) := he
             subst he
             have hb5 : Below wo.heap.size wo w5 := ⟨hb5.os, hb5.tape, hb5.output, hb5.size, hb5.block⟩
             have HB5 := Lib.hid (below_on HBWr.out hb5)
             clear hb5)
          | fail)
        all_goals
          go_wp2
          go_ret2
          exact ⟨by rw [HZ.out]; exact ObRet.none' _ _, HB5.out⟩
      · rw [hA] at CO
        have HNXT := Lib.hid (show pairsF b.nodes (nn * nn + 1 - (j + 1)) (j + 1) (addP row l) = R by
          have h1 := HF.out
          rw [show nn * nn + 1 - j = (nn * nn - j) + 1 by omega, pairsF_some hp hA] at h1
          rw [show nn * nn + 1 - (j + 1) = nn * nn - j by omega]
          exact h1)
        have HIV2 := Lib.hid (HIV.out.next HOK.out hp hA)
        have HLI := Lib.hid (ask_in HOK.out hA)
        rw [HNL.out] at HLI
        clear hp hpe hx1 hxy hon hA hpin
        subst hva
        go_wp2
        go_region_with (first
          | (go_at_call 50; (with_reducible refine CO.out.mono ?_)
             rintro e w5 ⟨⟨aa, an, ac, he, haf, _, hal⟩, hb5⟩
             have he : e = .returned (.tuple #[.slice aa an ac, .bool true]) := he
             subst he
             have hb5 : Below wo.heap.size wo w5 := ⟨hb5.os, hb5.tape, hb5.output, hb5.size, hb5.block⟩
             have HAF := Lib.hid (show ∀ g o, aa = some ⟨g, o, none⟩ → wo.heap.size ≤ g from haf)
             have HAL := Lib.hid (hal l rfl)
             have HO5 := Lib.hid (HO.out.kept hb5)
             have HP5 := Lib.hid (HP.out.on hb5)
             have HB5 := Lib.hid (HBr.out.trans (hb5.mono hzr))
             have hz5 := hb5.size
             clear haf hal hb5)
          | fail)
        all_goals
          go_wp2
          have hal1 : l.length = an := HAL.out.1
          have han := HAL.out.2.1
          go_loopw [9, 52] (fun s i wt => ∃ (k : Nat) (v2 : Value), k ≤ an ∧ i = .int .i64 k ∧ v2 = s ∧ Hid (PrOwn wt S v2 (addP row (l.take k))) ∧ Hid (PSet wt (S + 1) (addP row (l.take k))) ∧ Hid (Two ob (S + 1) w5 wt) ∧ Hid (∀ g, v2.ownBlock = some g → g = ob ∨ w5.heap.size ≤ g) ∧ Hid (Below S w4 wt)) (fun _ i _ => an - (intOf i).toNat)
          case atStart => exact ⟨0, _, Nat.zero_le _, rfl, rfl, Lib.hid (by rw [List.take_zero]; exact HO5.out), Lib.hid (by rw [List.take_zero]; exact HP5.out), Lib.hid (Two.refl _ _ _), Lib.hid (fun g hg => .inl (Option.some.inj hg).symm), HB5⟩
          case round =>
            obtain ⟨k, v2, hk, rfl, hv2, HI, HQ, HTw, HOW, HBt⟩ := hrel
            subst hv2
            obtain ⟨wi, hwi⟩ : ∃ wi : World, wi = wr := ⟨_, rfl⟩
            subst hwi
            have hzt := HBt.out.size
            rw [HZ4.out] at hzt
            have hz6 := HTw.out.size
            have hQl := HQ.out.lt
            by_cases hki : k < an
            · obtain ⟨lb, lo, qx, qy, hlae, hlb, hx, t0, t1⟩ := HAL.out.at_ hki
              have hlbo : wo.heap.size ≤ lb := HAF.out lb lo hlae
              subst hlae
              have r0 := (HTw.out.cell (p := ⟨lb, lo + k * 2, none⟩) hlb (by show lb ≠ ob; omega) (by show lb ≠ _; omega)).trans t0
              have r1 := (HTw.out.cell (p := ⟨lb, lo + k * 2 + 1, none⟩) hlb (by show lb ≠ ob; omega) (by show lb ≠ _; omega)).trans t1
              have hsm := smallP_in hn4 (HLI.out _ (List.mem_of_getElem? hx))
              have hst : addP row (l.take (k + 1)) = if (qx, qy) ∈ addP row (l.take k) then addP row (l.take k) else addP row (l.take k) ++ [(qx, qy)] := by
                rw [List.take_add_one, hx, Option.toList_some, addP_snoc]
              have hrl : (addP row (l.take k)).length ≤ nn * nn := pair_few (addP_nodup _ _ HIV.out.nd) (fun z hz => by
                rcases (addP_mem z _ _).1 hz with hz | hz
                · have := HIV.out.inn z hz; rw [HNL.out] at this; exact this
                · exact HLI.out z (List.mem_of_mem_take hz))
              obtain ⟨rc, hrc⟩ : ∃ rc, addP row (l.take k) = rc := ⟨_, rfl⟩
              rw [hrc] at hst HI HQ hrl
              have HQa := Lib.hid (HQ.out.on (tu1 wi (.cells #[.int .i64 qx, .int .i64 qy] 51)))
              have hlk := HQa.out.look hsm
              have i1 : (k : Int) < (an : Int) := by omega
              have i2 : (0 : Int) ≤ (k : Int) := by omega
              have HNO := Lib.hid (HI.out.aside HQ.out)
              have HSM2 := Lib.hid hsm
              have HRL := Lib.hid (show rc.length ≤ 160000 by omega)
              have HIa := Lib.hid (HI.out.alloc (.cells #[.int .i64 qx, .int .i64 qy] 51))
              have HBa := Lib.hid (HBt.out.alloc hzt (.cells #[.int .i64 qx, .int .i64 qy] 51))
              have HTa := Lib.hid (HTw.out.alloc (.cells #[.int .i64 qx, .int .i64 qy] 51))
              by_cases hm : (qx, qy) ∈ rc
              · rw [if_pos hm] at hst
                rw [decide_eq_true hm] at hlk
                have HST := Lib.hid hst
                clear hm hst hx hrc t0 t1 hsm
                go_wp2_with fail
                go_roundw
                case rel => exact ⟨k + 1, _, by omega, by go_num, rfl, Lib.hid (by rw [HST.out]; exact HIa.out), Lib.hid (by rw [HST.out]; exact HQa.out), HTa, HOW, HBa⟩
                case measure => simp [intOf]; omega
              · rw [if_neg hm] at hst
                rw [decide_eq_false hm] at hlk
                have HST := Lib.hid hst
                have HBV := Lib.hid (show (wi.alloc (.cells #[.int .i64 qx, .int .i64 qy] 51)).heap[wi.heap.size]? = some (.cells #[.int .i64 qx, .int .i64 qy] 51 (0, 0)) from heap_alloc_new wi _)
                clear hm hst hx hrc t0 t1 hsm
                go_wp2_with (first
                  | (at_mapUpdate
                     refine wpList_mapUpdate_pair rfl (.tmp 60) (.tmp 61) (.const (.bool true)) rfl (S + 1) rc rfl HQa.out qx qy HSM2.out (by have := HRL.out; omega) rfl rfl ?_
                     intro w7 hp7 hg7
                     have HP7 := Lib.hid hp7
                     have HI7 := Lib.hid (HIa.out.grown hg7 (fun b e e2 => HNO.out (by rw [e]; exact e2.symm)))
                     have HB7 := Lib.hid (HBa.out.grown hg7 (by simp; omega) (fun j e => by have := Option.some.inj e; omega))
                     have HT7 := Lib.hid (HTa.out.grown hg7 (fun j e => .inr (.inl (Option.some.inj e).symm)))
                     have hx7 := (hg7.block wi.heap.size (by simp) (fun e => by have := Option.some.inj e; omega)).trans HBV.out
                     have u0 : w7.cell? ⟨wi.heap.size, 0, none⟩ = some (.int .i64 qx) := by rw [cell_of_row _ _ _ _ _ _ hx7]; rfl
                     have u1 : w7.cell? ⟨wi.heap.size, 1, none⟩ = some (.int .i64 qy) := by rw [cell_of_row _ _ _ _ _ _ hx7]; rfl
                     have hsz7 := hg7.size
                     rw [World.size_alloc] at hsz7
                     clear hp7 hg7 hx7)
                  | (at_builtin
                     refine wpList_append_prs rfl (.tmp 62) (.tmp 64) rfl S v2 rc (some ⟨w7.heap.size, 0, none⟩) 1 1 [(qx, qy)] rfl rfl (HI7.out.alloc _) (PrRow.one (qx, qy) rfl rfl) (by simp; omega) (by have := HRL.out; omega) ?_
                     intro v8 w8 ho8 hb8 hk8
                     have HO8 := Lib.hid ho8
                     have HP8 := Lib.hid ((HP7.out.on (tu1 w7 (.cells #[.int .i64 qx, .int .i64 qy] 51))).block (hk8.1.2 (S + 1) (by simp; omega) HNO.out))
                     have HB8 := Lib.hid ((HB7.out.alloc (by omega) (.cells #[.int .i64 qx, .int .i64 qy] 51)).trans hb8)
                     have HT8 := Lib.hid ((HT7.out.alloc (.cells #[.int .i64 qx, .int .i64 qy] 51)).keeps hk8.1 (fun g e => by rcases HOW.out g e with e1 | e1; exact .inl e1; exact .inr (.inr e1)))
                     have HW8 := Lib.hid (show ∀ g, v8.ownBlock = some g → g = ob ∨ w5.heap.size ≤ g from fun g e => by
                       rcases hk8.2 with e1 | e1
                       · exact HOW.out g (by rw [← e1]; exact e)
                       · rw [e1, World.size_alloc] at e
                         have := Option.some.inj e
                         exact .inr (by omega))
                     clear ho8 hb8 hk8)
                  | fail)
                go_roundw
                case rel => exact ⟨k + 1, _, by omega, by go_num, rfl, Lib.hid (by rw [HST.out]; exact HO8.out), Lib.hid (by rw [HST.out]; exact HP8.out), HT8, HW8, HB8⟩
                case measure => simp [intOf]; omega
            · obtain rfl : k = an := by omega
              have d3 : decide ((k : Int) < (k : Int)) = false := decide_eq_false (by omega)
              have HI2 := Lib.hid (show PrOwn wi S v2 (addP row l) from by have h1 := HI.out; rwa [List.take_of_length_le (by omega)] at h1)
              have HQ2 := Lib.hid (show PSet wi (S + 1) (addP row l) from by have h1 := HQ.out; rwa [List.take_of_length_le (by omega)] at h1)
              have hle : j + 1 ≤ (addP row l).length := by
                obtain ⟨r, hr⟩ := addP_pre l row
                rw [hr, List.length_append]
                omega
              clear HI HQ
              go_wp2_with fail
              go_roundw
              case rel => exact ⟨j + 1, addP row l, v2, by go_num, rfl, hle, HIV2, HNXT, HI2, HQ2, HBt⟩
              case measure => simp [intOf]; omega
    · have hjr : row.length ≤ j := by omega
      have HZ := Lib.hid (show R = some row from by rw [← HF.out]; exact pairsF_done hjr)
      have HLT := Lib.hid (show ∀ g o, oa = some ⟨g, o, none⟩ → w.heap.size ≤ g from fun g o e => by have := (hown g o e).2.1; omega)
      have HON := Lib.hid hon
      have d3 : decide ((j : Int) < (row.length : Int)) = false := decide_eq_false (by omega)
      clear hon
      subst hva
      go_wp2_with fail
      go_ret2
      exact ⟨by rw [HZ.out]; exact ⟨_, _, _, rfl, HLT.out, fun h => (by cases h), fun l hl => by rw [← Option.some.inj hl]; exact HON.out⟩, HBWr.out⟩
end Go.Proofs.Ytpjocacepafneaa

/- Contracts of under.Is, allIn and Holds. -/
namespace Go.Proofs.Ytpjocacepafneaa
open Go.RowKit Go.Sort Go.Maps Go.WideMaps

set_option maxHeartbeats 4000000 in
set_option maxRecDepth 20000 in
theorem is_any (na : Option Addr) (nn nc : Nat) (sa : Option Addr) (sn sc : Nat) (ra : Option Addr) (rn rc : Nat) (b : BookL) (x y : Int) (w : World) (bound : Nat) (hb : bound ≤ w.heap.size) (h : BkIn w bound na nn sa sn ra rn b) :
    Calls Try.prog 26 #[bkV na nn nc sa sn sc ra rn rc, .int .i64 x, .int .i64 y] w fun e w' => e = .returned (.bool (isQ b (x, y))) ∧ Below w.heap.size w w' := by
  have HB := Lib.hid (tu1 w (.cells #[.slice na nn nc, .slice sa sn sc, .slice ra rn rc] 26))
  have CP := Lib.hid (pairs_any na nn nc sa sn sc ra rn rc b x y (w.alloc (.cells #[.slice na nn nc, .slice sa sn sc, .slice ra rn rc] 26)) bound (by simp; omega) (h.below (HB.out.mono hb)))
  obtain ⟨R, hR⟩ : ∃ R, R = isQ b (x, y) := ⟨_, rfl⟩
  rw [← hR]
  have HR := Lib.hid hR
  clear h hR
  go_enter Try.func26, Try.ntmps26
  go_wp2_with (first
    | (go_at_call 27; (with_reducible refine CP.out.mono ?_)
       rintro e w5 ⟨⟨aa, an, ac, he, _, _, _⟩, hb5⟩
       have he : e = .returned (.tuple #[.slice aa an ac, .bool R]) := he.trans (by rw [HR.out]; rfl)
       subst he
       have HB5 := Lib.hid (below_on HB.out hb5)
       clear hb5)
    | fail)
  go_ret
  exact ⟨rfl, HB5.out⟩
theorem all_memP {l row : List (Int × Int)} {k : Nat} {p : Int × Int} (h : ∀ q ∈ l.take k, q ∈ row) (hp : l[k]? = some p) (hm : p ∈ row) : ∀ q ∈ l.take (k + 1), q ∈ row := fun q hq => by
  rw [List.take_add_one, hp, Option.toList_some] at hq
  rcases List.mem_append.1 hq with hq | hq
  · exact h q hq
  · rw [List.mem_singleton.1 hq]; exact hm
set_option maxHeartbeats 4000000 in
set_option maxRecDepth 20000 in
theorem allIn_any (m : Nat) (row : List (Int × Int)) (a : Option Addr) (n c : Nat) (l : List (Int × Int)) (w : World) (bound : Nat) (hb : bound ≤ w.heap.size) (h : Prs2 w bound a n l) (hm : PSet w m row) (hs : ∀ p ∈ l, smallP p) :
    Calls Try.prog 51 #[.map (some m), .slice a n c] w fun e w' => e = .returned (.bool (l.all fun q => decide (q ∈ row))) ∧ Below w.heap.size w w' := by
  obtain ⟨R, hR⟩ : ∃ R, R = l.all fun q => decide (q ∈ row) := ⟨_, rfl⟩
  rw [← hR]
  have HR := Lib.hid hR
  have HN := Lib.hid h
  have HM := Lib.hid hm
  have HS := Lib.hid hs
  have han := h.2.1
  have HLEN := Lib.hid h.1
  clear h hm hs hR
  go_enter Try.func51, Try.ntmps51
  go_wp2_with fail
  go_loopw [9] (fun i wr => ∃ k : Nat, k ≤ n ∧ i = .int .i64 k ∧ Hid (∀ q ∈ l.take k, q ∈ row) ∧ Hid (Below w.heap.size w wr)) (fun i _ => n - (intOf i).toNat)
  case atStart => exact ⟨0, Nat.zero_le _, rfl, Lib.hid (by simp), Lib.hid (Below.refl _ _)⟩
  case round =>
    obtain ⟨k, hk, rfl, HG, HBr⟩ := hrel
    by_cases hlt : k < n
    · obtain ⟨b, off, x, y, rfl, hbb, hx, q0, q1⟩ := (HN.out.below (HBr.out.mono hb)).at_ hlt
      have hsm := HS.out _ (List.mem_of_getElem? hx)
      have HBa := Lib.hid (HBr.out.alloc HBr.out.size (.cells #[.int .i64 x, .int .i64 y] 51))
      have hlk := (HM.out.on HBa.out).look hsm
      have i1 : (k : Int) < (n : Int) := by omega
      have i2 : (0 : Int) ≤ (k : Int) := by omega
      by_cases hmem : (x, y) ∈ row
      · have HG2 := Lib.hid (all_memP HG.out hx hmem)
        rw [decide_eq_true hmem] at hlk
        clear hmem hx hsm
        go_wp2_with fail
        go_roundw
        case rel => exact ⟨k + 1, by omega, by go_num, HG2, HBa⟩
        case measure => simp [intOf]; omega
      · have HZ := Lib.hid (show R = false by
          rw [HR.out, Bool.eq_false_iff]
          intro h1
          exact hmem (of_decide_eq_true (List.all_eq_true.1 h1 _ (List.mem_of_getElem? hx))))
        rw [decide_eq_false hmem] at hlk
        clear hmem hx hsm
        go_wp2_with fail
        go_ret
        exact ⟨ret_bool HZ.out.symm, HBa.out⟩
    · obtain rfl : k = n := by omega
      have HZ := Lib.hid (show R = true by
        rw [HR.out]
        refine List.all_eq_true.2 fun q hq => decide_eq_true (HG.out q ?_)
        rw [List.take_of_length_le (by rw [HLEN.out]; exact Nat.le_refl _)]
        exact hq)
      have d3 : decide ((k : Int) < (k : Int)) = false := decide_eq_false (by omega)
      go_wp2_with fail
      go_ret
      exact ⟨ret_bool HZ.out.symm, HBr.out⟩
/-- A pair is right in a set. -/
def okP (b : BookL) (l : List (Int × Int)) (p : Int × Int) : Bool := match Ask b.nodes p with
  | none => false
  | some a => a.all fun q => decide (q ∈ l)
theorem holdsQ_eq (b : BookL) (l : List (Int × Int)) : holdsQ b l = (bookB b && l.all (inP b.nodes.length) && l.all (okP b l)) := rfl
theorem all_stepP {P : Int × Int → Bool} {l : List (Int × Int)} {k : Nat} {p : Int × Int} (h : ∀ q ∈ l.take k, P q = true) (hp : l[k]? = some p) (hm : P p = true) : ∀ q ∈ l.take (k + 1), P q = true := fun q hq => by
  rw [List.take_add_one, hp, Option.toList_some] at hq
  rcases List.mem_append.1 hq with hq | hq
  · exact h q hq
  · rw [List.mem_singleton.1 hq]; exact hm
theorem all_badP {P : Int × Int → Bool} {l : List (Int × Int)} {k : Nat} {p : Int × Int} (hp : l[k]? = some p) (hm : P p = false) : l.all P = false := by
  rw [Bool.eq_false_iff]
  intro h1
  rw [List.all_eq_true.1 h1 p (List.mem_of_getElem? hp)] at hm
  cases hm
theorem all_allP {P : Int × Int → Bool} {l : List (Int × Int)} {n : Nat} (hl : l.length = n) (h : ∀ q ∈ l.take n, P q = true) : l.all P = true := List.all_eq_true.2 fun q hq => h q (by rw [List.take_of_length_le (by omega)]; exact hq)
set_option maxHeartbeats 16000000 in
set_option maxRecDepth 20000 in
theorem holds_any (na : Option Addr) (nn nc : Nat) (sa : Option Addr) (sn sc : Nat) (ra : Option Addr) (rn rc : Nat) (b : BookL) (a : Option Addr) (n c : Nat) (l : List (Int × Int)) (w : World) (bound : Nat) (hb : bound ≤ w.heap.size) (h : BkIn w bound na nn sa sn ra rn b) (hl : Prs2 w bound a n l) (hn : n ≤ 900000) :
    Calls Try.prog 28 #[bkV na nn nc sa sn sc ra rn rc, .slice a n c] w fun e w' => e = .returned (.bool (holdsQ b l)) ∧ Below w.heap.size w w' := by
  obtain ⟨R, hR⟩ : ∃ R, R = holdsQ b l := ⟨_, rfl⟩
  rw [← hR]
  have HR := Lib.hid (hR.trans (holdsQ_eq b l))
  have hnl := h.nodes.1
  have HB1 := Lib.hid (tu1 w (.cells #[.slice na nn nc, .slice sa sn sc, .slice ra rn rc] 26))
  have HBX := Lib.hid (show BBox (w.alloc (.cells #[.slice na nn nc, .slice sa sn sc, .slice ra rn rc] 26)) w.heap.size na nn nc sa sn sc ra rn rc from heap_alloc_new w _)
  have HIN := Lib.hid (h.below (HB1.out.mono hb))
  have HPS := Lib.hid (hl.below (HB1.out.mono hb))
  have CM := Lib.hid (bookMay_any na nn nc sa sn sc ra rn rc b (w.alloc (.cells #[.slice na nn nc, .slice sa sn sc, .slice ra rn rc] 26)) bound (by simp; omega) HIN.out)
  have CA := Lib.hid (fun x y W => areNodes_any na nn nc sa sn sc ra rn rc x y W)
  have HLEN := Lib.hid hl.1
  clear h hR hl
  go_enter Try.func28, Try.ntmps28
  cases hv : bookB b
  · rw [hv] at CM
    have HZ := Lib.hid (show R = false by rw [HR.out, hv]; rfl)
    clear hv
    go_wp2_with (first
      | (go_at_call 32; (with_reducible refine CM.out.mono ?_)
         rintro e w3 ⟨rfl, hb3⟩
         have HB3 := Lib.hid (below_on HB1.out hb3)
         clear hb3)
      | fail)
    go_ret
    exact ⟨ret_bool HZ.out.symm, HB3.out⟩
  rw [hv] at CM
  have HR2 := Lib.hid (show R = (l.all (inP nn) && l.all (okP b l)) by rw [HR.out, hv, hnl]; rfl)
  obtain ⟨hok, _⟩ := bookB_ok hv
  have hn4 : nn ≤ 400 := by rw [← hnl]; exact hok.1
  have HOK := Lib.hid hok
  have HNL := Lib.hid hnl
  clear hv hok hnl HR
  go_upto_region 3 with (first
    | (go_at_call 32; (with_reducible refine CM.out.mono ?_)
       rintro e w3 ⟨rfl, hb3⟩
       have HBX3 := Lib.hid (HBX.out.on hb3 (by simp))
       have HIN3 := Lib.hid (HIN.out.below (hb3.mono (by simp; omega)))
       have HPS3 := Lib.hid (HPS.out.below (hb3.mono (by simp; omega)))
       have hgl := (Array.getElem?_eq_some_iff.1 HBX3.out).1
       have HB3 := Lib.hid (below_on HB1.out hb3)
       clear hb3)
    | fail)
  clear HBX HIN HPS CM HB1
  have hmm := @run_makeMap Try.prog
  go_wp2_with fail
  obtain ⟨S, hS⟩ : ∃ S, S = w3.heap.size := ⟨_, rfl⟩
  have HM0 := Lib.hid (PSet.made w3)
  have HBm := Lib.hid (tu1 w3 (.map #[] 0))
  have hsm : (w3.alloc (.map #[] 0)).heap.size = w3.heap.size + 1 := World.size_alloc _ _
  rw [← hS] at HM0 HBm hgl ⊢
  have HZ3 := Lib.hid hS.symm
  clear hS hmm hsm
  generalize w3.alloc (.map #[] 0) = wm at HM0 HBm ⊢
  go_loopw [18] (fun i wr => ∃ k : Nat, k ≤ n ∧ i = .int .i64 k ∧ Hid (∀ q ∈ l.take k, inP nn q = true) ∧ Hid (PSet wr S (l.take k)) ∧ Hid (Below S w3 wr)) (fun i _ => n - (intOf i).toNat)
  case atStart => exact ⟨0, Nat.zero_le _, rfl, Lib.hid (by simp), Lib.hid (by rw [List.take_zero]; exact HM0.out), HBm⟩
  case round =>
    clear HM0 HBm
    obtain ⟨k, hk, rfl, HG, HM, HBr⟩ := hrel
    have hzr := HBr.out.size
    rw [HZ3.out] at hzr
    have hml := HM.out.lt
    have HBXr := Lib.hid (HBX3.out.on HBr.out hgl)
    by_cases hlt : k < n
    · obtain ⟨pb, off, x, y, rfl, hbb, hx, q0, q1⟩ := (HPS3.out.below (HBr.out.mono (by omega))).at_ hlt
      have i1 : (k : Int) < (n : Int) := by omega
      have i2 : (0 : Int) ≤ (k : Int) := by omega
      have HBa := Lib.hid (HBr.out.alloc hzr (.cells #[.int .i64 x, .int .i64 y] 51))
      have HBV := Lib.hid (show (wr.alloc (.cells #[.int .i64 x, .int .i64 y] 51)).heap[wr.heap.size]? = some (.cells #[.int .i64 x, .int .i64 y] 51 (0, 0)) from heap_alloc_new wr _)
      have HMa := Lib.hid (HM.out.on (tu1 wr (.cells #[.int .i64 x, .int .i64 y] 51)))
      obtain ⟨b0, b1, b2⟩ := (HBXr.out.on (tu1 wr (.cells #[.int .i64 x, .int .i64 y] 51)) (by omega)).cells
      have CA1 := Lib.hid (CA.out x y (wr.alloc (.cells #[.int .i64 x, .int .i64 y] 51)))
      cases hp : inP nn (x, y)
      · rw [hp] at CA1
        have HZ := Lib.hid (show R = false by rw [HR2.out, all_badP hx hp]; rfl)
        clear hx hp
        go_wp2_with (first
          | (go_at_call 49; (with_reducible refine CA1.out.mono ?_)
             rintro e w4 ⟨rfl, hb4⟩
             have HB4 := Lib.hid (HBa.out.trans (hb4.mono (by simp; omega)))
             clear hb4)
          | fail)
        go_ret
        exact ⟨ret_bool HZ.out.symm, HB3.out.trans (HB4.out.mono (by omega))⟩
      · rw [hp] at CA1
        have HG2 := Lib.hid (all_stepP (P := inP nn) HG.out hx hp)
        have HSM := Lib.hid (smallP_in hn4 hp)
        have HTK := Lib.hid (show l.take (k + 1) = l.take k ++ [(x, y)] by rw [List.take_add_one, hx]; rfl)
        have HLK := Lib.hid (show (l.take k).length ≤ 900000 by rw [List.length_take]; omega)
        clear hx hp
        go_wp2_with (first
          | (go_at_call 49; (with_reducible refine CA1.out.mono ?_)
             rintro e w4 ⟨rfl, hb4⟩
             have HB4 := Lib.hid (HBa.out.trans (hb4.mono (by simp; omega)))
             have HM4 := Lib.hid (HMa.out.on hb4)
             have hx4 := (hb4.block wr.heap.size (by simp)).trans HBV.out
             have u0 : w4.cell? ⟨wr.heap.size, 0, none⟩ = some (.int .i64 x) := by rw [cell_of_row _ _ _ _ _ _ hx4]; rfl
             have u1 : w4.cell? ⟨wr.heap.size, 1, none⟩ = some (.int .i64 y) := by rw [cell_of_row _ _ _ _ _ _ hx4]; rfl
             clear hb4 hx4)
          | (at_mapUpdate
             refine wpList_mapUpdate_pair rfl (.tmp 26) (.tmp 27) (.const (.bool true)) rfl S (l.take k) rfl HM4.out x y HSM.out (by have := HLK.out; omega) rfl rfl ?_
             intro w7 hp7 hg7
             have HP7 := Lib.hid hp7
             have HB7 := Lib.hid (HB4.out.grown hg7 (by have := HM4.out.lt; omega) (fun j e => by have := Option.some.inj e; omega))
             clear hp7 hg7)
          | fail)
        go_roundw
        case rel => exact ⟨k + 1, by omega, by go_num, HG2, Lib.hid (by rw [HTK.out]; exact HP7.out), HB7⟩
        case measure => simp [intOf]; omega
    · obtain rfl : k = n := by omega
      have d3 : decide ((k : Int) < (k : Int)) = false := decide_eq_false (by omega)
      have HR3 := Lib.hid (show R = l.all (okP b l) by rw [HR2.out, all_allP HLEN.out HG.out]; rfl)
      have HIP := Lib.hid (show ∀ q ∈ l, inP nn q = true from fun q hq => HG.out q (by rw [List.take_of_length_le (by rw [HLEN.out]; exact Nat.le_refl _)]; exact hq))
      have HM2 := Lib.hid (show PSet wr S l by have h1 := HM.out; rwa [List.take_of_length_le (by rw [HLEN.out]; exact Nat.le_refl _)] at h1)
      clear HG HM HR2 CA hml
      go_wp2_with fail
      obtain ⟨we, hwe⟩ : ∃ we : World, we = wr := ⟨_, rfl⟩
      subst hwe
      have HLEN2 := Lib.hid HLEN.out
      go_loopw [31] (fun i wt => ∃ j : Nat, j ≤ k ∧ i = .int .i64 j ∧ Hid (∀ q ∈ l.take j, okP b l q = true) ∧ Hid (Below we.heap.size we wt)) (fun i _ => k - (intOf i).toNat)
      case atStart => exact ⟨0, Nat.zero_le _, rfl, Lib.hid (by simp), Lib.hid (Below.refl _ _)⟩
      case round =>
        obtain ⟨j, hj, rfl, HG, HBt⟩ := hrel
        have hzt := HBt.out.size
        by_cases hlt2 : j < k
        · obtain ⟨pb, off, x, y, rfl, hbb, hx, q0, q1⟩ := ((HPS3.out.below (HBr.out.mono (by omega))).below (HBt.out.mono (by omega))).at_ hlt2
          have i1 : (j : Int) < (k : Int) := by omega
          have i2 : (0 : Int) ≤ (j : Int) := by omega
          have HBa := Lib.hid (HBt.out.alloc hzt (.cells #[.int .i64 x, .int .i64 y] 51))
          have HBV := Lib.hid (show (wr.alloc (.cells #[.int .i64 x, .int .i64 y] 51)).heap[wr.heap.size]? = some (.cells #[.int .i64 x, .int .i64 y] 51 (0, 0)) from heap_alloc_new wr _)
          obtain ⟨b0, b1, b2⟩ := (HBXr.out.on HBa.out (by omega)).cells
          have HWa := Lib.hid ((HB3.out.trans (HBr.out.mono (by omega))).trans (HBa.out.mono (by omega)))
          have CO := Lib.hid (oblig_any na nn nc sa sn sc ra rn rc b x y (wr.alloc (.cells #[.int .i64 x, .int .i64 y] 51)) bound (by simp; omega) ((HIN3.out.below (HBr.out.mono (by omega))).below (HBa.out.mono (by omega))) HOK.out (HIP.out _ (List.mem_of_getElem? hx)))
          rcases hA : Ask b.nodes (x, y) with _ | asked
          · rw [hA] at CO
            have HZ := Lib.hid (show R = false by rw [HR3.out]; exact all_badP hx (by unfold okP; rw [hA]))
            clear hx hA
            go_wp2_with (first
              | (go_at_call 50; (with_reducible refine CO.out.mono ?_)
                 rintro e w5 ⟨⟨aa, an, ac, he, _, _, _⟩, hb5⟩
                 have he : e = .returned (.tuple #[.slice aa an ac, .bool false]) := he
                 subst he
                 have HB5 := Lib.hid (below_on HWa.out hb5)
                 clear hb5)
              | fail)
            go_ret
            exact ⟨ret_bool HZ.out.symm, HB5.out⟩
          · rw [hA] at CO
            have hok : okP b l (x, y) = asked.all fun q => decide (q ∈ l) := by unfold okP; rw [hA]
            have HAI := Lib.hid (ask_in HOK.out hA)
            cases hall : asked.all fun q => decide (q ∈ l)
            · rw [hall] at hok
              have HZ := Lib.hid (show R = false by rw [HR3.out]; exact all_badP hx hok)
              clear hx hA hok
              have HALL := Lib.hid hall
              clear hall
              go_wp2_with (first
                | (go_at_call 50; (with_reducible refine CO.out.mono ?_)
                   rintro e w5 ⟨⟨aa, an, ac, he, _, _, hal⟩, hb5⟩
                   have he : e = .returned (.tuple #[.slice aa an ac, .bool true]) := he
                   subst he
                   have HB5 := Lib.hid (below_on HWa.out hb5)
                   have CI := Lib.hid (allIn_any S l aa an ac asked w5 w5.heap.size (Nat.le_refl _) (hal asked rfl) (HM2.out.on (below_on HBa.out hb5)) (fun p hp => smallP_in hn4 (by rw [← HNL.out]; exact HAI.out p hp)))
                   rw [HALL.out] at CI
                   clear hb5 hal)
                | (go_at_call 51; (with_reducible refine CI.out.mono ?_)
                   rintro e w6 ⟨rfl, hb6⟩
                   have HB6 := Lib.hid (below_on HB5.out hb6)
                   clear hb6)
                | fail)
              go_ret
              exact ⟨ret_bool HZ.out.symm, HB6.out⟩
            · rw [hall] at hok
              have HG2 := Lib.hid (all_stepP HG.out hx hok)
              clear hx hA hok
              have HALL := Lib.hid hall
              clear hall
              go_wp2_with (first
                | (go_at_call 50; (with_reducible refine CO.out.mono ?_)
                   rintro e w5 ⟨⟨aa, an, ac, he, _, _, hal⟩, hb5⟩
                   have he : e = .returned (.tuple #[.slice aa an ac, .bool true]) := he
                   subst he
                   have HB5 := Lib.hid (below_on HBa.out hb5)
                   have CI := Lib.hid (allIn_any S l aa an ac asked w5 w5.heap.size (Nat.le_refl _) (hal asked rfl) (HM2.out.on HB5.out) (fun p hp => smallP_in hn4 (by rw [← HNL.out]; exact HAI.out p hp)))
                   rw [HALL.out] at CI
                   clear hb5 hal)
                | (go_at_call 51; (with_reducible refine CI.out.mono ?_)
                   rintro e w6 ⟨rfl, hb6⟩
                   have HB6 := Lib.hid (below_on HB5.out hb6)
                   clear hb6)
                | fail)
              go_roundw
              case rel => exact ⟨j + 1, by omega, by go_num, HG2, HB6⟩
              case measure => simp [intOf]; omega
        · obtain rfl : j = k := by omega
          have d3 : decide ((j : Int) < (j : Int)) = false := decide_eq_false (by omega)
          have HZ := Lib.hid (show R = true by rw [HR3.out]; exact all_allP HLEN.out HG.out)
          go_wp2_with fail
          go_ret
          exact ⟨ret_bool HZ.out.symm, (HB3.out.trans (HBr.out.mono (by omega))).trans (HBt.out.mono (by omega))⟩
end Go.Proofs.Ytpjocacepafneaa

/- Contracts of the statements' given, pick, first and made (layer 11); a made book in a box. -/
namespace Go.Proofs.Ytpjocacepafneaa
open Go.RowKit Go.Sort

def exB (k : Int) (l : List EdgeL) : NodeL := ⟨k, [98], l⟩
def exX : EdgeL := ⟨[120], 0, 0, 4⟩
def exY : EdgeL := ⟨[121], 0, 0, 4⟩
/-- The chapter's book. -/
def exBook : BookL := ⟨[exB 1 [exX, exY], exB 1 [exX], exB 2 [exX], exB 2 [exX, exY], ⟨0, [], []⟩], [], []⟩
theorem exBook_ok : bookB exBook = true := by decide
theorem ex_01 : pairsQ exBook (0, 1) = some [(0, 1), (4, 4)] := by decide
theorem ex_10 : isQ exBook (1, 0) = false := by decide
theorem ex_23 : isQ exBook (2, 3) = true := by decide
theorem ex_32 : isQ exBook (3, 2) = false := by decide
theorem ex_hold : holdsQ exBook [(0, 1), (4, 4)] = true := pairsQ_holds ex_01
abbrev gvE (c : UInt8) : Obj := .cells #[.string ⟨#[c]⟩, .int .i64 0, .int .i64 0, .int .i64 4] 43
abbrev gvE2 : Obj := .cells #[.string ⟨#[120]⟩, .int .i64 0, .int .i64 0, .int .i64 4, .string ⟨#[121]⟩, .int .i64 0, .int .i64 0, .int .i64 4] 43
abbrev gvN (a b c d : Nat) : Obj := .cells #[.int .i64 1, .string ⟨#[98]⟩, .slice (some ⟨a, 0, none⟩) 2 2, .int .i64 1, .string ⟨#[98]⟩, .slice (some ⟨b, 0, none⟩) 1 1, .int .i64 2, .string ⟨#[98]⟩, .slice (some ⟨c, 0, none⟩) 1 1, .int .i64 2, .string ⟨#[98]⟩, .slice (some ⟨d, 0, none⟩) 2 2, .int .i64 0, .string ⟨#[]⟩, .slice none 0 0] 39
abbrev gvB (a : Nat) : Obj := .cells #[.slice (some ⟨a, 0, none⟩) 5 5, .slice none 0 0, .slice none 0 0] 26
theorem gvE_in {W : World} {a : Nat} (h : W.heap[a]? = some (.cells #[.string ⟨#[120]⟩, .int .i64 0, .int .i64 0, .int .i64 4] 43 (0, 0))) : Edges W W.heap.size (some ⟨a, 0, none⟩) 1 [exX] := by
  refine ⟨rfl, by omega, fun _ => ⟨a, 0, rfl, (Array.getElem?_eq_some_iff.1 h).1, fun j x hj => ?_⟩⟩
  match j, hj with
  | 0, hj =>
    obtain rfl := Option.some.inj hj
    refine ⟨⟨#[120]⟩, ⟨?_, ?_, ?_, ?_⟩, by rw [ByteArray.toList_eq]; rfl, by unfold maxLen; decide⟩ <;> (rw [cell_of_row _ _ _ _ _ _ h]; rfl)
  | j + 1, hj => simp at hj
theorem gvE2_in {W : World} {a : Nat} (h : W.heap[a]? = some (.cells #[.string ⟨#[120]⟩, .int .i64 0, .int .i64 0, .int .i64 4, .string ⟨#[121]⟩, .int .i64 0, .int .i64 0, .int .i64 4] 43 (0, 0))) : Edges W W.heap.size (some ⟨a, 0, none⟩) 2 [exX, exY] := by
  refine ⟨rfl, by omega, fun _ => ⟨a, 0, rfl, (Array.getElem?_eq_some_iff.1 h).1, fun j x hj => ?_⟩⟩
  match j, hj with
  | 0, hj =>
    obtain rfl := Option.some.inj hj
    refine ⟨⟨#[120]⟩, ⟨?_, ?_, ?_, ?_⟩, by rw [ByteArray.toList_eq]; rfl, by unfold maxLen; decide⟩ <;> (rw [cell_of_row _ _ _ _ _ _ h]; rfl)
  | 1, hj =>
    obtain rfl := Option.some.inj hj
    refine ⟨⟨#[121]⟩, ⟨?_, ?_, ?_, ?_⟩, by rw [ByteArray.toList_eq]; rfl, by unfold maxLen; decide⟩ <;> (rw [cell_of_row _ _ _ _ _ _ h]; rfl)
  | j + 2, hj => simp at hj
theorem gv_in {W : World} {a b c d n : Nat} (ha : Edges W W.heap.size (some ⟨a, 0, none⟩) 2 [exX, exY]) (hb : Edges W W.heap.size (some ⟨b, 0, none⟩) 1 [exX]) (hc : Edges W W.heap.size (some ⟨c, 0, none⟩) 1 [exX]) (hd : Edges W W.heap.size (some ⟨d, 0, none⟩) 2 [exX, exY])
    (h : W.heap[n]? = some (.cells #[.int .i64 1, .string ⟨#[98]⟩, .slice (some ⟨a, 0, none⟩) 2 2, .int .i64 1, .string ⟨#[98]⟩, .slice (some ⟨b, 0, none⟩) 1 1, .int .i64 2, .string ⟨#[98]⟩, .slice (some ⟨c, 0, none⟩) 1 1, .int .i64 2, .string ⟨#[98]⟩, .slice (some ⟨d, 0, none⟩) 2 2, .int .i64 0, .string ⟨#[]⟩, .slice none 0 0] 39 (0, 0))) :
    BkIn W W.heap.size (some ⟨n, 0, none⟩) 5 none 0 none 0 exBook := by
  refine ⟨⟨rfl, by omega, fun _ => ⟨n, 0, rfl, (Array.getElem?_eq_some_iff.1 h).1, fun j x hj => ?_⟩⟩, Strs.zero _ _ _, Nums.zero _ _ _⟩
  match j, hj with
  | 0, hj =>
    obtain rfl := Option.some.inj hj
    refine ⟨⟨#[98]⟩, some ⟨a, 0, none⟩, 2, 2, ⟨?_, ?_, ?_⟩, by rw [ByteArray.toList_eq]; rfl, by simp [maxLen, ByteArray.size], ha⟩ <;> (rw [cell_of_row _ _ _ _ _ _ h]; rfl)
  | 1, hj =>
    obtain rfl := Option.some.inj hj
    refine ⟨⟨#[98]⟩, some ⟨b, 0, none⟩, 1, 1, ⟨?_, ?_, ?_⟩, by rw [ByteArray.toList_eq]; rfl, by simp [maxLen, ByteArray.size], hb⟩ <;> (rw [cell_of_row _ _ _ _ _ _ h]; rfl)
  | 2, hj =>
    obtain rfl := Option.some.inj hj
    refine ⟨⟨#[98]⟩, some ⟨c, 0, none⟩, 1, 1, ⟨?_, ?_, ?_⟩, by rw [ByteArray.toList_eq]; rfl, by simp [maxLen, ByteArray.size], hc⟩ <;> (rw [cell_of_row _ _ _ _ _ _ h]; rfl)
  | 3, hj =>
    obtain rfl := Option.some.inj hj
    refine ⟨⟨#[98]⟩, some ⟨d, 0, none⟩, 2, 2, ⟨?_, ?_, ?_⟩, by rw [ByteArray.toList_eq]; rfl, by simp [maxLen, ByteArray.size], hd⟩ <;> (rw [cell_of_row _ _ _ _ _ _ h]; rfl)
  | 4, hj =>
    obtain rfl := Option.some.inj hj
    refine ⟨⟨#[]⟩, none, 0, 0, ⟨?_, ?_, ?_⟩, by rw [ByteArray.toList_eq], by simp [maxLen, ByteArray.size], Edges.zero _ _ _⟩ <;> (rw [cell_of_row _ _ _ _ _ _ h]; rfl)
  | j + 5, hj => simp [exBook] at hj
theorem gv_world (w : World) : ∀ S, S = w.heap.size → BkIn ((((((((w.alloc (gvB (S + 1 + 1 + 1 + 1 + 1 + 1 + 1))).alloc (gvE 120)).alloc (gvE 121)).alloc gvE2).alloc (gvE 120)).alloc (gvE 120)).alloc gvE2).alloc (gvN (S + 1 + 1 + 1) (S + 1 + 1 + 1 + 1) (S + 1 + 1 + 1 + 1 + 1) (S + 1 + 1 + 1 + 1 + 1 + 1)))
    ((((((((w.alloc (gvB (S + 1 + 1 + 1 + 1 + 1 + 1 + 1))).alloc (gvE 120)).alloc (gvE 121)).alloc gvE2).alloc (gvE 120)).alloc (gvE 120)).alloc gvE2).alloc (gvN (S + 1 + 1 + 1) (S + 1 + 1 + 1 + 1) (S + 1 + 1 + 1 + 1 + 1) (S + 1 + 1 + 1 + 1 + 1 + 1))).heap.size (some ⟨S + 1 + 1 + 1 + 1 + 1 + 1 + 1, 0, none⟩) 5 none 0 none 0 exBook := by
  intro S hS
  have z3 : (((w.alloc (gvB (S + 1 + 1 + 1 + 1 + 1 + 1 + 1))).alloc (gvE 120)).alloc (gvE 121)).heap.size = S + 1 + 1 + 1 := by simp [hS]
  generalize ((w.alloc (gvB (S + 1 + 1 + 1 + 1 + 1 + 1 + 1))).alloc (gvE 120)).alloc (gvE 121) = W3 at z3 ⊢
  have z4 : (W3.alloc gvE2).heap.size = S + 1 + 1 + 1 + 1 := by rw [World.size_alloc, z3]
  have h4 := gvE2_in (W := W3.alloc gvE2) (a := S + 1 + 1 + 1) (by rw [← z3]; exact heap_alloc_new W3 _)
  generalize W3.alloc gvE2 = W4 at z4 h4 ⊢
  have z5 : (W4.alloc (gvE 120)).heap.size = S + 1 + 1 + 1 + 1 + 1 := by rw [World.size_alloc, z4]
  have h5 := gvE_in (W := W4.alloc (gvE 120)) (a := S + 1 + 1 + 1 + 1) (by rw [← z4]; exact heap_alloc_new W4 _)
  have h45 := h4.on (tu1 W4 (gvE 120))
  generalize W4.alloc (gvE 120) = W5 at z5 h5 h45 ⊢
  have z6 : (W5.alloc (gvE 120)).heap.size = S + 1 + 1 + 1 + 1 + 1 + 1 := by rw [World.size_alloc, z5]
  have h6 := gvE_in (W := W5.alloc (gvE 120)) (a := S + 1 + 1 + 1 + 1 + 1) (by rw [← z5]; exact heap_alloc_new W5 _)
  have h46 := h45.on (tu1 W5 (gvE 120))
  have h56 := h5.on (tu1 W5 (gvE 120))
  generalize W5.alloc (gvE 120) = W6 at z6 h6 h46 h56 ⊢
  have z7 : (W6.alloc gvE2).heap.size = S + 1 + 1 + 1 + 1 + 1 + 1 + 1 := by rw [World.size_alloc, z6]
  have h7 := gvE2_in (W := W6.alloc gvE2) (a := S + 1 + 1 + 1 + 1 + 1 + 1) (by rw [← z6]; exact heap_alloc_new W6 _)
  have h47 := h46.on (tu1 W6 gvE2)
  have h57 := h56.on (tu1 W6 gvE2)
  have h67 := h6.on (tu1 W6 gvE2)
  generalize W6.alloc gvE2 = W7 at z7 h7 h47 h57 h67 ⊢
  have hb := tu1 W7 (gvN (S + 1 + 1 + 1) (S + 1 + 1 + 1 + 1) (S + 1 + 1 + 1 + 1 + 1) (S + 1 + 1 + 1 + 1 + 1 + 1))
  exact gv_in (h47.on hb) (h57.on hb) (h67.on hb) (h7.on hb) (by rw [← z7]; exact heap_alloc_new W7 _)
set_option maxHeartbeats 4000000 in
set_option maxRecDepth 20000 in
theorem given11_any (w : World) : Calls Try.prog 24 #[] w fun e w' => BkRet exBook e w' ∧ Below w.heap.size w w' := by
  have HL := Lib.hid (gv_world w _ rfl)
  have HB := Lib.hid (((((((tu1 w (gvB (w.heap.size + 1 + 1 + 1 + 1 + 1 + 1 + 1))).alloc (by simp) (gvE 120)).alloc (by simp; omega) (gvE 121)).alloc (by simp; omega) gvE2).alloc (by simp; omega) (gvE 120)).alloc (by simp; omega) (gvE 120) |>.alloc (by simp; omega) gvE2) |>.alloc (by simp; omega) (gvN (w.heap.size + 1 + 1 + 1) (w.heap.size + 1 + 1 + 1 + 1) (w.heap.size + 1 + 1 + 1 + 1 + 1) (w.heap.size + 1 + 1 + 1 + 1 + 1 + 1)))
  go_enter Try.func24, Try.ntmps24
  go_wp2_with fail
  refine bodyPost_ret (v := bkV (some ⟨w.heap.size + 1 + 1 + 1 + 1 + 1 + 1 + 1, 0, none⟩) 5 5 none 0 0 none 0 0) (by simp [results, go_sem]) rfl ?_
  exact ⟨⟨_, 5, 5, none, 0, 0, none, 0, 0, rfl, HL.out⟩, HB.out⟩
/-- The node that a number picks. -/
def pickN (nn : Nat) (x : Int) : Nat := ((IntKind.u64.wrap x).tmod (nn : Int)).toNat
theorem pickN_lt {nn : Nat} (h1 : 1 ≤ nn) (h2 : nn ≤ 1000) (x : Int) : pickN nn x < nn ∧ (IntKind.u64.wrap x).tmod (nn : Int) = (pickN nn x : Int) := by
  obtain ⟨i, hi, e⟩ := mod_lt x nn h1 h2
  unfold pickN
  rw [e, Int.toNat_natCast]
  exact ⟨hi, rfl⟩
theorem pick11_any (na : Option Addr) (nn nc : Nat) (sa : Option Addr) (sn sc : Nat) (ra : Option Addr) (rn rc : Nat) (x : Int) (w : World) (h1 : 1 ≤ nn) (h2 : nn ≤ 1000) :
    Calls Try.prog 25 #[bkV na nn nc sa sn sc ra rn rc, .int .i64 x] w fun e w' => e = .returned (.int .i64 (pickN nn x : Int)) ∧ Below w.heap.size w w' := by
  have HB := Lib.hid (tu1 w (.cells #[.slice na nn nc, .slice sa sn sc, .slice ra rn rc] 26))
  obtain ⟨hp, hmx⟩ := pickN_lt h1 h2 x
  obtain ⟨p, hpe⟩ : ∃ p, p = pickN nn x := ⟨_, rfl⟩
  rw [← hpe] at hp hmx ⊢
  clear hpe
  have hne : ((nn : Int) == 0) = false := by rw [beq_eq_false_iff_ne]; omega
  have hwn : IntKind.u64.wrap (nn : Int) = (nn : Int) := IntWalk.u64_in _ (by omega)
  have hwp : IntKind.i64.wrap (p : Int) = (p : Int) := by simp [IntKind.wrap, IntKind.bits, IntKind.signed]; omega
  go_enter Try.func25, Try.ntmps25
  go_wp2_with fail
  go_ret
  exact ⟨rfl, HB.out⟩
theorem pairU_info : (Try.prog.info? 3).isSome = true := by kernel_rfl
theorem pairU_cells : Try.prog.cellsOf 3 = 1 := by kernel_rfl
theorem run_eqU_int (d : Nat) (a b : Int) (w : World) : (Op.equalIn (d + 1) 3 (.int .i64 a) (.int .i64 b)).run Try.prog w = .ok (a == b) w :=
  run_equalIn_int w d 3 .i64 .i64 a b Try.underlying3
theorem partU_pair (x y : Int) (w : World) : (part 3 #[.int .i64 x, .int .i64 y] 0).run Try.prog w = .ok (.int .i64 x) w ∧ (part 3 #[.int .i64 x, .int .i64 y] 1).run Try.prog w = .ok (.int .i64 y) w := by
  constructor
  all_goals
    unfold part
    simp [go_sem]
theorem run_eqU_pair (a b x y : Int) (w : World) : (Op.equalIn 10000 51 (.agg #[.int .i64 a, .int .i64 b]) (.agg #[.int .i64 x, .int .i64 y])).run Try.prog w = .ok (a == x && b == y) w := by
  obtain ⟨i, hi⟩ := Option.isSome_iff_exists.1 pairU_info
  rw [run_equalIn_array w 9999 (e := 3) (n := 2) (i := i) _ _ Try.underlying51 hi, pairU_cells]
  obtain ⟨p0, p1⟩ := partU_pair a b w
  obtain ⟨q0, q1⟩ := partU_pair x y w
  have r0 := run_eqU_int 9998 a x w
  have r1 := run_eqU_int 9998 b y w
  rw [show List.range 2 = [0, 1] from rfl]
  simp only [Op.eqItems, Sem.run_bind, Nat.zero_mul, Nat.one_mul, p0, q0, Result.andThen_ok, r0]
  cases a == x
  · simp
  · cases hby : (b == y)
    · rw [hby] at r1
      simp [p1, q1, r1]
    · rw [hby] at r1
      simp [p1, q1, r1]
set_option maxHeartbeats 8000000 in
set_option maxRecDepth 20000 in
theorem first11_any (w : World) : Calls Try.prog 22 #[] w fun e w' => e = .returned (.bool true) ∧ Below w.heap.size w w' := by
  have CG := Lib.hid (given11_any w)
  have heq := fun a b p q W => run_eqU_pair a b p q W
  go_enter Try.func22, Try.ntmps22
  go_wp2_with (first
    | (go_at_call 24; (with_reducible refine CG.out.mono ?_)
       rintro e w1 ⟨⟨na, nn, nc, sa, sn, sc, ra, rn, rc, rfl, hin⟩, hb1⟩
       have HB1 := Lib.hid hb1
       have HG := Lib.hid (show BkIn (w1.alloc (.cells #[.slice na nn nc, .slice sa sn sc, .slice ra rn rc] 26)) (w1.alloc (.cells #[.slice na nn nc, .slice sa sn sc, .slice ra rn rc] 26)).heap.size na nn sa sn ra rn exBook ∧ BBox (w1.alloc (.cells #[.slice na nn nc, .slice sa sn sc, .slice ra rn rc] 26)) w1.heap.size na nn nc sa sn sc ra rn rc from ⟨hin.on (tu1 w1 _), heap_alloc_new w1 _⟩)
       have HBa := Lib.hid (below_on hb1 (tu1 w1 (.cells #[.slice na nn nc, .slice sa sn sc, .slice ra rn rc] 26)))
       obtain ⟨b0, b1, b2⟩ := HG.out.2.cells
       have CP := Lib.hid (pairs_any na nn nc sa sn sc ra rn rc exBook 0 1 (w1.alloc (.cells #[.slice na nn nc, .slice sa sn sc, .slice ra rn rc] 26)) _ (Nat.le_refl _) HG.out.1)
       rw [ex_01] at CP
       clear hin hb1)
    | (go_at_call 27; (with_reducible refine CP.out.mono ?_)
       rintro e w2 ⟨⟨pa, pn, pc, he, _, _, hal⟩, hb2⟩
       have hps := hal _ rfl
       have hpn : pn = 2 := hps.1.symm
       subst hpn
       have he : e = .returned (.tuple #[.slice pa 2 pc, .bool true]) := he
       subst he
       have HPS := Lib.hid hps
       have HG2 := Lib.hid (And.intro (HG.out.1.on hb2) (HG.out.2.on hb2 HG.out.2.lt))
       have HB2 := Lib.hid (below_on HBa.out hb2)
       obtain ⟨c0, c1, c2⟩ := HG2.out.2.cells
       have CI := Lib.hid (fun x y => is_any na nn nc sa sn sc ra rn rc exBook x y w2 _ (Nat.le_refl _) HG2.out.1)
       have C1 := Lib.hid (CI.out 0 1)
       rw [show isQ exBook (0, 1) = true from by unfold isQ; rw [ex_01]; rfl] at C1
       clear hal hps hb2 CI)
    | (go_at_call 26; (with_reducible refine C1.out.mono ?_)
       rintro e w3 ⟨rfl, hb3⟩
       have HG3 := Lib.hid (And.intro (HG2.out.1.on hb3) (HG2.out.2.on hb3 HG2.out.2.lt))
       have HB3 := Lib.hid (below_on HB2.out hb3)
       have HP3 := Lib.hid (HPS.out.on hb3)
       obtain ⟨d0, d1, d2⟩ := HG3.out.2.cells
       have C2 := Lib.hid (is_any na nn nc sa sn sc ra rn rc exBook 1 0 w3 _ (Nat.le_refl _) HG3.out.1)
       rw [ex_10] at C2
       clear hb3)
    | (go_at_call 26; (with_reducible refine C2.out.mono ?_)
       rintro e w4 ⟨rfl, hb4⟩
       have HG4 := Lib.hid (And.intro (HG3.out.1.on hb4) (HG3.out.2.on hb4 HG3.out.2.lt))
       have HB4 := Lib.hid (below_on HB3.out hb4)
       have HP4 := Lib.hid (HP3.out.on hb4)
       obtain ⟨e0, e1, e2⟩ := HG4.out.2.cells
       have C3 := Lib.hid (is_any na nn nc sa sn sc ra rn rc exBook 2 3 w4 _ (Nat.le_refl _) HG4.out.1)
       rw [ex_23] at C3
       clear hb4)
    | (go_at_call 26; (with_reducible refine C3.out.mono ?_)
       rintro e w5 ⟨rfl, hb5⟩
       have HG5 := Lib.hid (And.intro (HG4.out.1.on hb5) (HG4.out.2.on hb5 HG4.out.2.lt))
       have HB5 := Lib.hid (below_on HB4.out hb5)
       have HP5 := Lib.hid (HP4.out.on hb5)
       obtain ⟨f0, f1, f2⟩ := HG5.out.2.cells
       have C4 := Lib.hid (is_any na nn nc sa sn sc ra rn rc exBook 3 2 w5 _ (Nat.le_refl _) HG5.out.1)
       rw [ex_32] at C4
       clear hb5)
    | (go_at_call 26; (with_reducible refine C4.out.mono ?_)
       rintro e w6 ⟨rfl, hb6⟩
       have HG6 := Lib.hid (And.intro (HG5.out.1.on hb6) (HG5.out.2.on hb6 HG5.out.2.lt))
       have HB6 := Lib.hid (below_on HB5.out hb6)
       have HP6 := Lib.hid (HP5.out.on hb6)
       obtain ⟨g0, g1, g2⟩ := HG6.out.2.cells
       obtain ⟨pb, po, hpa, _, hcl⟩ := HP6.out.2.2 (by omega)
       subst hpa
       have k0 : w6.cell? ⟨pb, po, none⟩ = some (.int .i64 0) := (hcl 0 (0, 1) rfl).1
       have k1 : w6.cell? ⟨pb, po + 1, none⟩ = some (.int .i64 1) := (hcl 0 (0, 1) rfl).2
       have k2 : w6.cell? ⟨pb, po + 2, none⟩ = some (.int .i64 4) := (hcl 1 (4, 4) rfl).1
       have k3 : w6.cell? ⟨pb, po + 3, none⟩ = some (.int .i64 4) := (hcl 1 (4, 4) rfl).2
       have C5 := Lib.hid (holds_any na nn nc sa sn sc ra rn rc exBook (some ⟨pb, po, none⟩) 2 pc _ w6 _ (Nat.le_refl _) HG6.out.1 HP6.out (by omega))
       rw [ex_hold] at C5
       clear hb6 hcl)
    | (go_at_call 28; (with_reducible refine C5.out.mono ?_)
       rintro e w7 ⟨rfl, hb7⟩
       have HB7 := Lib.hid (below_on HB6.out hb7)
       clear hb7)
    | fail)
  go_ret
  exact ⟨rfl, HB7.out⟩
set_option maxHeartbeats 8000000 in
theorem made11_pos (na : Option Addr) (nn nc : Nat) (sa : Option Addr) (sn sc : Nat) (ra : Option Addr) (rn rc : Nat) (a : Option Addr) (n c : Nat) (l : List Int) (w : World) (bound : Nat) (hb : bound ≤ w.heap.size) (h : Nums w bound a n l) (h0 : 0 < n) (hlim : n * 8 ≤ 140737488355328) :
    Calls Try.prog 23 #[bkV na nn nc sa sn sc ra rn rc, .slice a n c] w fun e w' => BkMade e w' ∧ Below w.heap.size w w' := by
  obtain ⟨W1, hW1⟩ : ∃ W1, W1 = (w.alloc (.cells #[.slice na nn nc, .slice sa sn sc, .slice ra rn rc] 26)).alloc (.cells #[.slice none 0 0, .slice none 0 0, .slice none 0 0] 26) := ⟨_, rfl⟩
  have HB1 := Lib.hid (show Below w.heap.size w W1 by rw [hW1]; exact below_on (tu1 w _) (tu1 _ _))
  have HZ1 := Lib.hid (show W1.heap.size = w.heap.size + 1 + 1 by rw [hW1]; simp)
  have HY1 := Lib.hid (show BBox W1 (w.heap.size + 1) none 0 0 none 0 0 none 0 0 by
    have := heap_alloc_new (w.alloc (.cells #[.slice na nn nc, .slice sa sn sc, .slice ra rn rc] 26)) (.cells #[.slice none 0 0, .slice none 0 0, .slice none 0 0] 26)
    rw [World.size_alloc] at this
    rw [hW1]
    exact this)
  have CN := Lib.hid (new10_any a n c l W1 bound (h.below (HB1.out.mono hb)) hlim)
  have CB := Lib.hid book10_any
  have hn1 := h.2.1
  have d1 : decide (0 < (n : Int)) = true := decide_eq_true (by omega)
  have d2 : decide (0 < n) = true := decide_eq_true h0
  clear h
  subst hW1
  go_enter Try.func23, Try.ntmps23
  go_wp2_with (first
    | (go_at_call 30; (with_reducible refine CN.out.mono ?_)
       rintro e w2 ⟨g, rfl, hd2, hg2, hb2⟩
       have HD2 := Lib.hid hd2
       have HB2 := Lib.hid (HB1.out.trans (hb2.mono (by have := HZ1.out; omega)))
       have HY2 := Lib.hid (HY1.out.stay (hb2.block _ (by have := HZ1.out; omega)))
       have hgz : w.heap.size + 1 < g := by have := HZ1.out; omega
       clear hd2 hg2 hb2)
    | (go_at_call 29; (with_reducible refine (CB.out _ _ HD2.out).mono ?_)
       rintro e w3 ⟨⟨ma, mn, mc, ta, tc, ua, uc, b, rfl, hin, hok, h1, h8⟩, hb3⟩
       have HIN := Lib.hid hin
       have HOK := Lib.hid hok
       have HM := Lib.hid (And.intro h1 h8)
       have HY3 := Lib.hid (HY2.out.stay (hb3.block _ HY2.out.lt (by omega)))
       have HB3 := Lib.hid (HB2.out.trans (hb3.below (B := w.heap.size) (by omega) HB2.out.size))
       obtain ⟨y0, y1, y2⟩ := HY3.out.cells
       have f0 := HY3.out.thaw 0
       have f1 := HY3.out.thaw 1
       have f2 := HY3.out.thaw 2
       clear hin hok hb3 h1 h8)
    | fail)
  refine bodyPost_ret (v := bkV ma mn mc ta 2 tc ua 2 uc) (by simp [results, go_sem, y0, y1, y2]) rfl ?_
  have hset : ∀ (x y z : Value), Beside (w.heap.size + 1) w3 (((w3.setCell ⟨w.heap.size + 1, 0, none⟩ x).setCell ⟨w.heap.size + 1, 1, none⟩ y).setCell ⟨w.heap.size + 1, 2, none⟩ z) := fun x y z => (((Beside.refl _ w3).setCell 0 x).setCell 1 y).setCell 2 z
  exact ⟨⟨ma, mn, mc, ta, tc, ua, uc, b, rfl, HIN.out.aside (hset _ _ _) (Nat.le_refl _) HY3.out.slices, HOK.out, HM.out.1, HM.out.2⟩, HB3.out.trans ((hset _ _ _).below (by omega) (by have := HB3.out.size; omega))⟩
end Go.Proofs.Ytpjocacepafneaa
