/- Plain: classes of nodes by texts, made finer until nothing changes. No program stands in this text. -/
import Derived.Test.YtgefhgcpnfbigaaBkPlain
namespace Go.Proofs.Ytgefhgcpnfbigaa
open Go.RowKit

def seenS (x : NodeL) : Str := UInt8.ofNat x.kind.toNat :: (x.peer ++ x.arms.flatMap fun e => UInt8.ofNat e.sk.toNat :: e.label)
def clsS (c : Nat) : Str := [UInt8.ofNat (c / 256), UInt8.ofNat (c % 256)]
def onwS (cl : List Nat) (i : Nat) (x : NodeL) : Str := clsS (cl.getD i 0) ++ x.arms.flatMap fun e => clsS (cl.getD e.at_.toNat 0) ++ clsS (cl.getD e.next.toNat 0)
def noneN : NodeL := ⟨0, [], []⟩
theorem getN {ns : List NodeL} {i : Nat} {a : NodeL} (h : ns[i]? = some a) : ns.getD i noneN = a := by rw [List.getD_eq_getElem?_getD, h]; rfl
theorem hasN {ns : List NodeL} {i : Nat} (h : i < ns.length) : ns[i]? = some (ns.getD i noneN) := by rw [List.getD_eq_getElem?_getD, List.getElem?_eq_getElem h]; rfl
/-- Of each of so many nodes the least one with the same text. -/
def Grp (key : Nat → Str) (n : Nat) (cl : List Nat) : Prop := cl.length = n ∧ ∀ i, i < n → cl.getD i 0 ≤ i ∧ key (cl.getD i 0) = key i ∧ ∀ k, k < cl.getD i 0 → key k ≠ key i
section
variable {key : Nat → Str} {n : Nat} {cl : List Nat}
theorem Grp.iff (h : Grp key n cl) {i j : Nat} (hi : i < n) (hj : j < n) : cl.getD i 0 = cl.getD j 0 ↔ key i = key j := by
  obtain ⟨i1, i2, i3⟩ := h.2 i hi
  obtain ⟨j1, j2, j3⟩ := h.2 j hj
  constructor
  · intro e; rw [← i2, ← j2, e]
  · intro e
    rcases Nat.lt_trichotomy (cl.getD i 0) (cl.getD j 0) with h1 | h1 | h1
    · exact absurd (i2.trans e) (j3 _ h1)
    · exact h1
    · exact absurd (j2.trans e.symm) (i3 _ h1)
theorem Grp.idem (h : Grp key n cl) {i : Nat} (hi : i < n) : cl.getD (cl.getD i 0) 0 = cl.getD i 0 := by
  obtain ⟨i1, i2, i3⟩ := h.2 i hi
  exact (h.iff (by omega) hi).2 i2
end
theorem okB_split : ∀ (p q r s : Str), (∀ c ∈ p, okB c = true) → (∀ c ∈ q, okB c = true) → (∀ c ∈ r.head?, okB c = false) → (∀ c ∈ s.head?, okB c = false) → p ++ r = q ++ s → p = q ∧ r = s
  | [], [], r, s, _, _, _, _, h => ⟨rfl, h⟩
  | [], c :: q, r, s, _, h2, h3, _, h => by
    rw [List.nil_append] at h
    subst h
    have := h3 c (by simp)
    rw [h2 c (by simp)] at this
    cases this
  | c :: p, [], r, s, h1, _, _, h4, h => by
    rw [List.nil_append] at h
    subst h
    have := h4 c (by simp)
    rw [h1 c (by simp)] at this
    cases this
  | c :: p, d :: q, r, s, h1, h2, h3, h4, h => by
    rw [List.cons_append, List.cons_append] at h
    injection h with e1 e2
    obtain ⟨e3, e4⟩ := okB_split p q r s (fun x hx => h1 x (by simp [hx])) (fun x hx => h2 x (by simp [hx])) h3 h4 e2
    exact ⟨by rw [e1, e3], e4⟩
theorem low_ok {k : Int} (h0 : 0 ≤ k) (h5 : k ≤ 5) : okB (UInt8.ofNat k.toNat) = false := by
  have : k = 0 ∨ k = 1 ∨ k = 2 ∨ k = 3 ∨ k = 4 ∨ k = 5 := by omega
  rcases this with rfl | rfl | rfl | rfl | rfl | rfl <;> rfl
theorem low_inj {k m : Int} (h0 : 0 ≤ k) (h5 : k ≤ 5) (g0 : 0 ≤ m) (g5 : m ≤ 5) (h : UInt8.ofNat k.toNat = UInt8.ofNat m.toNat) : k = m := by
  have := congrArg UInt8.toNat h
  rw [UInt8.toNat_ofNat', UInt8.toNat_ofNat', Nat.mod_eq_of_lt (by omega), Nat.mod_eq_of_lt (by omega)] at this
  omega
theorem may_ok {s : Str} (h : may s = true) : ∀ c ∈ s, okB c = true := by
  unfold may at h
  simp only [Bool.and_eq_true, List.all_eq_true] at h
  exact h.1.2
theorem arms_inj : ∀ (l m : List EdgeL), (∀ e ∈ l, may e.label = true ∧ 0 ≤ e.sk ∧ e.sk ≤ 5) → (∀ e ∈ m, may e.label = true ∧ 0 ≤ e.sk ∧ e.sk ≤ 5) →
    (l.flatMap fun e => UInt8.ofNat e.sk.toNat :: e.label) = (m.flatMap fun e => UInt8.ofNat e.sk.toNat :: e.label) → l.map (fun e => (e.label, e.sk)) = m.map (fun e => (e.label, e.sk))
  | [], [], _, _, _ => rfl
  | [], f :: m, _, _, h => by simp at h
  | e :: l, [], _, _, h => by simp at h
  | e :: l, f :: m, hl, hm, h => by
    rw [List.flatMap_cons, List.flatMap_cons, List.cons_append, List.cons_append] at h
    injection h with e1 e2
    have hhead : ∀ m : List EdgeL, (∀ e ∈ m, may e.label = true ∧ 0 ≤ e.sk ∧ e.sk ≤ 5) → ∀ c ∈ (m.flatMap fun e => UInt8.ofNat e.sk.toNat :: e.label).head?, okB c = false := fun m hm c hc => by
      cases m with
      | nil => simp at hc
      | cons g m =>
        rw [List.flatMap_cons, List.cons_append] at hc
        simp only [List.head?_cons, Option.mem_def, Option.some.injEq] at hc
        subst hc
        exact low_ok (hm g (by simp)).2.1 (hm g (by simp)).2.2
    obtain ⟨e3, e4⟩ := okB_split _ _ _ _ (may_ok (hl e (by simp)).1) (may_ok (hm f (by simp)).1) (hhead l fun x hx => hl x (by simp [hx])) (hhead m fun x hx => hm x (by simp [hx])) e2
    have e5 := low_inj (hl e (by simp)).2.1 (hl e (by simp)).2.2 (hm f (by simp)).2.1 (hm f (by simp)).2.2 e1
    rw [List.map_cons, List.map_cons, arms_inj l m (fun x hx => hl x (by simp [hx])) (fun x hx => hm x (by simp [hx])) e4, e3, e5]
theorem seen_alike {x y : NodeL} (h : Alike x y) : seenS x = seenS y := by
  have e : ∀ z : NodeL, (z.arms.flatMap fun e => UInt8.ofNat e.sk.toNat :: e.label) = (z.arms.map (fun e => (e.label, e.sk))).flatMap fun p => UInt8.ofNat p.2.toNat :: p.1 := fun z => by rw [List.flatMap_map]
  unfold seenS
  rw [e, e, h.1, h.2.1, h.2.2]
theorem nodeB_kind {n : Nat} {t : NodeL} (h : nodeB n t = true) : (0 ≤ t.kind ∧ t.kind ≤ 5) ∧ ∀ c ∈ t.peer, okB c = true := by
  unfold nodeB at h
  split at h
  · rename_i h0
    simp only [Bool.and_eq_true, List.isEmpty_iff] at h
    rw [h.1]
    exact ⟨by omega, by simp⟩
  · split at h
    · rename_i _ h1
      rw [Bool.and_eq_true] at h
      exact ⟨by omega, may_ok h.1⟩
    · cases h
theorem seen_inj {ns : List NodeL} (hn : NodesOk ns) {i j : Nat} {x y : NodeL} (hx : ns[i]? = some x) (hy : ns[j]? = some y) (h : seenS x = seenS y) : Alike x y := by
  have kx := nodeB_kind (hn.2 i x hx)
  have ky := nodeB_kind (hn.2 j y hy)
  have ex : ∀ e ∈ x.arms, may e.label = true ∧ 0 ≤ e.sk ∧ e.sk ≤ 5 := fun e he => ⟨(hn.edge hx he).1, (hn.edge hx he).2.1⟩
  have ey : ∀ e ∈ y.arms, may e.label = true ∧ 0 ≤ e.sk ∧ e.sk ≤ 5 := fun e he => ⟨(hn.edge hy he).1, (hn.edge hy he).2.1⟩
  unfold seenS at h
  injection h with e1 e2
  have hhead : ∀ m : List EdgeL, (∀ e ∈ m, may e.label = true ∧ 0 ≤ e.sk ∧ e.sk ≤ 5) → ∀ c ∈ (m.flatMap fun e => UInt8.ofNat e.sk.toNat :: e.label).head?, okB c = false := fun m hm c hc => by
    cases m with
    | nil => simp at hc
    | cons g m =>
      rw [List.flatMap_cons, List.cons_append] at hc
      simp only [List.head?_cons, Option.mem_def, Option.some.injEq] at hc
      subst hc
      exact low_ok (hm g (by simp)).2.1 (hm g (by simp)).2.2
  obtain ⟨e3, e4⟩ := okB_split _ _ _ _ kx.2 ky.2 (hhead _ ex) (hhead _ ey) e2
  exact ⟨low_inj kx.1.1 kx.1.2 ky.1.1 ky.1.2 e1, e3, arms_inj _ _ ex ey e4⟩
theorem clsS_inj {c d : Nat} (hc : c < 65536) (hd : d < 65536) (h : clsS c = clsS d) : c = d := by
  unfold clsS at h
  injection h with h1 h2
  injection h2 with h2 _
  have e1 := congrArg UInt8.toNat h1
  have e2 := congrArg UInt8.toNat h2
  rw [UInt8.toNat_ofNat', UInt8.toNat_ofNat'] at e1 e2
  omega
theorem onw_arms (f : Nat → Nat) (hf : ∀ k, f k < 65536) : ∀ (l m : List EdgeL), l.length = m.length →
    (l.flatMap fun e => clsS (f e.at_.toNat) ++ clsS (f e.next.toNat)) = (m.flatMap fun e => clsS (f e.at_.toNat) ++ clsS (f e.next.toNat)) →
    ∀ (j : Nat) (e g : EdgeL), l[j]? = some e → m[j]? = some g → f e.at_.toNat = f g.at_.toNat ∧ f e.next.toNat = f g.next.toNat
  | [], _, _, _, j, e, g, h, _ => by simp at h
  | e :: l, [], h, _, _, _, _, _, _ => by simp at h
  | e :: l, g :: m, hlen, h, j, e', g', he, hg => by
    rw [List.flatMap_cons, List.flatMap_cons, List.append_assoc, List.append_assoc] at h
    obtain ⟨h1, h2⟩ := List.append_inj h rfl
    obtain ⟨h3, h4⟩ := List.append_inj h2 rfl
    cases j with
    | zero =>
      obtain rfl := Option.some.inj he
      obtain rfl := Option.some.inj hg
      exact ⟨clsS_inj (hf _) (hf _) h1, clsS_inj (hf _) (hf _) h3⟩
    | succ j => exact onw_arms f hf l m (by simpa using hlen) h4 j e' g' he hg
theorem onw_arms_of (f : Nat → Nat) : ∀ (l m : List EdgeL), l.length = m.length →
    (∀ (j : Nat) (e g : EdgeL), l[j]? = some e → m[j]? = some g → f e.at_.toNat = f g.at_.toNat ∧ f e.next.toNat = f g.next.toNat) →
    (l.flatMap fun e => clsS (f e.at_.toNat) ++ clsS (f e.next.toNat)) = (m.flatMap fun e => clsS (f e.at_.toNat) ++ clsS (f e.next.toNat))
  | [], [], _, _ => rfl
  | [], g :: m, h, _ => by simp at h
  | e :: l, [], h, _ => by simp at h
  | e :: l, g :: m, hlen, h => by
    have h0 := h 0 e g rfl rfl
    rw [List.flatMap_cons, List.flatMap_cons, onw_arms_of f l m (by simpa using hlen) (fun j x y hx hy => h (j + 1) x y hx hy), h0.1, h0.2]
/-- What the classes of a round are. -/
def Inv (ns : List NodeL) (cl : List Nat) : Prop := cl.length = ns.length ∧ (∀ i, i < ns.length → cl.getD i 0 ≤ i ∧ cl.getD (cl.getD i 0) 0 = cl.getD i 0) ∧
  (∀ (i j : Nat) (a b : NodeL), ns[i]? = some a → ns[j]? = some b → cl.getD i 0 = cl.getD j 0 → Alike a b) ∧ ∀ i j, Eqv ns i j → cl.getD i 0 = cl.getD j 0
def seenAt (ns : List NodeL) (i : Nat) : Str := seenS (ns.getD i noneN)
def onwAt (ns : List NodeL) (cl : List Nat) (i : Nat) : Str := onwS cl i (ns.getD i noneN)
theorem Inv.start {ns : List NodeL} {cl : List Nat} (hn : NodesOk ns) (h : Grp (seenAt ns) ns.length cl) : Inv ns cl := by
  refine ⟨h.1, fun i hi => ⟨(h.2 i hi).1, h.idem hi⟩, fun i j a b ha hb e => ?_, fun i j e => ?_⟩
  · have h1 := (h.iff (List.getElem?_eq_some_iff.1 ha).1 (List.getElem?_eq_some_iff.1 hb).1).1 e
    unfold seenAt at h1
    rw [getN ha, getN hb] at h1
    exact seen_inj hn ha hb h1
  · obtain ⟨a, b, ha, hb, hab, _⟩ := eqv_bis ns i j e
    refine (h.iff e.lt.1 e.lt.2).2 ?_
    unfold seenAt
    rw [getN ha, getN hb]
    exact seen_alike hab
theorem Inv.small {ns : List NodeL} {cl : List Nat} (hn : NodesOk ns) (h : Inv ns cl) (k : Nat) : cl.getD k 0 < 65536 := by
  rcases Nat.lt_or_ge k ns.length with hk | hk
  · have := (h.2.1 k hk).1
    have := hn.1
    omega
  · rw [List.getD_eq_getElem?_getD, List.getElem?_eq_none (by rw [h.1]; exact hk)]
    exact Nat.zero_lt_succ _
theorem Inv.next {ns : List NodeL} {cl fi : List Nat} (hn : NodesOk ns) (h : Inv ns cl) (hg : Grp (onwAt ns cl) ns.length fi) : Inv ns fi ∧ (∀ i, i < ns.length → cl.getD i 0 ≤ fi.getD i 0) ∧ (fi = cl → IsCl ns cl) := by
  have hkey : ∀ (i j : Nat) (a b : NodeL), ns[i]? = some a → ns[j]? = some b → onwAt ns cl i = onwAt ns cl j → cl.getD i 0 = cl.getD j 0 ∧ Alike a b ∧
      ∀ (t : Nat) (e g : EdgeL), a.arms[t]? = some e → b.arms[t]? = some g → cl.getD e.at_.toNat 0 = cl.getD g.at_.toNat 0 ∧ cl.getD e.next.toNat 0 = cl.getD g.next.toNat 0 := fun i j a b ha hb e => by
    unfold onwAt onwS at e
    rw [getN ha, getN hb] at e
    obtain ⟨e1, e2⟩ := List.append_inj e rfl
    have e3 := clsS_inj (h.small hn _) (h.small hn _) e1
    have hab := h.2.2.1 i j a b ha hb e3
    exact ⟨e3, hab, onw_arms (fun k => cl.getD k 0) (h.small hn) _ _ hab.len e2⟩
  refine ⟨⟨hg.1, fun i hi => ⟨(hg.2 i hi).1, hg.idem hi⟩, fun i j a b ha hb e => ?_, fun i j e => ?_⟩, fun i hi => ?_, fun e => ?_⟩
  · exact (hkey i j a b ha hb ((hg.iff (List.getElem?_eq_some_iff.1 ha).1 (List.getElem?_eq_some_iff.1 hb).1).1 e)).2.1
  · obtain ⟨a, b, ha, hb, hab, ho⟩ := eqv_bis ns i j e
    refine (hg.iff e.lt.1 e.lt.2).2 ?_
    unfold onwAt onwS
    rw [getN ha, getN hb, h.2.2.2 i j e]
    congr 1
    refine onw_arms_of (fun k => cl.getD k 0) _ _ hab.len fun t x y hx hy => ?_
    obtain ⟨o1, o2⟩ := ho t x y hx hy
    refine ⟨?_, h.2.2.2 _ _ o1⟩
    by_cases h5 : x.sk = 5
    · exact h.2.2.2 _ _ (o2 h5)
    · obtain ⟨y', hy', _, hs⟩ := hab.at_ hx
      obtain rfl : y = y' := Option.some.inj (hy.symm.trans hy')
      have z : ∀ (i : Nat) (a : NodeL) (x : EdgeL), ns[i]? = some a → x ∈ a.arms → x.sk ≠ 5 → x.at_ = 0 := fun i a x ha hx h5 => by
        have hb := nodeB_edge (hn.2 i a ha) hx
        unfold edgeB sortB at hb
        rw [if_neg h5] at hb
        simp only [Bool.and_eq_true, decide_eq_true_eq] at hb
        exact hb.1.2.2
      rw [z i a x ha (List.mem_of_getElem? hx) h5, z j b y hb (List.mem_of_getElem? hy) (by rw [hs]; exact h5)]
  · obtain ⟨g1, g2, _⟩ := hg.2 i hi
    have hi' := hasN hi
    have hf' := hasN (ns := ns) (i := fi.getD i 0) (by omega)
    have := (hkey _ _ _ _ hf' hi' g2).1
    rw [← this]
    exact (h.2.1 _ (by omega)).1
  · subst e
    have hE : ∀ i j, i < ns.length → j < ns.length → fi.getD i 0 = fi.getD j 0 → Eqv ns i j := fun i j hi hj e => by
      refine ⟨fun i j => i < ns.length ∧ j < ns.length ∧ fi.getD i 0 = fi.getD j 0, ?_, hi, hj, e⟩
      rintro i j ⟨hi, hj, e⟩
      have ha := hasN hi
      have hb := hasN hj
      obtain ⟨_, hab, hk⟩ := hkey i j _ _ ha hb ((hg.iff hi hj).1 e)
      refine ⟨_, _, ha, hb, hab, fun t x y hx hy => ?_⟩
      have c1 := hn.closed i _ ha x (List.mem_of_getElem? hx)
      have c2 := hn.closed j _ hb y (List.mem_of_getElem? hy)
      exact ⟨⟨c1.1, c2.1, (hk t x y hx hy).2⟩, fun _ => ⟨c1.2, c2.2, (hk t x y hx hy).1⟩⟩
    refine ⟨h.1, fun i hi => ⟨hE _ _ (by have := (h.2.1 i hi).1; omega) hi (h.2.1 i hi).2, fun k e => ?_⟩⟩
    rw [← h.2.2.2 k i e]
    exact (h.2.1 k e.lt.1).1
theorem sum_more : ∀ (a b : List Nat), a.length = b.length → (∀ i, i < a.length → a.getD i 0 ≤ b.getD i 0) → a ≠ b → a.sum < b.sum
  | [], [], _, _, h => absurd rfl h
  | [], y :: b, h, _, _ => by simp at h
  | x :: a, [], h, _, _ => by simp at h
  | x :: a, y :: b, hl, h, hne => by
    have h0 : x ≤ y := h 0 (by simp)
    have ht : ∀ i, i < a.length → a.getD i 0 ≤ b.getD i 0 := fun i hi => h (i + 1) (by simpa using hi)
    rw [List.sum_cons, List.sum_cons]
    by_cases he : a = b
    · subst he
      have : x ≠ y := fun e => hne (by rw [e])
      omega
    · have := sum_more a b (by simpa using hl) ht he
      omega
theorem sum_le : ∀ (a : List Nat) (m : Nat), (∀ x ∈ a, x ≤ m) → a.sum ≤ a.length * m
  | [], _, _ => by simp
  | x :: a, m, h => by
    have := sum_le a m fun y hy => h y (by simp [hy])
    have h0 := h x (by simp)
    rw [List.sum_cons, List.length_cons, Nat.add_mul]
    omega
theorem Inv.sum {ns : List NodeL} {cl : List Nat} (hn : NodesOk ns) (h : Inv ns cl) : cl.sum ≤ 160000 := by
  have h1 := sum_le cl 400 fun x hx => by
    obtain ⟨i, hi, rfl⟩ := List.mem_iff_getElem.1 hx
    have := (h.2.1 i (by rw [← h.1]; exact hi)).1
    rw [List.getD_eq_getElem?_getD, List.getElem?_eq_getElem hi] at this
    have h2 : cl[i] ≤ i := this
    have := hn.1
    have := h.1
    omega
  have := hn.1
  have := h.1
  have : cl.length * 400 ≤ 400 * 400 := Nat.mul_le_mul_right _ (by omega)
  omega
end Go.Proofs.Ytgefhgcpnfbigaa
