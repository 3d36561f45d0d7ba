/- TurnsWrong in plain words: a list with one bad turn is no type; a store into a turn that was made. -/
import Derived.Test.YtiofpeckcfdilaaGreatDoorTuMakes
import Derived.Test.YtiofpeckcfdilaaGreatDoorTuRows
import Derived.Test.YtiofpeckcfdilaaGreatDoorTuTrimO
import Derived.Test.YtiofpeckcfdilaaGreatDoorTuLawP
import Derived.Test.YtiofpeckcfdilaaGreatDoorTuOwnRW
import Derived.Deep.RegionLaw
namespace Go.Proofs.YtiofpeckcfdilaaGreatDoor
open Go.RowKit

theorem locB_turn {ts : List TurnL} {t : TurnL} (ht : t ∈ ts) (hb : turnB ts.length t = false) : locB ts = false := by
  cases h : locB ts
  · rfl
  · have := (locB_one h).2.2 t ht
    rw [hb] at this
    cases this
theorem locB_set {ts : List TurnL} {k : Nat} {t : TurnL} (hk : k < ts.length) (hb : turnB ts.length t = false) : locB (ts.set k t) = false :=
  locB_turn (List.mem_iff_getElem?.2 ⟨k, by rw [List.getElem?_set_self hk]⟩) (by rw [List.length_set]; exact hb)
theorem turnB_kind (n : Nat) (k : Int) (p : Str) (l : List ArmL) (hk : 3 ≤ k) : turnB n ⟨k, p, l⟩ = false := by
  unfold turnB
  rw [if_neg (show ¬ k = 0 by omega), if_neg (show ¬ (k = 1 ∨ k = 2) by omega)]
theorem turnB_peer (n : Nat) (k : Int) (l : List ArmL) : turnB n ⟨k, [101, 110, 100], l⟩ = false := by
  unfold turnB
  have hm : may [101, 110, 100] = false := by decide
  split
  · rfl
  · split
    · rw [hm]; rfl
    · rfl
theorem turnB_arm {n : Nat} {k : Int} {p : Str} {l : List ArmL} (hl : l ≠ []) (hb : armsB n l = false) : turnB n ⟨k, p, l⟩ = false := by
  unfold turnB
  have he : l.isEmpty = false := by cases l with | nil => exact absurd rfl hl | cons _ _ => rfl
  dsimp only
  split
  · rw [he, Bool.and_false]
  · split
    · rw [hb, Bool.and_false]
    · rfl
theorem armsB_tail {n : Nat} {l m : List ArmL} {a : ArmL} (ha : a ∈ m) (hb : armB n a = false) : armsB n (l ++ m) = false := by
  cases h : armsB n (l ++ m)
  · rfl
  · have := (armsB_all h).1 a (List.mem_append_right _ ha)
    rw [hb] at this
    cases this
theorem turnB_more {n : Nat} {k : Int} {p : Str} {l : List ArmL} {a : ArmL} (hb : armB n a = false) : turnB n ⟨k, p, l ++ [a]⟩ = false :=
  turnB_arm (by simp) (armsB_tail (List.mem_singleton.2 rfl) hb)
theorem turnB_two {n : Nat} {k : Int} {p : Str} {l : List ArmL} {a : ArmL} : turnB n ⟨k, p, l ++ [a, a]⟩ = false := by
  refine turnB_arm (by simp) ?_
  cases h : armsB n (l ++ [a, a])
  · rfl
  · have := (armsB_all h).2.1
    rw [List.map_append, List.nodup_append] at this
    have h2 := this.2.1
    simp at h2
theorem armB_far (n : Nat) : armB n ⟨[119], 0, [], (n : Int)⟩ = false := by
  unfold armB
  rw [decide_eq_false (show ¬ (n : Int) < (n : Int) by omega), Bool.and_false]
theorem armB_open (n : Nat) : armB n ⟨[119], 5, [], 0⟩ = false := by
  unfold armB
  rw [show carriesB 5 [] = false by decide]
  simp
theorem armB_named (n : Nat) : armB n ⟨[118], 1, [116], 0⟩ = false := by
  unfold armB
  rw [show carriesB 1 [116] = false by decide]
  simp
theorem armB_big (n : Nat) : armB n ⟨[86], 0, [], 0⟩ = false := by
  unfold armB
  rw [show may [86] = false by decide]
  simp
theorem locB_zeros : locB (List.replicate 41 ⟨0, [], []⟩) = false := by
  unfold locB
  rw [List.length_replicate, decide_eq_false (show ¬ 41 ≤ 40 by omega), Bool.and_false, Bool.false_and]

/-- A store into one cell of a turn that was made; u is what the cell then holds. -/
theorem TOwn.stored {w : World} {base g n c : Nat} {f : List TurnL} (h : TOwn w base (.slice (some ⟨g, 0, none⟩) n c) f) (hn : f.length = n) {k i : Nat} {t : TurnL} (hk : f[k]? = some t) (hi : i < 3) (u : Value) (t' : TurnL)
    (hu : ∀ r : TR, TurnAt w base (.slice (some ⟨g, 0, none⟩) n c) r t → ∃ r' : TR, encTR r' = (encTR r).set i u ∧ TurnAt w base (.slice (some ⟨g, 0, none⟩) n c) r' t') :
    TOwn (w.setCell ⟨g, k * 3 + i, none⟩ u) base (.slice (some ⟨g, 0, none⟩) n c) (f.set k t') ∧ w.frozen? ⟨g, k * 3 + i, none⟩ = false := by
  obtain ⟨rs, h, hl, hd⟩ := h
  subst hn
  have hkl : k < f.length := (List.getElem?_eq_some_iff.1 hk).1
  have hr := List.getElem?_eq_getElem (l := rs) (i := k) (by omega)
  obtain ⟨r', he, hr'⟩ := hu _ (hd k _ t hr hk)
  have hst := h.stored (k * 3 + i) u
  have hmove : ∀ (r : TR) (t : TurnL), TurnAt w base (.slice (some ⟨g, 0, none⟩) f.length c) r t → TurnAt (w.setCell ⟨g, k * 3 + i, none⟩ u) base (.slice (some ⟨g, 0, none⟩) f.length c) r t := fun r t ⟨e1, e2, e3, e4, e5⟩ => by
    have hz : (w.setCell ⟨g, k * 3 + i, none⟩ u).heap.size = w.heap.size := by simp
    refine ⟨e1, e2, e3, e4.stay (by rw [hz]; exact Nat.le_refl _) (fun b off e => heap_setCell_ne (fun e2 => (e5 b off e).2.2 (by rw [e2]; rfl))), fun b off e => ⟨(e5 b off e).1, by rw [hz]; exact (e5 b off e).2.1, (e5 b off e).2.2⟩⟩
  refine ⟨⟨rs.set k r', ?_, by simp [hl], fun j r2 t2 hj ht => ?_⟩, h.frozenAt _⟩
  · rw [flatT_set rs k _ r' i u hr hi he, List.length_set]
    exact hst.1
  · by_cases hjk : j = k
    · subst hjk
      rw [List.getElem?_set_self (by omega)] at hj ht
      obtain rfl := Option.some.inj hj
      obtain rfl := Option.some.inj ht
      exact hmove _ _ hr'
    · rw [List.getElem?_set_ne (fun e => hjk e.symm)] at hj ht
      exact hmove _ _ (hd j r2 t2 hj ht)
theorem TOwn.kinded {w : World} {base g n c : Nat} {f : List TurnL} (h : TOwn w base (.slice (some ⟨g, 0, none⟩) n c) f) (hn : f.length = n) {k : Nat} {t : TurnL} (hk : f[k]? = some t) (x : Int) :
    TOwn (w.setCell ⟨g, k * 3, none⟩ (.int .i64 x)) base (.slice (some ⟨g, 0, none⟩) n c) (f.set k ⟨x, t.peer, t.arms⟩) ∧ w.frozen? ⟨g, k * 3, none⟩ = false :=
  h.stored hn hk (i := 0) (by omega) _ _ (fun r ⟨_, e2, e3, e4, e5⟩ => ⟨⟨x, r.s, r.a, r.n, r.c⟩, rfl, rfl, e2, e3, e4, e5⟩)
theorem TOwn.peered {w : World} {base g n c : Nat} {f : List TurnL} (h : TOwn w base (.slice (some ⟨g, 0, none⟩) n c) f) (hn : f.length = n) {k : Nat} {t : TurnL} (hk : f[k]? = some t) (s : ByteArray) (hs : s.size ≤ maxLen) :
    TOwn (w.setCell ⟨g, k * 3 + 1, none⟩ (.string s)) base (.slice (some ⟨g, 0, none⟩) n c) (f.set k ⟨t.kind, s.toList, t.arms⟩) ∧ w.frozen? ⟨g, k * 3 + 1, none⟩ = false :=
  h.stored hn hk (i := 1) (by omega) _ _ (fun r ⟨e1, _, _, e4, e5⟩ => ⟨⟨r.k, s, r.a, r.n, r.c⟩, rfl, e1, rfl, hs, e4, e5⟩)
theorem TOwn.armed {w : World} {base g n c : Nat} {f : List TurnL} (h : TOwn w base (.slice (some ⟨g, 0, none⟩) n c) f) (hn : f.length = n) {k : Nat} {t : TurnL} (hk : f[k]? = some t) {a : Option Addr} {m d : Nat} {l : List ArmL}
    (ha : Arms w w.heap.size a m l) (hs : ∀ b off, a = some ⟨b, off, none⟩ → base ≤ b ∧ b < w.heap.size ∧ g ≠ b) :
    TOwn (w.setCell ⟨g, k * 3 + 2, none⟩ (.slice a m d)) base (.slice (some ⟨g, 0, none⟩) n c) (f.set k ⟨t.kind, t.peer, l⟩) ∧ w.frozen? ⟨g, k * 3 + 2, none⟩ = false :=
  h.stored hn hk (i := 2) (by omega) _ _ (fun r ⟨e1, e2, e3, _, _⟩ => ⟨⟨r.k, r.s, a, m, d⟩, rfl, e1, e2, e3, ha, fun b off e => ⟨(hs b off e).1, (hs b off e).2.1, fun e2 => (hs b off e).2.2 (Option.some.inj e2)⟩⟩)
end Go.Proofs.YtiofpeckcfdilaaGreatDoor

/- TurnsWrong: arms appended to a made turn's arms, and stored there. -/
namespace Go.Proofs.YtiofpeckcfdilaaGreatDoor
open Go.RowKit

theorem AOwn.add2 {w : World} {base : Nat} {v : Value} {l : List ArmL} (h : AOwn w base v l) (hb : base ≤ w.heap.size) {ad : Addr} {m : Nat} (c : Nat) {l2 : List ArmL} (hr : ARow w (some ad) m l2) (hlen : l.length + m ≤ 1000000) (ty : Nat) :
    ∃ v' w', (Builtin.append_ #[49, 49] ty #[v, .slice (some ad) m c]).run Tryz.prog w = .ok v' w' ∧ AOwn w' base v' (l ++ l2) ∧ w.grownBy w' v.ownBlock ∧ (v'.ownBlock = v.ownBlock ∨ v'.ownBlock = some w.heap.size) ∧ ∀ B, B ≤ base → ∀ w0, Below B w0 w → Below B w0 w' := by
  obtain ⟨i0, hi0, hzz⟩ := Option.map_eq_some_iff.1 info_arm
  simp only [Prod.mk.injEq] at hzz
  obtain ⟨hz, hs1, hb1⟩ := hzz
  obtain ⟨bs, ho, hl, hok⟩ := h
  obtain ⟨bs2, hl2, hl2', hok2, hc⟩ := hr
  have hlen2 : l2.length = m := by rw [← hl2', List.length_map, hl2]
  have hcells : ∀ (j : Nat) (u : Value), (bs2.flatMap encAR)[j]? = some u → w.cell? (ad.add j) = some u := fun j u hu => by
    rcases Nat.eq_zero_or_pos m with h0 | h0
    · rw [List.eq_nil_of_length_eq_zero (hl2.trans h0)] at hu; cases hu
    · obtain ⟨a', e, hcc⟩ := hc h0
      obtain rfl := Option.some.inj e
      exact hcc j u hu
  obtain ⟨v', w', hrun, hown, hgr, _, hat⟩ := run_append_own_at (P := Tryz.prog) w base 49 ty 67 i0 _ 4 48 Tryz.underlying49 hi0 hz hs1 hb1 rfl (by omega) v l.length (bs.flatMap encAR) ho ad m c (bs2.flatMap encAR) (by rw [encARs_len, hl2]) hcells
    (fun u hu => encAR_cell hu) (by unfold maxLen; omega) (by omega) hb
  have hbel : ∀ B, B ≤ base → ∀ w0, Below B w0 w → Below B w0 w' := fun B hB w0 hw0 => hw0.grown hgr (by omega) (fun k hk => by
    have := ho.lt k hk
    omega)
  refine ⟨v', w', hrun, ⟨bs ++ bs2, ?_, by rw [List.map_append, hl, hl2'], fun t ht => ?_⟩, hgr, hat, hbel⟩
  · rw [List.length_append, List.flatMap_append, hlen2]
    exact hown
  · rcases List.mem_append.1 ht with ht | ht
    · exact hok t ht
    · exact hok2 t ht
/-- What was appended to the arms of the turn at k is stored there. -/
theorem MRow.armed {w : World} {base S g n c : Nat} {f : List TurnL} (h : MRow w base S (.slice (some ⟨g, 0, none⟩) n c) f) (hn : f.length = n) {k : Nat} {t : TurnL} (hk : f[k]? = some t) :
    ∃ av : Value, AOwn w base av t.arms ∧ w.cell? ⟨g, k * 3 + 2, none⟩ = some av ∧ (∀ b, av.ownBlock = some b → b < S ∧ b ≠ g) ∧ ∀ (w' : World) (aa : Option Addr) (an ac : Nat) (l' : List ArmL), w.grownBy w' av.ownBlock → AOwn w' base (.slice aa an ac) l' → l'.length ≤ 1000000 →
      ((Value.slice aa an ac).ownBlock = av.ownBlock ∨ ∃ b, (Value.slice aa an ac).ownBlock = some b ∧ w.heap.size ≤ b) →
      TOwn (w'.setCell ⟨g, k * 3 + 2, none⟩ (.slice aa an ac)) base (.slice (some ⟨g, 0, none⟩) n c) (f.set k ⟨t.kind, t.peer, l'⟩) ∧ w'.frozen? ⟨g, k * 3 + 2, none⟩ = false := by
  have hT := h.towns
  obtain ⟨rs, h1, h2, h3, h4, h5, h6⟩ := h
  subst hn
  have hkl : k < f.length := (List.getElem?_eq_some_iff.1 hk).1
  have hr := List.getElem?_eq_getElem (l := rs) (i := k) (by omega)
  obtain ⟨e1, e2, e3, e4, e5⟩ := h3 k _ t hr hk
  refine ⟨(rs[k]'(by omega)).arms, e5, ?_, fun b hb => ⟨(h4 k _ b hr hb).2, fun e => (h4 k _ b hr hb).1 (by rw [e]; rfl)⟩, fun w' aa an ac l' hg hA hl hat => ?_⟩
  · rcases h1.2 with ⟨h0, _⟩ | ⟨g2, cap, cur, hv, _, hh, _, _, _, h9⟩
    · cases h0
    · obtain ⟨q1, _, _⟩ := Value.slice.inj hv
      obtain ⟨q2, _, _⟩ := Addr.mk.inj (Option.some.inj q1)
      subst q2
      have hx := flatT_at rs k _ hr 2 (by omega)
      rw [cell_of_row _ _ _ _ _ _ hh]
      rw [← h9, List.getElem?_take] at hx
      split at hx
      · rw [← Array.getElem?_toList, hx]
        rfl
      · exact absurd hx (by simp [encTR])
  · have hgne : ∀ (j : Nat) (r : TR) (b : Nat), rs[j]? = some r → r.arms.ownBlock = some b → b ≠ g := fun j r b hj hb e => (h4 j r b hj hb).1 (by rw [e]; rfl)
    have hw1 := h1.kept hg (.inr (fun e => by
      have : (rs[k]'(by omega)).arms.ownBlock = some g := e.symm
      exact hgne k _ g hr this rfl))
    have hst := hw1.stored (k * 3 + 2) (.slice aa an ac)
    have hz : (w'.setCell ⟨g, k * 3 + 2, none⟩ (.slice aa an ac)).heap.size = w'.heap.size := by simp
    have hgl := (h1.lt g rfl).2
    refine ⟨⟨rs.set k ⟨(rs[k]'(by omega)).k, (rs[k]'(by omega)).s, aa, an, ac⟩, ?_, by simp [h2], fun j r2 t2 hj ht => ?_⟩, hw1.frozenAt _⟩
    · rw [flatT_set rs k _ _ 2 (.slice aa an ac) hr (by omega) rfl, List.length_set]
      exact hst.1
    · have fin : ∀ (r : TR) (u : TurnL), r.k = u.kind → r.s.toList = u.peer → r.s.size ≤ maxLen → u.arms.length ≤ 1000000 → AOwn w' base r.arms u.arms → (∀ b, r.arms.ownBlock = some b → b ≠ g) → TurnAt (w'.setCell ⟨g, k * 3 + 2, none⟩ (.slice aa an ac)) base (.slice (some ⟨g, 0, none⟩) f.length c) r u := fun r u a1 a2 a3 a4 a5 a6 => by
        obtain ⟨xa, xc, hv, har, _, _⟩ := a5.sees a4
        unfold TR.arms at hv
        obtain ⟨ea, en, ec⟩ := Value.slice.inj hv
        have har2 : Arms w' w'.heap.size r.a r.n u.arms := by rw [ea, en]; exact har
        have hob : ∀ b off, r.a = some ⟨b, off, none⟩ → r.arms.ownBlock = some b := fun b off e => by unfold TR.arms; rw [e]; rfl
        exact ⟨a1, a2, a3, har2.stay (by rw [hz]; exact Nat.le_refl _) (fun b off e => heap_setCell_ne (a6 b (hob b off e))), fun b off e => ⟨(a5.spots b (hob b off e)).1, by rw [hz]; exact (a5.spots b (hob b off e)).2, fun e2 => a6 b (hob b off e) (Option.some.inj e2).symm⟩⟩
      by_cases hjk : j = k
      · subst hjk
        rw [List.getElem?_set_self (by omega)] at hj ht
        obtain rfl := Option.some.inj hj
        obtain rfl := Option.some.inj ht
        refine fin _ _ e1 e2 e3 hl hA (fun b hb => ?_)
        rcases hat with e | ⟨b2, e, hb2⟩
        · exact hgne j _ b hr (e ▸ hb)
        · have : b = b2 := Option.some.inj (hb.symm.trans e)
          omega
      · rw [List.getElem?_set_ne (fun e => hjk e.symm)] at hj ht
        obtain ⟨a1, a2, a3, a4, a5⟩ := h3 j r2 t2 hj ht
        refine fin _ _ a1 a2 a3 (by omega) (a5.grown hg ?_) (fun b hb => hgne j r2 b hj hb)
        rcases hb : r2.arms.ownBlock with _ | b
        · exact .inl rfl
        · refine .inr (fun e => ?_)
          rcases Nat.lt_or_gt_of_ne hjk with hlt | hgt
          · exact h5 j k r2 _ b hlt hj hr hb e.symm
          · exact h5 k j _ r2 b hgt hr hj e.symm hb
end Go.Proofs.YtiofpeckcfdilaaGreatDoor

/- TurnsWrong: what the functions say of a list of turns that is no type. -/
namespace Go.Proofs.YtiofpeckcfdilaaGreatDoor
open Go.RowKit

theorem TOwn.row {w : World} {base : Nat} {a : Option Addr} {n c : Nat} {f : List TurnL} (h : TOwn w base (.slice a n c) f) (hl : f.length ≤ 1000000) : Turns w w.heap.size a n f ∧ f.length = n := by
  obtain ⟨a2, c2, hv, ht⟩ := h.sees hl
  obtain ⟨e1, e2, e3⟩ := Value.slice.inj hv
  subst e1 e2
  exact ⟨ht, rfl⟩
theorem TOwn.spot {w : World} {base : Nat} {a : Option Addr} {n c : Nat} {f : List TurnL} (h : TOwn w base (.slice a n c) f) (hl : 0 < f.length) : ∃ g, a = some ⟨g, 0, none⟩ ∧ base ≤ g ∧ g < w.heap.size := by
  obtain ⟨rs, h, _, _⟩ := h
  have hlt := h.lt
  rcases h.2 with ⟨_, h0⟩ | ⟨g, cap, cur, hv, hbase, _⟩
  · omega
  · obtain ⟨e1, e2, e3⟩ := Value.slice.inj hv
    subst e1
    exact ⟨g, rfl, hbase, (hlt g rfl).2⟩
/-- What the six functions say of a list of turns that is no type. -/
structure Wrong (w0 : World) (W : World) (g : Nat) (a : Option Addr) (n c : Nat) : Prop where
  box : LBox W g ⟨#[116]⟩ a n c
  row : ∃ us, Turns W W.heap.size a n us ∧ locB us = false
  bel : Below w0.heap.size w0 W
theorem Wrong.on {w0 : World} {W W' : World} {g : Nat} {a : Option Addr} {n c : Nat} (h : Wrong w0 W g a n c) (hb : Below W.heap.size W W') : Wrong w0 W' g a n c := by
  obtain ⟨us, h1, h2⟩ := h.row
  exact ⟨h.box.on hb, ⟨us, h1.on hb, h2⟩, below_on h.bel hb⟩
section
variable {w0 : World} {W : World} {g : Nat} {a : Option Addr} {n c : Nat} (h : Wrong w0 W g a n c)
include h
theorem wrong_walk : Calls Tryz.prog 21 #[.agg #[.string ⟨#[116]⟩, .slice a n c], .slice none 0 0] W fun e w' => e = .returned (.tuple #[.int .i64 0, .bool false]) ∧ Wrong w0 w' g a n c := by
  obtain ⟨us, h1, h2⟩ := h.row
  refine (ownWalk_any _ a n c us none 0 0 [] W _ (Nat.le_refl _) h1 (Strs.zero _ _ _)).mono fun e w' ⟨e1, e2⟩ => ⟨?_, h.on e2⟩
  rw [e1]
  unfold walkL
  rw [h2]
  rfl
theorem wrong_may : Calls Tryz.prog 53 #[.agg #[.string ⟨#[116]⟩, .slice a n c]] W fun e w' => e = .returned (.bool false) ∧ Wrong w0 w' g a n c := by
  obtain ⟨us, h1, h2⟩ := h.row
  refine (ownMay_any _ a n c us W _ (Nat.le_refl _) h1).mono fun e w' ⟨e1, e2⟩ => ⟨?_, h.on e2⟩
  rw [e1, h2]
theorem wrong_reach : Calls Tryz.prog 60 #[.agg #[.string ⟨#[116]⟩, .slice a n c]] W fun e w' => (∃ xa xc, e = .returned (.slice xa 0 xc)) ∧ Wrong w0 w' g a n c := by
  obtain ⟨us, h1, h2⟩ := h.row
  refine (ownReach_any _ a n c us W _ (Nat.le_refl _) h1).mono fun e w' ⟨⟨v, e1, e3⟩, e2⟩ => ⟨?_, h.on e2⟩
  obtain ⟨xa, xc, rfl, _⟩ := e3.sees
  have : (rowI (reachL us)).length = 0 := by rw [rowI_len]; unfold reachL; rw [h2]; rfl
  rw [this] at e1
  exact ⟨xa, xc, e1⟩
theorem wrong_trim : Calls Tryz.prog 32 #[.agg #[.string ⟨#[116]⟩, .slice a n c]] W fun e w' => (∃ xa xc, e = .returned (.agg #[.string ⟨#[]⟩, .slice xa 0 xc])) ∧ Wrong w0 w' g a n c := by
  obtain ⟨us, h1, h2⟩ := h.row
  refine (ownTrim_any _ a n c us W _ (Nat.le_refl _) h1).mono fun e w' ⟨⟨xa, xn, xc, e1, e3⟩, e2⟩ => ⟨?_, h.on e2⟩
  have h0 : trimL us = [] := by unfold trimL; rw [h2]; rfl
  rw [h0] at e3
  obtain rfl : 0 = xn := e3.1
  refine ⟨xa, xc, ?_⟩
  rw [e1]
  unfold trimName
  rw [h2]
  rfl
theorem wrong_peers : Calls Tryz.prog 25 #[.agg #[.string ⟨#[116]⟩, .slice a n c]] W fun e w' => (∃ xa xc, e = .returned (.slice xa 0 xc)) ∧ Wrong w0 w' g a n c := by
  obtain ⟨us, h1, h2⟩ := h.row
  refine (ownPeers_any _ a n c us W _ (Nat.le_refl _) h1).mono fun e w' ⟨⟨xa, xn, xc, e1, e3⟩, e2⟩ => ⟨?_, h.on e2⟩
  have h0 : peersT us = [] := by unfold peersT reachL; rw [h2]; rfl
  rw [h0] at e3
  obtain rfl : 0 = xn := e3.1
  exact ⟨xa, xc, e1⟩
theorem wrong_same : Calls Tryz.prog 24 #[.agg #[.string ⟨#[116]⟩, .slice a n c], .agg #[.string ⟨#[116]⟩, .slice a n c]] W fun e w' => e = .returned (.bool false) ∧ Wrong w0 w' g a n c := by
  obtain ⟨us, h1, h2⟩ := h.row
  refine (ownSame_any _ _ a a n c n c us us W _ (Nat.le_refl _) h1 h1).mono fun e w' ⟨e1, e2⟩ => ⟨?_, h.on e2⟩
  rw [e1]
  unfold sameL
  rw [h2]
  rfl
end
end Go.Proofs.YtiofpeckcfdilaaGreatDoor

/- TurnsWrong: the step at an append to a made turn's arms, and what the store behind it makes. -/
namespace Go.Proofs.YtiofpeckcfdilaaGreatDoor
open Go.RowKit

/-- Two arms, made for an append. -/
theorem ARow.two {W : World} {cs : Array Value} (t u : AR) {g : Nat} (hg : g = W.heap.size) (hc : cs = (encAR t ++ encAR u).toArray) (ht : okR t) (hu : okR u) : ARow (W.alloc (.cells cs 67)) (some ⟨g, 0, none⟩) 2 [armR t, armR u] := by
  subst hg hc
  refine ⟨[t, u], rfl, rfl, by simpa using ⟨ht, hu⟩, fun _ => ⟨_, rfl, fun j v hv => ?_⟩⟩
  rw [Go.WideShapes.add_plain, cell_of_row _ _ _ _ _ _ (heap_alloc_new W _), List.getElem?_toArray, Nat.zero_add]
  rw [show ([t, u].flatMap encAR) = encAR t ++ encAR u by simp] at hv
  exact hv
theorem MRow.short {w : World} {base S : Nat} {v : Value} {f : List TurnL} (h : MRow w base S v f) {k : Nat} {t : TurnL} (hk : f[k]? = some t) : t.arms.length ≤ 1000 := by
  obtain ⟨rs, _, h2, h3, _⟩ := h
  have hkl := (List.getElem?_eq_some_iff.1 hk).1
  exact (h3 k _ t (List.getElem?_eq_getElem (by omega)) hk).2.2.2.1
theorem MRow.top_lt {w : World} {base S : Nat} {v : Value} {f : List TurnL} (h : MRow w base S v f) : ∀ b, v.ownBlock = some b → b < S := by
  obtain ⟨rs, _, _, _, _, _, h6⟩ := h
  exact h6
/-- What is known ahead of the append. -/
structure Bad (w0 W : World) (base g4 g n c k : Nat) (ts : List TurnL) (t : TurnL) (av : Value) : Prop where
  row : MRow W base g4 (.slice (some ⟨g, 0, none⟩) n c) ts
  len : ts.length = n
  few : n ≤ 1000
  at_ : ts[k]? = some t
  cell : W.cell? ⟨g, k * 3 + 2, none⟩ = some av
  box : LBox W g4 ⟨#[116]⟩ (some ⟨g, 0, none⟩) n c
  bel : Below w0.heap.size w0 W
  low : w0.heap.size ≤ base
  pos : 0 < base
section
variable {w0 W : World} {base g4 g n c k : Nat} {ts : List TurnL} {t : TurnL} {av : Value}
theorem Bad.spot (h : Bad w0 W base g4 g n c k ts t av) : base ≤ g ∧ g < W.heap.size ∧ g < g4 := by
  have hkl := (List.getElem?_eq_some_iff.1 h.at_).1
  obtain ⟨g2, e, h1, h2⟩ := h.row.towns.spot (by omega)
  obtain ⟨e, _, _⟩ := Addr.mk.inj (Option.some.inj e)
  subst e
  exact ⟨h1, h2, h.row.top_lt _ rfl⟩
theorem Bad.on {W' : World} (h : Bad w0 W base g4 g n c k ts t av) (hb : Below W.heap.size W W') : Bad w0 W' base g4 g n c k ts t av :=
  ⟨h.row.kept hb h.pos, h.len, h.few, h.at_, (hb.cell (p := ⟨g, k * 3 + 2, none⟩) h.spot.2.1).trans h.cell, h.box.on hb, below_on h.bel hb, h.low, h.pos⟩
theorem Bad.add (h : Bad w0 W base g4 g n c k ts t av) {cs : Array Value} {m : Nat} {l2 : List ArmL} (hr : ARow (W.alloc (.cells cs 67)) (some ⟨W.heap.size, 0, none⟩) m l2) (hm : m ≤ 2) (hl2 : l2.length ≤ 2) (hbad : turnB n ⟨t.kind, t.peer, t.arms ++ l2⟩ = false) (ty c2 : Nat) :
    ∃ aa an ac w', (Builtin.append_ #[49, 49] ty #[av, .slice (some ⟨W.heap.size, 0, none⟩) m c2]).run Tryz.prog (W.alloc (.cells cs 67)) = .ok (.slice aa an ac) w' ∧
      Wrong w0 (w'.setCell ⟨g, k * 3 + 2, none⟩ (.slice aa an ac)) g4 (some ⟨g, 0, none⟩) n c ∧ w'.frozen? ⟨g, k * 3 + 2, none⟩ = false ∧ w'.cell? ⟨g, k * 3 + 2, none⟩ = some av ∧ LBox w' g4 ⟨#[116]⟩ (some ⟨g, 0, none⟩) n c := by
  obtain ⟨hg1, hg2, hg3⟩ := h.spot
  have hB := tu1 W (.cells cs 67)
  have h1 := h.on hB
  have hz : (W.alloc (.cells cs 67)).heap.size = W.heap.size + 1 := by simp
  have hs := h.row.short h.at_
  have hkl := (List.getElem?_eq_some_iff.1 h.at_).1
  obtain ⟨av', hA, hc', hlow, hst⟩ := h1.row.armed h.len h.at_
  obtain rfl : av' = av := Option.some.inj (hc'.symm.trans h1.cell)
  obtain ⟨v', w', hrun, hown, hgr, hat, hbel⟩ := hA.add2 (by omega) c2 hr (by omega) ty
  have hll : (t.arms ++ l2).length ≤ 1000000 := by rw [List.length_append]; omega
  obtain ⟨aa, ac, hv, _⟩ := hown.sees hll
  subst hv
  obtain ⟨hT, hfz⟩ := hst w' aa _ ac _ hgr hown hll (hat.imp id (fun e => ⟨_, e, Nat.le_refl _⟩))
  have hbox : w'.heap[g4]? = W.heap[g4]? := (hgr.block g4 (by have := h.box.lt; omega) (fun e => by have := (hlow g4 e.symm).1; omega)).trans (hB.block g4 h.box.lt)
  have hbg : w'.heap[g]? = W.heap[g]? := (hgr.block g (by omega) (fun e => (hlow g e.symm).2 rfl)).trans (hB.block g hg2)
  refine ⟨aa, _, ac, w', hrun, ⟨(heap_setCell_ne (by omega)).trans (hbox.trans h.box), ⟨_, (hT.row (by rw [List.length_set, h.len]; have := h.few; omega)).1, locB_set hkl (by rw [h.len]; exact hbad)⟩, (hbel w0.heap.size h.low w0 (h.bel.alloc h.bel.size _)).setCell (show w0.heap.size ≤ g by have := h.low; omega) _⟩, hfz, ?_⟩
  exact ⟨(World.cell?_of_block hbg).trans h.cell, hbox.trans h.box⟩
theorem wpList_append_bad {ops : Array Oper} {rest : List Oper} {o : Oper} {a : Act} {Q : Exit → Act → World → Prop} {cs : Array Value} (hgd : o.guard = none) (s x : Operand)
    (ho : o.op = .call { callee := .builtin .append, args := #[s, x], argTypes := #[49, 49] }) (h : Bad w0 W base g4 g n c k ts t av) {m c2 g5 : Nat} {l2 : List ArmL}
    (hs : a.eval s = av) (hx : a.eval x = .slice (some ⟨g5, 0, none⟩) m c2) (hg5 : g5 = W.heap.size) (hr : ARow (W.alloc (.cells cs 67)) (some ⟨W.heap.size, 0, none⟩) m l2) (hm : m ≤ 2) (hl2 : l2.length ≤ 2)
    (hbad : turnB n ⟨t.kind, t.peer, t.arms ++ l2⟩ = false)
    (hk : ∀ aa an ac w', Wrong w0 (w'.setCell ⟨g, k * 3 + 2, none⟩ (.slice aa an ac)) g4 (some ⟨g, 0, none⟩) n c → w'.frozen? ⟨g, k * 3 + 2, none⟩ = false → w'.cell? ⟨g, k * 3 + 2, none⟩ = some av → LBox w' g4 ⟨#[116]⟩ (some ⟨g, 0, none⟩) n c → wpList Tryz.prog ops Q rest (a.put o.dst (.slice aa an ac)) w') :
    wpList Tryz.prog ops Q (o :: rest) a (W.alloc (.cells cs 67)) := by
  subst hg5
  obtain ⟨aa, an, ac, w', hrun, h1, h2, h3, h4⟩ := h.add hr hm hl2 hbad o.type c2
  exact wpList_append_lx hgd s x _ ho _ _ _ hs hx hrun (hk aa an ac w' h1 h2 h3 h4)
theorem step_append_bad {ops : Array Oper} {o : Oper} {a : Act} {K : Act → World → Prop} {Q : Exit → Act → World → Prop} {E : Prop} {w1 : World} {cs : Array Value} (hgd : o.guard = none) (s x : Operand)
    (ho : o.op = .call { callee := .builtin .append, args := #[s, x], argTypes := #[49, 49] }) (h : Bad w0 W base g4 g n c k ts t av) (hw1 : w1 = W.alloc (.cells cs 67)) {m c2 : Nat} {l2 : List ArmL}
    (hs : a.eval s = av) (hx : a.eval x = .slice (some ⟨W.heap.size, 0, none⟩) m c2) (hr : ARow (W.alloc (.cells cs 67)) (some ⟨W.heap.size, 0, none⟩) m l2) (hm : m ≤ 2) (hl2 : l2.length ≤ 2)
    (hbad : turnB n ⟨t.kind, t.peer, t.arms ++ l2⟩ = false)
    (hk : ∀ aa an ac w', Wrong w0 (w'.setCell ⟨g, k * 3 + 2, none⟩ (.slice aa an ac)) g4 (some ⟨g, 0, none⟩) n c → w'.frozen? ⟨g, k * 3 + 2, none⟩ = false → w'.cell? ⟨g, k * 3 + 2, none⟩ = some av → LBox w' g4 ⟨#[116]⟩ (some ⟨g, 0, none⟩) n c → K (a.put o.dst (.slice aa an ac)) w') :
    if Region.wanted o (yielded ops a.tmps) = true then Oper.wp Tryz.prog o a w1 K Q else E := by
  have hwant : Region.wanted o (yielded ops a.tmps) = true := by simp [Region.wanted, hgd]
  rw [if_pos hwant]
  subst hw1
  obtain ⟨aa, an, ac, w', hrun, h1, h2, h3, h4⟩ := h.add hr hm hl2 hbad o.type c2
  have hrun' : (Builtin.append_ #[49, 49] o.type #[av, .slice (some ⟨W.heap.size, 0, none⟩) m c2]).run Tryz.prog (W.alloc (.cells cs 67)) = .ok (.slice aa an ac) w' := hrun
  unfold Oper.wp execOp
  simp only [ho, resolve, invoke, builtin, Sem.run_bind, Sem.run_pure, Result.andThen_ok, List.map_toArray, List.map_cons, List.map_nil, hs, hx, hrun']
  exact hk aa an ac w' h1 h2 h3 h4
end
/-- Turns that make made. -/
theorem TOwn.made (W : World) (n : Nat) (hn : n ≤ 1000) {g : Nat} (hg : g = W.heap.size) : TOwn (W.alloc (.cells (madeCells #[.int .i64 0, .string ⟨#[]⟩, .slice none 0 0] (n * 3)) 51)) g (.slice (some ⟨g, 0, none⟩) n n) (List.replicate n ⟨0, [], []⟩) := by
  subst hg
  refine ⟨List.replicate n r0T, ?_, by simp, fun j r t hr ht => ?_⟩
  · rw [List.length_replicate]
    refine ⟨?_, .inr ⟨W.heap.size, n, _, rfl, Nat.le_refl _, heap_alloc_new W _, Nat.le_refl _, by unfold maxLen; omega, by simp [madeCells], ?_⟩⟩
    · rw [← made_flat]
      simp [madeCells]
    · rw [← made_flat, List.take_of_length_le (by simp [madeCells])]
  · have hr := List.eq_of_mem_replicate (List.mem_of_getElem? hr)
    have ht := List.eq_of_mem_replicate (List.mem_of_getElem? ht)
    subst hr ht
    exact ⟨rfl, ByteArray.toList_eq _, by simp [r0T, maxLen, ByteArray.size], Arms.zero _ _ _, fun b off e => by cases e⟩
theorem Wrong.made {w0 W : World} {g4 : Nat} {a : Option Addr} {n c : Nat} (hb : LBox W g4 ⟨#[116]⟩ a n c) (hbel : Below w0.heap.size w0 W) (hg : w0.heap.size ≤ g4) {g5 : Nat} (h5 : g5 = W.heap.size) :
    Wrong w0 ((W.setCell ⟨g4, 1, none⟩ (.slice (some ⟨g5, 0, none⟩) 41 41)).alloc (.cells (madeCells #[.int .i64 0, .string ⟨#[]⟩, .slice none 0 0] 123) 51)) g4 (some ⟨g5, 0, none⟩) 41 41 := by
  have hT : TOwn ((W.setCell ⟨g4, 1, none⟩ (.slice (some ⟨g5, 0, none⟩) 41 41)).alloc (.cells (madeCells #[.int .i64 0, .string ⟨#[]⟩, .slice none 0 0] 123) 51)) g5 (.slice (some ⟨g5, 0, none⟩) 41 41) (List.replicate 41 ⟨0, [], []⟩) := TOwn.made _ 41 (by omega) (by simp [h5])
  have hB := hbel.setCell (p := ⟨g4, 1, none⟩) hg (.slice (some ⟨g5, 0, none⟩) 41 41)
  exact ⟨(LBox.set hb).on (tu1 _ _), ⟨_, (hT.row (by simp)).1, locB_zeros⟩, hB.alloc hB.size _⟩
theorem bad_far (n : Nat) (k : Int) (p : Str) (l : List ArmL) : turnB n ⟨k, p, l ++ [armR ⟨⟨#[119]⟩, 0, ⟨#[]⟩, (n : Int)⟩]⟩ = false := by
  unfold armR
  simp only [ByteArray.toList_eq]
  exact turnB_more (armB_far n)
theorem bad_open (n : Nat) (k : Int) (p : Str) (l : List ArmL) : turnB n ⟨k, p, l ++ [armR ⟨⟨#[119]⟩, 5, ⟨#[]⟩, 0⟩]⟩ = false := by
  unfold armR
  simp only [ByteArray.toList_eq]
  exact turnB_more (armB_open n)
theorem bad_two (n : Nat) (k : Int) (p : Str) (l : List ArmL) : turnB n ⟨k, p, l ++ [armR ⟨⟨#[118]⟩, 0, ⟨#[]⟩, 0⟩, armR ⟨⟨#[118]⟩, 0, ⟨#[]⟩, 0⟩]⟩ = false := turnB_two
theorem bad_named (n : Nat) (k : Int) (p : Str) (l : List ArmL) : turnB n ⟨k, p, l ++ [armR ⟨⟨#[118]⟩, 1, ⟨#[116]⟩, 0⟩]⟩ = false := by
  unfold armR
  simp only [ByteArray.toList_eq]
  exact turnB_more (armB_named n)
theorem bad_big (n : Nat) (k : Int) (p : Str) (l : List ArmL) : turnB n ⟨k, p, l ++ [armR ⟨⟨#[86]⟩, 0, ⟨#[]⟩, 0⟩]⟩ = false := by
  unfold armR
  simp only [ByteArray.toList_eq]
  exact turnB_more (armB_big n)
theorem ok_arm (s u : ByteArray) (k x : Int) (hs : s.size ≤ 10) (hu : u.size ≤ 10) : okR ⟨s, k, u, x⟩ := ⟨show s.size ≤ maxLen by unfold maxLen; omega, show u.size ≤ maxLen by unfold maxLen; omega⟩
end Go.Proofs.YtiofpeckcfdilaaGreatDoor
