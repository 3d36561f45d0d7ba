/- Plain: a type whose turns are permuted, with every place adjusted: the same type. No program stands in this text. -/
import Derived.Test.YtbbdmipfbnfpfaaTuLaws
import Derived.Test.YtbbdmipfbnfpfaaTuPeers
import Derived.Test.YtbbdmipfbnfpfaaTuSameO
import Derived.Test.YtbbdmipfbnfpfaaTuWrongs
import Derived.Deep.RegionLaw
import Derived.Deep.RegionHeld3
import Derived.Deep.CutBlock
import Derived.Deep.DeepCutAuto
namespace Go.Proofs.Ytbbdmipfbnfpfaa
open Go.RowKit

/-- Where a turn goes. -/
def goes (pl : List Nat) (p : Nat) : Nat := pl.getD p 0
/-- Places of so many turns, each once; the first stays. -/
structure Plc (n : Nat) (pl : List Nat) : Prop where
  perm : pl.Perm (List.range n)
  zero : pl[0]? = some 0
theorem Plc.len {n : Nat} {pl : List Nat} (h : Plc n pl) : pl.length = n := by rw [h.perm.length_eq, List.length_range]
theorem Plc.lt {n : Nat} {pl : List Nat} (h : Plc n pl) {i p : Nat} (hi : pl[i]? = some p) : p < n := List.mem_range.1 (h.perm.mem_iff.1 (List.mem_of_getElem? hi))
theorem Plc.nodup {n : Nat} {pl : List Nat} (h : Plc n pl) : pl.Nodup := h.perm.nodup_iff.2 List.nodup_range
theorem Plc.inj {n : Nat} {pl : List Nat} (h : Plc n pl) {i j p : Nat} (hi : pl[i]? = some p) (hj : pl[j]? = some p) : i = j := by
  obtain ⟨h1, e1⟩ := List.getElem?_eq_some_iff.1 hi
  obtain ⟨h2, e2⟩ := List.getElem?_eq_some_iff.1 hj
  have k1 : pl.idxOf pl[i] = i := by rw [h.nodup.idxOf_getElem]
  have k2 : pl.idxOf pl[j] = j := by rw [h.nodup.idxOf_getElem]
  rw [← k1, ← k2, e1, e2]
theorem Plc.onto {n : Nat} {pl : List Nat} (h : Plc n pl) {p : Nat} (hp : p < n) : ∃ i, i < n ∧ pl[i]? = some p := by
  obtain ⟨i, hi⟩ := List.mem_iff_getElem?.1 (h.perm.mem_iff.2 (List.mem_range.2 hp))
  exact ⟨i, by have := (List.getElem?_eq_some_iff.1 hi).1; rw [h.len] at this; exact this, hi⟩
theorem Plc.start {n : Nat} (hn : 1 ≤ n) : Plc n (List.range n) := ⟨.refl _, by rw [List.getElem?_range (by omega)]⟩
theorem Plc.swap {n : Nat} {pl : List Nat} (h : Plc n pl) {a b p q : Nat} (ha : 1 ≤ a) (hb : 1 ≤ b) (hp : pl[a]? = some p) (hq : pl[b]? = some q) : Plc n ((pl.set a q).set b p) := by
  obtain ⟨h1, e1⟩ := List.getElem?_eq_some_iff.1 hp
  obtain ⟨h2, e2⟩ := List.getElem?_eq_some_iff.1 hq
  subst e1 e2
  exact ⟨(List.set_set_perm h1 h2).trans h.perm, by rw [List.getElem?_set_ne (by omega), List.getElem?_set_ne (by omega)]; exact h.zero⟩
theorem goes_at {pl : List Nat} {i p : Nat} (h : pl[i]? = some p) : goes pl i = p := by unfold goes; rw [List.getD_eq_getElem?_getD, h]; rfl
def gonA (pl : List Nat) (a : ArmL) : ArmL := toA a (goes pl a.next.toNat)
def gonT (pl : List Nat) (t : TurnL) : TurnL := ⟨t.kind, t.peer, t.arms.reverse.map (gonA pl)⟩
/-- The first i turns stand in their new places. -/
structure Mixed (ts ms : List TurnL) (pl : List Nat) (i : Nat) : Prop where
  len : ms.length = ts.length
  turn : ∀ (j p : Nat) (t : TurnL), j < i → pl[j]? = some p → ts[j]? = some t → ms[p]? = some (gonT pl t)
theorem Mixed.start (ts : List TurnL) (pl : List Nat) (t0 : TurnL) : Mixed ts (List.replicate ts.length t0) pl 0 := ⟨by simp, fun j p t hj => by omega⟩
theorem Mixed.next {ts ms : List TurnL} {pl : List Nat} {i p : Nat} {t : TurnL} (h : Mixed ts ms pl i) (hp : Plc ts.length pl) (hi : pl[i]? = some p) (ht : ts[i]? = some t) : Mixed ts (ms.set p (gonT pl t)) pl (i + 1) := by
  refine ⟨by rw [List.length_set, h.len], fun j q u hj hq hu => ?_⟩
  have hpl := hp.lt hi
  by_cases hji : j = i
  · subst hji
    rw [hi] at hq
    rw [ht] at hu
    obtain rfl := Option.some.inj hq
    obtain rfl := Option.some.inj hu
    rw [List.getElem?_set_self (by rw [h.len]; exact hpl)]
  · rw [List.getElem?_set_ne (fun e => hji (hp.inj (hq.trans (by rw [e])) hi))]
    exact h.turn j q u (by omega) hq hu
section
variable {ts ms : List TurnL} {pl : List Nat} (h : Mixed ts ms pl ts.length) (hp : Plc ts.length pl)
include h hp
theorem Mixed.at_ {p : Nat} {m : TurnL} (hm : ms[p]? = some m) : ∃ (i : Nat) (t : TurnL), pl[i]? = some p ∧ ts[i]? = some t ∧ m = gonT pl t := by
  have hpl := (List.getElem?_eq_some_iff.1 hm).1
  obtain ⟨i, hi, e⟩ := hp.onto (show p < ts.length by rw [← h.len]; exact hpl)
  have ht := List.getElem?_eq_getElem hi
  exact ⟨i, _, e, ht, Option.some.inj (hm.symm.trans (h.turn i p _ hi e ht))⟩
theorem mix_valid (hv : locB ts = true) : locB ms = true := by
  obtain ⟨h1, h40, hall⟩ := locB_one hv
  unfold locB
  rw [h.len]
  simp only [Bool.and_eq_true, decide_eq_true_eq, List.all_eq_true]
  refine ⟨⟨h1, h40⟩, fun m hm => ?_⟩
  obtain ⟨p, hm⟩ := List.mem_iff_getElem?.1 hm
  obtain ⟨i, t, _, ht, rfl⟩ := h.at_ hp hm
  have hv := hall t (List.mem_of_getElem? ht)
  rcases turnB_arms hv with ⟨e1, e2, e3⟩ | ⟨e1, e2, e3⟩
  · unfold turnB gonT
    rw [if_pos e1, e2, e3]
    rfl
  · obtain ⟨a1, a2, a3, a4⟩ := armsB_all e3
    unfold turnB gonT
    rw [if_neg (by dsimp only; omega), if_pos e1]
    simp only [Bool.and_eq_true]
    refine ⟨e2, ?_⟩
    unfold armsB
    simp only [Bool.and_eq_true, decide_eq_true_eq, List.all_eq_true]
    refine ⟨⟨⟨fun b hb => ?_, ?_⟩, by rw [List.length_map, List.length_reverse]; exact a3⟩, by rw [List.length_map, List.length_reverse]; exact a4⟩
    · obtain ⟨a, ha, rfl⟩ := List.mem_map.1 hb
      obtain ⟨b1, b2, b3, b4⟩ := armB_all (a1 a (List.mem_reverse.1 ha))
      have hlt : a.next.toNat < pl.length := by rw [hp.len]; omega
      have hg := List.getElem?_eq_getElem hlt
      have h2 := hp.lt hg
      rw [← goes_at hg] at h2
      unfold armB gonA toA
      simp only [Bool.and_eq_true, decide_eq_true_eq]
      exact ⟨⟨⟨b1, b2⟩, by omega⟩, by omega⟩
    · rw [List.map_map]
      show (t.arms.reverse.map ArmL.label).Nodup
      rw [List.map_reverse]
      exact (List.reverse_perm _).nodup_iff.2 a2
theorem mix_sims (hv : locB ts = true) : Sims ts ms (goes pl) where
  zero := goes_at hp.zero
  inj := fun p h1 q h2 e => by
    have l1 := reach_lt hv p h1
    have l2 := reach_lt hv q h2
    have g1 := List.getElem?_eq_getElem (l := pl) (i := p) (by rw [hp.len]; exact l1)
    have g2 := List.getElem?_eq_getElem (l := pl) (i := q) (by rw [hp.len]; exact l2)
    rw [goes_at g1, goes_at g2] at e
    exact hp.inj g1 (g2.trans (by rw [e]))
  turn := fun p h1 t ht => by
    have l1 := reach_lt hv p h1
    have g1 := List.getElem?_eq_getElem (l := pl) (i := p) (by rw [hp.len]; exact l1)
    refine ⟨t.arms.reverse.map (gonA pl), ?_, ?_⟩
    · rw [goes_at g1]
      exact h.turn p _ t l1 g1 ht
    · have hn := (turn_ok ((locB_one hv).2.2 t (List.mem_of_getElem? ht))).2
      rw [sortA_map (h := gonA pl) (fun a => rfl), ← sortA_ext hn (List.reverse_perm t.arms).symm]
      rfl
theorem mix_trim (hv : locB ts = true) : trimT ms = trimT ts := (mix_sims h hp hv).trim hv (mix_valid h hp hv)
theorem mix_same (hv : locB ts = true) : sameL ts ms = true ∧ sameL ms ts = true := by
  have h2 := mix_valid h hp hv
  have e1 : trimL ts = trimT ts := by unfold trimL; rw [hv]; rfl
  have e2 : trimL ms = trimT ts := by unfold trimL; rw [h2, ← mix_trim h hp hv]; rfl
  unfold sameL
  rw [hv, h2, e1, e2]
  exact ⟨sameTs_iff.2 rfl, sameTs_iff.2 rfl⟩
theorem mix_peers (hv : locB ts = true) : peersT ms = peersT ts := by
  have h2 := mix_valid h hp hv
  have hr : reachL ms = (reachL ts).map (goes pl) := by
    unfold reachL
    rw [hv, h2]
    exact (mix_sims h hp hv).reach hv h2
  have hpe : ∀ p ∈ reachL ts, peerAt ms (goes pl p) = peerAt ts p := fun p hpp => by
    have hl := reachL_lt p hpp
    have ht := List.getElem?_eq_getElem hl
    have g1 := List.getElem?_eq_getElem (l := pl) (i := p) (by rw [hp.len]; exact hl)
    unfold peerAt
    rw [goes_at g1, h.turn p _ _ hl g1 ht, ht]
    rfl
  unfold peersT peersF
  rw [hr, List.foldl_map]
  have key : ∀ (row : List Nat) (o : List Str), (∀ p ∈ row, peerAt ms (goes pl p) = peerAt ts p) → row.foldl (fun out p => if peerAt ms (goes pl p) = [] then out else putS out (peerAt ms (goes pl p))) o = row.foldl (fun out p => if peerAt ts p = [] then out else putS out (peerAt ts p)) o := fun row => by
    induction row with
    | nil => intro o _; rfl
    | cons x r ih =>
      intro o hx
      rw [List.foldl_cons, List.foldl_cons, hx x (by simp)]
      exact ih _ (fun p hp => hx p (by simp [hp]))
  exact key _ _ hpe
end
end Go.Proofs.Ytbbdmipfbnfpfaa

/- TurnsMixed: places and turns that make made, in memory. -/
namespace Go.Proofs.Ytbbdmipfbnfpfaa
open Go.RowKit

theorem made_ints (n : Nat) (hn : n ≤ 1000) (W : World) : (Instr.makeSlice 22 (.int .i64 (n : Int)) (.int .i64 (n : Int))).run Try.prog W =
    .ok (.slice (some ⟨W.heap.size, 0, none⟩) n n) (W.alloc (.cells (madeCells #[.int .i64 0] n) 3)) := by
  obtain ⟨i, hi, hzz⟩ := Option.map_eq_some_iff.1 info_int1
  simp only [Prod.mk.injEq] at hzz
  obtain ⟨hz, hs, hb⟩ := hzz
  have hr := run_make (P := Try.prog) W 22 3 i _ Try.underlying22 hi hz .i64 .i64 (n : Int) (n : Int) (by omega) (by omega) (by rw [hb]; omega) (by omega)
  rw [hs, Int.toNat_natCast, Nat.mul_one] at hr
  exact hr
theorem madeI_flat (n : Nat) : (madeCells #[.int .i64 0] n).toList = (List.replicate n (0 : Int)).map encI64 := by
  refine List.ext_getElem? fun i => ?_
  unfold madeCells
  rw [Array.toList_map, List.getElem?_map, Array.toList_range, List.getElem?_map, List.getElem?_replicate]
  rcases Nat.lt_or_ge i n with hi | hi
  · rw [List.getElem?_range hi, if_pos hi, Option.map_some, Option.map_some]
    show some ((#[Value.int .i64 0] : Array Value)[i % 1]!) = _
    rw [Nat.mod_one]
    rfl
  · rw [List.getElem?_eq_none (by simpa using hi), if_neg (by omega)]
    rfl
theorem IInts.made (W : World) (n : Nat) (hn : n ≤ 1000) {g : Nat} (hg : g = W.heap.size) : IInts (W.alloc (.cells (madeCells #[.int .i64 0] n) 3)) g (.slice (some ⟨g, 0, none⟩) n n) (List.replicate n 0) := by
  subst hg
  unfold IInts
  rw [List.length_replicate]
  refine ⟨by simp, .inr ⟨W.heap.size, n, _, rfl, Nat.le_refl _, heap_alloc_new W _, Nat.le_refl _, by unfold maxLen; omega, by simp [madeCells], ?_⟩⟩
  rw [← madeI_flat, List.take_of_length_le (by simp [madeCells])]
section
variable {w : World} {base g n c : Nat} {l : List Int}
theorem IInts.len (h : IInts w base (.slice (some ⟨g, 0, none⟩) n c) l) : l.length = n := by
  obtain ⟨a, cap, hv, _⟩ := h.sees
  exact (Value.slice.inj hv).2.1.symm
theorem IInts.cell (h : IInts w base (.slice (some ⟨g, 0, none⟩) n c) l) {j : Nat} {x : Int} (hj : l[j]? = some x) : w.cell? ⟨g, j, none⟩ = some (.int .i64 x) := by
  obtain ⟨a, cap, hv, _, _, _, hn⟩ := h.sees
  obtain ⟨e1, e2, e3⟩ := Value.slice.inj hv
  obtain ⟨b, off, y, hb, _, hy, hc⟩ := hn.at_ (List.getElem?_eq_some_iff.1 hj).1
  rw [← e1] at hb
  obtain ⟨q1, q2, _⟩ := Addr.mk.inj (Option.some.inj hb)
  subst q1 q2
  rw [hj] at hy
  obtain rfl := Option.some.inj hy
  rw [Nat.zero_add] at hc
  exact hc
theorem IInts.thaw (h : IInts w base (.slice (some ⟨g, 0, none⟩) n c) l) (j : Nat) : w.frozen? ⟨g, j, none⟩ = false := by
  have hl := h.len
  subst hl
  exact World.ownsRow.frozenAt h j
theorem IInts.put (h : IInts w base (.slice (some ⟨g, 0, none⟩) n c) l) (j : Nat) (x : Int) : IInts (w.setCell ⟨g, j, none⟩ (.int .i64 x)) base (.slice (some ⟨g, 0, none⟩) n c) (l.set j x) := by
  have hl := h.len
  subst hl
  have hst := (World.ownsRow.stored h j (.int .i64 x)).1
  unfold IInts
  rw [List.length_set, List.map_set]
  exact hst
theorem IInts.spot (h : IInts w base (.slice (some ⟨g, 0, none⟩) n c) l) : base ≤ g ∧ g < w.heap.size := World.ownsRow.lt h g rfl
end
theorem rowI_get {pl : List Nat} {j p : Nat} (h : pl[j]? = some p) : (rowI pl)[j]? = some (p : Int) := by unfold rowI; rw [List.getElem?_map, h]; rfl
theorem rowI_set (pl : List Nat) (j p : Nat) : (rowI pl).set j (p : Int) = rowI (pl.set j p) := by unfold rowI; rw [List.map_set]
theorem rowI_range {l : List Int} {n : Nat} (hl : l.length = n) (h : ∀ j, j < n → l[j]? = some (j : Int)) : l = rowI (List.range n) := by
  refine List.ext_getElem? fun j => ?_
  unfold rowI
  rw [List.getElem?_map]
  rcases Nat.lt_or_ge j n with hj | hj
  · rw [h j hj, List.getElem?_range hj]; rfl
  · rw [List.getElem?_eq_none (by omega), List.getElem?_eq_none (by simpa using hj)]; rfl
/-- A whole turn is stored in the place of one. -/
theorem TOwn.put3 {w : World} {base g n c : Nat} {f : List TurnL} (h : TOwn w base (.slice (some ⟨g, 0, none⟩) n c) f) (hn : f.length = n) {k : Nat} (hk : k < n) (kd : Int) (s : ByteArray) (hs : s.size ≤ maxLen) {a : Option Addr} {m d : Nat} {l : List ArmL}
    (ha : Arms w w.heap.size a m l) (hb : ∀ b off, a = some ⟨b, off, none⟩ → base ≤ b ∧ b < w.heap.size ∧ g ≠ b) :
    TOwn (((w.setCell ⟨g, k * 3, none⟩ (.int .i64 kd)).setCell ⟨g, k * 3 + 1, none⟩ (.string s)).setCell ⟨g, k * 3 + 2, none⟩ (.slice a m d)) base (.slice (some ⟨g, 0, none⟩) n c) (f.set k ⟨kd, s.toList, l⟩) := by
  have e0 := List.getElem?_eq_getElem (l := f) (i := k) (by omega)
  have h1 := (h.kinded hn e0 kd).1
  have h2 := (h1.peered (by rw [List.length_set]; exact hn) (by rw [List.getElem?_set_self (by omega)]) s hs).1
  have hz : ((w.setCell ⟨g, k * 3, none⟩ (.int .i64 kd)).setCell ⟨g, k * 3 + 1, none⟩ (.string s)).heap.size = w.heap.size := by simp
  have h3 := (h2.armed (a := a) (m := m) (d := d) (l := l) (by rw [List.length_set, List.length_set]; exact hn) (by rw [List.getElem?_set_self (by rw [List.length_set]; omega)])
    (ha.stay (by rw [hz]; exact Nat.le_refl _) (fun b off e => (heap_setCell_ne (fun q => (hb b off e).2.2 q.symm)).trans (heap_setCell_ne (fun q => (hb b off e).2.2 q.symm)))) (fun b off e => by rw [hz]; exact hb b off e)).1
  rw [List.set_set, List.set_set] at h3
  exact h3
theorem TOwn.thaw {w : World} {base g n c : Nat} {f : List TurnL} (h : TOwn w base (.slice (some ⟨g, 0, none⟩) n c) f) (hn : f.length = n) (j : Nat) : w.frozen? ⟨g, j, none⟩ = false := by
  obtain ⟨rs, h, hl, hd⟩ := h
  subst hn
  exact h.frozenAt _
theorem TBox.on {W W' : World} {g : Nat} {k : Int} {s : ByteArray} {a : Option Addr} {n c : Nat} (h : TBox W g k s a n c) (hb : Below W.heap.size W W') : TBox W' g k s a n c := (hb.block g h.lt).trans h
theorem rev_at {l : List ArmL} {n k : Nat} {x : ArmL} (hl : l.length = n) (h : l[k]? = some x) (f : ArmL → ArmL) : (l.reverse.map f)[n - (k + 1)]? = some (f x) := by
  have hk := (List.getElem?_eq_some_iff.1 h).1
  rw [List.getElem?_map, List.getElem?_reverse (by omega), show l.length - 1 - (n - (k + 1)) = k by omega, h]
  rfl
end Go.Proofs.Ytbbdmipfbnfpfaa

/- Law: TurnsMixed. -/

namespace Go.Proofs.Ytbbdmipfbnfpfaa
open Go.RowKit

theorem div_lt (k : Int) (n : Nat) (h1 : 1 ≤ n) (h2 : n ≤ 1000) : ∃ i : Nat, i < n ∧ (IntKind.u64.wrap ((IntKind.u64.wrap k).tdiv 16)).tmod (n : Int) = (i : Int) := by
  have h0 : 0 ≤ IntKind.u64.wrap k := by rw [IntKind.wrap_u64]; omega
  have h3 : (IntKind.u64.wrap k).tdiv 16 = (IntKind.u64.wrap k) / 16 := Int.tdiv_eq_ediv_of_nonneg h0
  have h4 : 0 ≤ (IntKind.u64.wrap k) / 16 := by omega
  have h5 : IntKind.u64.wrap k ≤ 18446744073709551615 := by rw [IntKind.wrap_u64]; omega
  have h6 : IntKind.u64.wrap ((IntKind.u64.wrap k) / 16) = (IntKind.u64.wrap k) / 16 := IntWalk.u64_in _ (by omega)
  have hm := Int.emod_nonneg ((IntKind.u64.wrap k) / 16) (show (n : Int) ≠ 0 by omega)
  have hl := Int.emod_lt_of_pos ((IntKind.u64.wrap k) / 16) (show (0 : Int) < n by omega)
  refine ⟨(((IntKind.u64.wrap k) / 16).tmod (n : Int)).toNat, ?_, ?_⟩
  · rw [Int.tmod_eq_emod_of_nonneg h4]; omega
  · rw [h3, h6, Int.tmod_eq_emod_of_nonneg h4]; omega
set_option maxHeartbeats 16000000 in
set_option maxRecDepth 20000 in
theorem turnsMixed_walk (a : Option Addr) (n c : Nat) (l : List Int) (a' : Option Addr) (n' c' : Nat) (l' : List Int) (w : World) (h : Nums w w.heap.size a n l) (hlim : n * 8 ≤ 140737488351232) (h' : Nums w w.heap.size a' n' l') (_hlim' : n' * 8 ≤ 140737488351232) :
    Calls Try.prog 4 #[.slice a n c, .slice a' n' c'] w fun e w' => e = .returned (.bool true) ∧ Below w.heap.size w w' := by
  have HN := Lib.hid h
  have HN' := Lib.hid h'
  have HF := Lib.hid (tuFirst_any w)
  clear h h'
  go_enter Try.func4, Try.ntmps4
  go_upto_region 4 with (first
    | (go_at_call 7; (with_reducible refine HF.out.mono ?_)
       rintro e w1 ⟨rfl, hb1⟩
       have HB1 := Lib.hid hb1
       clear hb1)
    | (go_at_call 9; (with_reducible refine (new_any a n c l w1 w.heap.size (HN.out.below HB1.out) hlim).mono ?_)
       rintro e w2 ⟨g, rfl, hd2, hg2, hb2⟩
       have HD2 := Lib.hid hd2
       have HB2 := Lib.hid hb2
       clear hd2 hb2)
    | (go_at_call 8; (with_reducible refine (made_local HD2.out).mono ?_)
       rintro e w3 ⟨⟨sa, sn, sc, ts, rfl, hm3, hln, hloc, hfew⟩, hb3⟩
       have HT3 := Lib.hid (hm3.sees (by omega))
       have HLOC := Lib.hid hloc
       have HLN := Lib.hid hln
       have HB3 := Lib.hid (below_on HB1.out (HB2.out.trans (hb3.below hg2 HB2.out.size)))
       clear hm3 hloc hb3 hln)
    | fail)
  have HL4 := Lib.hid (LBox.new w3 ⟨#[116]⟩ sa sn sc)
  have HBX := Lib.hid (tu1 w3 (.cells #[.string ⟨#[116]⟩, .slice sa sn sc] 26))
  obtain ⟨g4, hg4⟩ : ∃ g4, g4 = w3.heap.size := ⟨_, rfl⟩
  rw [← hg4] at HL4
  rw [← hg4]
  have hw3 := HB3.out.size
  have hg4w : w.heap.size ≤ g4 := by omega
  generalize hw4 : w3.alloc (.cells #[.string ⟨#[116]⟩, .slice sa sn sc] 26) = w4 at HL4 HBX ⊢
  have HT4 := Lib.hid (HT3.out.on HBX.out)
  have HB4 := Lib.hid (below_on HB3.out HBX.out)
  clear hw4 HBX HT3 HB3 hw3 hg4
  have hsn : 1 ≤ sn ∧ sn ≤ 6 := by have := HLN.out; have := (locB_one HLOC.out).1; omega
  have hzg4 := HL4.out.lt
  obtain ⟨_, _⟩ := HL4.out.cells
  have hmk := made_ints sn (by omega) w4
  have HI0 := Lib.hid (IInts.made w4 sn (by omega) (g := w4.heap.size) rfl)
  have HBm := Lib.hid (tu1 w4 (.cells (madeCells #[.int .i64 0] sn) 3))
  obtain ⟨g7, hg7⟩ : ∃ g7, g7 = w4.heap.size := ⟨_, rfl⟩
  rw [← hg7] at HI0 hzg4 hmk
  have hz7 : w4.heap.size ≤ g7 := by omega
  have HG7 := Lib.hid hg7
  clear hg7
  go_upto_region 6 with fail
  generalize hwm : w4.alloc (.cells (madeCells #[.int .i64 0] sn) 3) = wm at HI0 HBm ⊢
  clear hwm hmk
  go_wp2
  go_loopw [8] (fun i wr => ∃ (k : Nat) (pl : List Int), k ≤ sn ∧ i = .int .i64 k ∧ Hid (IInts wr g7 (.slice (some ⟨g7, 0, none⟩) sn sn) pl) ∧ Hid (∀ j, j < k → pl[j]? = some (j : Int)) ∧ Hid (Below w4.heap.size w4 wr)) (fun i _ => sn - (intOf i).toNat)
  case atStart => exact ⟨0, _, Nat.zero_le _, rfl, HI0, Lib.hid (fun j hj => by omega), HBm⟩
  case round =>
    obtain ⟨k, pl, hk, rfl, HI, HP, HBr⟩ := hrel
    by_cases hlt : k < sn
    · obtain ⟨x, hx⟩ : ∃ x, pl[k]? = some x := ⟨_, List.getElem?_eq_getElem (by have := HI.out.len; omega)⟩
      have hce := HI.out.cell hx
      have hth := HI.out.thaw k
      have i1 : (k : Int) < (sn : Int) := by omega
      have i2 : (0 : Int) ≤ (k : Int) := by omega
      have HI2 := Lib.hid (HI.out.put k (k : Int))
      have HP2 := Lib.hid (show ∀ j, j < k + 1 → (pl.set k (k : Int))[j]? = some (j : Int) from fun j hj => by
        by_cases hjk : j = k
        · subst hjk
          rw [List.getElem?_set_self (by have := HI.out.len; omega)]
        · rw [List.getElem?_set_ne (fun e => hjk e.symm)]
          exact HP.out j (by omega))
      clear hx
      go_wp2_with fail
      go_roundw
      case rel => exact ⟨k + 1, _, by omega, by go_num, HI2, HP2, Lib.hid (HBr.out.setCell hz7 _)⟩
      case measure => simp [intOf]; omega
    · have d1 : decide ((k : Int) < (sn : Int)) = false := decide_eq_false (by omega)
      have hpl := rowI_range HI.out.len (fun j hj => HP.out j (by omega))
      subst hpl
      obtain ⟨w5, hw5⟩ : ∃ w5 : World, w5 = wr := ⟨_, rfl⟩
      subst hw5
      have HPS := Lib.hid (Plc.start hsn.1)
      go_upto_block 2 with fail
      go_cut [9] (fun s9 wx => ∃ pl : List Nat, Hid (IInts wx g7 (.slice (some ⟨g7, 0, none⟩) sn sn) (rowI pl)) ∧ Hid (Plc sn pl) ∧ Hid (Below w4.heap.size w4 wx))
      case first =>
        go_wp2_with fail
        go_loopw [9] (fun i wr => ∃ (k : Nat) (pl : List Nat), k ≤ n' ∧ i = .int .i64 k ∧ Hid (IInts wr g7 (.slice (some ⟨g7, 0, none⟩) sn sn) (rowI pl)) ∧ Hid (Plc sn pl) ∧ Hid (Below w4.heap.size w4 wr)) (fun i _ => n' - (intOf i).toNat)
        case atStart => exact ⟨0, _, Nat.zero_le _, rfl, HI, HPS, HBr⟩
        case round =>
          obtain ⟨k, pl, hk, rfl, HI, HP, HBr⟩ := hrel
          by_cases hk1 : k < n'
          · have i1 : (k : Int) < (n' : Int) := by omega
            have i2 : (0 : Int) ≤ (k : Int) := by omega
            by_cases hk2 : k < 20
            · have i3 : (k : Int) < 20 := by omega
              by_cases hk3 : 2 < sn
              · have i4 : (2 : Int) < (sn : Int) := by omega
                obtain ⟨b, off, x, rfl, hb, _, hc⟩ := (HN'.out.below (below_on HB4.out HBr.out)).at_ hk1
                obtain ⟨ra, hra, hmod⟩ := mod_lt x (sn - 1) (by omega) (by omega)
                obtain ⟨rb, hrb, hmod2⟩ := div_lt x (sn - 1) (by omega) (by omega)
                rw [show ((sn - 1 : Nat) : Int) = (sn : Int) - 1 by omega] at hmod hmod2
                have e1 : wrap64 ((sn : Int) - 1) = (sn : Int) - 1 := IntWalk.wrap64_in _ (by omega)
                have e2 : IntKind.i64.wrap ((sn : Int) - 1) = (sn : Int) - 1 := by simp [IntKind.wrap, IntKind.bits, IntKind.signed]; omega
                have e3 : IntKind.u64.wrap ((sn : Int) - 1) = (sn : Int) - 1 := IntWalk.u64_in _ (by omega)
                have e4 : ((sn : Int) - 1 == 0) = false := by rw [beq_eq_false_iff_ne]; omega
                obtain ⟨A, hA⟩ : ∃ A : Nat, (A : Int) = 1 + (ra : Int) := ⟨ra + 1, by omega⟩
                obtain ⟨B, hB⟩ : ∃ B : Nat, (B : Int) = 1 + (rb : Int) := ⟨rb + 1, by omega⟩
                have HA := Lib.hid hA
                have HB := Lib.hid hB
                have hpl := HP.out.len
                obtain ⟨p, hp⟩ : ∃ p, pl[A]? = some p := ⟨_, List.getElem?_eq_getElem (by omega)⟩
                obtain ⟨q, hq⟩ : ∃ q, pl[B]? = some q := ⟨_, List.getElem?_eq_getElem (by omega)⟩
                have HSW := Lib.hid (HP.out.swap (by omega) (by omega) hp hq)
                have c1 := HI.out.cell (rowI_get hp)
                have c2 := HI.out.cell (rowI_get hq)
                have c3 : ∀ m, ((wr.drewN m).setCell ⟨g7, A, none⟩ (.int .i64 (q : Int))).cell? ⟨g7, B, none⟩ = some (.int .i64 (q : Int)) := fun m => (IInts.put (show IInts (wr.drewN m) g7 (.slice (some ⟨g7, 0, none⟩) sn sn) (rowI pl) from HI.out) A (q : Int)).cell (by
                  rw [rowI_set]
                  refine rowI_get ?_
                  by_cases hAB : A = B
                  · subst hAB
                    rw [List.getElem?_set_self (by omega)]
                  · rw [List.getElem?_set_ne hAB]
                    exact hq)
                have f1 := HI.out.thaw A
                have f2 := HI.out.thaw B
                have j1 : (A : Int) < (sn : Int) := by omega
                have j2 : (0 : Int) ≤ (A : Int) := by omega
                have j3 : (B : Int) < (sn : Int) := by omega
                have j4 : (0 : Int) ≤ (B : Int) := by omega
                clear hk1 hk2 hk3 hA hB hp hq hpl
                go_wp2_with fail
                go_quiet (fail)
                rw [← HA.out, ← HB.out]
                go_wp2_with fail
                go_region
                go_wp2_with fail
                go_roundw
                case rel => exact ⟨k + 1, (pl.set A q).set B p, by omega, by go_num, Lib.hid (by rw [← rowI_set, ← rowI_set]; exact (IInts.put (IInts.put (show IInts ((wr.drewN nq).drew) g7 (.slice (some ⟨g7, 0, none⟩) sn sn) (rowI pl) from HI.out) A (q : Int)) B (p : Int))), HSW, Lib.hid (((bel_drew1 (bel_drewN HBr.out nq)).setCell (p := ⟨g7, A, none⟩) hz7 _).setCell (p := ⟨g7, B, none⟩) hz7 _)⟩
                case measure => simp [intOf]; omega
              · have d4 : decide ((2 : Int) < (sn : Int)) = false := decide_eq_false (by omega)
                go_wp2_with fail
                go_meet
                exact ⟨pl, HI, HP, HBr⟩
            · have d3 : decide ((k : Int) < 20) = false := decide_eq_false (by omega)
              go_wp2_with fail
              go_meet
              exact ⟨pl, HI, HP, HBr⟩
          · have d1 : decide ((k : Int) < (n' : Int)) = false := decide_eq_false (by omega)
            go_wp2_with fail
            go_meet
            exact ⟨pl, HI, HP, HBr⟩
      case rest =>
        clear HI HP HPS HBr
        obtain ⟨pl, HI7, HPL, HB7⟩ := hcut
        have hmk2 := made_turns sn (by omega) wc
        obtain ⟨gM, hgM⟩ : ∃ gM, gM = wc.heap.size := ⟨_, rfl⟩
        have hI7 := HI7.out.spot
        have HO0 := Lib.hid (TOwn.made wc sn (by omega) hgM)
        have hgM7 : g7 < gM := by omega
        rw [← hgM] at hmk2
        have HGM := Lib.hid hgM
        clear hgM hI7
        go_upto_region 16 with fail
        obtain ⟨g12, hg12⟩ : ∃ g12, g12 = wc.heap.size + 1 := ⟨_, rfl⟩
        rw [← hg12]
        have hM12 : gM < g12 := by have := HGM.out; omega
        obtain ⟨wm, hwm⟩ : ∃ wm, wm = wc.alloc (.cells (madeCells #[.int .i64 0, .string ⟨#[]⟩, .slice none 0 0] (sn * 3)) 40) := ⟨_, rfl⟩
        have hwms : wm.heap.size = g12 := by rw [hwm, hg12]; simp
        have hcm := tu1 wc (.cells (madeCells #[.int .i64 0, .string ⟨#[]⟩, .slice none 0 0] (sn * 3)) 40)
        rw [← hwm] at HO0 hcm ⊢
        clear hwm hg12
        have h12 := tu1 wm (.cells #[.string ⟨#[117]⟩, .slice (some ⟨gM, 0, none⟩) sn sn] 26)
        have hn12 := LBox.new wm ⟨#[117]⟩ (some ⟨gM, 0, none⟩) sn sn
        rw [hwms] at hn12
        generalize hw12 : wm.alloc (.cells #[.string ⟨#[117]⟩, .slice (some ⟨gM, 0, none⟩) sn sn] 26) = w12 at h12 hn12 ⊢
        clear hw12
        have HB12 := Lib.hid (below_on HB7.out (below_on hcm h12))
        have HM12 := Lib.hid hn12
        have HL12 := Lib.hid ((HL4.out.on HB7.out).on (below_on hcm h12))
        have HI12 := Lib.hid ((HI7.out.below hcm (Nat.le_refl _)).below h12 (Nat.le_refl _))
        have HT12 := Lib.hid (HT4.out.below HB12.out)
        have HO12 := Lib.hid (HO0.out.kept h12 (by omega))
        have HPL2 := Lib.hid (show Plc ts.length pl by rw [HLN.out]; exact HPL.out)
        have hz12 : g12 < w12.heap.size := HM12.out.lt
        clear hn12 h12 hcm hwms hmk2
        go_wp2
        go_loopw [13] (fun i wr => ∃ (k : Nat) (ms : List TurnL), k ≤ sn ∧ i = .int .i64 k ∧ Hid (TOwn wr gM (.slice (some ⟨gM, 0, none⟩) sn sn) ms) ∧ Hid (Mixed ts ms pl k) ∧ Hid (Beside gM w12 wr)) (fun i _ => sn - (intOf i).toNat)
        case atStart => exact ⟨0, _, Nat.zero_le _, rfl, HO12, Lib.hid (by rw [← HLN.out]; exact Mixed.start ts pl _), Lib.hid (Beside.refl _ _)⟩
        case round =>
          obtain ⟨k, ms, hk, rfl, HO, HMX, HBr⟩ := hrel
          obtain ⟨wo, hwo⟩ : ∃ wo : World, wo = wr := ⟨_, rfl⟩
          subst hwo
          have hzo := HBr.out.size
          have HLo := Lib.hid (HL12.out.beside HBr.out (by omega))
          have HMo := Lib.hid (HM12.out.beside HBr.out (by omega))
          have HTo := Lib.hid (HT12.out.keep (fun p hp => HBr.out.cell (by omega) (by omega)))
          have HCo := Lib.hid (fun (j p : Nat) (hj : pl[j]? = some p) => show wo.cell? ⟨g7, j, none⟩ = some (.int .i64 (p : Int)) from (HBr.out.cell (p := ⟨g7, j, none⟩) (show g7 < _ by omega) (show g7 ≠ gM by omega)).trans (HI12.out.cell (rowI_get hj)))
          obtain ⟨_, _⟩ := HLo.out.cells
          by_cases hlt : k < sn
          · obtain ⟨b, off, kd, s, aa, an, ac, lt, rfl, hbb, ht, ⟨q0, q1, q2⟩, hs, hal⟩ := HTo.out.at_ hlt
            have hok := turn_ok ((locB_one HLOC.out).2.2 _ (List.mem_of_getElem? ht))
            have HNX := Lib.hid (fun (x : ArmL) (hx : x ∈ lt) => show 0 ≤ x.next ∧ x.next < (sn : Int) from by
              have h1 := (armB_all (hok.1 x hx)).2.2
              rw [HLN.out] at h1
              exact h1)
            have han : an ≤ 1000 := by
              have h1 := arms_few HLOC.out lt (List.mem_map.2 ⟨_, List.mem_of_getElem? ht, rfl⟩)
              have := hal.1
              omega
            obtain ⟨p, hp⟩ : ∃ p, pl[k]? = some p := ⟨_, List.getElem?_eq_getElem (by have := HPL.out.len; omega)⟩
            have HP := Lib.hid hp
            have HTK := Lib.hid ht
            have HSS := Lib.hid hs
            have HAL := Lib.hid hal
            have zb : b < wo.heap.size := by omega
            have z4 : g4 < wo.heap.size := by omega
            have i1 : (k : Int) < (sn : Int) := by omega
            have i2 : (0 : Int) ≤ (k : Int) := by omega
            have e1 : wrap64 ((an : Int) - 1) = (an : Int) - 1 := IntWalk.wrap64_in _ (by omega)
            have e2 : IntKind.i64.wrap ((an : Int) - 1) = (an : Int) - 1 := by simp [IntKind.wrap, IntKind.bits, IntKind.signed]; omega
            have HB19 := Lib.hid (show Below wo.heap.size wo (wo.alloc (.cells #[.int .i64 kd, .string s, .slice none 0 0] 40)).drew from bel_drew1 ((Below.refl _ _).alloc (Nat.le_refl _) _))
            have HTB := Lib.hid (show TBox (wo.alloc (.cells #[.int .i64 kd, .string s, .slice none 0 0] 40)).drew wo.heap.size kd s none 0 0 from TBox.new wo kd s none 0 0)
            clear ht hs hal hok hp
            go_upto_region 19 with fail
            go_region
            go_upto_region 20 with fail
            generalize hw19 : (wo.alloc (.cells #[.int .i64 kd, .string s, .slice none 0 0] 40)).drew = w19 at HB19 HTB ⊢
            clear hw19
            obtain ⟨_, _⟩ := (HLo.out.on HB19.out).cells
            have r2 := (HB19.out.cell (p := ⟨b, off + k * 3 + 2, none⟩) (show b < _ by omega)).trans q2
            clear q0 q1 q2
            go_wp2
            go_loopw [15] (fun i wr => ∃ (r : Nat) (i0 : Int) (ba : Option Addr) (bn bc : Nat), r ≤ an ∧ i = .int .i64 i0 ∧ i0 = (r : Int) - 1 ∧ bn = an - r ∧ Hid (AOwn wr (wo.heap.size + 1) (.slice ba bn bc) ((lt.reverse.map (gonA pl)).take (an - r))) ∧ Hid (TBox wr wo.heap.size kd s ba bn bc) ∧ Hid (Below wo.heap.size wo wr)) (fun i _ => (intOf i + 1).toNat)
            case atStart => exact ⟨an, _, none, 0, 0, Nat.le_refl _, rfl, by omega, by omega, Lib.hid (by rw [Nat.sub_self, List.take_zero]; exact AOwn.zero _ _), HTB, HB19⟩
            case round =>
              obtain ⟨r, i0, ba, bn, bc, hr, rfl, hi0, hbn, HA, HTt, HBt⟩ := hrel
              have hzt := HTt.out.lt
              obtain ⟨tc0, tc1, tc2⟩ := HTt.out.cells
              have tf2 := HTt.out.thaw 2
              obtain ⟨_, _⟩ := (HLo.out.on HBt.out).cells
              by_cases hr0 : r = 0
              · subst hr0
                obtain rfl : i0 = -1 := by omega
                obtain rfl : bn = an := by omega
                have hpl : p < sn := HPL.out.lt HP.out
                have HO2 := Lib.hid (HO.out.kept HBt.out (by omega))
                have hms : ms.length = sn := HMX.out.len.trans HLN.out
                obtain ⟨b9, off9, _, _, _, _, _, _, e9, _, _, ⟨t0, t1, t2⟩, _, _⟩ := (HO2.out.row (by omega)).1.at_ hpl
                obtain ⟨e91, e92, _⟩ := Addr.mk.inj (Option.some.inj e9)
                subst e91 e92
                rw [Nat.zero_add] at t0 t1 t2
                have tz := HO2.out.thaw hms
                have t3 := tz (p * 3)
                have t4 := tz (p * 3 + 1)
                have t5 := tz (p * 3 + 2)
                obtain ⟨_, _⟩ := (HMo.out.on HBt.out).cells
                have ck := (HBt.out.cell (p := ⟨g7, k, none⟩) (show g7 < _ by omega)).trans (HCo.out k p HP.out)
                have j1 : (p : Int) < (sn : Int) := by omega
                have j2 : (0 : Int) ≤ (p : Int) := by omega
                have HAR := Lib.hid (show AOwn wr (wo.heap.size + 1) (.slice ba bn bc) (lt.reverse.map (gonA pl)) from by
                  have h1 := HA.out
                  rw [List.take_of_length_le (by rw [List.length_map, List.length_reverse, HAL.out.1]; omega)] at h1
                  exact h1)
                have HP3 := Lib.hid (fun (W : World) (hW : Below wr.heap.size wr W) => show TOwn (((W.setCell ⟨gM, p * 3, none⟩ (.int .i64 kd)).setCell ⟨gM, p * 3 + 1, none⟩ (.string s)).setCell ⟨gM, p * 3 + 2, none⟩ (.slice ba bn bc)) gM (.slice (some ⟨gM, 0, none⟩) sn sn) (ms.set p (gonT pl ⟨kd, s.toList, lt⟩)) from by
                  have h1 := HAR.out.kept hW
                  have h2 := HO2.out.kept hW (by omega)
                  obtain ⟨xa, xc, hv, hxa, _⟩ := h1.sees (by rw [List.length_map, List.length_reverse, HAL.out.1]; omega)
                  rw [List.length_map, List.length_reverse, HAL.out.1] at hv hxa
                  obtain ⟨e1, _, _⟩ := Value.slice.inj hv
                  subst e1
                  exact h2.put3 hms hpl kd s HSS.out hxa (fun b off e => by
                    have := h1.lies b off e
                    exact ⟨by omega, this.2, by omega⟩))
                have HMN := Lib.hid (HMX.out.next HPL2.out HP.out HTK.out)
                have HBe := Lib.hid (bes_below HBr.out (HBt.out.mono (show w12.heap.size ≤ wo.heap.size from hzo)) (Nat.le_refl _))
                clear e9 hms tz hi0 hbn
                go_upto_region 26 with fail
                go_region
                go_wp2_with fail
                go_roundw
                case rel => exact ⟨k + 1, ms.set p (gonT pl ⟨kd, s.toList, lt⟩), by omega, by go_num, Lib.hid (HP3.out wr.drew (bel_drew1 (Below.refl _ _))), HMN, Lib.hid (bes_drew (((HBe.out.setCell _ _).setCell _ _).setCell _ _))⟩
                case measure => simp [intOf]; omega
              · obtain ⟨r1, rfl⟩ : ∃ r1, r = r1 + 1 := ⟨r - 1, by omega⟩
                obtain rfl : i0 = (r1 : Int) := by omega
                have HALt := Lib.hid (HAL.out.below (HBt.out.mono (by omega)))
                obtain ⟨b2, off2, s1, u1, ck, nx, rfl, hb2, hx, ⟨y0, y1, y2, y3⟩, hs1, hu1⟩ := HALt.out.at_ (show r1 < an by omega)
                have hnx := HNX.out _ (List.mem_of_getElem? hx)
                dsimp only at hnx
                obtain ⟨y, rfl⟩ : ∃ y : Nat, nx = (y : Int) := ⟨nx.toNat, by omega⟩
                obtain ⟨q, hq⟩ : ∃ q, pl[y]? = some q := ⟨_, List.getElem?_eq_getElem (by have := HPL.out.len; omega)⟩
                have c7 := (HBt.out.cell (p := ⟨g7, y, none⟩) (show g7 < _ by omega)).trans (HCo.out y q hq)
                have r2' := (HBt.out.cell (p := ⟨b, off + k * 3 + 2, none⟩) (show b < _ by omega)).trans ((HB19.out.cell (p := ⟨b, off + k * 3 + 2, none⟩) (show b < _ by omega)).symm.trans r2)
                have HRT := Lib.hid (show (lt.reverse.map (gonA pl)).take (an - r1) = (lt.reverse.map (gonA pl)).take (an - (r1 + 1)) ++ [armR ⟨s1, ck, u1, (q : Int)⟩] by
                  have h1 := rev_at HAL.out.1 hx (gonA pl)
                  rw [show an - r1 = an - (r1 + 1) + 1 by omega, take_snoc h1]
                  unfold gonA toA armR
                  dsimp only
                  rw [Int.toNat_natCast, goes_at hq])
                have HRL := Lib.hid (show ((lt.reverse.map (gonA pl)).take (an - (r1 + 1))).length = bn by rw [List.length_take, List.length_map, List.length_reverse, HAL.out.1]; omega)
                have HOK := Lib.hid (show okR ⟨s1, ck, u1, (q : Int)⟩ from ⟨hs1, hu1⟩)
                have HZ0 := Lib.hid hbn
                have j1 : (y : Int) < (sn : Int) := by omega
                have j2 : (0 : Int) ≤ (y : Int) := by omega
                have j3 : (r1 : Int) < (an : Int) := by omega
                have j4 : (0 : Int) ≤ (r1 : Int) := by omega
                have j5 : decide ((0 : Int) ≤ (r1 : Int)) = true := decide_eq_true (by omega)
                have z1 : b2 < wr.heap.size := by omega
                have z2 : g7 < wr.heap.size := by omega
                have z3 : b < wr.heap.size := by omega
                have z5 : g4 < wr.heap.size := by omega
                have hb1000 : bn ≤ 1000 := by omega
                clear hx hs1 hu1 hnx hq hb2 hi0 hbn hr0
                go_wp2_with (first
                  | (at_builtin
                     refine wpList_append_arms rfl (.tmp 136) (.tmp 138) rfl (wo.heap.size + 1) (.slice ba bn bc) _ _ 1 1 [armR ⟨s1, ck, u1, (q : Int)⟩] rfl rfl ((HA.out.alloc _).alloc _) (ARow.one ⟨s1, ck, u1, (q : Int)⟩ (by simp) rfl HOK.out) (by simp; omega) (by rw [HRL.out]; omega) ?_
                     intro v5 w5 hown hbel
                     rw [← HRT.out] at hown
                     obtain ⟨ba5, bc5, hv5, _⟩ := hown.sees (by rw [HRT.out, List.length_append, HRL.out, List.length_singleton]; omega)
                     rw [HRT.out, List.length_append, HRL.out, List.length_singleton] at hv5
                     subst hv5
                     have HO5 := Lib.hid hown
                     have HB5 := Lib.hid hbel
                     have HT5 := Lib.hid (show TBox w5 wo.heap.size kd s ba bn bc from (hbel.block wo.heap.size (by omega)).trans ((HTt.out.on (tu1 _ _)).on (tu1 _ _)))
                     have tf5 := HT5.out.thaw 2
                     obtain ⟨_, _, _⟩ := HT5.out.cells
                     clear hown hbel)
                  | fail)
                go_roundw
                case rel => exact ⟨r1, (r1 : Int) - 1, ba5, bn + 1, bc5, by omega, by go_num, rfl, by have := HZ0.out; omega, Lib.hid (HO5.out.beside ((Beside.refl wo.heap.size w5).setCell 2 _) (by omega)), Lib.hid (TBox.set HT5.out), Lib.hid ((((HBt.out.alloc (by omega) _).alloc (by simp; omega) _).trans (HB5.out.mono (by omega))).setCell (by simp) _)⟩
                case measure => simp [intOf]
          · have d1 : decide ((k : Int) < (sn : Int)) = false := decide_eq_false (by omega)
            obtain rfl : k = sn := by omega
            have HZE := Lib.hid (show Below w.heap.size w wo from (HB4.out.trans (HB12.out.mono (by have := HB4.out.size; omega))).trans ⟨HBr.out.os, HBr.out.tape, HBr.out.output, HBr.out.size, fun j hj => HBr.out.block j (by omega) (by omega)⟩)
            have hmf : Mixed ts ms pl ts.length := by rw [HLN.out]; exact HMX.out
            have hsame := mix_same hmf HPL2.out HLOC.out
            have hmv := mix_valid hmf HPL2.out HLOC.out
            have HTw := Lib.hid (HTo.out.more (show w4.heap.size ≤ wo.heap.size by omega))
            have HMw := Lib.hid (HO.out.row (by have := HMX.out.len; omega)).1
            have HC3 := Lib.hid (show trimL ts = trimT ts by unfold trimL; rw [HLOC.out]; rfl)
            have HC4 := Lib.hid (show trimL ms = trimT ts by unfold trimL; rw [hmv, ← mix_trim hmf HPL2.out HLOC.out]; rfl)
            have HC7 := Lib.hid (mix_peers hmf HPL2.out HLOC.out)
            have C1 := Lib.hid (fun (W : World) (hW : Below wo.heap.size wo W) => (ownSame_any ⟨#[116]⟩ ⟨#[117]⟩ sa (some ⟨gM, 0, none⟩) k sc k k ts ms W W.heap.size (Nat.le_refl _) (HTw.out.on hW) (HMw.out.on hW)).mono fun e w2 h => (⟨by rw [h.1, hsame.1], below_on hW h.2⟩ : e = .returned (.bool true) ∧ Below wo.heap.size wo w2))
            have C2 := Lib.hid (fun (W : World) (hW : Below wo.heap.size wo W) => (ownSame_any ⟨#[117]⟩ ⟨#[116]⟩ (some ⟨gM, 0, none⟩) sa k k k sc ms ts W W.heap.size (Nat.le_refl _) (HMw.out.on hW) (HTw.out.on hW)).mono fun e w2 h => (⟨by rw [h.1, hsame.2], below_on hW h.2⟩ : e = .returned (.bool true) ∧ Below wo.heap.size wo w2))
            have C3 := Lib.hid (fun (W : World) (hW : Below wo.heap.size wo W) => (ownTrim_any ⟨#[116]⟩ sa k sc ts W W.heap.size (Nat.le_refl _) (HTw.out.on hW)).mono fun e w2 h => (⟨by
              obtain ⟨xa, xn, xc, e1, e2⟩ := h.1
              rw [HC3.out] at e2
              refine ⟨xa, xn, xc, ?_, e2⟩
              rw [e1]
              unfold trimName
              rw [HLOC.out]
              rfl, below_on hW h.2⟩ : (∃ xa xn xc, e = .returned (.agg #[.string ⟨#[116]⟩, .slice xa xn xc]) ∧ Turns w2 w2.heap.size xa xn (trimT ts)) ∧ Below wo.heap.size wo w2))
            have C4 := Lib.hid (fun (W : World) (hW : Below wo.heap.size wo W) => (ownTrim_any ⟨#[117]⟩ (some ⟨gM, 0, none⟩) k k ms W W.heap.size (Nat.le_refl _) (HMw.out.on hW)).mono fun e w2 h => (⟨by
              obtain ⟨xa, xn, xc, e1, e2⟩ := h.1
              rw [HC4.out] at e2
              refine ⟨xa, xn, xc, ?_, e2⟩
              rw [e1]
              unfold trimName
              rw [hmv]
              rfl, below_on hW h.2, h.2⟩ : (∃ xa xn xc, e = .returned (.agg #[.string ⟨#[117]⟩, .slice xa xn xc]) ∧ Turns w2 w2.heap.size xa xn (trimT ts)) ∧ Below wo.heap.size wo w2 ∧ Below W.heap.size W w2))
            have C5 := Lib.hid (fun (xa za : Option Addr) (xn xc zn zc : Nat) (W : World) (hx : Turns W W.heap.size xa xn (trimT ts)) (hz : Turns W W.heap.size za zn (trimT ts)) (hW : Below wo.heap.size wo W) => (tuSameT_any xa za xn zn xc zc _ _ W W.heap.size hx hz).mono fun e w2 h => (⟨by rw [h.1, sameTs_iff.2 rfl], by obtain ⟨q, hq⟩ := h.2; rw [hq]; exact bel_drewN hW q⟩ : e = .returned (.bool true) ∧ Below wo.heap.size wo w2))
            have C6 := Lib.hid (fun (W : World) (hW : Below wo.heap.size wo W) => (ownPeers_any ⟨#[116]⟩ sa k sc ts W W.heap.size (Nat.le_refl _) (HTw.out.on hW)).mono fun e w2 h => (⟨h.1, below_on hW h.2⟩ : (∃ ra rn rc, e = .returned (.slice ra rn rc) ∧ Strs w2 w2.heap.size ra rn (peersT ts)) ∧ Below wo.heap.size wo w2))
            have C7 := Lib.hid (fun (W : World) (hW : Below wo.heap.size wo W) => (ownPeers_any ⟨#[117]⟩ (some ⟨gM, 0, none⟩) k k ms W W.heap.size (Nat.le_refl _) (HMw.out.on hW)).mono fun e w2 h => (⟨by rw [← HC7.out]; exact h.1, below_on hW h.2, h.2⟩ : (∃ ra rn rc, e = .returned (.slice ra rn rc) ∧ Strs w2 w2.heap.size ra rn (peersT ts)) ∧ Below wo.heap.size wo w2 ∧ Below W.heap.size W w2))
            have C8 := Lib.hid (fun (xa za : Option Addr) (xn xc zn zc : Nat) (W : World) (hx : Strs W W.heap.size xa xn (peersT ts)) (hz : Strs W W.heap.size za zn (peersT ts)) (hW : Below wo.heap.size wo W) => (same_any xa za xn zn xc zc _ _ W W.heap.size hx hz).mono fun e w2 h => (⟨by rw [h.1, decide_eq_true rfl], by obtain ⟨q, hq⟩ := h.2; rw [hq]; exact bel_drewN hW q⟩ : e = .returned (.bool true) ∧ Below wo.heap.size wo w2))
            have HK := Lib.hid (fun (W : World) (hW : Below wo.heap.size wo W) => show W.cell? ⟨g4, 0, none⟩ = some (.string ⟨#[116]⟩) ∧ W.cell? ⟨g4, 1, none⟩ = some (.slice sa k sc) ∧ W.cell? ⟨g12, 0, none⟩ = some (.string ⟨#[117]⟩) ∧ W.cell? ⟨g12, 1, none⟩ = some (.slice (some ⟨gM, 0, none⟩) k k) from
              ⟨((HLo.out.on hW).cells).1, ((HLo.out.on hW).cells).2, ((HMo.out.on hW).cells).1, ((HMo.out.on hW).cells).2⟩)
            have H0 := Lib.hid (show Below wo.heap.size wo wo.drew from bel_drewN (Below.refl _ _) 1)
            have hfe1 := fun xa xn xc W => field_turns ⟨#[116]⟩ xa xn xc W
            have hfe2 := fun xa xn xc W => field_turns ⟨#[117]⟩ xa xn xc W
            obtain ⟨_, _⟩ := HMo.out.cells
            clear hmf hsame hmv
            go_upto_region 27 with fail
            go_region_held3 (fun W => W.cell? ⟨g4, 0, none⟩ = some (.string ⟨#[116]⟩) ∧ W.cell? ⟨g4, 1, none⟩ = some (.slice sa k sc) ∧ W.cell? ⟨g12, 0, none⟩ = some (.string ⟨#[117]⟩) ∧ W.cell? ⟨g12, 1, none⟩ = some (.slice (some ⟨gM, 0, none⟩) k k))
              (first | exact HK.out _ H0.out | exact HK.out _ H1.out | exact HK.out _ H2.out | exact HK.out _ H3.out | exact HK.out _ H4.out | exact HK.out _ H5.out | exact HK.out _ H6.out | exact HK.out _ H7.out | exact HK.out _ H8.out)
              (first
              | (go_at_call 13; (with_reducible refine (C1.out _ H0.out).mono ?_)
                 rintro e v1 ⟨rfl, h1⟩
                 have H1 := Lib.hid h1
                 clear h1)
              | (go_at_call 13; (with_reducible refine (C2.out _ H1.out).mono ?_)
                 rintro e v2 ⟨rfl, h2⟩
                 have H2 := Lib.hid h2
                 clear h2)
              | (go_at_call 10; (with_reducible refine (C3.out _ H2.out).mono ?_)
                 rintro e v3 ⟨⟨xa, xn, xc, rfl, hx3⟩, h3⟩
                 have H3 := Lib.hid h3
                 have HX3 := Lib.hid hx3
                 clear h3 hx3)
              | (go_at_call 10; (with_reducible refine (C4.out _ H3.out).mono ?_)
                 rintro e v4 ⟨⟨za, zn, zc, rfl, hx4⟩, h4, h4b⟩
                 have H4 := Lib.hid h4
                 have HX4 := Lib.hid hx4
                 have HY4 := Lib.hid (HX3.out.on h4b)
                 clear h4 hx4 h4b)
              | (go_at_call 16; (with_reducible refine (C5.out _ _ _ _ _ _ _ HY4.out HX4.out H4.out).mono ?_)
                 rintro e v5 ⟨rfl, h5⟩
                 have H5 := Lib.hid h5
                 clear h5)
              | (go_at_call 18; (with_reducible refine (C6.out _ H5.out).mono ?_)
                 rintro e v6 ⟨⟨pa, pn, pc, rfl, hx6⟩, h6⟩
                 have H6 := Lib.hid h6
                 have HX6 := Lib.hid hx6
                 clear h6 hx6)
              | (go_at_call 18; (with_reducible refine (C7.out _ H6.out).mono ?_)
                 rintro e v7 ⟨⟨qa, qn, qc, rfl, hx7⟩, h7, h7b⟩
                 have H7 := Lib.hid h7
                 have HX7 := Lib.hid hx7
                 have HY7 := Lib.hid ((HX6.out.below h7b).more h7b.size)
                 clear h7 hx7 h7b)
              | (go_at_call 17; (with_reducible refine (C8.out _ _ _ _ _ _ _ HY7.out HX7.out H7.out).mono ?_)
                 rintro e v8 ⟨rfl, h8⟩
                 have H8 := Lib.hid h8
                 clear h8)
              | fail)
            go_wp2_with fail
            go_ret
            exact ⟨rfl, below_on HZE.out H8.out⟩
end Go.Proofs.Ytbbdmipfbnfpfaa
