/- Contract of the program's sorted: a copy of the arms, by ascending labels (slices.SortFunc with a closure). -/
import Derived.Test.YtiofpeckcfdilaaGreatDoorTuOwnV
import Derived.Test.YtiofpeckcfdilaaGreatDoorTuOwns
import Derived.Test.YtiofpeckcfdilaaGreatDoorTuRows
import Derived.Test.YtiofpeckcfdilaaGreatDoorShelfS
namespace Go.Proofs.YtiofpeckcfdilaaGreatDoor
open Go.RowKit Go.Sort Go.Proofs

instance : Inhabited AR := ⟨⟨⟨#[]⟩, 0, ⟨#[]⟩, 0⟩⟩
def cmpAR (x y : AR) : Int := cmpS x.s.toList y.s.toList
theorem ltAR (x y : AR) : ltOf cmpAR x y = decide (x.s.toList < y.s.toList) := by
  unfold ltOf cmpAR
  rw [cmpS_less, bytesLess_eq]
theorem swoAR : SWO (ltOf cmpAR) where
  irrefl x := by rw [ltAR]; simp [List.lt_irrefl]
  trans x y z h1 h2 := by
    rw [ltAR, decide_eq_true_eq] at *
    exact List.lt_trans h1 h2
  ntrans x y z h1 h2 := by
    rw [ltAR, decide_eq_false_iff_not] at *
    exact List.not_lt.2 (List.le_trans (List.not_lt.1 h2) (List.not_lt.1 h1))
theorem alloc_grow (w : World) (o : Obj) : w.alloc o = grow w #[o] := by
  unfold grow World.alloc
  rw [Array.push_eq_append]
theorem cmpArm_any (x y : AR) (W : World) : Calls Tryz.prog 95 #[.agg (encAR x).toArray, .agg (encAR y).toArray] W fun e w' => e = .returned (.int .i64 (cmpAR x y)) ∧ ∃ q os', w' = grow (W.drewN q) os' := by
  obtain ⟨s, k, u, n⟩ := x
  obtain ⟨s', k', u', n'⟩ := y
  show Calls Tryz.prog 95 #[.agg #[.string s, .int .i64 k, .string u, .int .i64 n], .agg #[.string s', .int .i64 k', .string u', .int .i64 n']] W fun e w' => e = .returned (.int .i64 (cmpS s.toList s'.toList)) ∧ ∃ q os', w' = grow (W.drewN q) os'
  have CC := Lib.hid (fun W => cmpStr_any s s' W)
  generalize cmpS s.toList s'.toList = r at CC ⊢
  go_enter Tryz.func95, Tryz.ntmps95
  go_wp2_with (first
    | (go_at_call 96; (with_reducible refine (CC.out _).mono ?_); rintro e w1 ⟨rfl, rfl⟩)
    | fail)
  go_ret
  refine ⟨rfl, 0, #[.cells #[.string s, .int .i64 k, .string u, .int .i64 n] 67] ++ #[.cells #[.string s', .int .i64 k', .string u', .int .i64 n'] 67], ?_⟩
  rw [alloc_grow, alloc_grow]
  unfold grow
  dsimp only
  rw [Array.append_assoc]
  rfl
theorem cmpLaysAR (blk off size : Nat) (w : World) : CmpLays Tryz.prog 95 #[] encAR 4 cmpAR blk off size w := fun _ _ _ _ x y => cmpArm_any x y _
theorem flatAR (rs : List AR) : flatK encAR 4 rs.toArray = (rs.flatMap encAR).toArray := by
  have hs : (flatK encAR 4 rs.toArray).size = (rs.flatMap encAR).toArray.size := by rw [size_flatK, List.size_toArray, List.size_toArray, encARs_len]
  refine ext_get! hs fun t ht => ?_
  rw [size_flatK] at ht
  have ht2 : t / 4 < rs.length := by simp at ht; omega
  rw [get_flatK _ _ _ _ ht]
  have h1 := flatA_at rs (t / 4) _ (List.getElem?_eq_getElem ht2) (t % 4) (by omega)
  rw [show t / 4 * 4 + t % 4 = t by omega] at h1
  have e : rs.toArray[t / 4]! = rs[t / 4] := by simp [getElem!_pos, ht2]
  rw [e]
  rw [Array.getElem!_eq_getD, Array.getD_eq_getD_getElem?, List.getElem?_toArray, h1, List.getElem!_eq_getElem?_getD]
theorem holdsAR {w : World} {base g c : Nat} {n : Nat} {rs : List AR} (h : w.ownsRow base 67 4 (.slice (some ⟨g, 0, none⟩) n c) n (rs.flatMap encAR)) : HoldsK encAR 4 w g 0 rs.toArray := by
  unfold HoldsK
  rw [flatAR]
  intro j hj
  have hl := h.1
  have hj2 : j < (rs.flatMap encAR).length := by simpa using hj
  rw [Nat.zero_add]
  refine ⟨?_, h.frozenAt j⟩
  rw [h.cellAt j (by omega), List.getElem?_eq_getElem hj2, getElem!_pos (rs.flatMap encAR).toArray j hj]
  rfl
theorem below_grow {B : Nat} {w0 w : World} (h : Below B w0 w) (hB : B ≤ w.heap.size) (os : Array Obj) : Below B w0 (grow w os) :=
  ⟨h.os, h.tape, h.output, by have := h.size; unfold grow; simp; omega, fun k hk => by
    rw [← h.block k hk]
    unfold grow
    rw [Array.getElem?_append_left (by omega)]⟩
theorem ownsRow_grow {w : World} {base : Nat} {e : TypeId} {size : Nat} {v : Value} {n : Nat} {xs : List Value} (h : w.ownsRow base e size v n xs) (os : Array Obj) : (grow w os).ownsRow base e size v n xs :=
  ownsRow_on h (below_grow (Below.refl _ _) (Nat.le_refl _) os) (Nat.le_refl _)
theorem ownsRow_putRowAR {w : World} {base g c n q : Nat} {rs ds : List AR} (h : w.ownsRow base 67 4 (.slice (some ⟨g, 0, none⟩) n c) n (rs.flatMap encAR)) (hd : ds.length = n) :
    (putRowK encAR 4 (Sort.ahead w q) g 0 ds.toArray).ownsRow base 67 4 (.slice (some ⟨g, 0, none⟩) n c) n (ds.flatMap encAR) := by
  unfold putRowK
  rw [flatAR]
  generalize hys : ds.flatMap encAR = ys
  have hy : ys.length = n * 4 := by rw [← hys, encARs_len, hd]
  rcases h.2 with ⟨e0, _⟩ | ⟨g', cap', cur, e0, hb, hg, hn, hm, hs, ht⟩
  · cases e0
  · injection e0 with e1 _ e3
    injection e1 with e1
    injection e1 with e1
    subst e1; subst e3
    refine ⟨hy, .inr ⟨g, c, putCells id 0 ys.toArray cur, rfl, hb, ?_, hn, hm, by simpa [putCells] using hs, ?_⟩⟩
    · simp [putRow, mapBlock, Sort.ahead, Array.getElem?_modify, hg, onCells]
    · apply List.ext_getElem?
      intro j
      rw [List.getElem?_take, Array.getElem?_toList]
      by_cases hj : j < n * 4
      · have hjc : j < cur.size := by omega
        simp only [if_pos hj, putCells, Array.getElem?_mapIdx, Array.getElem?_eq_getElem hjc, Option.map_some]
        rw [if_pos (by simp; omega), List.getElem?_eq_getElem (by omega)]
        simp [getElem!_pos, show j < ys.length by omega]
      · rw [if_neg hj, List.getElem?_eq_none (by omega)]
theorem below_putRowAR {B : Nat} {w0 w : World} {g q : Nat} {d : Array AR} (h : Below B w0 w) (hg : B ≤ g) : Below B w0 (putRowK encAR 4 (Sort.ahead w q) g 0 d) := Lib.below_putRow h hg
/-- What is sorted by its labels is the sorted list. -/
theorem sortAR {rs : List AR} {d : Array AR} (hn : ((rs.map armR).map ArmL.label).Nodup) (hp : PermIn 0 rs.toArray.size rs.toArray d) (hs : SortedIn (ltOf cmpAR) 0 rs.toArray.size d) : d.toList.map armR = sortA (rs.map armR) := by
  obtain ⟨h1, _, h3⟩ := hp
  have e1 : (d.extract 0 rs.toArray.size).toList = d.toList := by rw [← h1]; simp
  have e2 : (rs.toArray.extract 0 rs.toArray.size).toList = rs := by simp
  rw [e1, e2] at h3
  have hp2 : (d.toList.map armR).Perm (sortA (rs.map armR)) := (h3.map armR).trans (sortA_perm _).symm
  refine upA_ext _ _ ?_ (sortA_up _) ((hp2.map ArmL.label).nodup_iff.2 (labels_sort hn)) hp2
  unfold UpA
  rw [List.pairwise_map, List.pairwise_iff_getElem]
  intro i j hi hj hij
  have hsz : d.toList.length = rs.toArray.size := by rw [Array.length_toList, h1]
  have := hs i j (Nat.zero_le _) hij (by omega)
  rw [ltAR, decide_eq_false_iff_not, List.not_lt] at this
  have hi2 : i < d.size := by simpa using hi
  have hj2 : j < d.size := by simpa using hj
  rw [getElem!_pos d i hi2, getElem!_pos d j hj2] at this
  exact this
/-- The call of slices.SortFunc at a slice of arms that the call made. -/
theorem sortArms_any (base : Nat) (v : Value) (l : List ArmL) (w : World) (hb : base ≤ w.heap.size) (h : AOwn w base v l) (hn : (l.map ArmL.label).Nodup) (hl : l.length ≤ 1000000) :
    Calls Tryz.prog 94 #[v, .func (.func 95) #[] #[]] w fun e w' => e = .returned (.tuple #[]) ∧ AOwn w' base v (sortA l) ∧ Below base w w' := by
  have eg : ∀ args w, (callFunc 95 args).run Tryz.prog w = .ok (.enter 95 args) w := enters_of Tryz.func95 (by kernel_rfl) rfl
  obtain ⟨rs, ho, hrl, hok⟩ := h
  have hlen : rs.length = l.length := by rw [← hrl, List.length_map]
  rcases Nat.eq_zero_or_pos l.length with h0 | h0
  · have hl0 : l = [] := List.eq_nil_of_length_eq_zero h0
    subst hl0
    have hr0 : rs = [] := List.eq_nil_of_length_eq_zero hlen
    subst hr0
    obtain ⟨p, cap, rfl⟩ : ∃ p cap, v = .slice p 0 cap := by
      rcases ho.2 with ⟨e, _⟩ | ⟨g, cap, cur, e, _⟩
      · exact ⟨none, 0, e⟩
      · exact ⟨_, cap, e⟩
    have hc := AnyF.slices_SortFunc_none (P := Tryz.prog) (ρ := Tryz.sortArms_ren) { Tryz.sortArms with } p cap (.func (.func 95) #[] #[]) w
    exact hc.mono fun e w' ⟨he, hw⟩ => by
      subst hw
      exact ⟨he, ⟨[], ho, rfl, by simp⟩, Below.refl _ _⟩
  · rcases ho.2 with ⟨_, e0⟩ | ⟨g, cap, cur, rfl, hbase, hrest⟩
    · omega
    have hH := holdsAR ho
    have hg : g < w.heap.size := (ho.lt g rfl).2
    have hc := AnyQ.slices_SortFunc (P := Tryz.prog) (ρ := Tryz.sortArms_ren) Tryz.sortArms 4 Tryz.isAgg67 Tryz.sizeOf67 encAR (fun _ => rfl) (fun x u hu => encAR_cell (l := [x]) (by simpa using hu)) cmpAR swoAR 95 #[] g 0 cap rs.toArray w eg (cmpLaysAR g 0 _ w) hH hg (by simp; omega)
    rw [show rs.toArray.size = l.length by simp [hlen]] at hc
    refine hc.mono fun e w' h => ?_
    obtain ⟨he, d', nn, os, hp, hs, hw⟩ := h
    have hp' : PermIn 0 rs.toArray.size rs.toArray d' := by rw [show rs.toArray.size = l.length by simp [hlen]]; exact hp
    have hs' : SortedIn (ltOf cmpAR) 0 rs.toArray.size d' := by rw [show rs.toArray.size = l.length by simp [hlen]]; exact hs
    have hfin := sortAR (by rw [hrl]; exact hn) hp' hs'
    rw [hrl] at hfin
    have hdl : d'.toList.length = l.length := by rw [Array.length_toList, hp'.1]; simp [hlen]
    refine ⟨he, ⟨d'.toList, ?_, hfin, fun t ht => ?_⟩, ?_⟩
    · rw [hw, sortA_len]
      unfold sortWorldK
      have := ownsRow_putRowAR (q := nn) ho hdl
      exact ownsRow_grow this os
    · have hpl := hp'.2.2
      rw [show (d'.extract 0 rs.toArray.size).toList = d'.toList by rw [← hp'.1]; simp, show (rs.toArray.extract 0 rs.toArray.size).toList = rs by simp] at hpl
      exact hok t (hpl.mem_iff.1 ht)
    · rw [hw]
      unfold sortWorldK
      refine below_grow (below_putRowAR (Below.refl _ _) hbase) ?_ os
      rw [size_putRowK]
      exact hb
set_option maxHeartbeats 4000000 in
theorem ownSorted_any (a : Option Addr) (n c : Nat) (l : List ArmL) (w : World) (bound : Nat) (h : Arms w bound a n l) (hn : n ≤ 1000) (hnd : (l.map ArmL.label).Nodup) :
    Calls Tryz.prog 68 #[.slice a n c] w fun e w' => (∃ v, e = .returned v ∧ AOwn w' w.heap.size v (sortA l)) ∧ Below w.heap.size w w' := by
  have HA := Lib.hid h
  have HL := Lib.hid h.1
  have HND := Lib.hid hnd
  clear h hnd
  go_enter Tryz.func68, Tryz.ntmps68
  go_wp2_with (first
    | (at_builtin
       refine wpList_append_arms rfl (.const (.slice none 0 0)) (.tmp 4) rfl w.heap.size (.slice none 0 0) [] a n c l rfl rfl (AOwn.zero _ _) (ARow.of_arms HA.out) (Nat.le_refl _) (by simp; omega) ?_
       intro v1 w1 hown hbel
       rw [List.nil_append] at hown
       have HO := Lib.hid hown
       have HB := Lib.hid hbel
       have CS := Lib.hid (sortArms_any w.heap.size v1 l w1 hbel.size hown HND.out (by rw [HL.out]; omega))
       clear hown hbel)
    | (go_at_call 94; (with_reducible refine CS.out.mono ?_)
       rintro e w2 ⟨rfl, hown2, hb2⟩
       have HO2 := Lib.hid hown2
       have HB2 := Lib.hid (HB.out.trans hb2)
       clear hown2 hb2)
    | fail)
  go_ret
  exact ⟨⟨_, rfl, HO2.out⟩, HB2.out⟩
end Go.Proofs.YtiofpeckcfdilaaGreatDoor
