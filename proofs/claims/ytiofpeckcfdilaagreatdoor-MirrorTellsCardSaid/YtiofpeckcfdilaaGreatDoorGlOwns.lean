/- Contracts of the program's isEnd, isIn, isPoint, validRoles. -/
import Derived.Test.YtiofpeckcfdilaaGreatDoorGlMem
import Derived.Test.YtiofpeckcfdilaaGreatDoorGlPlains
import Derived.Test.YtiofpeckcfdilaaGreatDoorRef2
import Derived.Test.YtiofpeckcfdilaaGreatDoorTuOwnV
import Derived.Test.YtiofpeckcfdilaaGreatDoorTuPeers
import Derived.Test.YtiofpeckcfdilaaGreatDoorTuRows
import Derived.Deep.CutRange
import Derived.Deep.RegionHeld3
import Derived.Test.YtiofpeckcfdilaaGreatDoorTuOwnRW
namespace Go.Proofs.YtiofpeckcfdilaaGreatDoor
open Go.RowKit

set_option maxHeartbeats 4000000 in
theorem gIsEnd_any (q s : ByteArray) (aa : Option Addr) (an ac : Nat) (l : List ArmL) (w : World) (hl : l.length = an) :
    Calls Tryz.prog 78 #[.agg #[.string q, .string s, .slice aa an ac]] w fun e w' => e = .returned (.bool (endB ⟨q.toList, s.toList, l⟩)) ∧ Below w.heap.size w w' := by
  have HB := Lib.hid (tu1 w (.cells #[.string q, .string s, .slice aa an ac] 82))
  obtain ⟨R, hR⟩ : ∃ R, R = endB ⟨q.toList, s.toList, l⟩ := ⟨_, rfl⟩
  rw [← hR]
  unfold endB at hR
  dsimp only at hR
  have e0 : ∀ x : ByteArray, (x.toList == []) = x.toList.isEmpty := fun x => by cases x.toList <;> rfl
  have h1 := e0 q
  have h2 := e0 s
  have h3 : l.isEmpty = decide (an = 0) := by subst hl; cases l <;> simp
  rw [h3] at hR
  cases hq : q.toList.isEmpty
  · rw [hq] at hR h1
    have HZ := Lib.hid (show R = false from hR)
    clear hR h2 h3 e0 hq
    go_enter Tryz.func78, Tryz.ntmps78
    go_wp2_with fail
    go_ret
    exact ⟨ret_bool HZ.out.symm, HB.out⟩
  rw [hq] at hR h1
  cases hs : s.toList.isEmpty
  · rw [hs] at hR h2
    have HZ := Lib.hid (show R = false from hR)
    clear hR h3 e0 hq hs
    go_enter Tryz.func78, Tryz.ntmps78
    go_wp2_with fail
    go_ret
    exact ⟨ret_bool HZ.out.symm, HB.out⟩
  rw [hs] at hR h2
  by_cases hn : an = 0
  · subst hn
    have HZ := Lib.hid (show R = true from hR)
    clear hR h3 e0 hq hs
    go_enter Tryz.func78, Tryz.ntmps78
    go_wp2_with fail
    go_ret
    exact ⟨ret_bool HZ.out.symm, HB.out⟩
  · have h0 : ((an : Int) == 0) = false := by rw [beq_eq_false_iff_ne]; omega
    rw [decide_eq_false hn] at hR
    have HZ := Lib.hid (show R = false from hR)
    clear hR h3 e0 hq hs
    go_enter Tryz.func78, Tryz.ntmps78
    go_wp2_with fail
    go_ret
    exact ⟨ret_bool HZ.out.symm, HB.out⟩
set_option maxHeartbeats 4000000 in
theorem gIsIn_any (q s r : ByteArray) (aa : Option Addr) (an ac : Nat) (l : List ArmL) (w : World) :
    Calls Tryz.prog 113 #[.agg #[.string q, .string s, .slice aa an ac], .string r] w fun e w' => e = .returned (.bool (inP ⟨q.toList, s.toList, l⟩ r.toList)) ∧ Below w.heap.size w w' := by
  have HB := Lib.hid (tu1 w (.cells #[.string q, .string s, .slice aa an ac] 82))
  obtain ⟨R, hR⟩ : ∃ R, R = inP ⟨q.toList, s.toList, l⟩ r.toList := ⟨_, rfl⟩
  rw [← hR]
  unfold inP at hR
  dsimp only at hR
  cases hq : (q.toList == r.toList)
  · rw [hq, Bool.false_or] at hR
    have HZ := Lib.hid hR
    clear hR
    go_enter Tryz.func113, Tryz.ntmps113
    go_wp2_with fail
    go_ret
    exact ⟨ret_bool HZ.out.symm, HB.out⟩
  · rw [hq, Bool.true_or] at hR
    have HZ := Lib.hid hR
    clear hR
    go_enter Tryz.func113, Tryz.ntmps113
    go_wp2_with fail
    go_ret
    exact ⟨ret_bool HZ.out.symm, HB.out⟩
set_option maxHeartbeats 4000000 in
theorem gIsPoint_any (nm : ByteArray) (ra : Option Addr) (rn rc : Nat) (a : Option Addr) (n c : Nat) (k : Int) (w : World) :
    Calls Tryz.prog 110 #[.agg #[.string nm, .slice ra rn rc, .slice a n c], .int .i64 k] w fun e w' => e = .returned (.bool (decide (0 ≤ k) && decide (k < (n : Int)))) ∧ Below w.heap.size w w' := by
  have HB := Lib.hid (tu1 w (.cells #[.string nm, .slice ra rn rc, .slice a n c] 37))
  obtain ⟨R, hR⟩ : ∃ R, R = (decide (0 ≤ k) && decide (k < (n : Int))) := ⟨_, rfl⟩
  rw [← hR]
  cases hq : decide (0 ≤ k)
  · rw [hq, Bool.false_and] at hR
    have HZ := Lib.hid hR
    clear hR
    go_enter Tryz.func110, Tryz.ntmps110
    go_wp2_with fail
    go_ret
    exact ⟨ret_bool HZ.out.symm, HB.out⟩
  · rw [hq, Bool.true_and] at hR
    have HZ := Lib.hid hR
    clear hR
    go_enter Tryz.func110, Tryz.ntmps110
    go_wp2_with fail
    go_ret
    exact ⟨ret_bool HZ.out.symm, HB.out⟩
set_option maxHeartbeats 8000000 in
theorem gRoles_any (a : Option Addr) (n c : Nat) (rs : List Str) (w : World) (h : Strs w w.heap.size a n rs) :
    Calls Tryz.prog 47 #[.slice a n c] w fun e w' => e = .returned (.bool (rolesB rs)) ∧ Below w.heap.size w w' := by
  have HLEN := Lib.hid h.1
  have hsm := h.2.1
  have HN := Lib.hid h
  obtain ⟨R, hR⟩ : ∃ R, R = rolesB rs := ⟨_, rfl⟩
  rw [← hR]
  have HR := Lib.hid hR
  clear hR
  by_cases h2 : (n : Int) < 2
  · have d2 : decide ((n : Int) < 2) = true := decide_eq_true h2
    have HZ := Lib.hid (HR.out.trans (rolesB_few (.inl (by rw [HLEN.out]; omega))))
    clear h2 h
    go_enter Tryz.func47, Tryz.ntmps47
    go_wp2_with fail
    go_ret
    exact ⟨ret_bool HZ.out.symm, Below.refl _ _⟩
  have d2 : decide ((n : Int) < 2) = false := decide_eq_false h2
  by_cases h5 : 5 < (n : Int)
  · have d5 : decide (5 < (n : Int)) = true := decide_eq_true h5
    have HZ := Lib.hid (HR.out.trans (rolesB_few (.inr (by rw [HLEN.out]; omega))))
    clear h2 h5 h
    go_enter Tryz.func47, Tryz.ntmps47
    go_wp2_with fail
    go_ret
    exact ⟨ret_bool HZ.out.symm, Below.refl _ _⟩
  have d5 : decide (5 < (n : Int)) = false := decide_eq_false h5
  have hn2 : 2 ≤ n := by omega
  have hn5 : n ≤ 5 := by omega
  have CO := Lib.hid (once_any a n c rs w h)
  clear h2 h5 h
  go_enter Tryz.func47, Tryz.ntmps47
  go_wp2_with fail
  go_loop [15] (fun i => ∃ k : Nat, k ≤ n ∧ i = .int .i64 k ∧ Hid (∀ j r, j < k → rs[j]? = some r → may r = true)) (fun i => n - (intOf i).toNat)
  case atStart => exact ⟨0, Nat.zero_le _, rfl, Lib.hid (fun j r hj => by omega)⟩
  case round =>
    obtain ⟨k, hk, rfl, HK⟩ := hrel
    by_cases hlt : k < n
    · obtain ⟨b, off, t, rfl, hbb, ht, hc⟩ := HN.out.part1 hlt
      have hts : t.size ≤ maxLen := by
        have := HN.out.max t.toList (List.mem_of_getElem? ht)
        rwa [len_toList] at this
      have i1 : (k : Int) < (n : Int) := by omega
      have i2 : (0 : Int) ≤ (k : Int) := by omega
      have CM := Lib.hid (fun W => may_any t W hts)
      cases hm : may t.toList
      · rw [hm] at CM
        have HZ := Lib.hid (HR.out.trans (rolesB_one ht hm))
        clear ht hm
        go_wp2_with (first
          | (go_at_call 26; (with_reducible refine (CM.out _).mono ?_)
             rintro e w1 ⟨rfl, rfl⟩)
          | fail)
        go_ret
        exact ⟨ret_bool HZ.out.symm, Below.refl _ _⟩
      · rw [hm] at CM
        have HK2 := Lib.hid (show ∀ j r, j < k + 1 → rs[j]? = some r → may r = true from fun j r hj hjr => by
          by_cases e : j = k
          · subst e
            rw [ht] at hjr
            rw [← Option.some.inj hjr]
            exact hm
          · exact HK.out j r (by omega) hjr)
        clear ht hm
        go_wp2_with (first
          | (go_at_call 26; (with_reducible refine (CM.out _).mono ?_)
             rintro e w1 ⟨rfl, rfl⟩)
          | fail)
        go_round
        case rel => exact ⟨k + 1, by omega, by go_num, HK2⟩
        case measure => simp [intOf]; omega
    · have d1 : decide ((k : Int) < (n : Int)) = false := decide_eq_false (by omega)
      have HZ := Lib.hid (show R = once rs from by
        cases ho : once rs
        · exact HR.out.trans (rolesB_twice ho)
        · exact HR.out.trans (rolesB_good (by rw [HLEN.out]; exact hn2) (by rw [HLEN.out]; exact hn5) ho (fun j r hj hjr => HK.out j r (by have := HLEN.out; omega) hjr)))
      go_wp2_with (first
        | (go_at_call 77; (with_reducible refine CO.out.mono ?_)
           rintro e w4 ⟨rfl, hb4⟩
           have HB4 := Lib.hid hb4
           clear hb4)
        | fail)
      go_ret
      exact ⟨ret_bool HZ.out.symm, HB4.out⟩
end Go.Proofs.YtiofpeckcfdilaaGreatDoor

/- Contract of the program's graph: the points as turns. -/
namespace Go.Proofs.YtiofpeckcfdilaaGreatDoor
open Go.RowKit

/-- The array holds these turns; their arms lie below a bound. -/
def GArr (W : World) (bound g n : Nat) (f : List TurnL) : Prop :=
  (∃ cur : Array Value, W.heap[g]? = some (.cells cur 51 (0, 0))) ∧ f.length = n ∧ n ≤ 1000 ∧ ∀ (j : Nat) (t : TurnL), f[j]? = some t → ∃ (s : ByteArray) (aa : Option Addr) (an ac : Nat),
    (W.cell? ⟨g, j * 3, none⟩ = some (.int .i64 t.kind) ∧ W.cell? ⟨g, j * 3 + 1, none⟩ = some (.string s) ∧ W.cell? ⟨g, j * 3 + 2, none⟩ = some (.slice aa an ac)) ∧
    (s.toList = t.peer ∧ s.size ≤ maxLen ∧ Arms W bound aa an t.arms)
theorem GArr.lt {W : World} {bound g n : Nat} {f : List TurnL} (h : GArr W bound g n f) : g < W.heap.size := by
  obtain ⟨⟨cur, h⟩, _⟩ := h
  exact (Array.getElem?_eq_some_iff.1 h).1
theorem GArr.turns {W : World} {bound g n : Nat} {f : List TurnL} (h : GArr W bound g n f) (hb : bound ≤ W.heap.size) : Turns W W.heap.size (some ⟨g, 0, none⟩) n f := by
  have hl := h.lt
  obtain ⟨_, h1, h2, h3⟩ := h
  refine ⟨h1, by omega, fun _ => ⟨g, 0, rfl, hl, fun j t hj => ?_⟩⟩
  obtain ⟨s, aa, an, ac, ⟨c0, c1, c2⟩, e1, e2, e3⟩ := h3 j t hj
  rw [Nat.zero_add]
  exact ⟨s, aa, an, ac, ⟨c0, c1, c2⟩, e1, e2, e3.more hb⟩
theorem GArr.thaw {W : World} {bound g n : Nat} {f : List TurnL} (h : GArr W bound g n f) (o : Nat) : W.frozen? ⟨g, o, none⟩ = false := by
  obtain ⟨⟨cur, h⟩, _⟩ := h
  unfold World.frozen?
  rw [h]
  simp
theorem GArr.on {W W' : World} {bound g n : Nat} {f : List TurnL} (h : GArr W bound g n f) (hb : Below W.heap.size W W') (hle : bound ≤ W.heap.size) : GArr W' bound g n f := by
  have hl := h.lt
  obtain ⟨⟨cur, h0⟩, h1, h2, h3⟩ := h
  refine ⟨⟨cur, (hb.block g hl).trans h0⟩, h1, h2, fun j t hj => ?_⟩
  obtain ⟨s, aa, an, ac, ⟨c0, c1, c2⟩, e1, e2, e3⟩ := h3 j t hj
  exact ⟨s, aa, an, ac, ⟨(hb.cell hl).trans c0, (hb.cell hl).trans c1, (hb.cell hl).trans c2⟩, e1, e2, e3.below (hb.mono hle)⟩
theorem GArr.keep {W W' : World} {bound g n : Nat} {f : List TurnL} (h : GArr W bound g n f) (hk : ∀ b, b < bound ∨ b = g → W'.heap[b]? = W.heap[b]?) : GArr W' bound g n f := by
  obtain ⟨⟨cur, h0⟩, h1, h2, h3⟩ := h
  have hc : ∀ o, W'.cell? ⟨g, o, none⟩ = W.cell? ⟨g, o, none⟩ := fun o => World.cell?_of_block (hk g (.inr rfl))
  refine ⟨⟨cur, (hk g (.inr rfl)).trans h0⟩, h1, h2, fun j t hj => ?_⟩
  obtain ⟨s, aa, an, ac, ⟨c0, c1, c2⟩, e1, e2, e3⟩ := h3 j t hj
  exact ⟨s, aa, an, ac, ⟨(hc _).trans c0, (hc _).trans c1, (hc _).trans c2⟩, e1, e2, e3.keep fun p hp => World.cell?_of_block (hk p.block (.inl hp))⟩
theorem GArr.made (W : World) (bound n : Nat) (hn : n ≤ 1000) : GArr (W.alloc (.cells (madeCells #[.int .i64 0, .string ⟨#[]⟩, .slice none 0 0] (n * 3)) 51)) bound W.heap.size n (List.replicate n ⟨0, [], []⟩) := by
  have hnew := heap_alloc_new W (.cells (madeCells #[.int .i64 0, .string ⟨#[]⟩, .slice none 0 0] (n * 3)) 51)
  refine ⟨⟨_, hnew⟩, List.length_replicate, hn, fun j t hj => ?_⟩
  have hjn : j < n := by have := (List.getElem?_eq_some_iff.1 hj).1; rwa [List.length_replicate] at this
  have ht := List.eq_of_mem_replicate (List.mem_of_getElem? hj)
  subst ht
  have hcell : ∀ i, i < 3 → (W.alloc (.cells (madeCells #[.int .i64 0, .string ⟨#[]⟩, .slice none 0 0] (n * 3)) 51)).cell? ⟨W.heap.size, j * 3 + i, none⟩ = (encTR r0T)[i]? := fun i hi => by
    rw [cell_of_row _ _ _ _ _ _ hnew, ← Array.getElem?_toList, made_flat, flatT_at (List.replicate n r0T) j r0T (by rw [List.getElem?_replicate, if_pos hjn]) i hi]
  exact ⟨⟨#[]⟩, none, 0, 0, ⟨hcell 0 (by omega), hcell 1 (by omega), hcell 2 (by omega)⟩, ByteArray.toList_eq _, by simp [maxLen, ByteArray.size], Arms.zero _ _ _⟩
theorem addr_ne {g o o' : Nat} (h : o ≠ o') : (⟨g, o, none⟩ : Addr) ≠ ⟨g, o', none⟩ := fun e => h (Addr.mk.inj e).2.1
/-- A whole turn stored in a place. -/
theorem GArr.put {W : World} {bound g n : Nat} {f : List TurnL} (h : GArr W bound g n f) {k : Nat} (hk : k < n) (kd : Int) (s : ByteArray) (hs : s.size ≤ maxLen) {a : Option Addr} {m d : Nat} {l : List ArmL} (hA : Arms W bound a m l) (hg : bound ≤ g) :
    GArr (((W.setCell ⟨g, k * 3, none⟩ (.int .i64 kd)).setCell ⟨g, k * 3 + 1, none⟩ (.string s)).setCell ⟨g, k * 3 + 2, none⟩ (.slice a m d)) bound g n (f.set k ⟨kd, s.toList, l⟩) := by
  obtain ⟨⟨cur, h0⟩, h1, h2, h3⟩ := h
  have hset : ∀ (V : World) (cur : Array Value) (o : Nat) (u : Value), V.heap[g]? = some (.cells cur 51 (0, 0)) → ∃ cur2 : Array Value, (V.setCell ⟨g, o, none⟩ u).heap[g]? = some (.cells cur2 51 (0, 0)) := fun V cur o u hV => by
    obtain ⟨hlt, hk2⟩ := Array.getElem?_eq_some_iff.1 hV
    refine ⟨cur.set! o u, ?_⟩
    show (V.heap.modify g _)[g]? = _
    rw [Array.getElem?_eq_getElem (by rw [Array.size_modify]; exact hlt), Array.getElem_modify_self, hk2]
    rfl
  obtain ⟨cu1, q1⟩ := hset W cur (k * 3) (.int .i64 kd) h0
  obtain ⟨cu2, q2⟩ := hset _ cu1 (k * 3 + 1) (.string s) q1
  obtain ⟨cu3, q3⟩ := hset _ cu2 (k * 3 + 2) (.slice a m d) q2
  have far : ∀ p : Addr, p.block < bound → (((W.setCell ⟨g, k * 3, none⟩ (.int .i64 kd)).setCell ⟨g, k * 3 + 1, none⟩ (.string s)).setCell ⟨g, k * 3 + 2, none⟩ (.slice a m d)).cell? p = W.cell? p := fun p hp => by
    have hne : ∀ o, (⟨g, o, none⟩ : Addr).block ≠ p.block := fun o => by show g ≠ p.block; omega
    rw [World.cell?_setCell_far _ _ _ _ (hne _), World.cell?_setCell_far _ _ _ _ (hne _), World.cell?_setCell_far _ _ _ _ (hne _)]
  refine ⟨⟨cu3, q3⟩, by rw [List.length_set]; exact h1, h2, fun j t hj => ?_⟩
  by_cases e : j = k
  · subst e
    rw [List.getElem?_set_self (by omega)] at hj
    obtain rfl := Option.some.inj hj
    obtain ⟨s0, aa, an, ac, ⟨c0, c1, c2⟩, _⟩ := h3 j _ (List.getElem?_eq_getElem (by omega))
    refine ⟨s, a, m, d, ⟨?_, ?_, ?_⟩, rfl, hs, hA.keep far⟩
    · rw [World.cell?_setCell_other _ _ _ _ (addr_ne (by omega)), World.cell?_setCell_other _ _ _ _ (addr_ne (by omega)), World.cell?_setCell_same _ _ _ c0]
    · rw [World.cell?_setCell_other _ _ _ _ (addr_ne (by omega)), World.cell?_setCell_same _ _ _ ((World.cell?_setCell_other _ _ _ _ (addr_ne (by omega))).trans c1)]
    · rw [World.cell?_setCell_same _ _ _ ((World.cell?_setCell_other _ _ _ _ (addr_ne (by omega))).trans ((World.cell?_setCell_other _ _ _ _ (addr_ne (by omega))).trans c2))]
  · rw [List.getElem?_set_ne (fun q => e q.symm)] at hj
    obtain ⟨s0, aa, an, ac, ⟨c0, c1, c2⟩, e1, e2, e3⟩ := h3 j t hj
    have hx : ∀ i, i < 3 → (((W.setCell ⟨g, k * 3, none⟩ (.int .i64 kd)).setCell ⟨g, k * 3 + 1, none⟩ (.string s)).setCell ⟨g, k * 3 + 2, none⟩ (.slice a m d)).cell? ⟨g, j * 3 + i, none⟩ = W.cell? ⟨g, j * 3 + i, none⟩ := fun i hi => by
      rw [World.cell?_setCell_other _ _ _ _ (addr_ne (by omega)), World.cell?_setCell_other _ _ _ _ (addr_ne (by omega)), World.cell?_setCell_other _ _ _ _ (addr_ne (by omega))]
    exact ⟨s0, aa, an, ac, ⟨(hx 0 (by omega)).trans c0, (hx 1 (by omega)).trans c1, (hx 2 (by omega)).trans c2⟩, e1, e2, e3.keep far⟩
/-- The points up to a place as turns, then turns that nobody has set. -/
def partT (ps : List PointL) (k : Nat) : List TurnL := (ps.take k).map asT ++ List.replicate (ps.length - k) ⟨0, [], []⟩
theorem partT_zero (ps : List PointL) : partT ps 0 = List.replicate ps.length ⟨0, [], []⟩ := by simp [partT]
theorem partT_end {ps : List PointL} {k : Nat} (h : ps.length ≤ k) : partT ps k = ps.map asT := by
  unfold partT
  rw [List.take_of_length_le h, Nat.sub_eq_zero_of_le h]
  simp
theorem partT_len (ps : List PointL) {k : Nat} (h : k ≤ ps.length) : (partT ps k).length = ps.length := by
  unfold partT
  simp
  omega
theorem partT_more {ps : List PointL} {k : Nat} {x : PointL} (h : ps[k]? = some x) : partT ps (k + 1) = (partT ps k).set k (asT x) := by
  have hk := (List.getElem?_eq_some_iff.1 h).1
  unfold partT
  have hl : ((ps.take k).map asT).length = k := by rw [List.length_map, List.length_take]; omega
  rw [List.set_append_right _ _ (by omega), hl, Nat.sub_self, tuTake_at h, List.map_append, List.append_assoc]
  congr 1
  rw [show ps.length - k = (ps.length - (k + 1)) + 1 by omega, List.replicate_succ, List.set_cons_zero]
  rfl
theorem partT_same {ps : List PointL} {k : Nat} {x : PointL} (h : ps[k]? = some x) (he : endB x = true) : partT ps (k + 1) = partT ps k := by
  rw [partT_more h]
  have hk := (List.getElem?_eq_some_iff.1 h).1
  have ha : asT x = ⟨0, [], []⟩ := by unfold asT; rw [if_pos he]
  rw [ha]
  refine List.ext_getElem? fun i => ?_
  by_cases e : i = k
  · subst e
    rw [List.getElem?_set_self (by rw [partT_len ps (by omega)]; omega)]
    unfold partT
    have hl : ((ps.take i).map asT).length = i := by rw [List.length_map, List.length_take]; omega
    rw [List.getElem?_append_right (by omega), hl, Nat.sub_self, List.getElem?_replicate, if_pos (by omega)]
  · rw [List.getElem?_set_ne (fun q => e q.symm)]
theorem asT_on {x : PointL} (h : endB x = false) : asT x = ⟨1, x.src, x.arms⟩ := by
  unfold asT
  rw [if_neg (by rw [h]; simp)]
set_option maxHeartbeats 16000000 in
set_option maxRecDepth 20000 in
theorem gGraph_any (nm : ByteArray) (ra : Option Addr) (rn rc : Nat) (a : Option Addr) (n c : Nat) (ps : List PointL) (w : World) (bound : Nat) (hb : bound ≤ w.heap.size) (h : Pts w bound a n ps) (hn : n ≤ 24) :
    Calls Tryz.prog 79 #[.agg #[.string nm, .slice ra rn rc, .slice a n c]] w fun e w' => (∃ g, e = .returned (.agg #[.string ⟨#[]⟩, .slice (some ⟨g, 0, none⟩) n n]) ∧ Turns w' w'.heap.size (some ⟨g, 0, none⟩) n (ps.map asT)) ∧ Below w.heap.size w w' := by
  obtain ⟨wa, hwa⟩ : ∃ wa, wa = (w.alloc (.cells #[.string nm, .slice ra rn rc, .slice a n c] 37)).alloc (.cells #[.string ⟨#[]⟩, .slice none 0 0] 24) := ⟨_, rfl⟩
  obtain ⟨wb, hwb⟩ : ∃ wb, wb = wa.alloc (.cells (madeCells #[.int .i64 0, .string ⟨#[]⟩, .slice none 0 0] (n * 3)) 51) := ⟨_, rfl⟩
  obtain ⟨wd, hwd⟩ : ∃ wd, wd = wb.alloc (.cells #[.string ⟨#[]⟩, .slice (some ⟨w.heap.size + 2, 0, none⟩) n n] 24) := ⟨_, rfl⟩
  have hsa : wa.heap.size = w.heap.size + 2 := by rw [hwa]; simp
  have hsb : wb.heap.size = w.heap.size + 3 := by rw [hwb]; simp [hsa]
  have hsd : wd.heap.size = w.heap.size + 4 := by rw [hwd]; simp [hsb]
  have hba : Below w.heap.size w wa := by rw [hwa]; exact below_on (tu1 w _) (tu1 _ _)
  have hbb : Below wa.heap.size wa wb := by rw [hwb]; exact tu1 wa _
  have hbd : Below wb.heap.size wb wd := by rw [hwd]; exact tu1 wb _
  have hPa : PBox wa w.heap.size nm ra rn rc a n c := by rw [hwa]; exact (PBox.new w nm ra rn rc a n c).on (tu1 _ _)
  have hXa : LBox wa (w.heap.size + 1) ⟨#[]⟩ none 0 0 := by
    rw [hwa]
    have := LBox.new (w.alloc (.cells #[.string nm, .slice ra rn rc, .slice a n c] 37)) ⟨#[]⟩ none 0 0
    rw [World.size_alloc] at this
    exact this
  have hGb : GArr wb bound (w.heap.size + 2) n (List.replicate n ⟨0, [], []⟩) := by
    rw [hwb]
    have := GArr.made wa bound n (by omega)
    rw [hsa] at this
    exact this
  have hLd : LBox wd (w.heap.size + 3) ⟨#[]⟩ (some ⟨w.heap.size + 2, 0, none⟩) n n := by
    rw [hwd]
    have := LBox.new wb ⟨#[]⟩ (some ⟨w.heap.size + 2, 0, none⟩) n n
    rw [hsb] at this
    exact this
  have HMK := made_turns n (by omega) wa
  rw [hsa, ← hwb] at HMK
  have HLEN := Lib.hid h.1
  have HN := Lib.hid h
  have HPd := Lib.hid ((hPa.on hbb).on hbd)
  have HXd := Lib.hid ((hXa.on hbb).on hbd)
  have HGd := Lib.hid (hGb.on hbd (by omega))
  have HLd := Lib.hid hLd
  have HBd := Lib.hid (below_on (below_on hba hbb) hbd)
  have HSD := Lib.hid hsd
  obtain ⟨lc0, lc1, lc2⟩ := hPa.cells
  obtain ⟨mc0, mc1, mc2⟩ := (hPa.on hbb).cells
  obtain ⟨nc0, nc1, nc2⟩ := HPd.out.cells
  have HWD := Lib.hid hwd
  have HWA := Lib.hid hwa
  clear h hPa hXa hGb hLd hba hbb hbd hwb hwd hwa
  go_enter Tryz.func79, Tryz.ntmps79
  go_upto_region 1 with fail
  rw [← HWA.out]
  go_upto_region 2 with fail
  try rw [hsb]
  rw [← HWD.out]
  go_wp2_with fail
  go_loopw [14] (fun i wr => ∃ k : Nat, k ≤ n ∧ i = .int .i64 k ∧ Hid (GArr wr bound (w.heap.size + 2) n (partT ps k)) ∧ Hid (LBox wr (w.heap.size + 3) ⟨#[]⟩ (some ⟨w.heap.size + 2, 0, none⟩) n n) ∧ Hid (PBox wr w.heap.size nm ra rn rc a n c) ∧ Hid (LBox wr (w.heap.size + 1) ⟨#[]⟩ none 0 0) ∧ Hid (Below w.heap.size w wr)) (fun i _ => n - (intOf i).toNat)
  case atStart => exact ⟨0, Nat.zero_le _, rfl, Lib.hid (by rw [partT_zero, HLEN.out]; exact HGd.out), HLd, HPd, HXd, HBd⟩
  case round =>
    obtain ⟨k, hk, rfl, HG, HL, HP, HX, HB⟩ := hrel
    have hzl := HL.out.lt
    have hzw := HB.out.size
    obtain ⟨pc0, pc1, pc2⟩ := HP.out.cells
    by_cases hlt : k < n
    · obtain ⟨b, off, q, s, aa, an, ac, l, rfl, hbb, hx, ⟨q0, q1, q2⟩, hq, hs, hal⟩ := HN.out.at_ hlt
      have r0 := (HB.out.cell (p := ⟨b, off + k * 3, none⟩) (by show b < _; omega)).trans q0
      have r1 := (HB.out.cell (p := ⟨b, off + k * 3 + 1, none⟩) (by show b < _; omega)).trans q1
      have r2 := (HB.out.cell (p := ⟨b, off + k * 3 + 2, none⟩) (by show b < _; omega)).trans q2
      have i1 : (k : Int) < (n : Int) := by omega
      have i2 : (0 : Int) ≤ (k : Int) := by omega
      obtain ⟨wx, hwx⟩ : ∃ wx, wx = wr.alloc (.cells #[.string q, .string s, .slice aa an ac] 82) := ⟨_, rfl⟩
      have hbx : Below wr.heap.size wr wx := by rw [hwx]; exact tu1 wr _
      have hxb : wx.heap[wr.heap.size]? = some (.cells #[.string q, .string s, .slice aa an ac] 82 (0, 0)) := by rw [hwx]; exact heap_alloc_new wr _
      have HBX := Lib.hid (below_on HB.out hbx)
      have HPX := Lib.hid (show wx.heap[wr.heap.size]? = some (.cells #[.string q, .string s, .slice aa an ac] 82 (0, 0)) from hxb)
      have HGX := Lib.hid (HG.out.on hbx (by omega))
      have HLX := Lib.hid (HL.out.on hbx)
      have HQX := Lib.hid (HP.out.on hbx)
      have HXX := Lib.hid (HX.out.on hbx)
      have hzx : wr.heap.size < wx.heap.size := by rw [hwx]; simp
      have x0 : wx.cell? ⟨wr.heap.size, 0, none⟩ = some (.string q) := by rw [cell_of_row _ _ _ _ _ _ hxb]; rfl
      have x1 : wx.cell? ⟨wr.heap.size, 1, none⟩ = some (.string s) := by rw [cell_of_row _ _ _ _ _ _ hxb]; rfl
      have x2 : wx.cell? ⟨wr.heap.size, 2, none⟩ = some (.slice aa an ac) := by rw [cell_of_row _ _ _ _ _ _ hxb]; rfl
      have CE := Lib.hid (gIsEnd_any q s aa an ac l wx hal.1)
      have HX1 := Lib.hid hx
      have HAL := Lib.hid hal
      have HQS := Lib.hid hq
      have HWX := Lib.hid hwx
      clear q0 q1 q2 hx hq hs hal hbx hxb hwx
      go_upto_region 5 with fail
      rw [← HWX.out]
      cases he : endB ⟨q.toList, s.toList, l⟩
      · rw [he] at CE
        go_wp2_with (first
          | (go_at_call 78; (with_reducible refine CE.out.mono ?_)
             rintro e w3 ⟨rfl, hb3⟩
             have HB3 := Lib.hid (below_on HBX.out hb3)
             have HG3 := Lib.hid (HGX.out.on hb3 (by have := HBX.out.size; omega))
             have HL3 := Lib.hid (HLX.out.on hb3)
             have HQ3 := Lib.hid (HQX.out.on hb3)
             have HX3 := Lib.hid (HXX.out.on hb3)
             obtain ⟨l30, l31⟩ := HL3.out.cells
             have y0 := (hb3.cell (p := ⟨wr.heap.size, 0, none⟩) hzx).trans x0
             have y2 := (hb3.cell (p := ⟨wr.heap.size, 2, none⟩) hzx).trans x2
             obtain ⟨s7, a7, n7, c7, ⟨z0, z1, z2⟩, _⟩ := HG3.out.2.2.2 k _ (List.getElem?_eq_getElem (by rw [partT_len _ (by have := HLEN.out; omega)]; have := HLEN.out; omega))
             have f0 := HG3.out.thaw (k * 3)
             have f1 := HG3.out.thaw (k * 3 + 1)
             have f2 := HG3.out.thaw (k * 3 + 2)
             clear hb3)
          | fail)
        have HG4 := Lib.hid (HG3.out.put (k := k) hlt 1 q HQS.out (d := ac) (HAL.out.below (HB3.out.mono hb)) (by omega))
        have HS3 := Lib.hid (fun (j : Nat) (u0 u1 u2 : Value) (hj : j ≠ w.heap.size + 2) => show (((w3.setCell ⟨w.heap.size + 2, k * 3, none⟩ u0).setCell ⟨w.heap.size + 2, k * 3 + 1, none⟩ u1).setCell ⟨w.heap.size + 2, k * 3 + 2, none⟩ u2).heap[j]? = w3.heap[j]? from (heap_setCell_ne hj).trans ((heap_setCell_ne hj).trans (heap_setCell_ne hj)))
        go_roundw
        case rel => exact ⟨k + 1, by omega, by go_num, Lib.hid (by rw [partT_more HX1.out, asT_on he]; exact HG4.out), Lib.hid ((HS3.out _ _ _ _ (by omega)).trans HL3.out), Lib.hid ((HS3.out _ _ _ _ (by omega)).trans HQ3.out), Lib.hid ((HS3.out _ _ _ _ (by omega)).trans HX3.out), Lib.hid (((HB3.out.setCell (show w.heap.size ≤ w.heap.size + 2 by omega) _).setCell (show w.heap.size ≤ w.heap.size + 2 by omega) _).setCell (show w.heap.size ≤ w.heap.size + 2 by omega) _)⟩
        case measure => simp [intOf]; omega
      · rw [he] at CE
        have HST := Lib.hid (partT_same HX1.out he)
        go_wp2_with (first
          | (go_at_call 78; (with_reducible refine CE.out.mono ?_)
             rintro e w3 ⟨rfl, hb3⟩
             have HB3 := Lib.hid (below_on HBX.out hb3)
             have HG3 := Lib.hid (HGX.out.on hb3 (by have := HBX.out.size; omega))
             have HL3 := Lib.hid (HLX.out.on hb3)
             have HQ3 := Lib.hid (HQX.out.on hb3)
             have HX3 := Lib.hid (HXX.out.on hb3)
             clear hb3)
          | fail)
        go_roundw
        case rel => exact ⟨k + 1, by omega, by go_num, Lib.hid (by rw [HST.out]; exact HG3.out), HL3, HQ3, HX3, HB3⟩
        case measure => simp [intOf]; omega
    · have HZ := Lib.hid (show partT ps k = ps.map asT from partT_end (by have := HLEN.out; omega))
      have d1 : decide ((k : Int) < (n : Int)) = false := decide_eq_false (by omega)
      obtain ⟨lc0', lc1'⟩ := HL.out.cells
      obtain ⟨xc0, xc1⟩ := HX.out.cells
      have f0 := HX.out.thaw 0
      have f1 := HX.out.thaw 1
      go_wp2_with fail
      refine bodyPost_ret (v := .agg #[.string ⟨#[]⟩, .slice (some ⟨w.heap.size + 2, 0, none⟩) n n]) (by simp [results, go_sem, xc0, xc1]) rfl ?_
      have hT := (HG.out.keep (W' := (wr.setCell ⟨w.heap.size + 1, 0, none⟩ (.string ⟨#[]⟩)).setCell ⟨w.heap.size + 1, 1, none⟩ (.slice (some ⟨w.heap.size + 2, 0, none⟩) n n)) (fun b hbb => (heap_setCell_ne (by omega)).trans (heap_setCell_ne (by omega)))).turns (by simp; omega)
      rw [HZ.out] at hT
      exact ⟨⟨w.heap.size + 2, rfl, hT⟩, (HB.out.setCell (by simp) _).setCell (by simp) _⟩
end Go.Proofs.YtiofpeckcfdilaaGreatDoor

/- Contracts of the program's validPoints and May (package globe). -/
namespace Go.Proofs.YtiofpeckcfdilaaGreatDoor
open Go.RowKit

theorem seatB_form (rs : List Str) (q s : Str) (l : List ArmL) : seatB rs ⟨q, s, l⟩ = (endB ⟨q, s, l⟩ || (hasS rs q && hasS rs s && !(q == s))) := by
  unfold seatB hasS
  have e : ∀ x : Str, decide (x ∈ rs) = rs.contains x := fun x => by
    rw [Bool.eq_iff_iff, decide_eq_true_eq, List.contains_iff_mem]
  have e2 : decide (q ≠ s) = !(q == s) := by
    by_cases h : q = s
    · subst h; simp
    · rw [decide_eq_true h, beq_eq_false_iff_ne.2 h]; rfl
  rw [e, e, e2]
set_option maxHeartbeats 16000000 in
set_option maxRecDepth 20000 in
theorem gPoints_any (nm : ByteArray) (ra : Option Addr) (rn rc : Nat) (rs : List Str) (a : Option Addr) (n c : Nat) (ps : List PointL) (w : World) (bound : Nat) (hb : bound ≤ w.heap.size) (hr : Strs w bound ra rn rs) (h : Pts w bound a n ps) :
    Calls Tryz.prog 48 #[.agg #[.string nm, .slice ra rn rc, .slice a n c]] w fun e w' => e = .returned (.bool (ptsB rs ps)) ∧ Below w.heap.size w w' := by
  have HB0 := Lib.hid (tu1 w (.cells #[.string nm, .slice ra rn rc, .slice a n c] 37))
  have HP := Lib.hid (PBox.new w nm ra rn rc a n c)
  have HN := Lib.hid h
  have HS := Lib.hid hr
  have HLEN := Lib.hid h.1
  have hnn := h.2.1
  obtain ⟨w1, hw1⟩ : ∃ w1, w1 = w.alloc (.cells #[.string nm, .slice ra rn rc, .slice a n c] 37) := ⟨_, rfl⟩
  rw [← hw1] at HB0 HP
  obtain ⟨R, hR⟩ : ∃ R, R = ptsB rs ps := ⟨_, rfl⟩
  rw [← hR]
  have HR := Lib.hid hR
  have HW := Lib.hid hw1
  obtain ⟨c0, c1, c2⟩ := HP.out.cells
  clear h hr hR hw1
  by_cases h1 : n < 1
  · have d1 : decide ((n : Int) < 1) = true := decide_eq_true (by omega)
    have d1' : (n : Int) < 1 := by omega
    have HZ := Lib.hid (show R = false from HR.out.trans (ptsB_few (.inl (by rw [HLEN.out]; exact h1))))
    go_enter Tryz.func48, Tryz.ntmps48
    go_upto_region 1 with fail
    rw [← HW.out]
    go_wp2_with fail
    go_ret
    exact ⟨ret_bool HZ.out.symm, HB0.out⟩
  have d1 : decide ((n : Int) < 1) = false := decide_eq_false (by omega)
  by_cases h24 : 24 < n
  · have d24 : decide ((24 : Int) < (n : Int)) = true := decide_eq_true (by omega)
    have d24' : (24 : Int) < (n : Int) := by omega
    have HZ := Lib.hid (show R = false from HR.out.trans (ptsB_few (.inr (by rw [HLEN.out]; exact h24))))
    go_enter Tryz.func48, Tryz.ntmps48
    go_upto_region 1 with fail
    rw [← HW.out]
    go_wp2_with fail
    go_ret
    exact ⟨ret_bool HZ.out.symm, HB0.out⟩
  have d24 : decide ((24 : Int) < (n : Int)) = false := decide_eq_false (by omega)
  have hz1 : w1.heap.size = w.heap.size + 1 := by rw [HW.out]; simp
  have CG := Lib.hid (fun (W : World) (hW : Below w.heap.size w W) => gGraph_any nm ra rn rc a n c ps W bound (by have := hW.size; omega) (HN.out.below (hW.mono hb)) (by omega))
  go_enter Tryz.func48, Tryz.ntmps48
  go_upto_region 1 with fail
  rw [← HW.out]
  go_wp2_with fail
  go_loopw [18] (fun i wr => ∃ k : Nat, k ≤ n ∧ i = .int .i64 k ∧ Hid (∀ j x, j < k → ps[j]? = some x → seatB rs x = true) ∧ Hid (Below w1.heap.size w1 wr)) (fun i _ => n - (intOf i).toNat)
  case atStart => exact ⟨0, Nat.zero_le _, rfl, Lib.hid (fun j x hj => by omega), Lib.hid (Below.refl _ _)⟩
  case round =>
    obtain ⟨k, hk, rfl, HK, HBr⟩ := hrel
    have HB := Lib.hid (below_on HB0.out HBr.out)
    have HPr := Lib.hid (HP.out.on HBr.out)
    have hzw := HB.out.size
    have hzr := HBr.out.size
    obtain ⟨pc0, pc1, pc2⟩ := HPr.out.cells
    by_cases hlt : k < n
    · obtain ⟨b, off, q, s, aa, an, ac, l, rfl, hbb, hx, ⟨q0, q1, q2⟩, hq, hs, hal⟩ := HN.out.at_ hlt
      have r0 := (HB.out.cell (p := ⟨b, off + k * 3, none⟩) (by show b < _; omega)).trans q0
      have r1 := (HB.out.cell (p := ⟨b, off + k * 3 + 1, none⟩) (by show b < _; omega)).trans q1
      have r2 := (HB.out.cell (p := ⟨b, off + k * 3 + 2, none⟩) (by show b < _; omega)).trans q2
      have i1 : (k : Int) < (n : Int) := by omega
      have i2 : (0 : Int) ≤ (k : Int) := by omega
      obtain ⟨wx, hwx⟩ : ∃ wx, wx = wr.alloc (.cells #[.string q, .string s, .slice aa an ac] 82) := ⟨_, rfl⟩
      have hbx : Below wr.heap.size wr wx := by rw [hwx]; exact tu1 wr _
      have hxb : wx.heap[wr.heap.size]? = some (.cells #[.string q, .string s, .slice aa an ac] 82 (0, 0)) := by rw [hwx]; exact heap_alloc_new wr _
      have HBX := Lib.hid (below_on HBr.out hbx)
      have HQX := Lib.hid (HPr.out.on hbx)
      have hzx : wr.heap.size < wx.heap.size := by rw [hwx]; simp
      have x0 : wx.cell? ⟨wr.heap.size, 0, none⟩ = some (.string q) := by rw [cell_of_row _ _ _ _ _ _ hxb]; rfl
      have x1 : wx.cell? ⟨wr.heap.size, 1, none⟩ = some (.string s) := by rw [cell_of_row _ _ _ _ _ _ hxb]; rfl
      have x2 : wx.cell? ⟨wr.heap.size, 2, none⟩ = some (.slice aa an ac) := by rw [cell_of_row _ _ _ _ _ _ hxb]; rfl
      have CE := Lib.hid (gIsEnd_any q s aa an ac l wx hal.1)
      have CH := Lib.hid (fun (x : ByteArray) (W : World) (hW : Below w.heap.size w W) => has_any ra rn rc rs x W bound (HS.out.below (hW.mono hb)))
      have HX1 := Lib.hid hx
      have HWX := Lib.hid hwx
      have hform := seatB_form rs q.toList s.toList l
      clear q0 q1 q2 hx hq hs hal hbx hxb hwx
      go_upto_region 6 with fail
      rw [← HWX.out]
      cases he : endB ⟨q.toList, s.toList, l⟩
      · rw [he] at CE hform
        have c1H := CH.out q
        have c2H := CH.out s
        cases hh1 : hasS rs q.toList
        · rw [hh1] at c1H hform
          have HZ := Lib.hid (HR.out.trans (ptsB_bad HX1.out (hform.trans rfl)))
          have C1 := Lib.hid c1H
          clear hform he hh1 c1H c2H CH
          go_wp2_with (first
            | (go_at_call 78; (with_reducible refine CE.out.mono ?_)
               rintro e w3 ⟨rfl, hb3⟩
               have HB3 := Lib.hid (below_on HBX.out hb3)
               have y0 := (hb3.cell (p := ⟨wr.heap.size, 0, none⟩) hzx).trans x0
               have y1 := (hb3.cell (p := ⟨wr.heap.size, 1, none⟩) hzx).trans x1
               obtain ⟨_, _, _⟩ := (HQX.out.on hb3).cells
               clear hb3)
            | (go_at_call 27; (with_reducible refine (C1.out _ (below_on HB0.out HB3.out)).mono ?_)
               rintro e w4 ⟨rfl, rfl⟩)
            | fail)
          go_ret
          exact ⟨ret_bool HZ.out.symm, below_on HB0.out HB3.out⟩
        rw [hh1] at c1H hform
        cases hh2 : hasS rs s.toList
        · rw [hh2] at c2H hform
          have HZ := Lib.hid (HR.out.trans (ptsB_bad HX1.out (hform.trans rfl)))
          have C1 := Lib.hid c1H
          have C2 := Lib.hid c2H
          clear hform he hh1 hh2 c1H c2H CH
          go_wp2_with (first
            | (go_at_call 78; (with_reducible refine CE.out.mono ?_)
               rintro e w3 ⟨rfl, hb3⟩
               have HB3 := Lib.hid (below_on HBX.out hb3)
               have y0 := (hb3.cell (p := ⟨wr.heap.size, 0, none⟩) hzx).trans x0
               have y1 := (hb3.cell (p := ⟨wr.heap.size, 1, none⟩) hzx).trans x1
               obtain ⟨_, _, _⟩ := (HQX.out.on hb3).cells
               clear hb3)
            | (go_at_call 27; (with_reducible refine (C1.out _ (below_on HB0.out HB3.out)).mono ?_)
               rintro e w4 ⟨rfl, rfl⟩)
            | (go_at_call 27; (with_reducible refine (C2.out _ (below_on HB0.out HB3.out)).mono ?_)
               rintro e w5 ⟨rfl, rfl⟩)
            | fail)
          go_ret
          exact ⟨ret_bool HZ.out.symm, below_on HB0.out HB3.out⟩
        rw [hh2] at c2H hform
        cases hh3 : (q.toList == s.toList)
        · rw [hh3] at hform
          have HK2 := Lib.hid (show ∀ j x, j < k + 1 → ps[j]? = some x → seatB rs x = true from fun j x hj hjx => by
            by_cases e : j = k
            · subst e
              rw [HX1.out] at hjx
              rw [← Option.some.inj hjx]
              exact hform
            · exact HK.out j x (by omega) hjx)
          have C1 := Lib.hid c1H
          have C2 := Lib.hid c2H
          clear hform he hh1 hh2 c1H c2H CH
          go_wp2_with (first
            | (go_at_call 78; (with_reducible refine CE.out.mono ?_)
               rintro e w3 ⟨rfl, hb3⟩
               have HB3 := Lib.hid (below_on HBX.out hb3)
               have y0 := (hb3.cell (p := ⟨wr.heap.size, 0, none⟩) hzx).trans x0
               have y1 := (hb3.cell (p := ⟨wr.heap.size, 1, none⟩) hzx).trans x1
               obtain ⟨_, _, _⟩ := (HQX.out.on hb3).cells
               clear hb3)
            | (go_at_call 27; (with_reducible refine (C1.out _ (below_on HB0.out HB3.out)).mono ?_)
               rintro e w4 ⟨rfl, rfl⟩)
            | (go_at_call 27; (with_reducible refine (C2.out _ (below_on HB0.out HB3.out)).mono ?_)
               rintro e w5 ⟨rfl, rfl⟩)
            | fail)
          go_roundw
          case rel => exact ⟨k + 1, by omega, by go_num, HK2, HB3⟩
          case measure => simp [intOf]; omega
        · rw [hh3] at hform
          have HZ := Lib.hid (HR.out.trans (ptsB_bad HX1.out (hform.trans rfl)))
          have C1 := Lib.hid c1H
          have C2 := Lib.hid c2H
          clear hform he hh1 hh2 c1H c2H CH
          go_wp2_with (first
            | (go_at_call 78; (with_reducible refine CE.out.mono ?_)
               rintro e w3 ⟨rfl, hb3⟩
               have HB3 := Lib.hid (below_on HBX.out hb3)
               have y0 := (hb3.cell (p := ⟨wr.heap.size, 0, none⟩) hzx).trans x0
               have y1 := (hb3.cell (p := ⟨wr.heap.size, 1, none⟩) hzx).trans x1
               obtain ⟨_, _, _⟩ := (HQX.out.on hb3).cells
               clear hb3)
            | (go_at_call 27; (with_reducible refine (C1.out _ (below_on HB0.out HB3.out)).mono ?_)
               rintro e w4 ⟨rfl, rfl⟩)
            | (go_at_call 27; (with_reducible refine (C2.out _ (below_on HB0.out HB3.out)).mono ?_)
               rintro e w5 ⟨rfl, rfl⟩)
            | fail)
          go_ret
          exact ⟨ret_bool HZ.out.symm, below_on HB0.out HB3.out⟩
      · rw [he] at CE hform
        have HK2 := Lib.hid (show ∀ j x, j < k + 1 → ps[j]? = some x → seatB rs x = true from fun j x hj hjx => by
          by_cases e : j = k
          · subst e
            rw [HX1.out] at hjx
            rw [← Option.some.inj hjx]
            exact hform
          · exact HK.out j x (by omega) hjx)
        clear hform he CH
        go_wp2_with (first
          | (go_at_call 78; (with_reducible refine CE.out.mono ?_)
             rintro e w3 ⟨rfl, hb3⟩
             have HB3 := Lib.hid (below_on HBX.out hb3)
             clear hb3)
          | fail)
        go_roundw
        case rel => exact ⟨k + 1, by omega, by go_num, HK2, HB3⟩
        case measure => simp [intOf]; omega
    · have d0 : decide ((k : Int) < (n : Int)) = false := decide_eq_false (by omega)
      have HZ := Lib.hid (show R = locB (ps.map asT) from HR.out.trans (ptsB_end (by rw [HLEN.out]; omega) (by rw [HLEN.out]; omega) (fun x hx => by
        obtain ⟨j, hj⟩ := List.mem_iff_getElem?.1 hx
        exact HK.out j x (by have := (List.getElem?_eq_some_iff.1 hj).1; have := HLEN.out; omega) hj)))
      go_wp2_with (first
        | (go_at_call 79; (with_reducible refine (CG.out _ HB.out).mono ?_)
           rintro e w6 ⟨⟨g, rfl, ht⟩, hb6⟩
           have HB6 := Lib.hid (below_on HB.out hb6)
           have CM := Lib.hid (ownMay_any ⟨#[]⟩ (some ⟨g, 0, none⟩) n n (ps.map asT) w6 _ (Nat.le_refl _) ht)
           clear ht hb6)
        | (go_at_call 53; (with_reducible refine CM.out.mono ?_)
           rintro e w7 ⟨rfl, hb7⟩
           have HB7 := Lib.hid (below_on HB6.out hb7)
           clear hb7)
        | fail)
      go_ret
      exact ⟨ret_bool HZ.out.symm, HB7.out⟩
set_option maxHeartbeats 8000000 in
theorem gMay_any (nm : ByteArray) (hnm : nm.size ≤ maxLen) (ra : Option Addr) (rn rc : Nat) (rs : List Str) (a : Option Addr) (n c : Nat) (ps : List PointL) (w : World) (bound : Nat) (hb : bound ≤ w.heap.size) (hr : Strs w bound ra rn rs) (h : Pts w bound a n ps) :
    Calls Tryz.prog 19 #[.agg #[.string nm, .slice ra rn rc, .slice a n c]] w fun e w' => e = .returned (.bool (protB nm.toList rs ps)) ∧ Below w.heap.size w w' := by
  have HB0 := Lib.hid (tu1 w (.cells #[.string nm, .slice ra rn rc, .slice a n c] 37))
  have HP := Lib.hid (PBox.new w nm ra rn rc a n c)
  obtain ⟨w1, hw1⟩ : ∃ w1, w1 = w.alloc (.cells #[.string nm, .slice ra rn rc, .slice a n c] 37) := ⟨_, rfl⟩
  rw [← hw1] at HB0 HP
  obtain ⟨R, hR⟩ : ∃ R, R = protB nm.toList rs ps := ⟨_, rfl⟩
  rw [← hR]
  have HR := Lib.hid hR
  have HW := Lib.hid hw1
  obtain ⟨c0, c1, c2⟩ := HP.out.cells
  have CN := Lib.hid (fun W => may_any nm W hnm)
  have CR := Lib.hid (fun (W : World) (hW : Below w.heap.size w W) => gRoles_any ra rn rc rs W ((hr.below (hW.mono hb)).more (by have := hW.size; omega)))
  have CP := Lib.hid (fun (W : World) (hW : Below w.heap.size w W) => gPoints_any nm ra rn rc rs a n c ps W bound (by have := hW.size; omega) (hr.below (hW.mono hb)) (h.below (hW.mono hb)))
  clear h hr hR hw1
  cases hm : may nm.toList
  · rw [hm] at CN
    have HZ := Lib.hid (show R = false from HR.out.trans (protB_name hm))
    clear hm
    go_enter Tryz.func19, Tryz.ntmps19
    go_upto_region 1 with fail
    rw [← HW.out]
    go_wp2_with (first
      | (go_at_call 26; (with_reducible refine (CN.out _).mono ?_)
         rintro e w2 ⟨rfl, rfl⟩)
      | fail)
    go_ret
    exact ⟨ret_bool HZ.out.symm, HB0.out⟩
  rw [hm] at CN
  cases hro : rolesB rs
  · rw [hro] at CR
    have HZ := Lib.hid (show R = false from HR.out.trans (protB_roles hro))
    clear hm hro
    go_enter Tryz.func19, Tryz.ntmps19
    go_upto_region 1 with fail
    rw [← HW.out]
    go_wp2_with (first
      | (go_at_call 26; (with_reducible refine (CN.out _).mono ?_)
         rintro e w2 ⟨rfl, rfl⟩)
      | (go_at_call 47; (with_reducible refine (CR.out _ HB0.out).mono ?_)
         rintro e w3 ⟨rfl, hb3⟩
         have HB3 := Lib.hid (below_on HB0.out hb3)
         clear hb3)
      | fail)
    go_ret
    exact ⟨ret_bool HZ.out.symm, HB3.out⟩
  rw [hro] at CR
  have HZ := Lib.hid (show R = ptsB rs ps from HR.out.trans (ptsB_prot hm hro))
  clear hm hro
  go_enter Tryz.func19, Tryz.ntmps19
  go_upto_region 1 with fail
  rw [← HW.out]
  go_wp2_with (first
    | (go_at_call 26; (with_reducible refine (CN.out _).mono ?_)
       rintro e w2 ⟨rfl, rfl⟩)
    | (go_at_call 47; (with_reducible refine (CR.out _ HB0.out).mono ?_)
       rintro e w3 ⟨rfl, hb3⟩
       have HB3 := Lib.hid (below_on HB0.out hb3)
       obtain ⟨_, _, _⟩ := (HP.out.on hb3).cells
       clear hb3)
    | (go_at_call 48; (with_reducible refine (CP.out _ HB3.out).mono ?_)
       rintro e w4 ⟨rfl, hb4⟩
       have HB4 := Lib.hid (below_on HB3.out hb4)
       clear hb4)
    | fail)
  go_ret
  exact ⟨ret_bool HZ.out.symm, HB4.out⟩
end Go.Proofs.YtiofpeckcfdilaaGreatDoor

/- Contracts of the program's Reach and Walk (package globe), and of has. -/
namespace Go.Proofs.YtiofpeckcfdilaaGreatDoor
open Go.RowKit

section
variable (nm : ByteArray) (hnm : nm.size ≤ maxLen) (ra : Option Addr) (rn rc : Nat) (rs : List Str) (a : Option Addr) (n c : Nat) (ps : List PointL) (w : World) (bound : Nat) (hb : bound ≤ w.heap.size) (hr : Strs w bound ra rn rs) (h : Pts w bound a n ps)
include hnm hb hr h
set_option maxHeartbeats 8000000 in
theorem gHas_any (r : ByteArray) :
    Calls Tryz.prog 109 #[.agg #[.string nm, .slice ra rn rc, .slice a n c], .string r] w fun e w' => e = .returned (.bool (protB nm.toList rs ps && hasS rs r.toList)) ∧ Below w.heap.size w w' := by
  have HB0 := Lib.hid (tu1 w (.cells #[.string nm, .slice ra rn rc, .slice a n c] 37))
  have HP := Lib.hid (PBox.new w nm ra rn rc a n c)
  obtain ⟨c0, c1, c2⟩ := HP.out.cells
  have CM := Lib.hid (fun (W : World) (hW : Below w.heap.size w W) => gMay_any nm hnm ra rn rc rs a n c ps W bound (by have := hW.size; omega) (hr.below (hW.mono hb)) (h.below (hW.mono hb)))
  have CH := Lib.hid (fun (W : World) (hW : Below w.heap.size w W) => has_any ra rn rc rs r W bound (hr.below (hW.mono hb)))
  obtain ⟨R, hR⟩ : ∃ R, R = (protB nm.toList rs ps && hasS rs r.toList) := ⟨_, rfl⟩
  rw [← hR]
  cases hv : protB nm.toList rs ps
  · rw [hv] at CM hR
    have HZ := Lib.hid (show R = false from hR)
    clear h hr hv hR
    go_enter Tryz.func109, Tryz.ntmps109
    go_wp2_with (first
      | (go_at_call 19; (with_reducible refine (CM.out _ HB0.out).mono ?_)
         rintro e w1 ⟨rfl, hb1⟩
         have HB1 := Lib.hid (below_on HB0.out hb1)
         clear hb1)
      | fail)
    go_ret
    exact ⟨ret_bool HZ.out.symm, HB1.out⟩
  · rw [hv] at CM hR
    have HZ := Lib.hid (show R = hasS rs r.toList from hR)
    clear h hr hv hR
    go_enter Tryz.func109, Tryz.ntmps109
    go_wp2_with (first
      | (go_at_call 19; (with_reducible refine (CM.out _ HB0.out).mono ?_)
         rintro e w1 ⟨rfl, hb1⟩
         have HB1 := Lib.hid (below_on HB0.out hb1)
         obtain ⟨_, _, _⟩ := (HP.out.on hb1).cells
         clear hb1)
      | (go_at_call 27; (with_reducible refine (CH.out _ HB1.out).mono ?_)
         rintro e w2 ⟨rfl, rfl⟩)
      | fail)
    go_ret
    exact ⟨ret_bool HZ.out.symm, HB1.out⟩
end
end Go.Proofs.YtiofpeckcfdilaaGreatDoor
