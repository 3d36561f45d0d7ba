/- Contract of the reference's moved: arms in order, each Next replaced by its place in a row. -/
import Derived.Test.YtbbdmipfbnfpfaaGreatTuSame
import Derived.Laws.OwnMore
namespace Go.Proofs.YtbbdmipfbnfpfaaGreat
open Go.RowKit

theorem flatA_set : ∀ (rs : List AR) (j : Nat) (r : AR) (v : Int), rs[j]? = some r → (rs.set j ⟨r.s, r.k, r.u, v⟩).flatMap encAR = (rs.flatMap encAR).set (j * 4 + 3) (.int .i64 v)
  | [], j, r, v, h => by cases h
  | x :: rs, 0, r, v, h => by
    obtain rfl := Option.some.inj h
    rw [List.set_cons_zero, List.flatMap_cons, List.flatMap_cons]
    rfl
  | x :: rs, j + 1, r, v, h => by
    rw [List.set_cons_succ, List.flatMap_cons, List.flatMap_cons, flatA_set rs j r v h]
    have e : (j + 1) * 4 + 3 = (encAR x).length + (j * 4 + 3) := by show _ = 4 + _; omega
    rw [e, List.set_append_right _ _ (by omega), Nat.add_sub_cancel_left]
theorem AOwn.stored {w : World} {base g n c : Nat} {l : List ArmL} (h : AOwn w base (.slice (some ⟨g, 0, none⟩) n c) l) (hn : l.length = n) {j : Nat} {x : ArmL} (hj : l[j]? = some x) (v : Int) :
    AOwn (w.setCell ⟨g, j * 4 + 3, none⟩ (.int .i64 v)) base (.slice (some ⟨g, 0, none⟩) n c) (l.set j ⟨x.label, x.ck, x.cn, v⟩) ∧ w.frozen? ⟨g, j * 4 + 3, none⟩ = false := by
  obtain ⟨rs, h, hl, hok⟩ := h
  subst hn
  have hrl : rs.length = l.length := by rw [← hl, List.length_map]
  have hjl : j < l.length := (List.getElem?_eq_some_iff.1 hj).1
  have hr := List.getElem?_eq_getElem (l := rs) (i := j) (by omega)
  have hx : x = armR (rs[j]'(by omega)) := by
    rw [← hl, List.getElem?_map, hr] at hj
    exact (Option.some.inj hj).symm
  have hst := h.stored (j * 4 + 3) (.int .i64 v)
  refine ⟨⟨rs.set j ⟨(rs[j]'(by omega)).s, (rs[j]'(by omega)).k, (rs[j]'(by omega)).u, v⟩, ?_, ?_, fun t ht => ?_⟩, h.frozenAt _⟩
  · rw [flatA_set rs j _ v hr, List.length_set]
    exact hst.1
  · rw [List.map_set, hl, hx]
    rfl
  · rcases List.mem_or_eq_of_mem_set ht with ht | rfl
    · exact hok t ht
    · have ho := hok _ (List.getElem_mem (by omega : j < rs.length))
      exact ⟨ho.1, ho.2⟩
theorem AOwn.spot {w : World} {base : Nat} {v : Value} {l : List ArmL} (h : AOwn w base v l) (hl : 0 < l.length) : ∃ g c, v = .slice (some ⟨g, 0, none⟩) l.length c ∧ base ≤ g ∧ g < w.heap.size := by
  obtain ⟨rs, h, _, _⟩ := h
  have hlt := h.lt
  rcases h.2 with ⟨_, h0⟩ | ⟨g, cap, cur, rfl, hbase, _⟩
  · omega
  · exact ⟨g, cap, rfl, hbase, (hlt g rfl).2⟩
/-- Some arms moved, the others not yet. -/
def mixA (row : List Nat) (l : List ArmL) (k : Nat) : List ArmL := (l.take k).map (fun a => toA a (row.idxOf a.next.toNat)) ++ l.drop k
theorem mixA_len (row : List Nat) (l : List ArmL) (k : Nat) : (mixA row l k).length = l.length := by
  unfold mixA
  rw [List.length_append, List.length_map, List.length_take, List.length_drop]
  omega
theorem mixA_at {row : List Nat} {l : List ArmL} {k : Nat} {x : ArmL} (h : l[k]? = some x) : (mixA row l k)[k]? = some x ∧ (mixA row l k).set k (toA x (row.idxOf x.next.toNat)) = mixA row l (k + 1) := by
  obtain ⟨h1, e⟩ := List.getElem?_eq_some_iff.1 h
  have hl : ((l.take k).map (fun a => toA a (row.idxOf a.next.toNat))).length = k := by rw [List.length_map, List.length_take]; omega
  unfold mixA
  constructor
  · rw [List.getElem?_append_right (by omega), hl, Nat.sub_self, List.getElem?_drop, Nat.add_zero]
    exact h
  · rw [List.set_append_right _ _ (by omega), hl, Nat.sub_self, tuTake_at h, List.map_append, List.drop_eq_getElem_cons h1, e, List.set_cons_zero, List.append_assoc]
    rfl

set_option maxHeartbeats 8000000 in
set_option maxRecDepth 20000 in
theorem tuMoved_any (a : Option Addr) (n c : Nat) (l : List ArmL) (ra : Option Addr) (rn rc : Nat) (row : List Nat) (w : World) (bound : Nat) (hb : bound ≤ w.heap.size) (h : Arms w bound a n l) (hn : n ≤ 1000) (hr : Nums w bound ra rn (rowI row))
    (hin : ∀ x ∈ l, 0 ≤ x.next ∧ x.next.toNat ∈ row) :
    Calls Tryz.prog 35 #[.slice a n c, .slice ra rn rc] w fun e w' => (∃ v, e = .returned v ∧ AOwn w' w.heap.size v (movedA row l)) ∧ Below w.heap.size w w' := by
  have HSL := Lib.hid (show (sortA l).length = n by rw [sortA_len]; exact h.1)
  have HAL := Lib.hid h
  have HR := Lib.hid hr
  have HIN := Lib.hid (fun (x : ArmL) (hx : x ∈ sortA l) => hin x (mem_sortA.1 hx))
  have HMV := Lib.hid (show mixA row (sortA l) n = movedA row l by
    unfold mixA movedA
    rw [List.take_of_length_le (by rw [HSL.out]; exact Nat.le_refl _), List.drop_of_length_le (by rw [HSL.out]; exact Nat.le_refl _), List.append_nil])
  clear h hr hin
  by_cases hn0 : n = 0
  · subst hn0
    have hs0 : sortA l = [] := List.eq_nil_of_length_eq_zero HSL.out
    have HM0 := Lib.hid (show movedA row l = sortA l by unfold movedA; rw [hs0]; rfl)
    clear hs0
    go_enter Tryz.func35, Tryz.ntmps35
    go_wp2_with (first
      | (go_at_call 43; (with_reducible refine (tuSorted_any a 0 c l _ bound hb HAL.out hn).mono ?_)
         rintro e w2 ⟨⟨vl, he, hvl⟩, hb2⟩
         subst he
         have HVL := Lib.hid hvl
         obtain ⟨la, lc, hva, _, _, _⟩ := hvl.sees (by rw [HSL.out]; omega)
         rw [HSL.out] at hva
         subst hva
         have HB2 := Lib.hid hb2
         clear hvl hb2)
      | fail)
    go_loopw [6] (fun i wr => i = .int .i64 0 ∧ wr = w2) (fun _ _ => 0)
    case atStart => exact ⟨rfl, rfl⟩
    case round =>
      obtain ⟨rfl, rfl⟩ := hrel
      go_wp2
      go_ret
      exact ⟨⟨_, rfl, by rw [HM0.out]; exact HVL.out⟩, HB2.out⟩
  · go_enter Tryz.func35, Tryz.ntmps35
    go_wp2_with (first
      | (go_at_call 43; (with_reducible refine (tuSorted_any a n c l _ bound hb HAL.out hn).mono ?_)
         rintro e w2 ⟨⟨vl, he, hvl⟩, hb2⟩
         subst he
         obtain ⟨lg, lc, hva, hlg, hlg2⟩ := hvl.spot (by rw [HSL.out]; omega)
         rw [HSL.out] at hva
         subst hva
         have HVL := Lib.hid hvl
         have HB2 := Lib.hid hb2
         clear hvl hb2)
      | fail)
    go_loopw [6] (fun i wr => ∃ k : Nat, k ≤ n ∧ i = .int .i64 k ∧ Hid (AOwn wr w.heap.size (.slice (some ⟨lg, 0, none⟩) n lc) (mixA row (sortA l) k)) ∧ Hid (Below w.heap.size w wr)) (fun i _ => n - (intOf i).toNat)
    case atStart => exact ⟨0, Nat.zero_le _, rfl, Lib.hid (by unfold mixA; rw [List.take_zero, List.drop_zero]; exact HVL.out), HB2⟩
    case round =>
      obtain ⟨k, hk, rfl, HO, HBr⟩ := hrel
      have hzr := HBr.out.size
      by_cases hlt : k < n
      · obtain ⟨x, hx⟩ : ∃ x, (sortA l)[k]? = some x := ⟨_, List.getElem?_eq_getElem (by rw [HSL.out]; exact hlt)⟩
        obtain ⟨hm1, hm2⟩ := mixA_at (row := row) hx
        have hmem := HIN.out x (List.mem_of_getElem? hx)
        have hst := HO.out.stored (by rw [mixA_len]; exact HSL.out) hm1 ((row.idxOf x.next.toNat : Nat) : Int)
        obtain ⟨la2, lc2, hva2, hla2, _, _⟩ := HO.out.sees (by rw [mixA_len, HSL.out]; omega)
        rw [mixA_len, HSL.out] at hva2 hla2
        injection hva2 with e1 _ e3
        subst e1 e3
        obtain ⟨b1, o1, s, u, ck, nx, hbe, _, hx1, ⟨q0, q1, q2, q3⟩, _, _⟩ := hla2.at_ hlt
        injection hbe with hbe
        injection hbe with e4 e5 _
        subst e4 e5
        rw [hm1] at hx1
        obtain rfl := Option.some.inj hx1
        dsimp only at hmem hst hm2
        rw [Nat.zero_add] at q3
        obtain ⟨y, hy⟩ : ∃ y : Nat, nx = (y : Int) := ⟨nx.toNat, by omega⟩
        subst hy
        rw [Int.toNat_natCast] at hmem hst hm2
        have CP := Lib.hid (fun W (h : Nums W bound ra rn (rowI row)) => show Calls Tryz.prog 54 #[.slice ra rn rc, .int .i64 (y : Int)] W fun e w' => e = .returned (.int .i64 ((row.idxOf y : Nat) : Int)) ∧ w' = W from
          (tuPlace_any ra rn rc (rowI row) (y : Int) W bound h).mono fun e w' h => ⟨by
            rw [h.1]
            unfold rowI
            rw [idxI_nat, if_pos hmem.2, Nat.zero_add], h.2⟩)
        obtain ⟨pi, hpi⟩ : ∃ pi : Nat, pi = row.idxOf y := ⟨_, rfl⟩
        rw [← hpi] at hst hm2 CP
        have HST := Lib.hid hst.1
        have HM2 := Lib.hid hm2
        have HRr := Lib.hid (HR.out.below (HBr.out.mono hb))
        have fz := hst.2
        have HBS := Lib.hid (HBr.out.setCell (p := ⟨lg, k * 4 + 3, none⟩) hlg (.int .i64 (pi : Int)))
        clear q0 q1 q2 hst hm1 hm2 hx hmem hpi hla2
        go_wp2_with (first
          | (go_at_call 54; (with_reducible refine (CP.out _ HRr.out).mono ?_); rintro e w4 ⟨rfl, rfl⟩)
          | fail)
        go_roundw
        case rel => exact ⟨k + 1, by omega, by go_num, Lib.hid (by rw [← HM2.out]; exact HST.out), HBS⟩
        case measure => simp [intOf]; omega
      · have HZ := Lib.hid (show mixA row (sortA l) k = movedA row l by rw [show k = n by omega]; exact HMV.out)
        go_wp2
        go_ret
        exact ⟨⟨_, rfl, by rw [← HZ.out]; exact HO.out⟩, HBr.out⟩
end Go.Proofs.YtbbdmipfbnfpfaaGreat
