/- What the statements' pair answers: a valid local type that has no peer but a. -/
import Derived.Test.YtiofpeckcfdilaaMiLocT
import Derived.Test.YtiofpeckcfdilaaMiPlain
import Derived.Test.YtiofpeckcfdilaaMiRow
import Derived.Test.YtiofpeckcfdilaaTuWrongs
namespace Go.Proofs.Ytiofpeckcfdilaa
open Go.RowKit

theorem loc_put {f : List TurnL} {k : Nat} {t : TurnL} (h : locB f = true) (hk : f[k]? = some t) (hne : t.kind ≠ 0) : locB (f.set k ⟨t.kind, [97], t.arms⟩) = true := by
  obtain ⟨h1, h40, hall⟩ := locB_one h
  unfold locB
  rw [List.length_set]
  simp only [Bool.and_eq_true, decide_eq_true_eq, List.all_eq_true]
  refine ⟨⟨h1, h40⟩, fun u hu => ?_⟩
  rcases List.mem_or_eq_of_mem_set hu with hu | rfl
  · exact hall u hu
  · rcases turnB_arms (hall t (List.mem_of_getElem? hk)) with ⟨e, _, _⟩ | ⟨e, _, e3⟩
    · exact absurd e hne
    · unfold turnB
      rw [if_neg (by exact hne), if_pos (by exact e), e3]
      rfl
theorem ty_pa (W : World) (g : Nat) (hg : g < W.heap.size) : TyIn (W.alloc (.cells #[.string ⟨#[112, 46, 97]⟩] 9)) g (some ⟨W.heap.size, 0, none⟩) 1 := by
  refine ⟨by omega, fun j hj => ?_⟩
  obtain rfl : j = 0 := by omega
  refine ⟨W.heap.size, 0, ⟨#[112, 46, 97]⟩, rfl, by omega, by simp, ?_, by simp [maxLen, ByteArray.size], ?_⟩
  · rw [cell_of_row _ _ _ _ _ _ (heap_alloc_new W _)]; rfl
  · rw [ByteArray.toList_eq]; decide
def PairRet (w : World) (e : Ending) (w' : World) : Prop :=
  (∃ sa sn sc ts, e = .returned (.agg #[.string ⟨#[116]⟩, .slice sa sn sc]) ∧ Turns w' w'.heap.size sa sn ts ∧ ts.length = sn ∧ locB ts = true ∧ ts.length ≤ 6 ∧ ∀ t ∈ ts, t.kind ≠ 0 → t.peer = [97]) ∧ Below w.heap.size w w'
/-- The first k turns have no peer but a. -/
def DoneTo (f : List TurnL) (k : Nat) : Prop := ∀ j, j < k → ∀ t, f[j]? = some t → t.kind ≠ 0 → t.peer = [97]
theorem DoneTo.skip {f : List TurnL} {k : Nat} {t : TurnL} (h : DoneTo f k) (hk : f[k]? = some t) (h0 : t.kind = 0) : DoneTo f (k + 1) := fun j hj u hu hne => by
  rcases Nat.lt_or_ge j k with hlt | hge
  · exact h j hlt u hu hne
  · obtain rfl : j = k := by omega
    rw [hk] at hu
    obtain rfl := Option.some.inj hu
    exact absurd h0 hne
theorem DoneTo.put {f : List TurnL} {k : Nat} {t : TurnL} (h : DoneTo f k) (hk : f[k]? = some t) : DoneTo (f.set k ⟨t.kind, [97], t.arms⟩) (k + 1) := fun j hj u hu hne => by
  have hkl := (List.getElem?_eq_some_iff.1 hk).1
  rcases Nat.lt_or_ge j k with hlt | hge
  · rw [List.getElem?_set_ne (by omega)] at hu
    exact h j hlt u hu hne
  · obtain rfl : j = k := by omega
    rw [List.getElem?_set_self hkl] at hu
    obtain rfl := Option.some.inj hu
    rfl
theorem a_list : (⟨#[97]⟩ : ByteArray).toList = [97] := by rw [ByteArray.toList_eq]
set_option maxHeartbeats 8000000 in
set_option maxRecDepth 20000 in
theorem pair_any (a : Option Addr) (n c : Nat) (l : List Int) (w : World) (h : Nums w w.heap.size a n l) (hlim : n * 8 ≤ 140737488351232) :
    Calls Try.prog 18 #[.slice a n c] w fun e w' => PairRet w e w' := by
  have HN := Lib.hid h
  have HB0 := Lib.hid (tu1 w (.cells #[.string ⟨#[]⟩, .slice none 0 0] 38))
  have HX0 := Lib.hid (LBox.new w ⟨#[]⟩ none 0 0)
  clear h
  go_enter Try.func18, Try.ntmps18
  go_upto_region 2 with (first
    | (go_at_call 27; (with_reducible refine (new_any a n c l _ w.heap.size (HN.out.below HB0.out) hlim).mono ?_)
       rintro e w1 ⟨g, rfl, hd1, hg1, hb1⟩
       have HD1 := Lib.hid hd1
       have HB1 := Lib.hid (below_on HB0.out hb1)
       have HX1 := Lib.hid (HX0.out.on hb1)
       have HTY := Lib.hid (ty_pa w1 g hd1.lt)
       have hg0 : w.heap.size < g := by rw [World.size_alloc] at hg1; omega
       clear hd1 hb1 hg1)
    | (go_at_call 46; (with_reducible refine (localT_any g ⟨#[116]⟩ (some ⟨w1.heap.size, 0, none⟩) 1 1 _ (HD1.out.on (tu1 w1 _)) HTY.out).mono ?_)
       rintro e w3 ⟨⟨sa, sn, sc, ts, rfl, hm3, hln, hloc, hfew⟩, hb3⟩
       have hz1 := HB1.out.size
       have HB3 := Lib.hid (show Below w.heap.size w w3 from (HB1.out.trans ((tu1 w1 (.cells #[.string ⟨#[112, 46, 97]⟩] 9)).mono hz1)).trans (hb3.below (by omega) (by simp; omega)))
       have HX3 := Lib.hid ((HX1.out.on (tu1 w1 _)).beside hb3 (by omega))
       rw [World.size_alloc] at hm3
       have HO3 := Lib.hid hm3.towns
       have HLOC := Lib.hid hloc
       have HLN := Lib.hid hln
       have hz3 := hb3.size
       rw [World.size_alloc] at hz3
       have hx1 := HX1.out.lt
       have hpos : 0 < sn := by have := (locB_one hloc).1; omega
       have hsn6 : sn ≤ 6 := by omega
       clear hm3 hloc hb3 hln hfew)
    | fail)
  obtain ⟨q, rfl, hq1, hq2⟩ := HO3.out.spot (by have := HLN.out; omega)
  have HL4 := Lib.hid (LBox.new w3 ⟨#[116]⟩ (some ⟨q, 0, none⟩) sn sc)
  have HBX := Lib.hid (tu1 w3 (.cells #[.string ⟨#[116]⟩, .slice (some ⟨q, 0, none⟩) sn sc] 38))
  generalize hw4 : w3.alloc (.cells #[.string ⟨#[116]⟩, .slice (some ⟨q, 0, none⟩) sn sc] 38) = w4 at HL4 HBX ⊢
  clear hw4
  have HO4 := Lib.hid (HO3.out.kept HBX.out (by omega))
  have HB4 := Lib.hid (below_on HB3.out HBX.out)
  have HX4 := Lib.hid (HX3.out.on HBX.out)
  have hx3 := HX3.out.lt
  go_wp2
  go_loopw [4] (fun i wr => ∃ (k : Nat) (f : List TurnL), k ≤ sn ∧ i = .int .i64 k ∧ Hid (TOwn wr (w1.heap.size + 1) (.slice (some ⟨q, 0, none⟩) sn sc) f) ∧ Hid (f.length = sn) ∧ Hid (locB f = true) ∧ Hid (DoneTo f k) ∧ Hid (LBox wr w3.heap.size ⟨#[116]⟩ (some ⟨q, 0, none⟩) sn sc) ∧ Hid (LBox wr w.heap.size ⟨#[]⟩ none 0 0) ∧ Hid (Below w.heap.size w wr)) (fun i _ => sn - (intOf i).toNat)
  case atStart => exact ⟨0, ts, Nat.zero_le _, rfl, HO4, HLN, HLOC, Lib.hid (fun j hj => absurd hj (Nat.not_lt_zero j)), HL4, HX4, HB4⟩
  case round =>
    obtain ⟨k, f, hk, rfl, HO, HFL, HV, HD, HLB, HX, HBr⟩ := hrel
    obtain ⟨bc0, bc1⟩ := HLB.out.cells
    have hzl := HLB.out.lt
    by_cases hkn : k < sn
    · obtain ⟨q', ⟨kd, s, aa, an, ac⟩, t, hqq, hbb, ht, ⟨q0, q1, q2⟩, hvf⟩ := HO.out.at2 hkn
      obtain ⟨hqe, _, _⟩ := Addr.mk.inj (Option.some.inj hqq)
      subst hqe
      dsimp only at q0 q1 q2
      have hkd : kd = t.kind := hvf.1
      have hpt := HO.out.peered HFL.out ht ⟨#[97]⟩ (by simp [maxLen, ByteArray.size])
      have i1 : (k : Int) < (sn : Int) := by omega
      rw [a_list] at hpt
      have fz := hpt.2
      have HPT := Lib.hid hpt.1
      have HT := Lib.hid ht
      have HKD := Lib.hid hkd
      by_cases h0 : kd = 0
      · have HD2 := Lib.hid (HD.out.skip ht (by rw [← hkd]; exact h0))
        subst h0
        clear hpt ht hkd hvf hqq
        go_wp2
        go_roundw
        case rel => exact ⟨k + 1, f, by omega, by go_num, HO, HFL, HV, HD2, HLB, HX, HBr⟩
        case measure => simp [intOf]; omega
      · have HD2 := Lib.hid (HD.out.put ht)
        have HV2 := Lib.hid (loc_put HV.out ht (by rw [← hkd]; exact h0))
        have HL2 := Lib.hid (show (f.set k ⟨t.kind, [97], t.arms⟩).length = sn by rw [List.length_set]; exact HFL.out)
        have n0 : (kd != 0) = true := bne_iff_ne.2 h0
        clear hpt ht hkd hvf hqq h0
        go_wp2
        go_roundw
        case rel => exact ⟨k + 1, _, by omega, by go_num, HPT, HL2, HV2, HD2, Lib.hid ((heap_setCell_ne (by omega)).trans HLB.out), Lib.hid ((heap_setCell_ne (by omega)).trans HX.out), Lib.hid (HBr.out.setCell (by show w.heap.size ≤ q; omega) _)⟩
        case measure => simp [intOf]; omega
    · obtain rfl : k = sn := by omega
      obtain ⟨xc0, xc1⟩ := HX.out.cells
      have xf0 := HX.out.thaw 0
      have xf1 := HX.out.thaw 1
      go_wp2
      refine bodyPost_ret (v := .agg #[.string ⟨#[116]⟩, .slice (some ⟨q, 0, none⟩) k sc]) (by simp [results, go_sem, xc0, xc1]) rfl ?_
      refine ⟨⟨some ⟨q, 0, none⟩, k, sc, f, rfl, ?_, HFL.out, HV.out, by have := HFL.out; omega, fun t ht hne => ?_⟩, (HBr.out.setCell (Nat.le_refl _) _).setCell (Nat.le_refl _) _⟩
      · have h2 := (HO.out.beside ((Beside.refl w.heap.size wr).setCell 0 (.string ⟨#[116]⟩)) (by omega)).beside ((Beside.refl w.heap.size _).setCell 1 (.slice (some ⟨q, 0, none⟩) k sc)) (by omega)
        exact (h2.row (by have := HFL.out; omega)).1
      · obtain ⟨j, hj, e⟩ := List.mem_iff_getElem.1 ht
        exact HD.out j (by have := HFL.out; omega) t (by rw [List.getElem?_eq_getElem hj, e]) hne
end Go.Proofs.Ytiofpeckcfdilaa
