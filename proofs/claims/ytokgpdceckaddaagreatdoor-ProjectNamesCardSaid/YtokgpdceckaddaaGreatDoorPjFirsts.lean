/- Plain: the chapter's example, projected. -/
import Derived.Test.YtokgpdceckaddaaGreatDoorPjMid
namespace Go.Proofs.YtokgpdceckaddaaGreatDoor
open Go.RowKit

def exRoles8 : List Str := [[97], [98], [99]]
def exPts8 : List PointL := [⟨[97], [98], [⟨[120], 0, [], 2⟩, ⟨[121], 0, [], 1⟩]⟩, ⟨[98], [99], [⟨[122], 0, [], 2⟩]⟩, ⟨[], [], []⟩]
theorem ex8_ok : protB [112] exRoles8 exPts8 = true := by decide
theorem sort2 (x y : Str) : sortS [x, y] = if x ≤ y then [x, y] else [y, x] := by
  unfold sortS
  by_cases h : x ≤ y
  · rw [if_pos h]
    simp [List.mergeSort, List.MergeSort.Internal.splitInTwo, h]
  · rw [if_neg h]
    simp [List.mergeSort, List.MergeSort.Internal.splitInTwo, h]
theorem sort1 (x : Str) : sortS [x] = [x] := by simp [sortS]
theorem ex8_lab : labelsP [(⟨[97], [98], [⟨[120], 0, [], 2⟩, ⟨[121], 0, [], 1⟩]⟩ : PointL)] = [[120], [121]] := by
  unfold labelsP
  simp only [List.flatMap_cons, List.flatMap_nil, List.map_cons, List.map_nil, List.append_nil]
  rw [sort2]
  decide
theorem ex8_c : roleQ [112] exRoles8 exPts8 [99] = .error 801 := by kernel_rfl
theorem ex8_t0 : turnP exPts8 [97] [0] [[0]] = .ok (⟨1, [98], [⟨[120], 0, [], 1⟩, ⟨[121], 0, [], 1⟩]⟩, [[0], []]) := by
  unfold turnP
  rw [if_neg (by decide), show labelsP (ptsOf exPts8 [0]) = [[120], [121]] from ex8_lab]
  kernel_rfl
theorem ex8_a : roleQ [112] exRoles8 exPts8 [97] = .ok [⟨1, [98], [⟨[120], 0, [], 1⟩, ⟨[121], 0, [], 1⟩]⟩, ⟨0, [], []⟩] := by
  unfold roleQ
  rw [if_pos (by decide)]
  unfold roleP
  rw [show lookP exPts8 [97] [] [0] = .ok (0, [[0]]) from by kernel_rfl]
  dsimp only
  unfold turnsP
  rw [show ([[0]] : List (List Nat))[0]? = some [0] from rfl]
  dsimp only
  rw [ex8_t0]
  kernel_rfl
end Go.Proofs.YtokgpdceckaddaaGreatDoor

/- Contracts of the statements' given and first (layer 8). -/
namespace Go.Proofs.YtokgpdceckaddaaGreatDoor
open Go.RowKit

theorem str18 (c : UInt8) : (⟨#[c]⟩ : ByteArray).toList = [c] := by rw [ByteArray.toList_eq]
theorem str08 : (⟨#[]⟩ : ByteArray).toList = [] := by rw [ByteArray.toList_eq]
theorem small18 (c : UInt8) : (⟨#[c]⟩ : ByteArray).size ≤ maxLen := by simp [maxLen, ByteArray.size]
theorem small08 : (⟨#[]⟩ : ByteArray).size ≤ maxLen := by simp [maxLen, ByteArray.size]
theorem heap_keep8 {W : World} {k : Nat} {x : Obj} (o : Obj) (h : W.heap[k]? = some x) : (W.alloc o).heap[k]? = some x := ((tu1 W o).block k (Array.getElem?_eq_some_iff.1 h).1).trans h
theorem heap_new_at8 {W : World} {k : Nat} {cs : Array Value} {t : TypeId} (hk : k = W.heap.size) : (W.alloc (.cells cs t)).heap[k]? = some (.cells cs t (0, 0)) := by rw [hk]; exact heap_alloc_new W _
/-- A row of arms in memory. -/
theorem arms_row8 {W : World} {bound b : Nat} (hb : b < bound) (ts : List AR) (hn : ts.length ≤ 1000) (hok : ∀ t ∈ ts, okR t) (h : W.heap[b]? = some (.cells (ts.flatMap encAR).toArray 45 (0, 0))) :
    Arms W bound (some ⟨b, 0, none⟩) ts.length (ts.map armR) := by
  refine ⟨by simp, by omega, fun _ => ⟨b, 0, rfl, hb, fun j x hj => ?_⟩⟩
  rw [List.getElem?_map] at hj
  obtain ⟨t, ht, rfl⟩ := Option.map_eq_some_iff.1 hj
  have hc : ∀ i u, i < 4 → (encAR t)[i]? = some u → W.cell? ⟨b, 0 + j * 4 + i, none⟩ = some u := fun i u hi hu => by
    rw [cell_of_row _ _ _ _ _ _ h, Nat.zero_add, ← Array.getElem?_toList]
    rw [flatA_at ts j t ht i hi]
    exact hu
  have hm := hok t (List.mem_of_getElem? ht)
  exact ⟨t.s, t.u, ⟨hc 0 _ (by omega) rfl, hc 1 _ (by omega) rfl, hc 2 _ (by omega) rfl, hc 3 _ (by omega) rfl⟩, rfl, rfl, hm.1, hm.2⟩
def exG8 (W : World) (S : Nat) : Prop :=
  W.heap[S + 1]? = some (.cells #[.string ⟨#[97]⟩, .string ⟨#[98]⟩, .string ⟨#[99]⟩] 9 (0, 0)) ∧
  W.heap[S + 2]? = some (.cells #[.string ⟨#[120]⟩, .int .i64 0, .string ⟨#[]⟩, .int .i64 2, .string ⟨#[121]⟩, .int .i64 0, .string ⟨#[]⟩, .int .i64 1] 45 (0, 0)) ∧
  W.heap[S + 3]? = some (.cells #[.string ⟨#[122]⟩, .int .i64 0, .string ⟨#[]⟩, .int .i64 2] 45 (0, 0)) ∧
  W.heap[S + 4]? = some (.cells #[.string ⟨#[97]⟩, .string ⟨#[98]⟩, .slice (some ⟨S + 2, 0, none⟩) 2 2, .string ⟨#[98]⟩, .string ⟨#[99]⟩, .slice (some ⟨S + 3, 0, none⟩) 1 1, .string ⟨#[]⟩, .string ⟨#[]⟩, .slice none 0 0] 63 (0, 0))
theorem exG8_in {W : World} {S : Nat} (h : exG8 W S) : PIn W ⟨#[112]⟩ (some ⟨S + 1, 0, none⟩) 3 exRoles8 (some ⟨S + 4, 0, none⟩) 3 exPts8 := by
  obtain ⟨h1, h2, h3, h4⟩ := h
  have l1 := (Array.getElem?_eq_some_iff.1 h1).1
  have l4 := (Array.getElem?_eq_some_iff.1 h4).1
  have hA2 := arms_row8 (bound := W.heap.size) (by omega) [⟨⟨#[120]⟩, 0, ⟨#[]⟩, 2⟩, ⟨⟨#[121]⟩, 0, ⟨#[]⟩, 1⟩] (by simp) (fun t ht => by
    simp only [List.mem_cons, List.not_mem_nil, or_false] at ht
    rcases ht with rfl | rfl
    · exact ⟨small18 120, small08⟩
    · exact ⟨small18 121, small08⟩) h2
  have hA3 := arms_row8 (bound := W.heap.size) (by omega) [⟨⟨#[122]⟩, 0, ⟨#[]⟩, 2⟩] (by simp) (fun t ht => by
    rw [List.mem_singleton.1 ht]
    exact ⟨small18 122, small08⟩) h3
  simp only [List.map_cons, List.map_nil, armR, str18, str08, List.length_cons, List.length_nil, Nat.zero_add, Nat.reduceAdd] at hA2 hA3
  refine ⟨small18 112, ⟨rfl, by omega, by simp [exRoles8, maxLen], fun _ => ⟨S + 1, 0, rfl, l1, fun j s hj => ?_⟩⟩, ⟨rfl, by omega, fun _ => ⟨S + 4, 0, rfl, l4, fun j x hj => ?_⟩⟩⟩
  · have hj2 : j = 0 ∨ j = 1 ∨ j = 2 := by
      have := (List.getElem?_eq_some_iff.1 hj).1
      simp [exRoles8] at this
      omega
    rcases hj2 with rfl | rfl | rfl
    all_goals
      obtain rfl := Option.some.inj hj
      rw [cell_of_row _ _ _ _ _ _ h1]
      rfl
  · have hj2 : j = 0 ∨ j = 1 ∨ j = 2 := by
      have := (List.getElem?_eq_some_iff.1 hj).1
      simp [exPts8] at this
      omega
    rcases hj2 with rfl | rfl | rfl
    · obtain rfl := Option.some.inj hj
      exact ⟨⟨#[97]⟩, ⟨#[98]⟩, some ⟨S + 2, 0, none⟩, 2, 2, ⟨by rw [cell_of_row _ _ _ _ _ _ h4]; rfl, by rw [cell_of_row _ _ _ _ _ _ h4]; rfl, by rw [cell_of_row _ _ _ _ _ _ h4]; rfl⟩, str18 97, str18 98, small18 97, small18 98, hA2⟩
    · obtain rfl := Option.some.inj hj
      exact ⟨⟨#[98]⟩, ⟨#[99]⟩, some ⟨S + 3, 0, none⟩, 1, 1, ⟨by rw [cell_of_row _ _ _ _ _ _ h4]; rfl, by rw [cell_of_row _ _ _ _ _ _ h4]; rfl, by rw [cell_of_row _ _ _ _ _ _ h4]; rfl⟩, str18 98, str18 99, small18 98, small18 99, hA3⟩
    · obtain rfl := Option.some.inj hj
      exact ⟨⟨#[]⟩, ⟨#[]⟩, none, 0, 0, ⟨by rw [cell_of_row _ _ _ _ _ _ h4]; rfl, by rw [cell_of_row _ _ _ _ _ _ h4]; rfl, by rw [cell_of_row _ _ _ _ _ _ h4]; rfl⟩, str08, str08, small08, small08, ⟨rfl, by omega, fun h => absurd h (Nat.lt_irrefl 0)⟩⟩
/-- What given answers. -/
def Given8Ret (w : World) (e : Ending) (w' : World) : Prop := ∃ xa xb, e = .returned (.agg #[.string ⟨#[112]⟩, .slice xa 3 3, .slice xb 3 3]) ∧ PIn w' ⟨#[112]⟩ xa 3 exRoles8 xb 3 exPts8 ∧ Below w.heap.size w w'
set_option maxHeartbeats 8000000 in
set_option maxRecDepth 20000 in
theorem given8_any (w : World) : Calls Tryz.prog 13 #[] w (Given8Ret w) := by
  go_enter Tryz.func13, Tryz.ntmps13
  go_wp2
  refine bodyPost_ret (v := .agg #[.string ⟨#[112]⟩, .slice (some ⟨w.heap.size + 1, 0, none⟩) 3 3, .slice (some ⟨w.heap.size + 4, 0, none⟩) 3 3]) (by simp [results, go_sem]) rfl ?_
  refine ⟨_, _, rfl, exG8_in (S := w.heap.size) ⟨?_, ?_, ?_, ?_⟩, ?_⟩
  · exact heap_keep8 _ (heap_keep8 _ (heap_keep8 _ (heap_new_at8 (by simp))))
  · exact heap_keep8 _ (heap_keep8 _ (heap_new_at8 (by simp)))
  · exact heap_keep8 _ (heap_new_at8 (by simp))
  · exact heap_new_at8 (by simp)
  · exact below_on (below_on (below_on (below_on (tu1 w _) (tu1 _ _)) (tu1 _ _)) (tu1 _ _)) (tu1 _ _)
end Go.Proofs.YtokgpdceckaddaaGreatDoor

/- Contract of the statements' first (layer 8). -/
namespace Go.Proofs.YtokgpdceckaddaaGreatDoor
open Go.RowKit

set_option maxHeartbeats 16000000 in
set_option maxRecDepth 20000 in
theorem first8_any (w : World) : Calls Tryz.prog 11 #[] w fun e w' => e = .returned (.bool true) ∧ Below w.heap.size w w' := by
  have e1 := Lib.hid (show roleQ (⟨#[112]⟩ : ByteArray).toList exRoles8 exPts8 (⟨#[97]⟩ : ByteArray).toList = .ok [⟨1, [98], [⟨[120], 0, [], 1⟩, ⟨[121], 0, [], 1⟩]⟩, ⟨0, [], []⟩] by rw [str18, str18]; exact ex8_a)
  have e2 := Lib.hid (show roleQ (⟨#[112]⟩ : ByteArray).toList exRoles8 exPts8 (⟨#[99]⟩ : ByteArray).toList = .error 801 by rw [str18, str18]; exact ex8_c)
  go_enter Tryz.func11, Tryz.ntmps11
  go_upto_region 2 with (first
    | (go_at_call 13; (with_reducible refine (given8_any _).mono ?_)
       rintro e w1 ⟨xa, xb, rfl, hp1, hb1⟩
       have HP1 := Lib.hid hp1
       have HB1 := Lib.hid hb1
       clear hp1 hb1)
    | (go_at_call 15; (with_reducible refine (role_any ⟨#[112]⟩ xa 3 3 exRoles8 xb 3 3 exPts8 ⟨#[97]⟩ w1 HP1.out).mono ?_)
       rintro e w2 ⟨h2, hb2⟩
       rw [e1.out] at h2
       obtain ⟨s, ta, tn, tc, rfl, hs, _, bs, hbs, hT⟩ := h2
       obtain rfl : s = ⟨#[112, 46, 97]⟩ := toList_inj (by rw [hs, str18, str18, ByteArray.toList_eq]; rfl)
       obtain ⟨a9, c9, hv, hTu⟩ := hT.sees (by simp)
       obtain ⟨hv1, hv2, hv3⟩ := Value.slice.inj hv
       subst hv1 hv2 hv3
       have HTU := Lib.hid hTu
       have HB2 := Lib.hid (below_on HB1.out hb2)
       clear hT hTu hv hs hb2 hbs)
    | fail)
  obtain ⟨tb, off, hta, htb, hTC⟩ := HTU.out.2.2 (by simp)
  subst hta
  obtain ⟨s0, a0, n0, c0, ⟨q0, q1, q2⟩, hs0, _, hA0⟩ := hTC 0 _ rfl
  obtain ⟨s1, a1, n1, c1, ⟨p0, _, _⟩, _, _, _⟩ := hTC 1 _ rfl
  obtain rfl : s0 = ⟨#[98]⟩ := toList_inj (by rw [hs0, str18])
  obtain rfl : 2 = n0 := hA0.1
  rw [Nat.zero_mul, Nat.add_zero] at q0 q1 q2
  rw [Nat.one_mul] at p0
  obtain ⟨w3, hw3⟩ : ∃ w3, w3 = w2.alloc (.cells #[.string ⟨#[112, 46, 97]⟩, .slice (some ⟨tb, off, none⟩) 2 tc] 34) := ⟨_, rfl⟩
  have HL3 := Lib.hid (show LB8 w3 w2.heap.size ⟨#[112, 46, 97]⟩ (some ⟨tb, off, none⟩) 2 tc by rw [hw3]; exact heap_alloc_new w2 _)
  have HB3 := Lib.hid (show Below w2.heap.size w2 w3 by rw [hw3]; exact tu1 w2 _)
  have HQ := Lib.hid (And.intro q0 (And.intro q1 (And.intro q2 p0)))
  try simp only [List.length_cons, List.length_nil, Nat.zero_add, Nat.reduceAdd]
  rw [← hw3]
  clear hw3 q0 q1 q2 p0 hA0 hs0 hTC
  go_upto_region 3 with (first
    | (go_at_call 13; (with_reducible refine (given8_any _).mono ?_)
       rintro e w4 ⟨ya, yb, rfl, hp4, hb4⟩
       have HP4 := Lib.hid hp4
       have HB4 := Lib.hid hb4
       clear hp4 hb4)
    | (go_at_call 15; (with_reducible refine (role_any ⟨#[112]⟩ ya 3 3 exRoles8 yb 3 3 exPts8 ⟨#[99]⟩ w4 HP4.out).mono ?_)
       rintro e w5 ⟨h5, hb5⟩
       rw [e2.out] at h5
       subst h5
       have HB5 := Lib.hid (below_on HB4.out hb5)
       clear hb5)
    | fail)
  obtain ⟨w6, hw6⟩ : ∃ w6, w6 = w5.alloc (.cells #[.string ⟨#[]⟩, .slice none 0 0] 34) := ⟨_, rfl⟩
  have HB6 := Lib.hid (show Below w3.heap.size w3 w6 by rw [hw6]; exact below_on HB5.out (tu1 w5 _))
  rw [← hw6]
  obtain ⟨d0, d1⟩ := (HL3.out.on HB6.out).cells
  have hb26 := below_on HB3.out HB6.out
  have q0 := (hb26.cell (p := ⟨tb, off, none⟩) htb).trans HQ.out.1
  have q1 := (hb26.cell (p := ⟨tb, off + 1, none⟩) htb).trans HQ.out.2.1
  have q2 := (hb26.cell (p := ⟨tb, off + 2, none⟩) htb).trans HQ.out.2.2.1
  have p0 := (hb26.cell (p := ⟨tb, off + 3, none⟩) htb).trans HQ.out.2.2.2
  have HBB := Lib.hid (below_on HB2.out hb26)
  clear hw6 hb26
  go_wp2_with fail
  go_ret
  exact ⟨rfl, HBB.out⟩
end Go.Proofs.YtokgpdceckaddaaGreatDoor
