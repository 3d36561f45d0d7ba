/- Contract of reparteemake's sorted. -/
import Derived.Test.YtgefhgcpnfbigaaBkMayB
import Derived.Test.YtgefhgcpnfbigaaTuMakes
import Derived.BigQuiet
namespace Go.Proofs.Ytgefhgcpnfbigaa
open Go.RowKit Go.Sort

def sortTo (l : List EdgeL) (j : Nat) : List EdgeL := (List.range j).filterMap fun i => l.find? fun e => e.label == labS i
theorem sortTo_succ (l : List EdgeL) (j : Nat) : sortTo l (j + 1) = sortTo l j ++ (l.find? fun e => e.label == labS j).toList := by
  unfold sortTo
  rw [List.range_succ, List.filterMap_append]
  congr 1
theorem sortTo_mem {l : List EdgeL} : ∀ {j : Nat} {e : EdgeL}, e ∈ sortTo l j → e ∈ l ∧ ∃ i, i < j ∧ e.label = labS i := by
  intro j e he
  unfold sortTo at he
  obtain ⟨i, hi, hf⟩ := List.mem_filterMap.1 he
  have h2 := List.find?_some hf
  exact ⟨List.mem_of_find?_eq_some hf, i, List.mem_range.1 hi, by simpa using h2⟩
theorem labS_lt {i j : Nat} (h : i < j) (hj : j < 4) : labS i < labS j := by
  have : (i = 0 ∧ j = 1) ∨ (i = 0 ∧ j = 2) ∨ (i = 0 ∧ j = 3) ∨ (i = 1 ∧ j = 2) ∨ (i = 1 ∧ j = 3) ∨ (i = 2 ∧ j = 3) := by omega
  rcases this with ⟨rfl, rfl⟩ | ⟨rfl, rfl⟩ | ⟨rfl, rfl⟩ | ⟨rfl, rfl⟩ | ⟨rfl, rfl⟩ | ⟨rfl, rfl⟩ <;> decide
theorem sortTo_up (l : List EdgeL) : ∀ j, j ≤ 4 → ((sortTo l j).map EdgeL.label).Pairwise (· < ·) ∧ (sortTo l j).length ≤ j
  | 0, _ => ⟨by simp [sortTo], by simp [sortTo]⟩
  | j + 1, h => by
    obtain ⟨h1, h2⟩ := sortTo_up l j (by omega)
    rw [sortTo_succ, List.map_append, List.length_append]
    cases hf : l.find? fun e => e.label == labS j with
    | none => simp; exact ⟨h1, by omega⟩
    | some x =>
      refine ⟨List.pairwise_append.2 ⟨h1, by simp, fun a ha b hb => ?_⟩, by simp; omega⟩
      obtain ⟨e, he, rfl⟩ := List.mem_map.1 ha
      obtain ⟨_, i, hi, hl⟩ := sortTo_mem he
      have hx : x.label = labS j := by simpa using List.find?_some hf
      have hb' : b = x.label := by simpa using hb
      rw [hl, hb', hx]
      exact labS_lt hi (by omega)
theorem sortTo_some {l : List EdgeL} {e : EdgeL} (he : e ∈ l) {i : Nat} (hi : i < 4) (h : e.label = labS i) : 1 ≤ (sortTo l 4).length := by
  have : ∃ x, (l.find? fun e => e.label == labS i) = some x := by
    cases hf : l.find? fun e => e.label == labS i with
    | some x => exact ⟨x, rfl⟩
    | none =>
      have := List.find?_eq_none.1 hf e he
      simp [h] at this
  obtain ⟨x, hx⟩ := this
  have : x ∈ sortTo l 4 := by
    unfold sortTo
    exact List.mem_filterMap.2 ⟨i, List.mem_range.2 hi, hx⟩
  exact List.length_pos_of_mem this
theorem labObj_cell (w : World) {i : Nat} (hi : i < 4) : (w.alloc labObj).cell? ⟨w.heap.size, i, none⟩ = some (.string (labB i)) := by
  have := labObj_at w i
  rwa [Nat.mod_eq_of_lt hi] at this
theorem find_step {l : List EdgeL} {k : Nat} {x : EdgeL} {s : Str} (h : ∀ m e, m < k → l[m]? = some e → e.label ≠ s) (hx : l[k]? = some x) (hs : x.label = s) : (l.find? fun e => e.label == s) = some x := by
  induction l generalizing k with
  | nil => simp at hx
  | cons y l ih =>
    cases k with
    | zero =>
      obtain rfl := Option.some.inj hx
      rw [List.find?_cons_of_pos (by simp [hs])]
    | succ k =>
      have h0 := h 0 y (by omega) rfl
      rw [List.find?_cons_of_neg (by simp [h0])]
      exact ih (fun m e hm he => h (m + 1) e (by omega) he) hx
theorem find_none {l : List EdgeL} {s : Str} (h : ∀ m e, m < l.length → l[m]? = some e → e.label ≠ s) : (l.find? fun e => e.label == s) = none := by
  rw [List.find?_eq_none]
  intro e he
  obtain ⟨m, hm, rfl⟩ := List.mem_iff_getElem.1 he
  simpa using h m _ hm (List.getElem?_eq_getElem hm)
set_option maxHeartbeats 8000000 in
set_option maxRecDepth 20000 in
theorem sorted10_any (a : Option Addr) (n c : Nat) (l : List EdgeL) (w : World) (bound : Nat) (hb : bound ≤ w.heap.size) (hn : n ≤ 1000) (h : Edges w bound a n l) :
    Calls Try.prog 62 #[.slice a n c] w fun e w' => (∃ v, e = .returned v ∧ EdOwn w' w.heap.size v (sortTo l 4)) ∧ Below w.heap.size w w' := by
  have HN := Lib.hid h
  have HLEN := Lib.hid h.1
  have CL := Lib.hid (labels_any w)
  have HLC := Lib.hid (fun (i : Nat) (hi : i < 4) => labObj_cell w hi)
  have HB0 := Lib.hid (tu1 w labObj)
  obtain ⟨wl, hwl⟩ : ∃ wl, wl = w.alloc labObj := ⟨_, rfl⟩
  rw [← hwl] at CL HLC HB0
  have hzl : wl.heap.size = w.heap.size + 1 := by rw [hwl]; simp
  clear h hwl
  go_enter Try.func62, Try.ntmps62
  go_wp2_with (first
    | (go_at_call 61; (with_reducible refine CL.out.mono ?_)
       rintro e w1 ⟨rfl, hw1⟩
       have HW1 := Lib.hid hw1
       clear hw1)
    | fail)
  go_loopw [3, 5] (fun o i wr => ∃ (j : Nat) (v : Value), j ≤ 4 ∧ i = .int .i64 j ∧ v = o ∧ Hid (EdOwn wr (w.heap.size + 1) v (sortTo l j)) ∧ Hid (Below (w.heap.size + 1) wl wr)) (fun _ i _ => 4 - (intOf i).toNat)
  case atStart => exact ⟨0, _, Nat.zero_le _, rfl, rfl, Lib.hid (EdOwn.zero _ _), Lib.hid (by rw [HW1.out]; exact Below.refl _ _)⟩
  case round =>
    obtain ⟨j, v, hj, rfl, hvo, HO, HBr⟩ := hrel
    subst hvo
    have hzr := HBr.out.size
    by_cases hlt : j < 4
    · have i1 : (j : Int) < 4 := by omega
      have i2 : (0 : Int) ≤ (j : Int) := by omega
      obtain ⟨wo, hwo⟩ : ∃ wo : World, wo = wr := ⟨_, rfl⟩
      subst hwo
      have HSL := Lib.hid (sortTo_up l j hj).2
      go_wp2_with fail
      go_loopw [3, 6] (fun o i wr => ∃ k : Nat, k ≤ n ∧ i = .int .i64 k ∧ v = o ∧ Hid (∀ m e, m < k → l[m]? = some e → e.label ≠ labS j) ∧ Hid (Below wo.heap.size wo wr)) (fun _ i _ => n - (intOf i).toNat)
      case atStart => exact ⟨0, Nat.zero_le _, rfl, rfl, Lib.hid (fun m e hm _ => absurd hm (Nat.not_lt_zero m)), Lib.hid (Below.refl _ _)⟩
      case round =>
        obtain ⟨k, hk, rfl, rfl, HF, HBi⟩ := hrel
        have hzi := HBi.out.size
        have HBw := Lib.hid (show Below (w.heap.size + 1) wl wr from HBr.out.trans (HBi.out.mono (by omega)))
        have HOi := Lib.hid (HO.out.kept HBi.out)
        by_cases hlk : k < n
        · obtain ⟨b, off, s, sk, ta, nx, rfl, hbb, hx, ⟨q0, q1, q2, q3⟩, hs⟩ := ((HN.out.below (HB0.out.mono hb)).below (HBw.out.mono (by omega))).at_ hlk
          have j1 : (k : Int) < (n : Int) := by omega
          have j2 : (0 : Int) ≤ (k : Int) := by omega
          have hlab := (HBw.out.cell (p := ⟨w.heap.size, j, none⟩) (by show w.heap.size < _; omega)).trans (HLC.out j hlt)
          have HX := Lib.hid hx
          have HS := Lib.hid hs
          clear hx hs
          cases hsl : (s.toList == (labB j).toList)
          · have HF2 := Lib.hid (show ∀ m e, m < k + 1 → l[m]? = some e → e.label ≠ labS j from fun m e hm he => by
              by_cases hmk : m = k
              · subst hmk
                rw [HX.out] at he
                obtain rfl := Option.some.inj he
                rw [labB_list] at hsl
                exact beq_eq_false_iff_ne.1 hsl
              · exact HF.out m e (by omega) he)
            go_wp2
            go_quiet (fail)
            go_wp2
            go_roundw
            case rel => exact ⟨k + 1, by omega, by go_num, rfl, HF2, Lib.hid (bel_drewN HBi.out _)⟩
            case measure => simp [intOf]; omega
          · have HFD := Lib.hid (show sortTo l (j + 1) = sortTo l j ++ [⟨s.toList, sk, ta, nx⟩] by
              rw [sortTo_succ, find_step HF.out HX.out (by rw [← labB_list]; exact beq_iff_eq.1 hsl)]
              rfl)
            go_wp2
            go_quiet (fail)
            have HOq := Lib.hid (show EdOwn (wr.drewN nq) (w.heap.size + 1) v (sortTo l j) from HOi.out.kept (bel_drewN (Below.refl _ _) _))
            go_wp2_with (first
              | (at_builtin
                 refine wpList_append_edges rfl (.tmp 30) (.tmp 35) rfl (w.heap.size + 1) v (sortTo l j) _ 1 1 [edgeR ⟨s, sk, ta, nx⟩] rfl rfl (HOq.out.alloc _) (EdRow.one (W := wr.drewN nq) ⟨s, sk, ta, nx⟩ rfl rfl HS.out) (by show _ ≤ (World.alloc _ _).heap.size; simp; omega) (by have := HSL.out; omega) ?_
                 intro v5 w5 ho5 hb5
                 have HO5 := Lib.hid ho5
                 have HB5 := Lib.hid (show Below (w.heap.size + 1) wl w5 from (HBw.out.trans ((bel_drewN (Below.refl (w.heap.size + 1) wr) nq).alloc (by show _ ≤ wr.heap.size; omega) _)).trans hb5)
                 clear ho5 hb5)
              | fail)
            go_roundw
            case rel => exact ⟨j + 1, v5, by omega, by go_num, rfl, Lib.hid (by rw [HFD.out]; exact HO5.out), HB5⟩
            case measure => simp [intOf]; omega
        · obtain rfl : k = n := by omega
          have d1 : decide ((k : Int) < (k : Int)) = false := decide_eq_false (by omega)
          have HFD := Lib.hid (show sortTo l (j + 1) = sortTo l j by
            rw [sortTo_succ, find_none (fun m e hm he => HF.out m e (by rw [← HLEN.out]; exact hm) he)]
            simp)
          go_wp2_with fail
          go_roundw
          case rel => exact ⟨j + 1, v, by omega, by go_num, rfl, Lib.hid (by rw [HFD.out]; exact HOi.out), HBw⟩
          case measure => simp [intOf]; omega
    · obtain rfl : j = 4 := by omega
      go_wp2_with fail
      go_ret
      exact ⟨⟨v, rfl, HO.out.low (by omega)⟩, HB0.out.trans (HBr.out.mono (by omega))⟩
end Go.Proofs.Ytgefhgcpnfbigaa
