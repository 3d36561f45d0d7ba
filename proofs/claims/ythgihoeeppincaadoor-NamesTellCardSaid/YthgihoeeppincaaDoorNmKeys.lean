/- The law NamesKeys returns true for every number: no keyword is a name, a keyword with a digit behind it is one, the list of keywords has no string twice. -/
import Derived.Test.YthgihoeeppincaaDoorNmFirst
import Derived.Test.YthgihoeeppincaaDoorNmDoor
namespace Go.Proofs.YthgihoeeppincaaDoor
open Go.RowKit Go.Sort

theorem key_place (k : Int) : ∃ i : Nat, i < 39 ∧ wrap64 ((IntKind.u64.wrap k).tmod 39) = (i : Int) := by
  have h0 : 0 ≤ IntKind.u64.wrap k := by rw [IntKind.wrap_u64]; omega
  refine ⟨((IntKind.u64.wrap k).tmod 39).toNat, ?_, ?_⟩
  · rw [Int.tmod_eq_emod_of_nonneg h0]; omega
  · rw [Int.tmod_eq_emod_of_nonneg h0, wrap64]; omega
theorem key_in (i : Nat) (hi : i < 39) : ∃ x : Str, x ∈ kws ∧ ∀ h, (kws.map encStr)[i]'h = .string (baS x) := by
  refine ⟨kws[i]'(by simpa [kws] using hi), List.getElem_mem _, fun h => by rw [List.getElem_map]; rfl⟩

theorem key_facts : ∀ y ∈ kws, isKw y = true ∧ may y = false ∧ isKw (y ++ [49]) = false ∧ may (y ++ [49]) = true ∧ y.length ≤ 8 := by decide
theorem app_toList (a b : ByteArray) : (a ++ b).toList = a.toList ++ b.toList := by
  rw [ByteArray.toList_eq, ByteArray.toList_eq, ByteArray.toList_eq, ByteArray.data_append]; simp
theorem kws_once : once kws = true := (once_iff kws).2 (by decide)
theorem once1 (w : World) (cs : Array Value) (hc : cs = (kws.map encStr).toArray) :
    Calls Tryd.prog 21 #[.slice (some ⟨w.heap.size, 0, none⟩) 39 39] (w.alloc (.cells cs 9)) fun e w' => e = .returned (.bool true) ∧ Below (w.alloc (.cells cs 9)).heap.size (w.alloc (.cells cs 9)) w' := by
  have h := once_any (some ⟨w.heap.size, 0, none⟩) 39 39 kws (w.alloc (.cells cs 9)) (strs_new w cs kws 39 hc rfl (by omega) (by decide))
  rwa [kws_once] at h

set_option maxHeartbeats 1000000 in
theorem keys_walk (k : Int) (w : World) : Calls Tryd.prog 7 #[.int .i64 k] w fun e w' => e = .returned (.bool true) ∧ Below w.heap.size w w' := by
  obtain ⟨i, hi, he⟩ := key_place k
  obtain ⟨y, hy, hv⟩ := key_in i hi
  obtain ⟨x, hx⟩ : ∃ x, x = baS y := ⟨_, rfl⟩
  rw [← hx] at hv
  simp only [kws, List.map_cons, List.map_nil, encStr] at hv
  have HX := Lib.hid hx
  clear hx
  obtain ⟨f1, f2, f3, f4, f5⟩ := key_facts y hy
  have hsz : x.size ≤ 8 := by rw [HX.out, ← len_toList, baS_toList]; exact f5
  have e1 : x.toList = y := by rw [HX.out, baS_toList]
  have e2 : (x ++ ⟨#[49]⟩ : ByteArray).toList = y ++ [49] := by rw [app_toList, e1, lit_list [49] ⟨#[49]⟩ rfl]
  have c1 : ∀ W, Calls Tryd.prog 13 #[.string x] W fun e w' => e = .returned (.bool true) ∧ W = w' := fun W => by
    have h := keyword_any x W
    rwa [e1, f1] at h
  have c2 : ∀ W, Calls Tryd.prog 15 #[.string x] W fun e w' => e = .returned (.bool false) ∧ W = w' := fun W => by
    have h := may_any x W (by unfold maxLen; omega)
    rwa [e1, f2] at h
  have c3 : ∀ W, Calls Tryd.prog 13 #[.string (x ++ ⟨#[49]⟩)] W fun e w' => e = .returned (.bool false) ∧ W = w' := fun W => by
    have h := keyword_any (x ++ ⟨#[49]⟩) W
    rwa [e2, f3] at h
  have c4 : ∀ W, Calls Tryd.prog 15 #[.string (x ++ ⟨#[49]⟩)] W fun e w' => e = .returned (.bool true) ∧ W = w' := fun W => by
    have h := may_any (x ++ ⟨#[49]⟩) W (by rw [← len_toList, e2]; unfold maxLen; simp; omega)
    rwa [e2, f4] at h
  have C1 := Lib.hid c1
  have C2 := Lib.hid c2
  have C3 := Lib.hid c3
  have C4 := Lib.hid c4
  clear c1 c2 c3 c4 e1 e2 f1 f2 f3 f4
  go_enter Tryd.func7, Tryd.ntmps7
  go_wp2_with (first
    | (go_at_call 8; refine (first_any _).mono ?_; rintro e w1 ⟨rfl, hb⟩
       have HB := Lib.hid hb
       clear hb)
    | (go_at_call 13; ((with_reducible refine (C1.out _).mono ?_); rintro e w2 ⟨rfl, rfl⟩))
    | (go_at_call 15; ((with_reducible refine (C2.out _).mono ?_); rintro e w2 ⟨rfl, rfl⟩))
    | (go_at_call 13; ((with_reducible refine (C3.out _).mono ?_); rintro e w2 ⟨rfl, rfl⟩))
    | (go_at_call 15; ((with_reducible refine (C4.out _).mono ?_); rintro e w2 ⟨rfl, rfl⟩))
    | (go_at_call 21; refine (once1 w1 _ rfl).mono ?_; rintro e w2 ⟨rfl, hb2⟩
       have HB2 := Lib.hid hb2
       clear hb2))
  go_ret
  exact ⟨rfl, (HB.out.alloc HB.out.size _).trans (HB2.out.mono (by have := HB.out.size; simp; omega))⟩
end Go.Proofs.YthgihoeeppincaaDoor
