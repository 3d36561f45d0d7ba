/- Contracts of set and Once: a map from strings to bool that the call makes. -/
import Derived.Test.YthgihoeeppincaaDoorNmHas
import Derived.Maps.OwnOps
import Derived.Maps.OwnSet
import Derived.Maps.Views
import Derived.LoopTactic
import Derived.Laws.Entries
namespace Go.Proofs.YthgihoeeppincaaDoor
open Go.RowKit Go.Sort Go.Maps Go.WideMaps

def keyL (s : Str) : Lit := .string s
def keysL (ss : List Str) : List Lit := ss.map keyL
/-- The set of some strings, as the datum of a map. -/
def setD (ss : List Str) : DataW Unit := setOf (.lit (.bool true)) (keysL ss)
theorem setD_nil : setD [] = .map [] := rfl
theorem setD_more (ss : List Str) (k : Nat) (hk : k < ss.length) : setD (ss.take (k + 1)) = (setD (ss.take k)).put (keyL (ss.getD k [])) (.lit (.bool true)) := by
  unfold setD keysL
  rw [take_more ss k hk, List.map_append]
  exact setOf_snoc _ _ _
theorem keysL_ok (ss : List Str) : ∀ x ∈ keysL ss, WideAt.IsKeyLit x := by
  intro x hx
  obtain ⟨s, _, rfl⟩ := List.mem_map.1 hx
  trivial
theorem at_setOf (z : DataW Unit) (k : Str) : ∀ (ss : List Str) (m : DataW Unit), IsMap m → ((keysL ss).foldl (fun m x => m.put x (.lit (.bool true))) m).atKey (keyL k) z = if ss.contains k then .lit (.bool true) else m.atKey (keyL k) z
  | [], _, _ => rfl
  | s :: ss, m, hm => by
    show ((keysL ss).foldl _ (m.put (keyL s) _)).atKey (keyL k) z = _
    rw [at_setOf z k ss _ (hm.put _ _), List.contains_cons]
    by_cases h : ss.contains k = true
    · rw [if_pos h, if_pos (by rw [h, Bool.or_true])]
    · rw [if_neg h]
      by_cases hs : k = s
      · subst hs
        rw [if_pos (by simp)]
        exact atKey_put_same hm (show WideAt.IsKeyLit (keyL k) from trivial) _ _
      · rw [atKey_put_other (k := keyL s) (k' := keyL k) (fun e => hs (by injection e)), if_neg]
        rw [Bool.not_eq_true] at h
        rw [h]
        simp [hs]
theorem at_setD (k : Str) (ss : List Str) : (setD ss).atKey (keyL k) (.lit (.bool false)) = .lit (.bool (hasS ss k)) := by
  unfold setD setOf
  rw [at_setOf _ k ss _ isMap_empty]
  unfold hasS
  cases ss.contains k <;> rfl

/-- How many strings are in a list, each counted once. -/
def once (ss : List Str) : Bool := decide (Maps.size (setD ss) = ss.length)
theorem addKey_len (acc : List Lit) (x : Lit) : (addKey acc x).length ≤ acc.length + 1 := by
  unfold addKey; split <;> simp
theorem fold_len : ∀ (xs acc : List Lit), (xs.foldl addKey acc).length ≤ acc.length + xs.length
  | [], _ => Nat.le_refl _
  | x :: xs, acc => by
    have h1 := fold_len xs (addKey acc x)
    have h2 := addKey_len acc x
    simp only [List.foldl_cons, List.length_cons]
    omega
theorem fold_full : ∀ (ss acc : List Str), (∀ s ∈ ss, s ∉ acc) → ss.Nodup → ((keysL ss).foldl addKey (keysL acc)).length = acc.length + ss.length
  | [], acc, _, _ => by simp [keysL]
  | s :: ss, acc, hd, hn => by
    have hno : (keysL acc).any (fun y => y.sameKey (keyL s)) = false := by
      rw [List.any_eq_false]
      intro y hy
      obtain ⟨u, hu, rfl⟩ := List.mem_map.1 hy
      have : u ≠ s := fun e => hd s (by simp) (e ▸ hu)
      simp [keyL, Lit.sameKey, this]
    show ((keysL ss).foldl addKey (addKey (keysL acc) (keyL s))).length = _
    have e : addKey (keysL acc) (keyL s) = keysL (acc ++ [s]) := by
      unfold addKey; rw [hno]; simp [keysL]
    rw [e, fold_full ss (acc ++ [s]) (fun x hx => by
      have := List.nodup_cons.1 hn
      simp only [List.mem_append, List.mem_singleton, not_or]
      exact ⟨hd x (by simp [hx]), fun ex => this.1 (ex ▸ hx)⟩) (List.nodup_cons.1 hn).2]
    simp; omega
theorem fold_less : ∀ (ss acc : List Str), ((keysL ss).foldl addKey (keysL acc)).length = acc.length + ss.length → (∀ s ∈ ss, s ∉ acc) ∧ ss.Nodup
  | [], acc, _ => ⟨by simp, List.nodup_nil⟩
  | s :: ss, acc, h => by
    by_cases hs : s ∈ acc
    · have hyes : (keysL acc).any (fun y => y.sameKey (keyL s)) = true := by
        rw [List.any_eq_true]
        exact ⟨keyL s, List.mem_map.2 ⟨s, hs, rfl⟩, by simp [keyL, Lit.sameKey]⟩
      have e : addKey (keysL acc) (keyL s) = keysL acc := by unfold addKey; rw [hyes]; rfl
      have h' : ((keysL ss).foldl addKey (addKey (keysL acc) (keyL s))).length = acc.length + (ss.length + 1) := h
      rw [e] at h'
      have := fold_len (keysL ss) (keysL acc)
      simp [keysL] at this h'
      omega
    · have hno : (keysL acc).any (fun y => y.sameKey (keyL s)) = false := by
        rw [List.any_eq_false]
        intro y hy
        obtain ⟨u, hu, rfl⟩ := List.mem_map.1 hy
        have : u ≠ s := fun e => hs (e ▸ hu)
        simp [keyL, Lit.sameKey, this]
      have e : addKey (keysL acc) (keyL s) = keysL (acc ++ [s]) := by unfold addKey; rw [hno]; simp [keysL]
      have h' : ((keysL ss).foldl addKey (addKey (keysL acc) (keyL s))).length = acc.length + (ss.length + 1) := h
      rw [e] at h'
      obtain ⟨h1, h2⟩ := fold_less ss (acc ++ [s]) (by rw [h']; simp; omega)
      refine ⟨fun x hx => ?_, List.nodup_cons.2 ⟨fun hm => ?_, h2⟩⟩
      · rcases List.mem_cons.1 hx with rfl | hx
        · exact hs
        · exact fun hxa => h1 x hx (by simp [hxa])
      · exact h1 s hm (by simp)
/-- The set has as many strings as the list just if no string stands twice in it. -/
theorem once_iff (ss : List Str) : once ss = true ↔ ss.Nodup := by
  unfold once
  rw [decide_eq_true_eq, setD, size_setOf _ _ (keysL_ok ss)]
  constructor
  · intro h; exact (fold_less ss [] (by simpa [keysL] using h)).2
  · intro h; simpa [keysL] using fold_full ss [] (by simp) h

theorem made_map {P : Program} {t k e : TypeId} (ht : P.underlying t = some (.map k e)) (q : IntKind) (n : Int) (W : World) :
    (Instr.makeMap t (some (.int q n))).run P W = .ok (.map (some W.heap.size)) (W.alloc (.map #[] 0)) := by
  simp [Instr.makeMap, run_underlying ht]; rfl
theorem keyed9 : Keyed Tryd.prog 9 := string_keyed Tryd.underlying9
theorem key_ok (s : Str) (h : s.length ≤ maxLen) : keyOf Tryd.prog 9 (.string (baS s)) = some (keyL s) :=
  keyOf_string_mk Tryd.underlying9 (by simpa [baS, ByteArray.size] using h)

set_option maxHeartbeats 1000000 in
theorem set_any (a : Option Addr) (n c : Nat) (ss : List Str) (w : World) (h : Strs w w.heap.size a n ss) :
    Calls Tryd.prog 27 #[.slice a n c] w fun e w' => e = .returned (.map (some w.heap.size)) ∧ w'.ownsMap Tryd.prog 9 (plainElem Tryd.prog 4) w.heap.size n (setD ss) ∧ Below w.heap.size w w' := by
  have hsn := h.2.1
  have HS := Lib.hid h
  have HN := Lib.hid h.1
  clear h
  have hmm := made_map Tryd.underlying37 .i64 n
  go_enter Tryd.func27, Tryd.ntmps27
  go_wp2
  clear hmm
  go_loopw [11] (fun i wr => ∃ k : Nat, k ≤ n ∧ i = .int .i64 k ∧ Hid (wr.ownsMap Tryd.prog 9 (plainElem (H := Unit) Tryd.prog 4) w.heap.size k (setD (ss.take k))) ∧ Hid (Below w.heap.size w wr)) (fun i _ => n - (intOf i).toNat)
  case atStart => exact ⟨0, Nat.zero_le _, rfl, Lib.hid (by rw [List.take_zero, setD_nil]; exact World.ownsMap_made _ _ _ _), Lib.hid ((Below.refl _ _).alloc (Nat.le_refl _) _)⟩
  case round =>
    obtain ⟨k, hk, rfl, hown, hbel⟩ := hrel
    by_cases hlt : k < n
    · obtain ⟨b1, o1, rfl, hb1, hc1⟩ := HS.out.at_ hlt
      have hkk : k < ss.length := by rw [HN.out]; exact hlt
      obtain ⟨x, hx⟩ : ∃ x, x = baS (ss.getD k []) := ⟨_, rfl⟩
      replace hc1 : wr.cell? { block := b1, off := o1 + k } = some (Value.string x) := by rw [hx]; exact (hbel.out.cell hb1).trans hc1
      have hkey : keyOf Tryd.prog 9 (.string x) = some (keyL (ss.getD k [])) := by
        rw [hx]
        refine key_ok _ (HS.out.max _ ?_)
        rw [List.getD_eq_getElem?_getD, List.getElem?_eq_getElem hkk]
        exact List.getElem_mem hkk
      have HK := Lib.hid hkey
      clear hkey hx
      have HKK := Lib.hid hkk
      clear hkk
      go_wp2_with (first
        | (at_mapUpdate; refine wpList_mapUpdate_own _ rfl _ _ _ 37 rfl 9 4 keyed9 Tryd.underlying37 (plainElem (H := Unit) Tryd.prog 4) w.heap.size k _ rfl hown.out (by unfold maxLen; omega) _ _ _ rfl rfl HK.out _ [] (plainElem_bool Tryd.underlying4 true) ?_; intro w1 hown1 hgrow1)
        | go_in)
      go_roundw
      case rel => exact ⟨k + 1, by omega, by go_num, Lib.hid (by rw [setD_more ss k HKK.out]; exact hown1), Lib.hid (hbel.out.grown hgrow1 hbel.out.size (fun j hj => by cases hj; exact Nat.le_refl _))⟩
      case measure => simp [intOf]; omega
    · go_wp2
      go_ret
      obtain rfl : k = n := by omega
      refine ⟨rfl, ?_, hbel.out⟩
      have h1 := hown.out
      rwa [List.take_of_length_le (Nat.le_of_eq HN.out)] at h1

set_option maxHeartbeats 1000000 in
theorem once_any (a : Option Addr) (n c : Nat) (ss : List Str) (w : World) (h : Strs w w.heap.size a n ss) :
    Calls Tryd.prog 21 #[.slice a n c] w fun e w' => e = .returned (.bool (once ss)) ∧ Below w.heap.size w w' := by
  have HN := Lib.hid h.1
  have HC := Lib.hid (set_any a n c ss w h)
  have hsn := h.2.1
  clear h
  cases ho : once ss
  all_goals
    have HO := Lib.hid ho
    clear ho
    go_enter Tryd.func21, Tryd.ntmps21
    go_wp2_with (first
      | (go_at_call 27; refine HC.out.mono ?_; rintro e w1 ⟨rfl, hown, hb⟩
         have H1 := Lib.hid hown
         have H2 := Lib.hid hb
         have hle := hown.size_le
         have H3 : (((Maps.size (setD ss) : Nat) : Int) == (n : Int)) = once ss := by
           unfold once
           rw [HN.out, Bool.eq_iff_iff, beq_iff_eq, decide_eq_true_eq]
           omega
         rw [HO.out] at H3
         clear hown hb)
      | (at_len; refine wpList_len_own _ rfl _ 37 rfl 9 4 Tryd.underlying37 (plainElem (H := Unit) Tryd.prog 4) w.heap.size n _ rfl H1.out ?_)
      | go_in)
    go_ret
    exact ⟨rfl, H2.out⟩
end Go.Proofs.YthgihoeeppincaaDoor
