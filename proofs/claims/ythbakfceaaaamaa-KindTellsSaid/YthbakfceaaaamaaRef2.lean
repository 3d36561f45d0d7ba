/- Contracts of set and Once: a map from strings to bool that the call makes. -/
import Derived.Test.YthbakfceaaaamaaNmHas
import Derived.Maps.OwnOps
import Derived.Maps.OwnSet
import Derived.Maps.Views
import Derived.LoopTactic
import Derived.Laws.Entries
import Derived.Test.YthbakfceaaaamaaNmFreshPlain
import Derived.Test.YthbakfceaaaamaaNmPutPlain
import Derived.Test.YthbakfceaaaamaaNmMay
import Derived.Laws.Cover1
import Derived.Sort.Walk0
import Derived.Test.YthbakfceaaaamaaTmEq
import Derived.Deep.DeepCutAuto
import Derived.Test.YthbakfceaaaamaaTmTrees
import Derived.Test.YthbakfceaaaamaaTmMay
import Derived.Test.YthbakfceaaaamaaTmSteps
import Derived.Test.YthbakfceaaaamaaTmGather
namespace Go.Proofs.Ythbakfceaaaamaa
open Go.RowKit Go.Sort Go.Maps Go.WideMaps

def keyL (s : Str) : Lit := .string s
def keysL (ss : List Str) : List Lit := ss.map keyL
/-- The set of some strings, as the datum of a map. -/
def setD (ss : List Str) : DataW Unit := setOf (.lit (.bool true)) (keysL ss)
theorem setD_nil : setD [] = .map [] := rfl
theorem setD_more (ss : List Str) (k : Nat) (hk : k < ss.length) : setD (ss.take (k + 1)) = (setD (ss.take k)).put (keyL (ss.getD k [])) (.lit (.bool true)) := by
  unfold setD keysL
  rw [take_more ss k hk, List.map_append]
  exact setOf_snoc _ _ _
theorem keysL_ok (ss : List Str) : ∀ x ∈ keysL ss, WideAt.IsKeyLit x := by
  intro x hx
  obtain ⟨s, _, rfl⟩ := List.mem_map.1 hx
  trivial
theorem at_setOf (z : DataW Unit) (k : Str) : ∀ (ss : List Str) (m : DataW Unit), IsMap m → ((keysL ss).foldl (fun m x => m.put x (.lit (.bool true))) m).atKey (keyL k) z = if ss.contains k then .lit (.bool true) else m.atKey (keyL k) z
  | [], _, _ => rfl
  | s :: ss, m, hm => by
    show ((keysL ss).foldl _ (m.put (keyL s) _)).atKey (keyL k) z = _
    rw [at_setOf z k ss _ (hm.put _ _), List.contains_cons]
    by_cases h : ss.contains k = true
    · rw [if_pos h, if_pos (by rw [h, Bool.or_true])]
    · rw [if_neg h]
      by_cases hs : k = s
      · subst hs
        rw [if_pos (by simp)]
        exact atKey_put_same hm (show WideAt.IsKeyLit (keyL k) from trivial) _ _
      · rw [atKey_put_other (k := keyL s) (k' := keyL k) (fun e => hs (by injection e)), if_neg]
        rw [Bool.not_eq_true] at h
        rw [h]
        simp [hs]
theorem at_setD (k : Str) (ss : List Str) : (setD ss).atKey (keyL k) (.lit (.bool false)) = .lit (.bool (hasS ss k)) := by
  unfold setD setOf
  rw [at_setOf _ k ss _ isMap_empty]
  unfold hasS
  cases ss.contains k <;> rfl

/-- How many strings are in a list, each counted once. -/
def once (ss : List Str) : Bool := decide (Maps.size (setD ss) = ss.length)
theorem addKey_len (acc : List Lit) (x : Lit) : (addKey acc x).length ≤ acc.length + 1 := by
  unfold addKey; split <;> simp
theorem fold_len : ∀ (xs acc : List Lit), (xs.foldl addKey acc).length ≤ acc.length + xs.length
  | [], _ => Nat.le_refl _
  | x :: xs, acc => by
    have h1 := fold_len xs (addKey acc x)
    have h2 := addKey_len acc x
    simp only [List.foldl_cons, List.length_cons]
    omega
theorem fold_full : ∀ (ss acc : List Str), (∀ s ∈ ss, s ∉ acc) → ss.Nodup → ((keysL ss).foldl addKey (keysL acc)).length = acc.length + ss.length
  | [], acc, _, _ => by simp [keysL]
  | s :: ss, acc, hd, hn => by
    have hno : (keysL acc).any (fun y => y.sameKey (keyL s)) = false := by
      rw [List.any_eq_false]
      intro y hy
      obtain ⟨u, hu, rfl⟩ := List.mem_map.1 hy
      have : u ≠ s := fun e => hd s (by simp) (e ▸ hu)
      simp [keyL, Lit.sameKey, this]
    show ((keysL ss).foldl addKey (addKey (keysL acc) (keyL s))).length = _
    have e : addKey (keysL acc) (keyL s) = keysL (acc ++ [s]) := by
      unfold addKey; rw [hno]; simp [keysL]
    rw [e, fold_full ss (acc ++ [s]) (fun x hx => by
      have := List.nodup_cons.1 hn
      simp only [List.mem_append, List.mem_singleton, not_or]
      exact ⟨hd x (by simp [hx]), fun ex => this.1 (ex ▸ hx)⟩) (List.nodup_cons.1 hn).2]
    simp; omega
theorem fold_less : ∀ (ss acc : List Str), ((keysL ss).foldl addKey (keysL acc)).length = acc.length + ss.length → (∀ s ∈ ss, s ∉ acc) ∧ ss.Nodup
  | [], acc, _ => ⟨by simp, List.nodup_nil⟩
  | s :: ss, acc, h => by
    by_cases hs : s ∈ acc
    · have hyes : (keysL acc).any (fun y => y.sameKey (keyL s)) = true := by
        rw [List.any_eq_true]
        exact ⟨keyL s, List.mem_map.2 ⟨s, hs, rfl⟩, by simp [keyL, Lit.sameKey]⟩
      have e : addKey (keysL acc) (keyL s) = keysL acc := by unfold addKey; rw [hyes]; rfl
      have h' : ((keysL ss).foldl addKey (addKey (keysL acc) (keyL s))).length = acc.length + (ss.length + 1) := h
      rw [e] at h'
      have := fold_len (keysL ss) (keysL acc)
      simp [keysL] at this h'
      omega
    · have hno : (keysL acc).any (fun y => y.sameKey (keyL s)) = false := by
        rw [List.any_eq_false]
        intro y hy
        obtain ⟨u, hu, rfl⟩ := List.mem_map.1 hy
        have : u ≠ s := fun e => hs (e ▸ hu)
        simp [keyL, Lit.sameKey, this]
      have e : addKey (keysL acc) (keyL s) = keysL (acc ++ [s]) := by unfold addKey; rw [hno]; simp [keysL]
      have h' : ((keysL ss).foldl addKey (addKey (keysL acc) (keyL s))).length = acc.length + (ss.length + 1) := h
      rw [e] at h'
      obtain ⟨h1, h2⟩ := fold_less ss (acc ++ [s]) (by rw [h']; simp; omega)
      refine ⟨fun x hx => ?_, List.nodup_cons.2 ⟨fun hm => ?_, h2⟩⟩
      · rcases List.mem_cons.1 hx with rfl | hx
        · exact hs
        · exact fun hxa => h1 x hx (by simp [hxa])
      · exact h1 s hm (by simp)
/-- The set has as many strings as the list just if no string stands twice in it. -/
theorem once_iff (ss : List Str) : once ss = true ↔ ss.Nodup := by
  unfold once
  rw [decide_eq_true_eq, setD, size_setOf _ _ (keysL_ok ss)]
  constructor
  · intro h; exact (fold_less ss [] (by simpa [keysL] using h)).2
  · intro h; simpa [keysL] using fold_full ss [] (by simp) h

theorem made_map {P : Program} {t k e : TypeId} (ht : P.underlying t = some (.map k e)) (q : IntKind) (n : Int) (W : World) :
    (Instr.makeMap t (some (.int q n))).run P W = .ok (.map (some W.heap.size)) (W.alloc (.map #[] 0)) := by
  simp [Instr.makeMap, run_underlying ht]; rfl
theorem keyed9 : Keyed Try.prog 9 := string_keyed Try.underlying9
theorem key_ok (s : Str) (h : s.length ≤ maxLen) : keyOf Try.prog 9 (.string (baS s)) = some (keyL s) :=
  keyOf_string_mk Try.underlying9 (by simpa [baS, ByteArray.size] using h)

end Go.Proofs.Ythbakfceaaaamaa

/- Contract of Fresh. -/
namespace Go.Proofs.Ythbakfceaaaamaa
open Go.RowKit Go.Sort Go.Maps Go.WideMaps

end Go.Proofs.Ythbakfceaaaamaa

/- Contract of first: the chapter's examples come out as it says. -/
namespace Go.Proofs.Ythbakfceaaaamaa
open Go.RowKit Go.Sort

/-- A slice of some strings, as a call makes it of its elements. -/
theorem strs_new (w : World) (cs : Array Value) (ss : List Str) (n : Nat) (hc : cs = (ss.map encStr).toArray) (hn : ss.length = n) (hl : n ≤ 1000) (hm : ∀ s ∈ ss, s.length ≤ 1000) :
    Strs (w.alloc (.cells cs 9)) (w.alloc (.cells cs 9)).heap.size (some ⟨w.heap.size, 0, none⟩) n ss :=
  ⟨hn, by omega, fun s hs => Nat.le_trans (hm s hs) (by unfold maxLen; omega), fun _ => ⟨w.heap.size, 0, rfl, by simp, fun j s hj => by
    rw [cell_of_row _ _ _ _ _ _ (heap_alloc_new w _), hc, Nat.zero_add]
    simp [hj]⟩⟩
theorem bel_drewN {B : Nat} {a w : World} (h : Below B a w) (n : Nat) : Below B a (w.drewN n) := ⟨h.os, h.tape, h.output, h.size, h.block⟩
theorem strs_at (w : World) (b : Nat) (hb : w.heap.size = b) (cs : Array Value) (ss : List Str) (n : Nat) (hc : cs = (ss.map encStr).toArray) (hn : ss.length = n) (hl : n ≤ 1000) (hm : ∀ s ∈ ss, s.length ≤ 1000) :
    Strs (w.alloc (.cells cs 9)) (w.alloc (.cells cs 9)).heap.size (some ⟨b, 0, none⟩) n ss := by
  subst hb; exact strs_new w cs ss n hc hn hl hm
theorem lit_list (l : Str) (x : ByteArray) (h : x = baS l) : x.toList = l := by rw [h, baS_toList]
theorem dec_one (k : Nat) (h : k < 10) : Lib.decDigits k = [UInt8.ofNat (48 + k)] := by unfold Lib.decDigits; rw [dif_pos h]

theorem may1 (w : World) : Calls Try.prog 68 #[.string ⟨#[115, 101, 108, 108, 101, 114, 50]⟩] w fun e w' => e = .returned (.bool true) ∧ w = w' := by
  have h := may_any ⟨#[115, 101, 108, 108, 101, 114, 50]⟩ w (by simp [maxLen, ByteArray.size])
  rwa [lit_list [115, 101, 108, 108, 101, 114, 50] ⟨#[115, 101, 108, 108, 101, 114, 50]⟩ rfl, show may [115, 101, 108, 108, 101, 114, 50] = true by decide] at h
theorem may2 (w : World) : Calls Try.prog 68 #[.string ⟨#[115, 97, 121]⟩] w fun e w' => e = .returned (.bool false) ∧ w = w' := by
  have h := may_any ⟨#[115, 97, 121]⟩ w (by simp [maxLen, ByteArray.size])
  rwa [lit_list [115, 97, 121] ⟨#[115, 97, 121]⟩ rfl, show may [115, 97, 121] = false by decide] at h
theorem may3 (w : World) : Calls Try.prog 68 #[.string ⟨#[]⟩] w fun e w' => e = .returned (.bool false) ∧ w = w' := by
  have h := may_any ⟨#[]⟩ w (by simp [maxLen, ByteArray.size])
  rwa [lit_list [] ⟨#[]⟩ rfl, show may [] = false by decide] at h
theorem kw1 (w : World) : Calls Try.prog 87 #[.string ⟨#[115, 97, 121]⟩] w fun e w' => e = .returned (.bool true) ∧ w = w' := by
  have h := keyword_any ⟨#[115, 97, 121]⟩ w
  rwa [lit_list [115, 97, 121] ⟨#[115, 97, 121]⟩ rfl, show isKw [115, 97, 121] = true by decide] at h
theorem put1 : putS [[98], [97], [98]] [99] = [[97], [98], [99]] :=
  putS_only (ss := [[98], [97], [98]]) (l := [[97], [98], [99]]) (by decide) (fun x => by
    simp only [List.mem_cons, List.not_mem_nil, or_false]
    constructor
    · rintro (h | h | h) <;> simp [h]
    · rintro ((h | h | h) | h) <;> simp [h])
theorem put2 (w : World) (a : Option Addr) (c : Nat) (h : Strs w w.heap.size a 3 [[98], [97], [98]]) :
    Calls Try.prog 25 #[.slice a 3 c, .string ⟨#[99]⟩] w fun e w' => ∃ a1 c1, e = .returned (.slice a1 3 c1) ∧ Strs w' w'.heap.size a1 3 [[97], [98], [99]] ∧ Below w.heap.size w w' := by
  refine (put_any a 3 c _ ⟨#[99]⟩ w (by omega) (by simp [maxLen, ByteArray.size]) h).mono ?_
  rintro e w' ⟨v, rfl, hown, hb⟩
  rw [lit_list [99] ⟨#[99]⟩ rfl, put1] at hown
  obtain ⟨a1, c1, rfl, hs, _⟩ := Strs.of_own hown (by decide) (by intro s hs; simp at hs; rcases hs with rfl | rfl | rfl <;> simp [maxLen])
  exact ⟨a1, c1, rfl, hs, hb⟩

end Go.Proofs.Ythbakfceaaaamaa

/- The law NamesFresh returns true for every list and string. -/
namespace Go.Proofs.Ythbakfceaaaamaa
open Go.RowKit Go.Sort

theorem quiet_at {P : Program} {f : FuncId} {args : Array Value} {w : World} {n : Nat} {v : Value} (h : Calls P f args (w.drewN n) fun e w' => e = .returned v ∧ w.drewN n = w') :
    Calls P f args (w.drewN n) fun e w' => e = .returned v ∧ ∃ m, w' = w.drewN m := h.mono fun _ _ ⟨he, hm⟩ => ⟨he, n, hm.symm⟩
theorem num_first (s : Str) (k : Nat) (hk : k < 100) (hs : 1 ≤ s.length) : 1 ≤ (numS s k).length ∧ (numS s k).getD 0 0 = s.getD 0 0 := by
  unfold numS
  obtain ⟨c, t, rfl⟩ : ∃ c t, s = c :: t := by
    cases s with
    | nil => simp at hs
    | cons c t => exact ⟨c, t, rfl⟩
  rcases dec_len k hk with e | e <;> rw [e] <;> exact ⟨by simp, rfl⟩
theorem fresh_law (ss : List Str) (s : Str) (hn : ss.length ≤ 40) : hasS ss (freshS ss s) = false ∧ hasS ss (freshS (freshS ss s :: ss) s) = false ∧ freshS ss s ≠ freshS (freshS ss s :: ss) s ∧
    (hasS ss s = false → freshS ss s = s) ∧ (may s = true → 1 ≤ (freshS ss s).length ∧ (freshS ss s).length ≤ 12 ∧ (freshS ss s).getD 0 0 = s.getD 0 0) := by
  have new : ∀ tt : List Str, tt.length ≤ 41 → freshS tt s ∉ tt := fun tt ht hm => by
    rcases freshS_cases tt s ht with ⟨h, e⟩ | ⟨m, _, _, _, e, h⟩
    · rw [e, ← hasS_iff, h] at hm; cases hm
    · rw [e, ← hasS_iff, h] at hm; cases hm
  have h1 := new ss (by omega)
  have h2 := new (freshS ss s :: ss) (by simp; omega)
  refine ⟨by rw [← Bool.not_eq_true, hasS_iff]; exact h1, by rw [← Bool.not_eq_true, hasS_iff]; exact fun h => h2 (by simp [h]), fun e => h2 (by rw [← e]; simp), fun h => ?_, fun h => ?_⟩
  · rcases freshS_cases ss s (by omega) with ⟨_, e⟩ | ⟨m, _, _, h', _⟩
    · exact e
    · rw [h] at h'; cases h'
  · have hs : 1 ≤ s.length ∧ s.length ≤ 12 := by
      unfold may at h
      simp only [Bool.and_eq_true, decide_eq_true_eq] at h
      exact ⟨h.1.1.1.1, h.1.1.1.2⟩
    rcases freshS_cases ss s (by omega) with ⟨_, e⟩ | ⟨m, _, hm, _, e, _⟩
    · rw [e]; exact ⟨hs.1, hs.2, rfl⟩
    · rw [e]
      have := num_first s m (by omega) hs.1
      exact ⟨this.1, num_len s m (by omega), this.2⟩
theorem own_one (w : World) (x : ByteArray) : (w.alloc (.cells #[.string x] 9)).ownsRow w.heap.size 9 1 (.slice (some ⟨w.heap.size, 0, none⟩) 1 1) 1 (([x.toList] : List Str).map encStr) :=
  ⟨rfl, .inr ⟨w.heap.size, 1, _, rfl, Nat.le_refl _, heap_alloc_new w _, Nat.le_refl _, by unfold maxLen; omega, rfl, by
    show [Value.string x] = [encStr x.toList]
    rw [show encStr x.toList = Value.string (baS x.toList) from rfl, baS_of]⟩⟩

end Go.Proofs.Ythbakfceaaaamaa

/- The law NamesPut returns true for every list and string. -/
namespace Go.Proofs.Ythbakfceaaaamaa
open Go.RowKit Go.Sort

theorem plc_from (x : Str) : ∀ (ss : List Str) (i : Nat), x ∈ ss → 0 ≤ plcFrom ss x i
  | [], _, h => by cases h
  | z :: zs, i, h => by
    unfold plcFrom
    split
    · omega
    · rename_i hz
      rcases List.mem_cons.1 h with e | h
      · exact absurd e.symm hz
      · exact plc_from x zs (i + 1) h

end Go.Proofs.Ythbakfceaaaamaa

/- Contracts of the reference's NameMay, Place, Has and Once. -/
namespace Go.Proofs.Ythbakfceaaaamaa
open Go.RowKit Go.Sort

set_option maxHeartbeats 1000000 in
theorem refMay_any (s : ByteArray) (w : World) (hs : s.size ≤ maxLen) : Calls Try.prog 69 #[.string s] w fun e w' => e = .returned (.bool (may s.toList)) ∧ w = w' := by
  unfold maxLen at hs
  have hlen := Lib.hid (len_toList s)
  by_cases h0 : s.size < 1
  · have hm := Lib.hid (may_short (l := s.toList) (by rw [len_toList]; exact h0))
    have d1 : decide ((s.size : Int) < 1) = true := by simp; omega
    go_enter Try.func69, Try.ntmps69
    go_wp2
    go_ret
    exact ⟨ret_bool hm.out.symm, rfl⟩
  have d1 : decide ((s.size : Int) < 1) = false := by simp; omega
  by_cases hbig : 12 < s.size
  · have hm := Lib.hid (may_long (l := s.toList) (by rw [len_toList]; exact hbig))
    have d2 : decide (12 < (s.size : Int)) = true := by simp; omega
    go_enter Try.func69, Try.ntmps69
    go_wp2
    go_ret
    exact ⟨ret_bool hm.out.symm, rfl⟩
  have d2 : decide (12 < (s.size : Int)) = false := by simp; omega
  have hpos : 0 < s.size := by omega
  have hg0 := Lib.hid (get_toList s 0 hpos)
  cases hl : isLet (s[0].toNat : Int)
  · have hm := Lib.hid (may_first (l := s.toList) (by rw [hg0.out]; exact hl))
    go_enter Try.func69, Try.ntmps69
    go_wp2_with (go_at_call 88; refine (refLetter_any _ _).mono ?_; rintro e w' ⟨rfl, rfl⟩)
    go_ret
    exact ⟨ret_bool hm.out.symm, rfl⟩
  have hf := Lib.hid (show isLet ((s.toList.getD 0 0).toNat : Int) = true by rw [hg0.out]; exact hl)
  cases hkw : isKw s.toList
  · have ck : ∀ W, Calls Try.prog 89 #[.string s] W fun e w' => e = .returned (.bool false) ∧ W = w' := fun W => by
      have h := refKeyword_any s W
      rwa [hkw] at h
    have HK := Lib.hid hkw
    have CK := Lib.hid ck
    clear hkw ck
    go_enter Try.func69, Try.ntmps69
    go_wp2_with (first
      | (go_at_call 88; refine (refLetter_any _ _).mono ?_; rintro e w' ⟨rfl, rfl⟩)
      | (go_at_call 89; refine (CK.out _).mono ?_; rintro e w' ⟨rfl, rfl⟩))
    go_loop [3] (fun i => ∃ k : Nat, 1 ≤ k ∧ k ≤ s.size ∧ i = .int .i64 k ∧ Hid (∀ j, j < k → okB (s.toList.getD j 0) = true)) (fun i => s.size - (intOf i).toNat)
    case atStart => exact ⟨1, Nat.le_refl _, hpos, rfl, Lib.hid (fun j hj => by
      obtain rfl : j = 0 := by omega
      unfold okB
      rw [hf.out]; rfl)⟩
    case round =>
      obtain ⟨k, hk1, hk, rfl, hpre⟩ := hrel
      by_cases hlt : k < s.size
      · have hgk := Lib.hid (get_toList s k hlt)
        cases hb1 : isLet (s[k].toNat : Int)
        · cases hb2 : isDig (s[k].toNat : Int)
          · have hm := Lib.hid (may_bad (l := s.toList) (k := k) (by rw [hlen.out]; exact hlt) (by rw [hgk.out]; simp [okB, hb1, hb2]))
            go_wp2_with (first
              | (go_at_call 88; refine (refLetter_any _ _).mono ?_; rintro e w' ⟨rfl, rfl⟩)
              | (go_at_call 90; refine (refDigit_any _ _).mono ?_; rintro e w' ⟨rfl, rfl⟩))
            go_ret
            exact ⟨ret_bool hm.out.symm, rfl⟩
          · have hok := Lib.hid (show okB (s.toList.getD k 0) = true by rw [hgk.out]; simp [okB, hb2])
            go_wp2_with (first
              | (go_at_call 88; refine (refLetter_any _ _).mono ?_; rintro e w' ⟨rfl, rfl⟩)
              | (go_at_call 90; refine (refDigit_any _ _).mono ?_; rintro e w' ⟨rfl, rfl⟩))
            go_round
            case rel => exact ⟨k + 1, by omega, by omega, by go_num, Lib.hid (fun j hj => by
              rcases Nat.lt_or_ge j k with h | h
              · exact hpre.out j h
              · obtain rfl : j = k := by omega
                exact hok.out)⟩
            case measure => simp [intOf]; omega
        · have hok := Lib.hid (show okB (s.toList.getD k 0) = true by rw [hgk.out]; simp [okB, hb1])
          go_wp2_with (first
            | (go_at_call 88; refine (refLetter_any _ _).mono ?_; rintro e w' ⟨rfl, rfl⟩)
            | (go_at_call 90; refine (refDigit_any _ _).mono ?_; rintro e w' ⟨rfl, rfl⟩))
          go_round
          case rel => exact ⟨k + 1, by omega, by omega, by go_num, Lib.hid (fun j hj => by
            rcases Nat.lt_or_ge j k with h | h
            · exact hpre.out j h
            · obtain rfl : j = k := by omega
              exact hok.out)⟩
          case measure => simp [intOf]; omega
      · have hm := Lib.hid ((may_all (l := s.toList) (by rw [hlen.out]; omega) (by rw [hlen.out]; omega) hf.out (fun j hj => hpre.out j (by rw [hlen.out] at hj; omega))).trans (by rw [HK.out]))
        go_wp2
        go_ret
        exact ⟨ret_bool hm.out.symm, rfl⟩
  · have ck : ∀ W, Calls Try.prog 89 #[.string s] W fun e w' => e = .returned (.bool true) ∧ W = w' := fun W => by
      have h := refKeyword_any s W
      rwa [hkw] at h
    have hm := Lib.hid (show may s.toList = false by unfold may; rw [hkw]; simp)
    have CK := Lib.hid ck
    clear hkw ck
    go_enter Try.func69, Try.ntmps69
    go_wp2_with (first
      | (go_at_call 88; refine (refLetter_any _ _).mono ?_; rintro e w' ⟨rfl, rfl⟩)
      | (go_at_call 89; refine (CK.out _).mono ?_; rintro e w' ⟨rfl, rfl⟩))
    go_ret
    exact ⟨ret_bool hm.out.symm, rfl⟩

theorem plc_has (x : Str) : ∀ (ss : List Str) (i : Nat), decide (0 ≤ plcFrom ss x i) = hasS ss x
  | [], _ => rfl
  | z :: zs, i => by
    have ih := plc_has x zs (i + 1)
    unfold hasS at ih ⊢
    unfold plcFrom
    rw [List.contains_cons]
    by_cases h : z = x
    · subst h; simp
    · rw [if_neg h, ih, beq_eq_false_iff_ne.2 (fun e => h e.symm), Bool.false_or]
theorem plc_step {ss : List Str} {x : Str} {k : Nat} (hk : k < ss.length) (hne : ss.getD k [] ≠ x) : plcFrom (ss.drop k) x k = plcFrom (ss.drop (k + 1)) x (k + 1) := by
  rw [List.drop_eq_getElem_cons hk, plcFrom, if_neg (by rw [List.getD_eq_getElem?_getD, List.getElem?_eq_getElem hk] at hne; exact hne)]
theorem plc_hit {ss : List Str} {x : Str} {k : Nat} (hk : k < ss.length) (he : ss.getD k [] = x) : plcFrom (ss.drop k) x k = (k : Int) := by
  rw [List.drop_eq_getElem_cons hk, plcFrom, if_pos (by rw [List.getD_eq_getElem?_getD, List.getElem?_eq_getElem hk] at he; exact he)]

theorem nodup_more {ss : List Str} {k : Nat} (hk : k < ss.length) (hn : (ss.take k).Nodup) (hno : hasS (ss.take k) (ss.getD k []) = false) : (ss.take (k + 1)).Nodup := by
  rw [take_more ss k hk, List.nodup_append]
  refine ⟨hn, by simp, fun x hx y hy e => ?_⟩
  rw [List.mem_singleton] at hy
  rw [← Bool.not_eq_true, hasS_iff] at hno
  exact hno (by rw [← hy, ← e]; exact hx)
theorem twice_at {ss : List Str} {k : Nat} (hk : k < ss.length) (hh : hasS (ss.take k) (ss.getD k []) = true) : once ss = false := by
  rw [← Bool.not_eq_true, once_iff]
  intro hn
  have h1 : (ss.take (k + 1)).Nodup := hn.sublist (List.take_sublist _ _)
  rw [take_more ss k hk, List.nodup_append] at h1
  exact h1.2.2 _ ((hasS_iff _ _).1 hh) _ (by simp) rfl

end Go.Proofs.Ythbakfceaaaamaa

/- Contracts of the reference's arity and alone. -/
namespace Go.Proofs.Ythbakfceaaaamaa
open Go.RowKit

def arI (k : Int) : Int := if 0 ≤ k ∧ k ≤ 19 then (arT k : Int) else -1
theorem arI_out {k : Int} (h : k < 0 ∨ 19 < k) : arI k = -1 := by unfold arI; rw [if_neg (by omega)]
theorem arI_low {k : Int} (h0 : 0 ≤ k) (h : k ≤ 5) : arI k = 0 := by
  unfold arI arT
  rw [if_pos ⟨h0, by omega⟩, if_neg (by omega), if_pos ⟨h0, h⟩]
  rfl
theorem arI_one {k : Int} (h : k = 15 ∨ k = 16) : arI k = 1 := by rcases h with rfl | rfl <;> rfl
theorem arI_two {k : Int} (h0 : 5 < k) (h : k ≤ 19) (h1 : k ≠ 15) (h2 : k ≠ 16) : arI k = 2 := by
  unfold arI arT
  rw [if_pos ⟨by omega, h⟩, if_neg (by omega), if_neg (by omega)]
  rfl
theorem arity_any (k : Int) (w : World) : Calls Try.prog 33 #[.int .i64 k] w fun e w' => e = .returned (.int .i64 (arI k)) ∧ w = w' := by
  by_cases h1 : k < 0
  · have d1 : decide (k < 0) = true := decide_eq_true h1
    have HG := Lib.hid (arI_out (.inl h1))
    go_enter Try.func33, Try.ntmps33
    go_wp2
    go_ret
    exact ⟨by rw [HG.out]; rfl, rfl⟩
  have d1 : decide (k < 0) = false := decide_eq_false h1
  by_cases h2 : 19 < k
  · have d2 : decide (19 < k) = true := decide_eq_true h2
    have HG := Lib.hid (arI_out (.inr h2))
    go_enter Try.func33, Try.ntmps33
    go_wp2
    go_ret
    exact ⟨by rw [HG.out]; rfl, rfl⟩
  have d2 : decide (19 < k) = false := decide_eq_false h2
  by_cases h3 : k ≤ 5
  · have d3 : decide (k ≤ 5) = true := decide_eq_true h3
    have HG := Lib.hid (arI_low (by omega) h3)
    go_enter Try.func33, Try.ntmps33
    go_wp2
    go_ret
    exact ⟨by rw [HG.out]; rfl, rfl⟩
  have d3 : decide (k ≤ 5) = false := decide_eq_false h3
  by_cases h4 : k = 15
  · subst h4
    go_enter Try.func33, Try.ntmps33
    go_wp2
    go_ret
    exact ⟨rfl, rfl⟩
  have d4 : (k == 15) = false := by rw [beq_eq_false_iff_ne]; exact h4
  by_cases h5 : k = 16
  · subst h5
    go_enter Try.func33, Try.ntmps33
    go_wp2
    go_ret
    exact ⟨rfl, rfl⟩
  have d5 : (k == 16) = false := by rw [beq_eq_false_iff_ne]; exact h5
  have HG := Lib.hid (arI_two (by omega) (by omega) h4 h5)
  clear h4 h5
  go_enter Try.func33, Try.ntmps33
  go_wp2
  go_ret
  exact ⟨by rw [HG.out]; rfl, rfl⟩

/-- The parts of soundT. -/
def headT (t : Trm) : Bool := decide (0 ≤ t.kind) && decide (t.kind ≤ 19) && (decide (arT t.kind = 2) || t.r == -1) && (decide (1 ≤ arT t.kind) || t.l == -1)
def nameT (t : Trm) : Bool := if t.kind = 0 then may t.name else t.name.isEmpty
def numbT (t : Trm) : Bool := t.num == 0 || t.kind == 1 || (t.kind == 2 && t.num == 1)
def textT (t : Trm) : Bool := t.text.isEmpty || (t.kind == 3 && decide (t.text.length ≤ 24))
theorem sound_parts (t : Trm) : soundT t = (headT t && nameT t && numbT t && textT t) := rfl
theorem headT_cases (t : Trm) : headT t = if arI t.kind = -1 then false else if arI t.kind = 0 then (t.r == -1 && t.l == -1) else if arI t.kind = 1 then t.r == -1 else true := by
  unfold headT
  by_cases h0 : 0 ≤ t.kind ∧ t.kind ≤ 19
  · rw [decide_eq_true h0.1, decide_eq_true h0.2]
    have : arI t.kind = (arT t.kind : Int) := by unfold arI; rw [if_pos h0]
    rw [this]
    rcases arT_ways t.kind with h | h | h <;> rw [h] <;> simp
  · rw [arI_out (by omega), if_pos rfl]
    rcases (show t.kind < 0 ∨ 19 < t.kind by omega) with h | h
    · rw [decide_eq_false (p := 0 ≤ t.kind) (by omega)]; rfl
    · rw [decide_eq_false (p := t.kind ≤ 19) (by omega)]; simp
theorem arI_ways (k : Int) : arI k = -1 ∨ arI k = 0 ∨ arI k = 1 ∨ arI k = 2 := by
  unfold arI
  split
  · rcases arT_ways k with h | h | h <;> rw [h] <;> simp
  · exact .inl rfl
theorem beq_nil {l : Str} (h : l.isEmpty = false) : (l == []) = false := by cases l <;> simp_all
set_option maxHeartbeats 8000000 in
set_option maxRecDepth 20000 in
theorem alone_any (k : Int) (nm : ByteArray) (x : Int) (tx : ByteArray) (l r : Int) (w : World) (hs : nm.size ≤ maxLen) :
    Calls Try.prog 52 #[.agg #[.int .i64 k, .string nm, .int .i64 x, .string tx, .int .i64 l, .int .i64 r]] w fun e w' => e = .returned (.bool (soundT ⟨k, nm.toList, x, tx.toList, l, r⟩)) ∧ Below w.heap.size w w' := by
  have HB := Lib.hid ((Below.refl w.heap.size w).alloc (Nat.le_refl _) (.cells #[.int .i64 k, .string nm, .int .i64 x, .string tx, .int .i64 l, .int .i64 r] 49))
  have HSM := Lib.hid hs
  have HP := Lib.hid (sound_parts ⟨k, nm.toList, x, tx.toList, l, r⟩)
  have HH := Lib.hid (headT_cases ⟨k, nm.toList, x, tx.toList, l, r⟩)
  have HN := Lib.hid (show nameT ⟨k, nm.toList, x, tx.toList, l, r⟩ = if k = 0 then may nm.toList else nm.toList.isEmpty from rfl)
  have HU := Lib.hid (show numbT ⟨k, nm.toList, x, tx.toList, l, r⟩ = (x == 0 || k == 1 || (k == 2 && x == 1)) from rfl)
  have HT := Lib.hid (show textT ⟨k, nm.toList, x, tx.toList, l, r⟩ = (tx.toList.isEmpty || (k == 3 && decide (tx.toList.length ≤ 24))) from rfl)
  generalize soundT ⟨k, nm.toList, x, tx.toList, l, r⟩ = S at HP ⊢
  generalize headT ⟨k, nm.toList, x, tx.toList, l, r⟩ = bh at HP HH
  generalize nameT ⟨k, nm.toList, x, tx.toList, l, r⟩ = bn at HP HN
  generalize numbT ⟨k, nm.toList, x, tx.toList, l, r⟩ = bu at HP HU
  generalize textT ⟨k, nm.toList, x, tx.toList, l, r⟩ = bt at HP HT
  have CA := Lib.hid (fun W => arity_any k W)
  have HW := Lib.hid (arI_ways k)
  dsimp only at HH
  generalize arI k = ar at CA HH HW
  clear hs
  go_enter Try.func52, Try.ntmps52
  go_upto_region 2 with (first
    | (go_at_call 33; (with_reducible refine (CA.out _).mono ?_); rintro e w1 ⟨rfl, rfl⟩)
    | fail)
  go_cut [29] (fun c wx => c = .bool (!bh) ∧ wx = w.alloc (.cells #[.int .i64 k, .string nm, .int .i64 x, .string tx, .int .i64 l, .int .i64 r] 49))
  case first =>
    rcases HW.out with h | h | h | h
    · subst h
      have hb := Lib.hid (show bh = false by rw [HH.out, if_pos rfl])
      go_wp2_with fail
      go_meet
      exact ⟨by rw [hb.out]; rfl, rfl⟩
    · subst h
      have hb := Lib.hid (show bh = (r == -1 && l == -1) by rw [HH.out, if_neg (by decide), if_pos rfl])
      cases hr : (r == -1)
      · have hr2 : (r != -1) = true := by unfold bne; rw [hr]; rfl
        rw [hr] at hb
        go_wp2_with fail
        go_meet
        exact ⟨by rw [hb.out]; rfl, rfl⟩
      · have hr2 : (r != -1) = false := by unfold bne; rw [hr]; rfl
        rw [hr] at hb
        cases hl : (l == -1)
        · have hl2 : (l != -1) = true := by unfold bne; rw [hl]; rfl
          rw [hl] at hb
          go_wp2_with fail
          go_meet
          exact ⟨by rw [hb.out]; rfl, rfl⟩
        · have hl2 : (l != -1) = false := by unfold bne; rw [hl]; rfl
          rw [hl] at hb
          go_wp2_with fail
          go_meet
          exact ⟨by rw [hb.out]; rfl, rfl⟩
    · subst h
      have hb := Lib.hid (show bh = (r == -1) by rw [HH.out, if_neg (by decide), if_neg (by decide), if_pos rfl])
      cases hr : (r == -1)
      · have hr2 : (r != -1) = true := by unfold bne; rw [hr]; rfl
        rw [hr] at hb
        go_wp2_with fail
        go_meet
        exact ⟨by rw [hb.out]; rfl, rfl⟩
      · have hr2 : (r != -1) = false := by unfold bne; rw [hr]; rfl
        rw [hr] at hb
        go_wp2_with fail
        go_meet
        exact ⟨by rw [hb.out]; rfl, rfl⟩
    · subst h
      have hb := Lib.hid (show bh = true by rw [HH.out, if_neg (by decide), if_neg (by decide), if_neg (by decide)])
      go_wp2_with fail
      go_meet
      exact ⟨by rw [hb.out]; rfl, rfl⟩
  case rest =>
    obtain ⟨rfl, rfl⟩ := hcut
    cases bh
    · have HZ := Lib.hid (show S = false by rw [HP.out]; rfl)
      go_wp2
      go_ret
      exact ⟨ret_bool HZ.out.symm, HB.out⟩
    have HZ := Lib.hid (show S = (bn && bu && bt) by rw [HP.out, Bool.true_and])
    go_upto_region 4 with fail
    go_cut [4] (fun c wx => c = .bool bn ∧ wx = w.alloc (.cells #[.int .i64 k, .string nm, .int .i64 x, .string tx, .int .i64 l, .int .i64 r] 49))
    case first =>
      by_cases hk : k = 0
      · have HN2 := Lib.hid (show bn = may nm.toList by rw [HN.out, if_pos hk])
        have CM := Lib.hid (fun W => refMay_any nm W HSM.out)
        generalize may nm.toList = b at HN2 CM
        have hk1 : (k == 0) = true := by rw [beq_iff_eq]; exact hk
        have hk2 : (k != 0) = false := by unfold bne; rw [hk1]; rfl
        clear hk
        cases b
        all_goals
          go_wp2_with (first | (go_at_call 69; (with_reducible refine (CM.out _).mono ?_); rintro e w1 ⟨rfl, rfl⟩) | fail)
          go_meet
          exact ⟨by rw [HN2.out], rfl⟩
      · have HN2 := Lib.hid (show bn = nm.toList.isEmpty by rw [HN.out, if_neg hk])
        have hk1 : (k == 0) = false := by rw [beq_eq_false_iff_ne]; exact hk
        have hk2 : (k != 0) = true := by unfold bne; rw [hk1]; rfl
        clear hk
        cases hz : nm.toList.isEmpty
        · have hz2 : (nm.toList == []) = false := beq_nil hz
          rw [hz] at HN2
          go_wp2_with fail
          go_meet
          exact ⟨by rw [HN2.out], rfl⟩
        · have hz2 : nm.toList = [] := List.isEmpty_iff.1 hz
          rw [hz] at HN2
          go_wp2_with fail
          go_meet
          exact ⟨by rw [HN2.out], rfl⟩
    case rest =>
      obtain ⟨rfl, rfl⟩ := hcut
      go_upto_region 5 with fail
      go_cut [5] (fun c wx => c = .bool bu ∧ wx = w.alloc (.cells #[.int .i64 k, .string nm, .int .i64 x, .string tx, .int .i64 l, .int .i64 r] 49))
      case first =>
        cases hx : (x == 0)
        · cases h1 : (k == 1)
          · cases h2 : (k == 2)
            · have HU2 := Lib.hid (show bu = false by rw [HU.out, hx, h1, h2]; rfl)
              go_wp2_with fail
              go_meet
              exact ⟨by rw [HU2.out], rfl⟩
            · have HU2 := Lib.hid (show bu = (x == 1) by rw [HU.out, hx, h1, h2]; rfl)
              cases hx1 : (x == 1)
              all_goals
                rw [hx1] at HU2
                go_wp2_with fail
                go_meet
                exact ⟨by rw [HU2.out], rfl⟩
          · have HU2 := Lib.hid (show bu = true by rw [HU.out, hx, h1]; rfl)
            go_wp2_with fail
            go_meet
            exact ⟨by rw [HU2.out], rfl⟩
        · have HU2 := Lib.hid (show bu = true by rw [HU.out, hx]; rfl)
          go_wp2_with fail
          go_meet
          exact ⟨by rw [HU2.out], rfl⟩
      case rest =>
        obtain ⟨rfl, rfl⟩ := hcut
        go_upto_region 6 with fail
        go_cut [6] (fun c wx => c = .bool bt ∧ wx = w.alloc (.cells #[.int .i64 k, .string nm, .int .i64 x, .string tx, .int .i64 l, .int .i64 r] 49))
        case first =>
          cases hz : tx.toList.isEmpty
          · have hz2 : (tx.toList == []) = false := beq_nil hz
            cases h3 : (k == 3)
            · have HT2 := Lib.hid (show bt = false by rw [HT.out, hz, h3]; rfl)
              go_wp2_with fail
              go_meet
              exact ⟨by rw [HT2.out], rfl⟩
            · have HT2 := Lib.hid (show bt = decide ((tx.size : Int) ≤ 24) by rw [HT.out, hz, h3, lxLen]; simp only [Bool.false_or, Bool.true_and, decide_eq_decide]; omega)
              cases h24 : decide ((tx.size : Int) ≤ 24)
              all_goals
                rw [h24] at HT2
                go_wp2_with fail
                go_meet
                exact ⟨by rw [HT2.out], rfl⟩
          · have hz2 : tx.toList = [] := List.isEmpty_iff.1 hz
            have HT2 := Lib.hid (show bt = true by rw [HT.out, hz]; rfl)
            go_wp2_with fail
            go_meet
            exact ⟨by rw [HT2.out], rfl⟩
        case rest =>
          obtain ⟨rfl, rfl⟩ := hcut
          cases bn
          · have HZ2 := Lib.hid (show S = false by rw [HZ.out]; rfl)
            go_wp2
            go_ret
            exact ⟨ret_bool HZ2.out.symm, HB.out⟩
          cases bu
          · have HZ2 := Lib.hid (show S = false by rw [HZ.out]; rfl)
            go_wp2
            go_ret
            exact ⟨ret_bool HZ2.out.symm, HB.out⟩
          have HZ2 := Lib.hid (show S = bt by rw [HZ.out]; rfl)
          go_wp2
          go_ret
          exact ⟨ret_bool HZ2.out.symm, HB.out⟩
end Go.Proofs.Ythbakfceaaaamaa

/- Contract of the reference's tree. -/
namespace Go.Proofs.Ythbakfceaaaamaa
open Go.RowKit

/-- Block g holds how deep each place stands. -/
def DeepB (W : World) (g n : Nat) (d : Nat → Nat) : Prop := g < W.heap.size ∧ ∀ j, j < n → W.cell? ⟨g, j, none⟩ = some (.int .i64 (d j)) ∧ W.frozen? ⟨g, j, none⟩ = false
theorem DeepB.on {W W' : World} {g n : Nat} {d : Nat → Nat} (h : DeepB W g n d) (hb : Below W.heap.size W W') : DeepB W' g n d :=
  ⟨Nat.lt_of_lt_of_le h.1 hb.size, fun j hj => ⟨(hb.cell (p := ⟨g, j, none⟩) h.1).trans (h.2 j hj).1, (hb.frozen (p := ⟨g, j, none⟩) h.1).trans (h.2 j hj).2⟩⟩
theorem DeepB.set {W : World} {g n : Nat} {d : Nat → Nat} (h : DeepB W g n d) {i : Nat} (hi : i < n) (v : Nat) {u : Value} (hu : u = .int .i64 (v : Int)) : DeepB (W.setCell ⟨g, i, none⟩ u) g n (markD d i v) := by
  subst hu
  refine ⟨by simpa using h.1, fun j hj => ?_⟩
  rw [World.frozen?_setCell]
  refine ⟨?_, (h.2 j hj).2⟩
  by_cases hji : j = i
  · subst hji
    rw [markD_self, World.cell?_setCell_same' _ _ _ (by rw [(h.2 j hj).1]; rfl)]
  · rw [markD_ne _ _ hji, World.cell?_setCell_other _ _ _ _ (fun e => by injection e with _ e _; exact hji e.symm), (h.2 j hj).1]
theorem info_int : (Try.prog.info? 3).map (fun i => (i.zero, i.size, i.bytes)) = some (some (.int .i64 0), 1, 8) := by kernel_rfl
theorem made_ints (n : Nat) (hn : n ≤ 1000) (W : World) : (Instr.makeSlice 57 (.int .i64 (n : Int)) (.int .i64 (n : Int))).run Try.prog W =
    .ok (.slice (some ⟨W.heap.size, 0, none⟩) n n) (W.alloc (.cells (madeCells #[.int .i64 0] n) 3)) := by
  obtain ⟨i, hi, hzz⟩ := Option.map_eq_some_iff.1 info_int
  simp only [Prod.mk.injEq] at hzz
  obtain ⟨hz, hs, hb⟩ := hzz
  have hr := run_make (P := Try.prog) W 57 3 i _ Try.underlying57 hi hz .i64 .i64 (n : Int) (n : Int) (by omega) (by omega) (by rw [hb]; omega) (by omega)
  rw [hs, show ((n : Int).toNat) = n from by omega, Nat.mul_one] at hr
  exact hr
theorem deep_made (w : World) (n : Nat) : DeepB (w.alloc (.cells (madeCells #[.int .i64 0] n) 3)) w.heap.size n (fun _ => 0) := by
  refine ⟨by simp, fun j hj => ⟨?_, ?_⟩⟩
  · rw [cell_of_row _ _ _ _ _ _ (heap_alloc_new w _)]
    simp [madeCells, hj, Nat.mod_one]
  · unfold World.frozen?
    rw [heap_alloc_new w _]
    simp
theorem deep_first (w : World) (n r : Nat) (hr : r < n) : DeepB (w.alloc (.cells ((madeCells #[.int .i64 0] n).setIfInBounds r (.int .i64 1)) 3)) w.heap.size n (markD (fun _ => 0) r 1) := by
  refine ⟨by simp, fun j hj => ⟨?_, ?_⟩⟩
  · rw [cell_of_row _ _ _ _ _ _ (heap_alloc_new w _)]
    by_cases hjr : j = r
    · subst hjr; rw [markD_self]; simp [madeCells, hj]
    · rw [markD_ne _ _ hjr, Array.getElem?_setIfInBounds_ne (fun e => hjr e.symm)]; simp [madeCells, hj, Nat.mod_one]
  · unfold World.frozen?
    rw [heap_alloc_new w _]
    simp
/-- What the reference's tree finds. -/
def treeF (L : List Trm) (root : Int) : Option (Nat → Nat) := if L.length ≤ 160 ∧ 0 ≤ root ∧ root < L.length then treeD L (root.toNat + 1) (markD (fun _ => 0) root.toNat 1) else none
def TreeRet (w : World) (n : Nat) (r : Option (Nat → Nat)) (e : Ending) (w' : World) : Prop :=
  (match r with
    | none => e = .returned (.tuple #[.slice none 0 0, .bool false])
    | some d => ∃ g, e = .returned (.tuple #[.slice (some ⟨g, 0, none⟩) n n, .bool true]) ∧ DeepB w' g n d ∧ w.heap.size ≤ g) ∧ Below w.heap.size w w'
theorem TreeRet.no {w w' : World} {n : Nat} {r : Option (Nat → Nat)} (hr : r = none) (hb : Below w.heap.size w w') : TreeRet w n r (.returned (.tuple #[.slice none 0 0, .bool false])) w' := by
  subst hr; exact ⟨rfl, hb⟩
theorem TreeRet.yes {w w' : World} {n g : Nat} {r : Option (Nat → Nat)} {d : Nat → Nat} (hr : r = some d) (hd : DeepB w' g n d) (hg : w.heap.size ≤ g) (hb : Below w.heap.size w w') : TreeRet w n r (.returned (.tuple #[.slice (some ⟨g, 0, none⟩) n n, .bool true])) w' := by
  subst hr; exact ⟨⟨g, rfl, hd, hg⟩, hb⟩
theorem treeD_at {L : List Trm} {i : Nat} {t : Trm} (h : L[i]? = some t) (d : Nat → Nat) : treeD L (i + 1) d = match stepD t i d with
    | none => none
    | some d' => treeD L i d' := by
  rw [treeD, List.getD_eq_getElem?_getD, h]
  rfl
/-- What is left of a step. -/
def restD (L : List Trm) (i : Nat) (os : List Int) (d : Nat → Nat) : Option (Nat → Nat) := match foldO (opD i) os d with
  | none => none
  | some d' => treeD L i d'
theorem restD_nil (L : List Trm) (i : Nat) (d : Nat → Nat) : restD L i [] d = treeD L i d := rfl
theorem restD_cons (L : List Trm) (i : Nat) (o : Int) (os : List Int) (d : Nat → Nat) : restD L i (o :: os) d = match opD i o d with
    | none => none
    | some d' => restD L i os d' := by
  unfold restD
  rw [foldO]
  cases opD i o d <;> rfl
theorem restD_bad {L : List Trm} {i : Nat} {o : Int} {os : List Int} {d : Nat → Nat} (h : o < 0 ∨ (i : Int) ≤ o ∨ 0 < d o.toNat) : restD L i (o :: os) d = none := by
  rw [restD_cons]
  unfold opD
  rw [if_neg (by omega)]
theorem restD_good {L : List Trm} {i a : Nat} {os : List Int} {d : Nat → Nat} (h1 : a < i) (h2 : d a = 0) : restD L i ((a : Int) :: os) d = restD L i os (markD d a (d i + 1)) := by
  rw [restD_cons, opD_yes h1 h2]
theorem step_none {L : List Trm} {i : Nat} {t : Trm} {d : Nat → Nat} (h : L[i]? = some t) (hd : d i = 0) : treeD L (i + 1) d = treeD L i d := by
  rw [treeD_at h]; unfold stepD; rw [if_pos hd]
theorem step_bad {L : List Trm} {i : Nat} {t : Trm} {d : Nat → Nat} (h : L[i]? = some t) (hd : d i ≠ 0) (hs : soundT t = false ∨ 24 < d i) : treeD L (i + 1) d = none := by
  rw [treeD_at h]; unfold stepD; rw [if_neg hd, if_neg (fun hc => by rcases hs with hs | hs; rw [hs] at hc; exact absurd hc.1 (by simp); omega)]
theorem step_good {L : List Trm} {i : Nat} {t : Trm} {d : Nat → Nat} (h : L[i]? = some t) (hd : d i ≠ 0) (hs : soundT t = true) (h24 : d i ≤ 24) : treeD L (i + 1) d = restD L i (opsT t) d := by
  rw [treeD_at h]; unfold stepD; rw [if_neg hd, if_pos ⟨hs, h24⟩]; rfl
theorem sound_arI {t : Trm} (h : soundT t = true) : arI t.kind = (arT t.kind : Int) := by
  unfold soundT at h
  simp only [Bool.and_eq_true, decide_eq_true_eq] at h
  unfold arI
  rw [if_pos ⟨h.1.1.1.1.1.1, h.1.1.1.1.1.2⟩]
theorem arT_le (k : Int) : arT k ≤ 2 := by rcases arT_ways k with h | h | h <;> omega
theorem opsT_len (t : Trm) : (opsT t).length = arT t.kind := by
  rcases arT_ways t.kind with h | h | h
  · rw [opsT0 h, h]; rfl
  · rw [opsT1 h, h]; rfl
  · rw [opsT2 h, h]; rfl
theorem opsT_get {t : Trm} {q : Nat} (h : q < arT t.kind) : (opsT t).drop q = (if q = 0 then t.l else t.r) :: (opsT t).drop (q + 1) := by
  rcases arT_ways t.kind with ha | ha | ha
  · omega
  · obtain rfl : q = 0 := by omega
    rw [opsT1 ha]; rfl
  · rw [opsT2 ha]
    rcases (show q = 0 ∨ q = 1 by omega) with rfl | rfl <;> rfl

set_option maxHeartbeats 16000000 in
set_option maxRecDepth 20000 in
theorem refTree_any (la : Option Addr) (n c : Nat) (L : List Trm) (root : Int) (w : World) (hT : Trms w w.heap.size la n L) (hn : n ≤ 1000) :
    Calls Try.prog 32 #[.slice la n c, .int .i64 root] w (TreeRet w n (treeF L root)) := by
  have hl := hT.1
  have HL := Lib.hid hT
  have HN := Lib.hid hl
  clear hT
  by_cases h1 : 160 < n
  · have HG := Lib.hid (show treeF L root = none by unfold treeF; rw [if_neg (by omega)])
    have d1 : decide ((160 : Int) < (n : Int)) = true := decide_eq_true (by omega)
    clear hl
    go_enter Try.func32, Try.ntmps32
    go_wp2_with fail
    go_ret2
    exact TreeRet.no HG.out (Below.refl _ _)
  have d1 : decide ((160 : Int) < (n : Int)) = false := decide_eq_false (by omega)
  by_cases h2 : root < 0
  · have HG := Lib.hid (show treeF L root = none by unfold treeF; rw [if_neg (by omega)])
    clear hl
    go_enter Try.func32, Try.ntmps32
    go_wp2_with fail
    go_ret2
    exact TreeRet.no HG.out (Below.refl _ _)
  by_cases h3 : (n : Int) ≤ root
  · have HG := Lib.hid (show treeF L root = none by unfold treeF; rw [if_neg (by omega)])
    clear hl
    go_enter Try.func32, Try.ntmps32
    go_wp2_with fail
    go_ret2
    exact TreeRet.no HG.out (Below.refl _ _)
  obtain ⟨r, rfl⟩ : ∃ r : Nat, root = (r : Int) := ⟨root.toNat, by omega⟩
  have hrn : r < n := by omega
  have HG := Lib.hid (show treeF L (r : Int) = treeD L (r + 1) (markD (fun _ => 0) r 1) by unfold treeF; rw [if_pos (by omega), Int.toNat_natCast])
  generalize treeF L (r : Int) = R at HG ⊢
  have hmk := fun W => made_ints n (by omega) W
  have HD0 := Lib.hid (deep_first w n r hrn)
  obtain ⟨x0, x1⟩ := (deep_made w n).2 r hrn
  have HB0 := Lib.hid (next_alloc w (.cells ((madeCells #[.int .i64 0] n).setIfInBounds r (.int .i64 1)) 3))
  clear hl
  go_enter Try.func32, Try.ntmps32
  go_wp2
  go_loopw [7] (fun i wr => ∃ (z : Int) (k : Nat) (d : Nat → Nat), z < (n : Int) ∧ -1 ≤ z ∧ i = .int .i64 z ∧ Hid (z + 1 = (k : Int)) ∧ Hid (R = treeD L k d) ∧ Hid (DeepB wr w.heap.size n d) ∧ Hid (Below w.heap.size w wr)) (fun i _ => (intOf i + 1).toNat)
  case atStart => exact ⟨(r : Int), r + 1, _, by omega, by omega, rfl, Lib.hid (by omega), HG, HD0, HB0⟩
  case round =>
    obtain ⟨z, k, d, hz1, hz2, rfl, HK, HR, HD, HBr⟩ := hrel
    by_cases hz : 0 ≤ z
    · obtain ⟨i, rfl⟩ : ∃ i : Nat, z = (i : Int) := ⟨z.toNat, by omega⟩
      obtain rfl : k = i + 1 := by have := HK.out; omega
      have hin : i < n := by omega
      obtain ⟨b, off, tk, nm, x, tx, l, rr, rfl, hbb, hget, hns, hxs, p0, p1, p2, p3, p4, p5⟩ := HL.out.part hin
      have HGT := Lib.hid hget
      have HNS := Lib.hid hns
      obtain ⟨c0, c1⟩ := HD.out.2 i hin
      have q0 := (HBr.out.cell (p := ⟨b, off + i * 6, none⟩) hbb).trans p0
      have q1 := (HBr.out.cell (p := ⟨b, off + i * 6 + 1, none⟩) hbb).trans p1
      have q2 := (HBr.out.cell (p := ⟨b, off + i * 6 + 2, none⟩) hbb).trans p2
      have q3 := (HBr.out.cell (p := ⟨b, off + i * 6 + 3, none⟩) hbb).trans p3
      have q4 := (HBr.out.cell (p := ⟨b, off + i * 6 + 4, none⟩) hbb).trans p4
      have q5 := (HBr.out.cell (p := ⟨b, off + i * 6 + 5, none⟩) hbb).trans p5
      have HQ := Lib.hid (And.intro p0 (And.intro p4 p5))
      clear p0 p1 p2 p3 p4 p5 hget hns hxs
      by_cases hdi : d i = 0
      · have HZ := Lib.hid (HR.out.trans (step_none HGT.out hdi))
        rw [hdi] at c0
        clear hdi
        go_wp2_with fail
        go_roundw
        case rel => exact ⟨(i : Int) - 1, i, d, by omega, by omega, by go_num, Lib.hid (by omega), HZ, HD, HBr⟩
        case measure => simp [intOf] <;> omega
      · have e0 : (((d i : Nat) : Int) == 0) = false := by rw [beq_eq_false_iff_ne]; omega
        have ca := fun W => alone_any tk nm x tx l rr W HNS.out
        cases hsd : soundT ⟨tk, nm.toList, x, tx.toList, l, rr⟩
        · rw [hsd] at ca
          have CA := Lib.hid ca
          have HZ := Lib.hid (HR.out.trans (step_bad HGT.out hdi (.inl hsd)))
          clear hsd ca hdi
          go_wp2_with (first
            | (go_at_call 52; (with_reducible refine (CA.out _).mono ?_); rintro e w1 ⟨rfl, hb⟩; have HB1 := Lib.hid hb; clear hb)
            | fail)
          go_ret2
          exact TreeRet.no HZ.out (HBr.out.trans (HB1.out.mono HBr.out.size))
        · rw [hsd] at ca
          have CA := Lib.hid ca
          by_cases h24 : 24 < d i
          · have HZ := Lib.hid (HR.out.trans (step_bad HGT.out hdi (.inr h24)))
            have e24 : decide ((24 : Int) < ((d i : Nat) : Int)) = true := decide_eq_true (by omega)
            have HC0 := Lib.hid (And.intro HD.out.1 c0)
            clear hsd ca hdi
            go_wp2_with (first
              | (go_at_call 52; (with_reducible refine (CA.out _).mono ?_); rintro e w1 ⟨rfl, hb⟩; have HB1 := Lib.hid hb; have c0 := (hb.cell (p := ⟨w.heap.size, i, none⟩) HC0.out.1).trans HC0.out.2; clear hb)
              | fail)
            go_ret2
            exact TreeRet.no HZ.out (HBr.out.trans (HB1.out.mono HBr.out.size))
          · have HZ := Lib.hid (HR.out.trans (step_good HGT.out hdi hsd (by omega)))
            have e24 : decide ((24 : Int) < ((d i : Nat) : Int)) = false := decide_eq_false (by omega)
            have har := sound_arI hsd
            have hle := arT_le tk
            have HOP := Lib.hid (fun q (h : q < arT tk) => opsT_get (t := ⟨tk, nm.toList, x, tx.toList, l, rr⟩) (q := q) h)
            have HOE := Lib.hid (opsT_len ⟨tk, nm.toList, x, tx.toList, l, rr⟩)
            dsimp only at har
            have cr := fun W => arity_any tk W
            rw [har] at cr
            have CR := Lib.hid cr
            generalize opsT ⟨tk, nm.toList, x, tx.toList, l, rr⟩ = ops at HZ HOP HOE
            dsimp only at HOE
            generalize arT tk = ar at hle HOP HOE CR
            obtain ⟨di, hdi2⟩ : ∃ di, di = d i := ⟨_, rfl⟩
            rw [← hdi2] at c0 e0 e24
            have HDI := Lib.hid hdi2
            have hd24 : di ≤ 24 := by omega
            have HC0 := Lib.hid (And.intro HD.out.1 c0)
            clear hsd ca hdi cr har hdi2 h24
            go_wp2_with (first
              | (go_at_call 52; (with_reducible refine (CA.out _).mono ?_)
                 rintro e w1 ⟨rfl, hb⟩
                 have HB1 := Lib.hid (HBr.out.trans (hb.mono HBr.out.size))
                 have HD1 := Lib.hid (HD.out.on hb)
                 have c0 := (hb.cell (p := ⟨w.heap.size, i, none⟩) HC0.out.1).trans HC0.out.2
                 have q0 := (HB1.out.cell (p := ⟨b, off + i * 6, none⟩) hbb).trans HQ.out.1
                 have q4 := (HB1.out.cell (p := ⟨b, off + i * 6 + 4, none⟩) hbb).trans HQ.out.2.1
                 have q5 := (HB1.out.cell (p := ⟨b, off + i * 6 + 5, none⟩) hbb).trans HQ.out.2.2
                 clear hb)
              | (go_at_call 33; (with_reducible refine (CR.out _).mono ?_); rintro e w2 ⟨rfl, rfl⟩)
              | fail)
            go_loopw [9] (fun v wx => ∃ (q : Nat) (dq : Nat → Nat), q ≤ ar ∧ v = .int .i64 q ∧ Hid (dq i = di) ∧ Hid (R = restD L i (ops.drop q) dq) ∧ Hid (DeepB wx w.heap.size n dq) ∧ Hid (Below w.heap.size w wx)) (fun v _ => ar - (intOf v).toNat)
            case atStart => exact ⟨0, d, Nat.zero_le _, rfl, Lib.hid HDI.out.symm, Lib.hid (by rw [List.drop_zero]; exact HZ.out), HD1, HB1⟩
            case round =>
              obtain ⟨q, dq, hq, rfl, HI, HRq, HDq, HBq⟩ := hrel
              by_cases hqa : q < ar
              · have HD9 := Lib.hid (HRq.out.trans (by rw [HOP.out q hqa]))
                obtain ⟨s0, s1⟩ := HDq.out.2 i hin
                rw [HI.out] at s0
                have t4 := (HBq.out.cell (p := ⟨b, off + i * 6 + 4, none⟩) hbb).trans HQ.out.2.1
                have t5 := (HBq.out.cell (p := ⟨b, off + i * 6 + 5, none⟩) hbb).trans HQ.out.2.2
                obtain ⟨o, ho⟩ : ∃ o, (if q = 0 then l else rr) = o := ⟨_, rfl⟩
                rw [show (if q = 0 then (⟨tk, nm.toList, x, tx.toList, l, rr⟩ : Trm).l else (⟨tk, nm.toList, x, tx.toList, l, rr⟩ : Trm).r) = o from ho] at HD9
                have hqq : (q = 0 ∧ l = o) ∨ (q = 1 ∧ rr = o) := by
                  rcases (show q = 0 ∨ q = 1 by omega) with rfl | rfl
                  · exact .inl ⟨rfl, by rw [if_pos rfl] at ho; exact ho⟩
                  · exact .inr ⟨rfl, by rw [if_neg (by decide)] at ho; exact ho⟩
                clear ho
                by_cases ho1 : o < 0
                · have HX := Lib.hid (HD9.out.trans (restD_bad (.inl ho1)))
                  rcases hqq with ⟨rfl, rfl⟩ | ⟨rfl, rfl⟩
                  all_goals
                    go_wp2_with fail
                    go_ret2
                    exact TreeRet.no HX.out HBq.out
                by_cases ho2 : (i : Int) ≤ o
                · have HX := Lib.hid (HD9.out.trans (restD_bad (.inr (.inl ho2))))
                  rcases hqq with ⟨rfl, rfl⟩ | ⟨rfl, rfl⟩
                  all_goals
                    go_wp2_with fail
                    go_ret2
                    exact TreeRet.no HX.out HBq.out
                obtain ⟨y, hy⟩ : ∃ y : Nat, o = (y : Int) := ⟨o.toNat, by omega⟩
                subst hy
                have hyi : y < i := by omega
                have hyn : y < n := by omega
                obtain ⟨z0, z1⟩ := HDq.out.2 y hyn
                by_cases ho3 : 0 < dq y
                · have HX := Lib.hid (HD9.out.trans (restD_bad (.inr (.inr (by rw [Int.toNat_natCast]; exact ho3)))))
                  have e3 : decide ((0 : Int) < ((dq y : Nat) : Int)) = true := decide_eq_true (by omega)
                  rcases hqq with ⟨rfl, rfl⟩ | ⟨rfl, rfl⟩
                  all_goals
                    go_wp2_with fail
                    go_ret2
                    exact TreeRet.no HX.out HBq.out
                · have hd0 : dq y = 0 := by omega
                  have HX := Lib.hid (HD9.out.trans (restD_good hyi hd0))
                  rw [HI.out] at HX
                  rw [hd0] at z0
                  have HNE := Lib.hid (show i ≠ y by omega)
                  clear hd0 ho3
                  rcases hqq with ⟨rfl, rfl⟩ | ⟨rfl, rfl⟩
                  all_goals
                    go_wp2_with fail
                    go_roundw
                    case rel => exact ⟨_, _, by omega, by go_num, Lib.hid ((markD_ne dq (di + 1) HNE.out).trans HI.out), HX, Lib.hid (HDq.out.set hyn (di + 1) (by go_num)), Lib.hid (HBq.out.setCell (Nat.le_refl _) _)⟩
                    case measure => simp [intOf] <;> omega
              · have HX := Lib.hid (show R = treeD L i dq by
                  rw [HRq.out, List.drop_of_length_le (by have := HOE.out; omega), restD_nil])
                go_wp2_with fail
                go_roundw
                case rel => exact ⟨(i : Int) - 1, i, dq, by omega, by omega, by go_num, Lib.hid (by omega), HX, HDq, HBq⟩
                case measure => simp [intOf] <;> omega
    · have hzm : z = -1 := by omega
      have HX := Lib.hid (show R = some d by
        have hk0 : k = 0 := by have := HK.out; omega
        rw [HR.out, hk0, treeD])
      subst hzm
      go_wp2_with fail
      go_ret2
      exact TreeRet.yes HX.out HD.out (Nat.le_refl _) HBr.out
end Go.Proofs.Ythbakfceaaaamaa

/- Contracts of the reference's put and Put. -/
namespace Go.Proofs.Ythbakfceaaaamaa
open Go.RowKit Go.Sort

theorem putS_in {ss : List Str} {s : Str} (h : Rises ss) (hs : s ∈ ss) : putS ss s = ss :=
  putS_only h (fun x => ⟨fun hx => .inl hx, fun hx => by
    rcases hx with hx | hx
    · exact hx
    · rw [hx]; exact hs⟩)
theorem putS_at {ss : List Str} {s : Str} {k : Nat} (h : Rises ss) (hk : k ≤ ss.length) (hlo : ∀ j, j < k → ss.getD j [] < s) (hhi : ∀ (hkk : k < ss.length), s < ss[k]) : putS ss s = ss.take k ++ [s] ++ ss.drop k := by
  have htl : ∀ x ∈ ss.take k, x < s := fun x hx => by
    obtain ⟨j, hj, rfl⟩ := List.getElem_of_mem hx
    rw [List.length_take] at hj
    have := hlo j (by omega)
    rw [List.getD_eq_getElem?_getD, List.getElem?_eq_getElem (by omega)] at this
    simpa using this
  have hdl : ∀ x ∈ ss.drop k, s < x := fun x hx => by
    obtain ⟨j, hj, rfl⟩ := List.getElem_of_mem hx
    rw [List.length_drop] at hj
    rw [List.getElem_drop]
    have h0 := hhi (by omega)
    rcases Nat.eq_zero_or_pos j with e | e
    · subst e; exact h0
    · exact List.lt_trans h0 (List.pairwise_iff_getElem.1 h k (k + j) (by omega) (by omega) (by omega))
  refine putS_only ?_ (fun x => ?_)
  · unfold Rises
    rw [List.append_assoc, List.pairwise_append, List.pairwise_append]
    refine ⟨h.sublist (List.take_sublist _ _), ⟨by simp, h.sublist (List.drop_sublist _ _), fun x hx y hy => ?_⟩, fun x hx y hy => ?_⟩
    · rw [List.mem_singleton] at hx; rw [hx]; exact hdl y hy
    · rcases List.mem_append.1 hy with hy | hy
      · rw [List.mem_singleton] at hy; rw [hy]; exact htl x hx
      · exact List.lt_trans (htl x hx) (hdl y hy)
  · have hm : x ∈ ss ↔ x ∈ ss.take k ∨ x ∈ ss.drop k := by rw [← List.mem_append, List.take_append_drop]
    rw [hm]
    simp only [List.mem_append, List.mem_singleton]
    constructor
    · rintro ((h1 | h1) | h1)
      · exact .inl (.inl h1)
      · exact .inr h1
      · exact .inl (.inr h1)
    · rintro ((h1 | h1) | h1)
      · exact .inl (.inl h1)
      · exact .inr h1
      · exact .inl (.inr h1)

/-- From what the three appends leave to the contract. -/
theorem put_done {w w3 : World} {b off n k : Nat} {ss : List Str} {s : ByteArray} {v3 : Value} (hs : s.size ≤ maxLen) (hp : putS ss s.toList = ss.take k ++ [s.toList] ++ ss.drop k) (h : Strs w w.heap.size (some ⟨b, off, none⟩) n ss) (hk : k ≤ n) (hn : n ≤ 1000) {mm : Nat} {tt : List Str} (hmm : mm = n - k) (htt : tt = ss.drop k)
    (hown : w3.ownsRow w.heap.size 9 1 v3 (0 + k + 1 + mm) (([] ++ ss.take k ++ [s.toList] ++ tt).map encStr)) (hb : Below w.heap.size w w3) :
    ∃ b1 o1 m c1, Ending.returned v3 = .returned (.slice (some ⟨b1, o1, none⟩) m c1) ∧ Strs w3 w3.heap.size (some ⟨b1, o1, none⟩) m (putS ss s.toList) ∧ m ≤ c1 ∧ c1 ≤ maxLen ∧ Below w.heap.size w w3 := by
  subst hmm htt
  rw [List.nil_append, ← hp] at hown
  have hmx : ∀ x ∈ putS ss s.toList, x.length ≤ maxLen := fun x hx => by
    rw [mem_putS] at hx
    rcases hx with hx | hx
    · exact h.max x hx
    · rw [hx, len_toList]; exact hs
  rcases hown.2 with ⟨_, h0⟩ | ⟨g, cap, cur, rfl, _, _, hcap, hmax, _⟩
  · omega
  obtain ⟨a1, c1, e, hst, hle, _⟩ := Strs.of_own hown (by omega) hmx
  injection e with e1 e2 e3
  subst e1 e3
  exact ⟨g, 0, _, cap, rfl, hst, hcap, hmax, hb⟩

end Go.Proofs.Ythbakfceaaaamaa

/- Contracts of the reference's Tree, TermMay and Vars. -/
namespace Go.Proofs.Ythbakfceaaaamaa
open Go.RowKit

/-! ### Plain -/
theorem treeF_places {L : List Trm} {root : Int} {d : Nat → Nat} (h : treeF L root = some d) : ∃ e, Good L root e ∧ ∀ p, 0 < d p ↔ p ∈ e.places := by
  unfold treeF at h
  split at h
  · rename_i hc
    obtain ⟨h1, h2, h3⟩ := hc
    obtain ⟨r, rfl⟩ : ∃ r : Nat, root = (r : Int) := ⟨root.toNat, by omega⟩
    rw [Int.toNat_natCast] at h
    exact (tree_root (by omega) h1).2 d h
  · cases h
theorem treeF_good {L : List Trm} {root : Int} {e : Exp} (h : Good L root e) : ∃ d, treeF L root = some d := by
  unfold treeF
  have hlt := h.2.2.1.lt
  have hat := h.2.1
  rw [if_pos ⟨h.1, by omega, by omega⟩, ← hat, Int.toNat_natCast]
  rw [← hat] at h
  exact (tree_root hlt h.1).1 e h
theorem treeF_may (L : List Trm) (root : Int) : (treeF L root).isSome = mayF L root := by
  cases hm : mayF L root
  · cases ht : treeF L root with
    | none => rfl
    | some d =>
      obtain ⟨e, he, _⟩ := treeF_places ht
      rw [(mayF_iff L root).2 ⟨e, he⟩] at hm
      cases hm
  · obtain ⟨e, he⟩ := (mayF_iff L root).1 hm
    obtain ⟨d, hd⟩ := treeF_good he
    rw [hd]; rfl
theorem names_at {L : List Trm} (x : Str) : ∀ {e : Exp}, Fits L e → (x ∈ e.names ↔ ∃ p t, p ∈ e.places ∧ L[p]? = some t ∧ t.kind = 0 ∧ t.name = x) := by
  intro e
  induction e with
  | leaf i t =>
    intro h
    simp only [Exp.names, Exp.places, List.mem_singleton]
    constructor
    · intro hx
      split at hx
      · rename_i hk; exact ⟨i, t, rfl, h.1, hk, (List.mem_singleton.1 hx).symm⟩
      · cases hx
    · rintro ⟨p, u, rfl, hu, hk, hx⟩
      rw [h.1] at hu
      obtain rfl := Option.some.inj hu
      rw [if_pos hk, List.mem_singleton]
      exact hx.symm
  | one i t a ih =>
    intro h
    simp only [Exp.names, Exp.places]
    rw [ih h.2.2.2.2.2]
    constructor
    · rintro ⟨p, u, hp, hr⟩; exact ⟨p, u, List.mem_cons_of_mem _ hp, hr⟩
    · rintro ⟨p, u, hp, hu, hk, hx⟩
      rcases List.mem_cons.1 hp with rfl | hp
      · rw [h.1] at hu
        obtain rfl := Option.some.inj hu
        have := h.2.2.1
        rw [hk] at this
        cases this
      · exact ⟨p, u, hp, hu, hk, hx⟩
  | two i t a b iha ihb =>
    intro h
    obtain ⟨h1, _, h3, _, _, _, _, fa, fb⟩ := h
    simp only [Exp.names, Exp.places]
    rw [List.mem_append, iha fa, ihb fb]
    constructor
    · rintro (⟨p, u, hp, hr⟩ | ⟨p, u, hp, hr⟩)
      · exact ⟨p, u, List.mem_cons_of_mem _ (List.mem_append_left _ hp), hr⟩
      · exact ⟨p, u, List.mem_cons_of_mem _ (List.mem_append_right _ hp), hr⟩
    · rintro ⟨p, u, hp, hu, hk, hx⟩
      rcases List.mem_cons.1 hp with rfl | hp
      · rw [h1] at hu
        obtain rfl := Option.some.inj hu
        rw [hk] at h3
        cases h3
      · rcases List.mem_append.1 hp with hp | hp
        · exact .inl ⟨p, u, hp, hu, hk, hx⟩
        · exact .inr ⟨p, u, hp, hu, hk, hx⟩
/-- The names that the reference has gathered below a place. -/
def gotten (L : List Trm) (d : Nat → Nat) : Nat → List Str
  | 0 => []
  | i + 1 => if 0 < d i ∧ (L.getD i trm0).kind = 0 then putS (gotten L d i) (L.getD i trm0).name else gotten L d i
theorem gotten_rises (L : List Trm) (d : Nat → Nat) : ∀ i, Rises (gotten L d i)
  | 0 => List.Pairwise.nil
  | i + 1 => by
    rw [gotten]
    split
    · exact putS_rises _ _
    · exact gotten_rises L d i
theorem mem_gotten (L : List Trm) (d : Nat → Nat) (x : Str) : ∀ i, x ∈ gotten L d i ↔ ∃ p, p < i ∧ 0 < d p ∧ (L.getD p trm0).kind = 0 ∧ (L.getD p trm0).name = x
  | 0 => by simp [gotten]
  | i + 1 => by
    rw [gotten]
    constructor
    · intro h
      split at h
      · rename_i hc
        rcases (mem_putS _ _ _).1 h with h | h
        · obtain ⟨p, hp, hr⟩ := (mem_gotten L d x i).1 h
          exact ⟨p, by omega, hr⟩
        · exact ⟨i, by omega, hc.1, hc.2, h.symm⟩
      · obtain ⟨p, hp, hr⟩ := (mem_gotten L d x i).1 h
        exact ⟨p, by omega, hr⟩
    · rintro ⟨p, hp, h1, h2, h3⟩
      by_cases hpi : p = i
      · subst hpi
        rw [if_pos ⟨h1, h2⟩, mem_putS]
        exact .inr h3.symm
      · have := (mem_gotten L d x i).2 ⟨p, by omega, h1, h2, h3⟩
        split
        · rw [mem_putS]; exact .inl this
        · exact this
theorem gotten_len (L : List Trm) (d : Nat → Nat) : ∀ i, (gotten L d i).length ≤ i
  | 0 => Nat.le_refl _
  | i + 1 => by
    have := gotten_len L d i
    rw [gotten]
    split
    · have := putS_len (gotten L d i) (L.getD i trm0).name; omega
    · omega
theorem gotten_all {L : List Trm} {root : Int} {d : Nat → Nat} (h : treeF L root = some d) : gotten L d L.length = varsF L root := by
  obtain ⟨e, he, hp⟩ := treeF_places h
  refine sorted_ext _ _ (gotten_rises _ _ _) (vars_rises _ _) (fun x => ?_)
  rw [mem_vars he, names_at x he.2.2.1, mem_gotten]
  constructor
  · rintro ⟨p, hpl, h1, h2, h3⟩
    exact ⟨p, L.getD p trm0, (hp p).1 h1, getD_some hpl, h2, h3⟩
  · rintro ⟨p, t, h1, h2, h3, h4⟩
    obtain ⟨h5, _⟩ := List.getElem?_eq_some_iff.1 h2
    have : L.getD p trm0 = t := by rw [List.getD_eq_getElem?_getD, h2]; rfl
    exact ⟨p, h5, (hp p).2 h1, by rw [this]; exact h3, by rw [this]; exact h4⟩

/-! ### Contracts -/
def inB (d : Nat → Nat) : Nat → Bool := fun j => decide (0 < d j)
def InRet (w : World) (n : Nat) (r : Option (Nat → Nat)) (e : Ending) (w' : World) : Prop :=
  (match r with
    | none => e = .returned (.tuple #[.slice none 0 0, .bool false])
    | some d => ∃ g, e = .returned (.tuple #[.slice (some ⟨g, 0, none⟩) n n, .bool true]) ∧ Seen w' g n (inB d) ∧ w.heap.size ≤ g) ∧ Below w.heap.size w w'
theorem InRet.no {w w' : World} {n : Nat} {r : Option (Nat → Nat)} (hr : r = none) (hb : Below w.heap.size w w') : InRet w n r (.returned (.tuple #[.slice none 0 0, .bool false])) w' := by
  subst hr; exact ⟨rfl, hb⟩
theorem InRet.yes {w w' : World} {n g : Nat} {r : Option (Nat → Nat)} {d : Nat → Nat} (hr : r = some d) (hd : Seen w' g n (inB d)) (hg : w.heap.size ≤ g) (hb : Below w.heap.size w w') : InRet w n r (.returned (.tuple #[.slice (some ⟨g, 0, none⟩) n n, .bool true])) w' := by
  subst hr; exact ⟨⟨g, rfl, hd, hg⟩, hb⟩
theorem Seen.put {W : World} {g n : Nat} {s : Nat → Bool} (h : Seen W g n s) {i : Nat} (hi : i < n) (b : Bool) : Seen (W.setCell ⟨g, i, none⟩ (.bool b)) g n (fun j => if j = i then b else s j) := by
  refine ⟨by simpa using h.1, fun j hj => ?_⟩
  rw [World.frozen?_setCell]
  refine ⟨?_, (h.2 j hj).2⟩
  dsimp only
  by_cases hji : j = i
  · subst hji
    rw [if_pos rfl, World.cell?_setCell_same' _ _ _ (by rw [(h.2 j hj).1]; rfl)]
  · rw [if_neg hji, World.cell?_setCell_other _ _ _ _ (fun e => by injection e with _ e _; exact hji e.symm), (h.2 j hj).1]
theorem Seen.as {W : World} {g n : Nat} {s s' : Nat → Bool} (h : Seen W g n s) (e : ∀ j, j < n → s j = s' j) : Seen W g n s' := ⟨h.1, fun j hj => by rw [← e j hj]; exact h.2 j hj⟩

set_option maxHeartbeats 4000000 in
theorem refTermMay_any (la : Option Addr) (n c : Nat) (L : List Trm) (root : Int) (w : World) (hT : Trms w w.heap.size la n L) (hn : n ≤ 1000) :
    Calls Try.prog 18 #[.slice la n c, .int .i64 root] w fun e w' => e = .returned (.bool (mayF L root)) ∧ Below w.heap.size w w' := by
  have ct := refTree_any la n c L root w hT hn
  have HM := Lib.hid (treeF_may L root)
  clear hT
  cases hr : treeF L root with
  | none =>
    rw [hr] at ct HM
    have CT := Lib.hid ct
    clear ct hr
    go_enter Try.func18, Try.ntmps18
    go_wp2_with (first
      | (go_at_call 32; (with_reducible refine CT.out.mono ?_)
         rintro e w1 ⟨rfl, hb⟩
         have HB := Lib.hid hb
         clear hb)
      | fail)
    go_ret
    exact ⟨ret_bool (by rw [← HM.out]; rfl), HB.out⟩
  | some d =>
    rw [hr] at ct HM
    have CT := Lib.hid ct
    clear ct hr
    go_enter Try.func18, Try.ntmps18
    go_wp2_with (first
      | (go_at_call 32; (with_reducible refine CT.out.mono ?_)
         rintro e w1 ⟨⟨g, rfl, hd, hg⟩, hb⟩
         have HB := Lib.hid hb
         clear hb hd)
      | fail)
    go_ret
    exact ⟨ret_bool (by rw [← HM.out]; rfl), HB.out⟩
end Go.Proofs.Ythbakfceaaaamaa

/- Contract of the reference's Vars. -/
namespace Go.Proofs.Ythbakfceaaaamaa
open Go.RowKit Go.Sort

theorem nil_end {w w3 : World} {s : ByteArray} {v3 : Value} (hs : s.size ≤ maxLen) (hown : w3.ownsRow w.heap.size 9 1 v3 (0 + 0 + 1 + 0) (([] ++ [] ++ [s.toList] ++ []).map encStr)) :
    ∃ b1 o1 c1, v3 = .slice (some ⟨b1, o1, none⟩) 1 c1 ∧ Strs w3 w3.heap.size (some ⟨b1, o1, none⟩) 1 [s.toList] ∧ 1 ≤ c1 ∧ c1 ≤ maxLen := by
  have hm : ∀ x ∈ [s.toList], x.length ≤ maxLen := fun x hx => by rw [List.mem_singleton.1 hx, len_toList]; exact hs
  rcases hown.2 with ⟨_, h0⟩ | ⟨g, cap, cur, rfl, _, _, hcap, hmax, _⟩
  · omega
  obtain ⟨a1, c1, e, hst, hle, _⟩ := Strs.of_own (ss := [s.toList]) hown (by omega) hm
  injection e with e1 e2 e3
  subst e1 e3
  exact ⟨g, 0, cap, rfl, hst, hcap, hmax⟩
/-- What the reference's Vars holds while it gathers. -/
def GotR (W : World) (v : Value) (l : List Str) : Prop := (v = .slice none 0 0 ∧ l = []) ∨ ∃ b o m c, v = .slice (some ⟨b, o, none⟩) m c ∧ 0 < m ∧ m ≤ c ∧ c ≤ maxLen ∧ Strs W W.heap.size (some ⟨b, o, none⟩) m l
theorem GotR.on {W W' : World} {v : Value} {l : List Str} (h : GotR W v l) (hb : Below W.heap.size W W') : GotR W' v l := by
  rcases h with h | ⟨b, o, m, c, h1, h2, h3, h4, h5⟩
  · exact .inl h
  · exact .inr ⟨b, o, m, c, h1, h2, h3, h4, h5.on hb⟩
theorem GotR.sees {W : World} {v : Value} {l : List Str} (h : GotR W v l) : ∃ a n c, v = .slice a n c ∧ Strs W W.heap.size a n l := by
  rcases h with ⟨h, rfl⟩ | ⟨b, o, m, c, h1, h2, h3, h4, h5⟩
  · exact ⟨none, 0, 0, h, Strs.zero _ _ _⟩
  · exact ⟨_, _, _, h1, h5⟩
theorem gotten_step {L : List Trm} {d : Nat → Nat} {i : Nat} {t : Trm} (h : L[i]? = some t) : gotten L d (i + 1) = if 0 < d i ∧ t.kind = 0 then putS (gotten L d i) t.name else gotten L d i := by
  rw [gotten, List.getD_eq_getElem?_getD, h]
  rfl
end Go.Proofs.Ythbakfceaaaamaa
