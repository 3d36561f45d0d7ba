/- Contracts of set and Once: a map from strings to bool that the call makes. -/
import Derived.Test.YtiofpeckcfdilaaGreatDoorNmHas
import Derived.Maps.OwnOps
import Derived.Maps.OwnSet
import Derived.Maps.Views
import Derived.LoopTactic
import Derived.Laws.Entries
import Derived.Test.YtiofpeckcfdilaaGreatDoorNmFreshPlain
import Derived.Test.YtiofpeckcfdilaaGreatDoorNmPutPlain
import Derived.Test.YtiofpeckcfdilaaGreatDoorNmMay
import Derived.Laws.Cover1
import Derived.Sort.Walk0
namespace Go.Proofs.YtiofpeckcfdilaaGreatDoor
open Go.RowKit Go.Sort Go.Maps Go.WideMaps

def keyL (s : Str) : Lit := .string s
def keysL (ss : List Str) : List Lit := ss.map keyL
/-- The set of some strings, as the datum of a map. -/
def setD (ss : List Str) : DataW Unit := setOf (.lit (.bool true)) (keysL ss)
theorem setD_nil : setD [] = .map [] := rfl
theorem setD_more (ss : List Str) (k : Nat) (hk : k < ss.length) : setD (ss.take (k + 1)) = (setD (ss.take k)).put (keyL (ss.getD k [])) (.lit (.bool true)) := by
  unfold setD keysL
  rw [take_more ss k hk, List.map_append]
  exact setOf_snoc _ _ _
theorem keysL_ok (ss : List Str) : ∀ x ∈ keysL ss, WideAt.IsKeyLit x := by
  intro x hx
  obtain ⟨s, _, rfl⟩ := List.mem_map.1 hx
  trivial
theorem at_setOf (z : DataW Unit) (k : Str) : ∀ (ss : List Str) (m : DataW Unit), IsMap m → ((keysL ss).foldl (fun m x => m.put x (.lit (.bool true))) m).atKey (keyL k) z = if ss.contains k then .lit (.bool true) else m.atKey (keyL k) z
  | [], _, _ => rfl
  | s :: ss, m, hm => by
    show ((keysL ss).foldl _ (m.put (keyL s) _)).atKey (keyL k) z = _
    rw [at_setOf z k ss _ (hm.put _ _), List.contains_cons]
    by_cases h : ss.contains k = true
    · rw [if_pos h, if_pos (by rw [h, Bool.or_true])]
    · rw [if_neg h]
      by_cases hs : k = s
      · subst hs
        rw [if_pos (by simp)]
        exact atKey_put_same hm (show WideAt.IsKeyLit (keyL k) from trivial) _ _
      · rw [atKey_put_other (k := keyL s) (k' := keyL k) (fun e => hs (by injection e)), if_neg]
        rw [Bool.not_eq_true] at h
        rw [h]
        simp [hs]
theorem at_setD (k : Str) (ss : List Str) : (setD ss).atKey (keyL k) (.lit (.bool false)) = .lit (.bool (hasS ss k)) := by
  unfold setD setOf
  rw [at_setOf _ k ss _ isMap_empty]
  unfold hasS
  cases ss.contains k <;> rfl

/-- How many strings are in a list, each counted once. -/
def once (ss : List Str) : Bool := decide (Maps.size (setD ss) = ss.length)
theorem addKey_len (acc : List Lit) (x : Lit) : (addKey acc x).length ≤ acc.length + 1 := by
  unfold addKey; split <;> simp
theorem fold_len : ∀ (xs acc : List Lit), (xs.foldl addKey acc).length ≤ acc.length + xs.length
  | [], _ => Nat.le_refl _
  | x :: xs, acc => by
    have h1 := fold_len xs (addKey acc x)
    have h2 := addKey_len acc x
    simp only [List.foldl_cons, List.length_cons]
    omega
theorem fold_full : ∀ (ss acc : List Str), (∀ s ∈ ss, s ∉ acc) → ss.Nodup → ((keysL ss).foldl addKey (keysL acc)).length = acc.length + ss.length
  | [], acc, _, _ => by simp [keysL]
  | s :: ss, acc, hd, hn => by
    have hno : (keysL acc).any (fun y => y.sameKey (keyL s)) = false := by
      rw [List.any_eq_false]
      intro y hy
      obtain ⟨u, hu, rfl⟩ := List.mem_map.1 hy
      have : u ≠ s := fun e => hd s (by simp) (e ▸ hu)
      simp [keyL, Lit.sameKey, this]
    show ((keysL ss).foldl addKey (addKey (keysL acc) (keyL s))).length = _
    have e : addKey (keysL acc) (keyL s) = keysL (acc ++ [s]) := by
      unfold addKey; rw [hno]; simp [keysL]
    rw [e, fold_full ss (acc ++ [s]) (fun x hx => by
      have := List.nodup_cons.1 hn
      simp only [List.mem_append, List.mem_singleton, not_or]
      exact ⟨hd x (by simp [hx]), fun ex => this.1 (ex ▸ hx)⟩) (List.nodup_cons.1 hn).2]
    simp; omega
theorem fold_less : ∀ (ss acc : List Str), ((keysL ss).foldl addKey (keysL acc)).length = acc.length + ss.length → (∀ s ∈ ss, s ∉ acc) ∧ ss.Nodup
  | [], acc, _ => ⟨by simp, List.nodup_nil⟩
  | s :: ss, acc, h => by
    by_cases hs : s ∈ acc
    · have hyes : (keysL acc).any (fun y => y.sameKey (keyL s)) = true := by
        rw [List.any_eq_true]
        exact ⟨keyL s, List.mem_map.2 ⟨s, hs, rfl⟩, by simp [keyL, Lit.sameKey]⟩
      have e : addKey (keysL acc) (keyL s) = keysL acc := by unfold addKey; rw [hyes]; rfl
      have h' : ((keysL ss).foldl addKey (addKey (keysL acc) (keyL s))).length = acc.length + (ss.length + 1) := h
      rw [e] at h'
      have := fold_len (keysL ss) (keysL acc)
      simp [keysL] at this h'
      omega
    · have hno : (keysL acc).any (fun y => y.sameKey (keyL s)) = false := by
        rw [List.any_eq_false]
        intro y hy
        obtain ⟨u, hu, rfl⟩ := List.mem_map.1 hy
        have : u ≠ s := fun e => hs (e ▸ hu)
        simp [keyL, Lit.sameKey, this]
      have e : addKey (keysL acc) (keyL s) = keysL (acc ++ [s]) := by unfold addKey; rw [hno]; simp [keysL]
      have h' : ((keysL ss).foldl addKey (addKey (keysL acc) (keyL s))).length = acc.length + (ss.length + 1) := h
      rw [e] at h'
      obtain ⟨h1, h2⟩ := fold_less ss (acc ++ [s]) (by rw [h']; simp; omega)
      refine ⟨fun x hx => ?_, List.nodup_cons.2 ⟨fun hm => ?_, h2⟩⟩
      · rcases List.mem_cons.1 hx with rfl | hx
        · exact hs
        · exact fun hxa => h1 x hx (by simp [hxa])
      · exact h1 s hm (by simp)
/-- The set has as many strings as the list just if no string stands twice in it. -/
theorem once_iff (ss : List Str) : once ss = true ↔ ss.Nodup := by
  unfold once
  rw [decide_eq_true_eq, setD, size_setOf _ _ (keysL_ok ss)]
  constructor
  · intro h; exact (fold_less ss [] (by simpa [keysL] using h)).2
  · intro h; simpa [keysL] using fold_full ss [] (by simp) h

theorem made_map {P : Program} {t k e : TypeId} (ht : P.underlying t = some (.map k e)) (q : IntKind) (n : Int) (W : World) :
    (Instr.makeMap t (some (.int q n))).run P W = .ok (.map (some W.heap.size)) (W.alloc (.map #[] 0)) := by
  simp [Instr.makeMap, run_underlying ht]; rfl
theorem keyed9 : Keyed Tryz.prog 9 := string_keyed Tryz.underlying9
theorem key_ok (s : Str) (h : s.length ≤ maxLen) : keyOf Tryz.prog 9 (.string (baS s)) = some (keyL s) :=
  keyOf_string_mk Tryz.underlying9 (by simpa [baS, ByteArray.size] using h)

set_option maxHeartbeats 1000000 in
theorem set_any (a : Option Addr) (n c : Nat) (ss : List Str) (w : World) (h : Strs w w.heap.size a n ss) :
    Calls Tryz.prog 106 #[.slice a n c] w fun e w' => e = .returned (.map (some w.heap.size)) ∧ w'.ownsMap Tryz.prog 9 (plainElem Tryz.prog 4) w.heap.size n (setD ss) ∧ Below w.heap.size w w' := by
  have hsn := h.2.1
  have HS := Lib.hid h
  have HN := Lib.hid h.1
  clear h
  have hmm := made_map Tryz.underlying139 .i64 n
  go_enter Tryz.func106, Tryz.ntmps106
  go_wp2
  clear hmm
  go_loopw [11] (fun i wr => ∃ k : Nat, k ≤ n ∧ i = .int .i64 k ∧ Hid (wr.ownsMap Tryz.prog 9 (plainElem (H := Unit) Tryz.prog 4) w.heap.size k (setD (ss.take k))) ∧ Hid (Below w.heap.size w wr)) (fun i _ => n - (intOf i).toNat)
  case atStart => exact ⟨0, Nat.zero_le _, rfl, Lib.hid (by rw [List.take_zero, setD_nil]; exact World.ownsMap_made _ _ _ _), Lib.hid ((Below.refl _ _).alloc (Nat.le_refl _) _)⟩
  case round =>
    obtain ⟨k, hk, rfl, hown, hbel⟩ := hrel
    by_cases hlt : k < n
    · obtain ⟨b1, o1, rfl, hb1, hc1⟩ := HS.out.at_ hlt
      have hkk : k < ss.length := by rw [HN.out]; exact hlt
      obtain ⟨x, hx⟩ : ∃ x, x = baS (ss.getD k []) := ⟨_, rfl⟩
      replace hc1 : wr.cell? { block := b1, off := o1 + k } = some (Value.string x) := by rw [hx]; exact (hbel.out.cell hb1).trans hc1
      have hkey : keyOf Tryz.prog 9 (.string x) = some (keyL (ss.getD k [])) := by
        rw [hx]
        refine key_ok _ (HS.out.max _ ?_)
        rw [List.getD_eq_getElem?_getD, List.getElem?_eq_getElem hkk]
        exact List.getElem_mem hkk
      have HK := Lib.hid hkey
      clear hkey hx
      have HKK := Lib.hid hkk
      clear hkk
      go_wp2_with (first
        | (at_mapUpdate; refine wpList_mapUpdate_own _ rfl _ _ _ 139 rfl 9 4 keyed9 Tryz.underlying139 (plainElem (H := Unit) Tryz.prog 4) w.heap.size k _ rfl hown.out (by unfold maxLen; omega) _ _ _ rfl rfl HK.out _ [] (plainElem_bool Tryz.underlying4 true) ?_; intro w1 hown1 hgrow1)
        | go_in)
      go_roundw
      case rel => exact ⟨k + 1, by omega, by go_num, Lib.hid (by rw [setD_more ss k HKK.out]; exact hown1), Lib.hid (hbel.out.grown hgrow1 hbel.out.size (fun j hj => by cases hj; exact Nat.le_refl _))⟩
      case measure => simp [intOf]; omega
    · go_wp2
      go_ret
      obtain rfl : k = n := by omega
      refine ⟨rfl, ?_, hbel.out⟩
      have h1 := hown.out
      rwa [List.take_of_length_le (Nat.le_of_eq HN.out)] at h1

set_option maxHeartbeats 1000000 in
theorem once_any (a : Option Addr) (n c : Nat) (ss : List Str) (w : World) (h : Strs w w.heap.size a n ss) :
    Calls Tryz.prog 77 #[.slice a n c] w fun e w' => e = .returned (.bool (once ss)) ∧ Below w.heap.size w w' := by
  have HN := Lib.hid h.1
  have HC := Lib.hid (set_any a n c ss w h)
  have hsn := h.2.1
  clear h
  cases ho : once ss
  all_goals
    have HO := Lib.hid ho
    clear ho
    go_enter Tryz.func77, Tryz.ntmps77
    go_wp2_with (first
      | (go_at_call 106; refine HC.out.mono ?_; rintro e w1 ⟨rfl, hown, hb⟩
         have H1 := Lib.hid hown
         have H2 := Lib.hid hb
         have hle := hown.size_le
         have H3 : (((Maps.size (setD ss) : Nat) : Int) == (n : Int)) = once ss := by
           unfold once
           rw [HN.out, Bool.eq_iff_iff, beq_iff_eq, decide_eq_true_eq]
           omega
         rw [HO.out] at H3
         clear hown hb)
      | (at_len; refine wpList_len_own _ rfl _ 139 rfl 9 4 Tryz.underlying139 (plainElem (H := Unit) Tryz.prog 4) w.heap.size n _ rfl H1.out ?_)
      | go_in)
    go_ret
    exact ⟨rfl, H2.out⟩
end Go.Proofs.YtiofpeckcfdilaaGreatDoor

/- Contract of Fresh. -/
namespace Go.Proofs.YtiofpeckcfdilaaGreatDoor
open Go.RowKit Go.Sort Go.Maps Go.WideMaps

set_option maxRecDepth 20000 in
theorem look_bool {w : World} {b n : Nat} {D : DataW Unit} (h : w.ownsMap Tryz.prog 9 (plainElem Tryz.prog 4) b n D) (s : Str) (hs : s.length ≤ maxLen) (c : Bool) (hc : D.atKey (keyL s) (.lit (.bool false)) = .lit (.bool c)) :
    (Instr.lookup 139 (.map (some b)) (.string (baS s)) false).run Tryz.prog w = .ok (.bool c) w := by
  obtain ⟨v, ps, hrun, hv⟩ := h.lookup keyed9 Tryz.underlying139 (z := .bool false) (by kernel_rfl) (plainElem_bool Tryz.underlying4 false) (key_ok s hs)
  rw [hc] at hv
  unfold plainElem at hv
  rw [Tryz.underlying4] at hv
  cases v <;> simp at hv
  obtain ⟨rfl, _⟩ := hv
  exact hrun

set_option maxHeartbeats 1000000 in
theorem fresh_any (a : Option Addr) (n c : Nat) (ss : List Str) (s : ByteArray) (w : World) (hn : n ≤ 41) (hs : s.size ≤ maxLen) (h : Strs w w.heap.size a n ss) :
    Calls Tryz.prog 74 #[.slice a n c, .string s] w fun e w' => e = .returned (.string (baS (freshS ss s.toList))) ∧ Below w.heap.size w w' := by
  have HL := Lib.hid h.1
  have hsn := h.2.1
  cases hh : hasS ss s.toList
  · have HF := Lib.hid (show baS (freshS ss s.toList) = s by unfold freshS; rw [hh]; exact baS_of s)
    have HC := Lib.hid (has_any a n c ss s w _ h)
    rw [hh] at HC
    clear h hh
    go_enter Tryz.func74, Tryz.ntmps74
    go_wp2_with (go_at_call 27; refine HC.out.mono ?_; rintro e w' ⟨rfl, rfl⟩)
    go_ret
    exact ⟨ret_str HF.out.symm, Below.refl _ _⟩
  · have HF := Lib.hid (show freshS ss s.toList = freshFrom ss s.toList 2 50 by unfold freshS; rw [hh]; rfl)
    have HC := Lib.hid (has_any a n c ss s w _ h)
    rw [hh] at HC
    have HS := Lib.hid (set_any a n c ss w h)
    clear h hh
    go_enter Tryz.func74, Tryz.ntmps74
    go_wp2_with (first
      | (go_at_call 27; refine HC.out.mono ?_; rintro e w' ⟨rfl, rfl⟩)
      | (go_at_call 106; refine HS.out.mono ?_; rintro e w1 ⟨rfl, hown, hb⟩
         have HO := Lib.hid hown
         have HB := Lib.hid hb
         clear hown hb))
    go_loop [6] (fun i => ∃ k : Nat, 2 ≤ k ∧ k ≤ 51 ∧ i = .int .i64 k ∧ Hid (freshFrom ss s.toList 2 50 = freshFrom ss s.toList k (52 - k)) ∧ Hid (∀ j, 2 ≤ j → j < k → hasS ss (numS s.toList j) = true)) (fun i => 60 - (intOf i).toNat)
    case atStart => exact ⟨2, Nat.le_refl _, by omega, rfl, Lib.hid rfl, Lib.hid (fun j a b => by omega)⟩
    case round =>
      obtain ⟨k, hk2, hk, rfl, hpre, hall⟩ := hrel
      have hlk := look_bool HO.out (numS s.toList k) (by have := num_len s.toList k (by omega); unfold maxLen; omega) _ (at_setD (numS s.toList k) ss)
      have HN := Lib.hid (numbered_any s k (by omega) w1 hs)
      obtain ⟨x, hx⟩ : ∃ x, x = baS (numS s.toList k) := ⟨_, rfl⟩
      rw [← hx] at hlk HN
      have HX := Lib.hid hx
      clear hx
      cases hc : hasS ss (numS s.toList k)
      · have HR := Lib.hid (hpre.out.trans (fresh_stop hc))
        rw [hc] at hlk
        clear hc
        go_wp2_with (go_at_call 107; refine HN.out.mono ?_; rintro e w' ⟨rfl, rfl⟩)
        go_ret
        exact ⟨ret_str (by rw [HF.out, HR.out, HX.out]), HB.out⟩
      · rw [hc] at hlk
        have HR := Lib.hid (hpre.out.trans (fresh_step hk hc))
        have hall' := Lib.hid (show ∀ j, 2 ≤ j → j < k + 1 → hasS ss (numS s.toList j) = true from fun j a b => by
          rcases Nat.lt_or_ge j k with hjk | hjk
          · exact hall.out j a hjk
          · obtain rfl : j = k := by omega
            exact hc)
        have hk51 : k + 1 ≤ 51 := by
          rcases Nat.lt_or_ge k 51 with h | h
          · exact h
          · obtain rfl : k = 51 := by omega
            exact (not_all (s := s.toList) (by rw [HL.out]; exact hn) hall'.out).elim
        clear hc
        go_wp2_with (go_at_call 107; refine HN.out.mono ?_; rintro e w' ⟨rfl, rfl⟩)
        go_round
        case rel => exact ⟨k + 1, by omega, hk51, by go_num, HR, hall'⟩
        case measure => simp [intOf]; omega
end Go.Proofs.YtiofpeckcfdilaaGreatDoor

/- Contract of first: the chapter's examples come out as it says. -/
namespace Go.Proofs.YtiofpeckcfdilaaGreatDoor
open Go.RowKit Go.Sort

/-- A slice of some strings, as a call makes it of its elements. -/
theorem strs_new (w : World) (cs : Array Value) (ss : List Str) (n : Nat) (hc : cs = (ss.map encStr).toArray) (hn : ss.length = n) (hl : n ≤ 1000) (hm : ∀ s ∈ ss, s.length ≤ 1000) :
    Strs (w.alloc (.cells cs 9)) (w.alloc (.cells cs 9)).heap.size (some ⟨w.heap.size, 0, none⟩) n ss :=
  ⟨hn, by omega, fun s hs => Nat.le_trans (hm s hs) (by unfold maxLen; omega), fun _ => ⟨w.heap.size, 0, rfl, by simp, fun j s hj => by
    rw [cell_of_row _ _ _ _ _ _ (heap_alloc_new w _), hc, Nat.zero_add]
    simp [hj]⟩⟩
theorem bel_drewN {B : Nat} {a w : World} (h : Below B a w) (n : Nat) : Below B a (w.drewN n) := ⟨h.os, h.tape, h.output, h.size, h.block⟩
theorem strs_at (w : World) (b : Nat) (hb : w.heap.size = b) (cs : Array Value) (ss : List Str) (n : Nat) (hc : cs = (ss.map encStr).toArray) (hn : ss.length = n) (hl : n ≤ 1000) (hm : ∀ s ∈ ss, s.length ≤ 1000) :
    Strs (w.alloc (.cells cs 9)) (w.alloc (.cells cs 9)).heap.size (some ⟨b, 0, none⟩) n ss := by
  subst hb; exact strs_new w cs ss n hc hn hl hm
theorem lit_list (l : Str) (x : ByteArray) (h : x = baS l) : x.toList = l := by rw [h, baS_toList]
theorem dec_one (k : Nat) (h : k < 10) : Lib.decDigits k = [UInt8.ofNat (48 + k)] := by unfold Lib.decDigits; rw [dif_pos h]

theorem may1 (w : World) : Calls Tryz.prog 26 #[.string ⟨#[115, 101, 108, 108, 101, 114, 50]⟩] w fun e w' => e = .returned (.bool true) ∧ w = w' := by
  have h := may_any ⟨#[115, 101, 108, 108, 101, 114, 50]⟩ w (by simp [maxLen, ByteArray.size])
  rwa [lit_list [115, 101, 108, 108, 101, 114, 50] ⟨#[115, 101, 108, 108, 101, 114, 50]⟩ rfl, show may [115, 101, 108, 108, 101, 114, 50] = true by decide] at h
theorem may2 (w : World) : Calls Tryz.prog 26 #[.string ⟨#[115, 97, 121]⟩] w fun e w' => e = .returned (.bool false) ∧ w = w' := by
  have h := may_any ⟨#[115, 97, 121]⟩ w (by simp [maxLen, ByteArray.size])
  rwa [lit_list [115, 97, 121] ⟨#[115, 97, 121]⟩ rfl, show may [115, 97, 121] = false by decide] at h
theorem may3 (w : World) : Calls Tryz.prog 26 #[.string ⟨#[]⟩] w fun e w' => e = .returned (.bool false) ∧ w = w' := by
  have h := may_any ⟨#[]⟩ w (by simp [maxLen, ByteArray.size])
  rwa [lit_list [] ⟨#[]⟩ rfl, show may [] = false by decide] at h
theorem kw1 (w : World) : Calls Tryz.prog 64 #[.string ⟨#[115, 97, 121]⟩] w fun e w' => e = .returned (.bool true) ∧ w = w' := by
  have h := keyword_any ⟨#[115, 97, 121]⟩ w
  rwa [lit_list [115, 97, 121] ⟨#[115, 97, 121]⟩ rfl, show isKw [115, 97, 121] = true by decide] at h
theorem fresh1 (a : Option Addr) (c : Nat) (w : World) (h : Strs w w.heap.size a 2 [[120], [120, 50]]) :
    Calls Tryz.prog 74 #[.slice a 2 c, .string ⟨#[120]⟩] w fun e w' => e = .returned (.string ⟨#[120, 51]⟩) ∧ Below w.heap.size w w' := by
  have h := fresh_any a 2 c _ ⟨#[120]⟩ w (by omega) (by simp [maxLen, ByteArray.size]) h
  have h2 : numS [120] 2 = [120, 50] := by unfold numS; rw [dec_one 2 (by omega)]; rfl
  have h3 : numS [120] 3 = [120, 51] := by unfold numS; rw [dec_one 3 (by omega)]; rfl
  have hf : freshS [[120], [120, 50]] [120] = [120, 51] := by
    unfold freshS
    rw [if_pos (by decide), show (50 : Nat) = 52 - 2 from rfl, fresh_step (by omega) (by rw [h2]; decide), fresh_stop (by rw [h3]; decide), h3]
  rw [lit_list [120] ⟨#[120]⟩ rfl, hf] at h
  exact h
theorem put1 : putS [[98], [97], [98]] [99] = [[97], [98], [99]] :=
  putS_only (ss := [[98], [97], [98]]) (l := [[97], [98], [99]]) (by decide) (fun x => by
    simp only [List.mem_cons, List.not_mem_nil, or_false]
    constructor
    · rintro (h | h | h) <;> simp [h]
    · rintro ((h | h | h) | h) <;> simp [h])
theorem put2 (w : World) (a : Option Addr) (c : Nat) (h : Strs w w.heap.size a 3 [[98], [97], [98]]) :
    Calls Tryz.prog 61 #[.slice a 3 c, .string ⟨#[99]⟩] w fun e w' => ∃ a1 c1, e = .returned (.slice a1 3 c1) ∧ Strs w' w'.heap.size a1 3 [[97], [98], [99]] ∧ Below w.heap.size w w' := by
  refine (put_any a 3 c _ ⟨#[99]⟩ w (by omega) (by simp [maxLen, ByteArray.size]) h).mono ?_
  rintro e w' ⟨v, rfl, hown, hb⟩
  rw [lit_list [99] ⟨#[99]⟩ rfl, put1] at hown
  obtain ⟨a1, c1, rfl, hs, _⟩ := Strs.of_own hown (by decide) (by intro s hs; simp at hs; rcases hs with rfl | rfl | rfl <;> simp [maxLen])
  exact ⟨a1, c1, rfl, hs, hb⟩

/-- The slice that the walk makes of three strings beside one that holds the same three. -/
theorem same1 (w : World) (a : Option Addr) (c : Nat) {bound : Nat} (h : Strs w bound a 3 [[97], [98], [99]]) (hb : bound ≤ w.heap.size) :
    Calls Tryz.prog 16 #[.slice a 3 c, .slice (some ⟨w.heap.size, 0, none⟩) 3 3] (w.alloc (.cells #[.string ⟨#[97]⟩, .string ⟨#[98]⟩, .string ⟨#[99]⟩] 9)) fun e w' =>
      e = .returned (.bool true) ∧ ∃ q, w' = (w.alloc (.cells #[.string ⟨#[97]⟩, .string ⟨#[98]⟩, .string ⟨#[99]⟩] 9)).drewN q :=
  same_any a _ 3 3 c 3 [[97], [98], [99]] [[97], [98], [99]] _ _ ((h.alloc hb _).more (by simp; omega)) (strs_new w #[.string ⟨#[97]⟩, .string ⟨#[98]⟩, .string ⟨#[99]⟩] [[97], [98], [99]] 3 rfl rfl (by omega) (by decide))

end Go.Proofs.YtiofpeckcfdilaaGreatDoor

/- The law NamesFresh returns true for every list and string. -/
namespace Go.Proofs.YtiofpeckcfdilaaGreatDoor
open Go.RowKit Go.Sort

theorem quiet_at {P : Program} {f : FuncId} {args : Array Value} {w : World} {n : Nat} {v : Value} (h : Calls P f args (w.drewN n) fun e w' => e = .returned v ∧ w.drewN n = w') :
    Calls P f args (w.drewN n) fun e w' => e = .returned v ∧ ∃ m, w' = w.drewN m := h.mono fun _ _ ⟨he, hm⟩ => ⟨he, n, hm.symm⟩
theorem num_first (s : Str) (k : Nat) (hk : k < 100) (hs : 1 ≤ s.length) : 1 ≤ (numS s k).length ∧ (numS s k).getD 0 0 = s.getD 0 0 := by
  unfold numS
  obtain ⟨c, t, rfl⟩ : ∃ c t, s = c :: t := by
    cases s with
    | nil => simp at hs
    | cons c t => exact ⟨c, t, rfl⟩
  rcases dec_len k hk with e | e <;> rw [e] <;> exact ⟨by simp, rfl⟩
theorem fresh_law (ss : List Str) (s : Str) (hn : ss.length ≤ 40) : hasS ss (freshS ss s) = false ∧ hasS ss (freshS (freshS ss s :: ss) s) = false ∧ freshS ss s ≠ freshS (freshS ss s :: ss) s ∧
    (hasS ss s = false → freshS ss s = s) ∧ (may s = true → 1 ≤ (freshS ss s).length ∧ (freshS ss s).length ≤ 12 ∧ (freshS ss s).getD 0 0 = s.getD 0 0) := by
  have new : ∀ tt : List Str, tt.length ≤ 41 → freshS tt s ∉ tt := fun tt ht hm => by
    rcases freshS_cases tt s ht with ⟨h, e⟩ | ⟨m, _, _, _, e, h⟩
    · rw [e, ← hasS_iff, h] at hm; cases hm
    · rw [e, ← hasS_iff, h] at hm; cases hm
  have h1 := new ss (by omega)
  have h2 := new (freshS ss s :: ss) (by simp; omega)
  refine ⟨by rw [← Bool.not_eq_true, hasS_iff]; exact h1, by rw [← Bool.not_eq_true, hasS_iff]; exact fun h => h2 (by simp [h]), fun e => h2 (by rw [← e]; simp), fun h => ?_, fun h => ?_⟩
  · rcases freshS_cases ss s (by omega) with ⟨_, e⟩ | ⟨m, _, _, h', _⟩
    · exact e
    · rw [h] at h'; cases h'
  · have hs : 1 ≤ s.length ∧ s.length ≤ 12 := by
      unfold may at h
      simp only [Bool.and_eq_true, decide_eq_true_eq] at h
      exact ⟨h.1.1.1.1, h.1.1.1.2⟩
    rcases freshS_cases ss s (by omega) with ⟨_, e⟩ | ⟨m, _, hm, _, e, _⟩
    · rw [e]; exact ⟨hs.1, hs.2, rfl⟩
    · rw [e]
      have := num_first s m (by omega) hs.1
      exact ⟨this.1, num_len s m (by omega), this.2⟩
theorem own_one (w : World) (x : ByteArray) : (w.alloc (.cells #[.string x] 9)).ownsRow w.heap.size 9 1 (.slice (some ⟨w.heap.size, 0, none⟩) 1 1) 1 (([x.toList] : List Str).map encStr) :=
  ⟨rfl, .inr ⟨w.heap.size, 1, _, rfl, Nat.le_refl _, heap_alloc_new w _, Nat.le_refl _, by unfold maxLen; omega, rfl, by
    show [Value.string x] = [encStr x.toList]
    rw [show encStr x.toList = Value.string (baS x.toList) from rfl, baS_of]⟩⟩

end Go.Proofs.YtiofpeckcfdilaaGreatDoor

/- The law NamesPut returns true for every list and string. -/
namespace Go.Proofs.YtiofpeckcfdilaaGreatDoor
open Go.RowKit Go.Sort

theorem plc_from (x : Str) : ∀ (ss : List Str) (i : Nat), x ∈ ss → 0 ≤ plcFrom ss x i
  | [], _, h => by cases h
  | z :: zs, i, h => by
    unfold plcFrom
    split
    · omega
    · rename_i hz
      rcases List.mem_cons.1 h with e | h
      · exact absurd e.symm hz
      · exact plc_from x zs (i + 1) h

end Go.Proofs.YtiofpeckcfdilaaGreatDoor

/- Contracts of the reference's NameMay, Place, Has and Once. -/
namespace Go.Proofs.YtiofpeckcfdilaaGreatDoor
open Go.RowKit Go.Sort

set_option maxHeartbeats 1000000 in
theorem refMay_any (s : ByteArray) (w : World) (hs : s.size ≤ maxLen) : Calls Tryz.prog 69 #[.string s] w fun e w' => e = .returned (.bool (may s.toList)) ∧ w = w' := by
  unfold maxLen at hs
  have hlen := Lib.hid (len_toList s)
  by_cases h0 : s.size < 1
  · have hm := Lib.hid (may_short (l := s.toList) (by rw [len_toList]; exact h0))
    have d1 : decide ((s.size : Int) < 1) = true := by simp; omega
    go_enter Tryz.func69, Tryz.ntmps69
    go_wp2
    go_ret
    exact ⟨ret_bool hm.out.symm, rfl⟩
  have d1 : decide ((s.size : Int) < 1) = false := by simp; omega
  by_cases hbig : 12 < s.size
  · have hm := Lib.hid (may_long (l := s.toList) (by rw [len_toList]; exact hbig))
    have d2 : decide (12 < (s.size : Int)) = true := by simp; omega
    go_enter Tryz.func69, Tryz.ntmps69
    go_wp2
    go_ret
    exact ⟨ret_bool hm.out.symm, rfl⟩
  have d2 : decide (12 < (s.size : Int)) = false := by simp; omega
  have hpos : 0 < s.size := by omega
  have hg0 := Lib.hid (get_toList s 0 hpos)
  cases hl : isLet (s[0].toNat : Int)
  · have hm := Lib.hid (may_first (l := s.toList) (by rw [hg0.out]; exact hl))
    go_enter Tryz.func69, Tryz.ntmps69
    go_wp2_with (go_at_call 97; refine (refLetter_any _ _).mono ?_; rintro e w' ⟨rfl, rfl⟩)
    go_ret
    exact ⟨ret_bool hm.out.symm, rfl⟩
  have hf := Lib.hid (show isLet ((s.toList.getD 0 0).toNat : Int) = true by rw [hg0.out]; exact hl)
  cases hkw : isKw s.toList
  · have ck : ∀ W, Calls Tryz.prog 98 #[.string s] W fun e w' => e = .returned (.bool false) ∧ W = w' := fun W => by
      have h := refKeyword_any s W
      rwa [hkw] at h
    have HK := Lib.hid hkw
    have CK := Lib.hid ck
    clear hkw ck
    go_enter Tryz.func69, Tryz.ntmps69
    go_wp2_with (first
      | (go_at_call 97; refine (refLetter_any _ _).mono ?_; rintro e w' ⟨rfl, rfl⟩)
      | (go_at_call 98; refine (CK.out _).mono ?_; rintro e w' ⟨rfl, rfl⟩))
    go_loop [3] (fun i => ∃ k : Nat, 1 ≤ k ∧ k ≤ s.size ∧ i = .int .i64 k ∧ Hid (∀ j, j < k → okB (s.toList.getD j 0) = true)) (fun i => s.size - (intOf i).toNat)
    case atStart => exact ⟨1, Nat.le_refl _, hpos, rfl, Lib.hid (fun j hj => by
      obtain rfl : j = 0 := by omega
      unfold okB
      rw [hf.out]; rfl)⟩
    case round =>
      obtain ⟨k, hk1, hk, rfl, hpre⟩ := hrel
      by_cases hlt : k < s.size
      · have hgk := Lib.hid (get_toList s k hlt)
        cases hb1 : isLet (s[k].toNat : Int)
        · cases hb2 : isDig (s[k].toNat : Int)
          · have hm := Lib.hid (may_bad (l := s.toList) (k := k) (by rw [hlen.out]; exact hlt) (by rw [hgk.out]; simp [okB, hb1, hb2]))
            go_wp2_with (first
              | (go_at_call 97; refine (refLetter_any _ _).mono ?_; rintro e w' ⟨rfl, rfl⟩)
              | (go_at_call 99; refine (refDigit_any _ _).mono ?_; rintro e w' ⟨rfl, rfl⟩))
            go_ret
            exact ⟨ret_bool hm.out.symm, rfl⟩
          · have hok := Lib.hid (show okB (s.toList.getD k 0) = true by rw [hgk.out]; simp [okB, hb2])
            go_wp2_with (first
              | (go_at_call 97; refine (refLetter_any _ _).mono ?_; rintro e w' ⟨rfl, rfl⟩)
              | (go_at_call 99; refine (refDigit_any _ _).mono ?_; rintro e w' ⟨rfl, rfl⟩))
            go_round
            case rel => exact ⟨k + 1, by omega, by omega, by go_num, Lib.hid (fun j hj => by
              rcases Nat.lt_or_ge j k with h | h
              · exact hpre.out j h
              · obtain rfl : j = k := by omega
                exact hok.out)⟩
            case measure => simp [intOf]; omega
        · have hok := Lib.hid (show okB (s.toList.getD k 0) = true by rw [hgk.out]; simp [okB, hb1])
          go_wp2_with (first
            | (go_at_call 97; refine (refLetter_any _ _).mono ?_; rintro e w' ⟨rfl, rfl⟩)
            | (go_at_call 99; refine (refDigit_any _ _).mono ?_; rintro e w' ⟨rfl, rfl⟩))
          go_round
          case rel => exact ⟨k + 1, by omega, by omega, by go_num, Lib.hid (fun j hj => by
            rcases Nat.lt_or_ge j k with h | h
            · exact hpre.out j h
            · obtain rfl : j = k := by omega
              exact hok.out)⟩
          case measure => simp [intOf]; omega
      · have hm := Lib.hid ((may_all (l := s.toList) (by rw [hlen.out]; omega) (by rw [hlen.out]; omega) hf.out (fun j hj => hpre.out j (by rw [hlen.out] at hj; omega))).trans (by rw [HK.out]))
        go_wp2
        go_ret
        exact ⟨ret_bool hm.out.symm, rfl⟩
  · have ck : ∀ W, Calls Tryz.prog 98 #[.string s] W fun e w' => e = .returned (.bool true) ∧ W = w' := fun W => by
      have h := refKeyword_any s W
      rwa [hkw] at h
    have hm := Lib.hid (show may s.toList = false by unfold may; rw [hkw]; simp)
    have CK := Lib.hid ck
    clear hkw ck
    go_enter Tryz.func69, Tryz.ntmps69
    go_wp2_with (first
      | (go_at_call 97; refine (refLetter_any _ _).mono ?_; rintro e w' ⟨rfl, rfl⟩)
      | (go_at_call 98; refine (CK.out _).mono ?_; rintro e w' ⟨rfl, rfl⟩))
    go_ret
    exact ⟨ret_bool hm.out.symm, rfl⟩

theorem plc_has (x : Str) : ∀ (ss : List Str) (i : Nat), decide (0 ≤ plcFrom ss x i) = hasS ss x
  | [], _ => rfl
  | z :: zs, i => by
    have ih := plc_has x zs (i + 1)
    unfold hasS at ih ⊢
    unfold plcFrom
    rw [List.contains_cons]
    by_cases h : z = x
    · subst h; simp
    · rw [if_neg h, ih, beq_eq_false_iff_ne.2 (fun e => h e.symm), Bool.false_or]
theorem plc_step {ss : List Str} {x : Str} {k : Nat} (hk : k < ss.length) (hne : ss.getD k [] ≠ x) : plcFrom (ss.drop k) x k = plcFrom (ss.drop (k + 1)) x (k + 1) := by
  rw [List.drop_eq_getElem_cons hk, plcFrom, if_neg (by rw [List.getD_eq_getElem?_getD, List.getElem?_eq_getElem hk] at hne; exact hne)]
theorem plc_hit {ss : List Str} {x : Str} {k : Nat} (hk : k < ss.length) (he : ss.getD k [] = x) : plcFrom (ss.drop k) x k = (k : Int) := by
  rw [List.drop_eq_getElem_cons hk, plcFrom, if_pos (by rw [List.getD_eq_getElem?_getD, List.getElem?_eq_getElem hk] at he; exact he)]

set_option maxHeartbeats 400000 in
theorem refPlace_any (a : Option Addr) (n c : Nat) (ss : List Str) (x : ByteArray) (w : World) (bound : Nat) (h : Strs w bound a n ss) :
    Calls Tryz.prog 108 #[.slice a n c, .string x] w fun e w' => e = .returned (.int .i64 (plc ss x.toList)) ∧ w = w' := by
  have hsn := h.2.1
  have H := Lib.hid h
  have HL := Lib.hid h.1
  clear h
  go_enter Tryz.func108, Tryz.ntmps108
  go_wp2
  go_loop [5] (fun i => ∃ k : Nat, k ≤ n ∧ i = .int .i64 k ∧ Hid (plc ss x.toList = plcFrom (ss.drop k) x.toList k)) (fun i => n - (intOf i).toNat)
  case atStart => exact ⟨0, Nat.zero_le _, rfl, Lib.hid rfl⟩
  case round =>
    obtain ⟨k, hk, rfl, hpre⟩ := hrel
    by_cases hlt : k < n
    · obtain ⟨b, o, rfl, _, hc⟩ := H.out.at_ hlt
      have hkk : k < ss.length := by rw [HL.out]; exact hlt
      obtain ⟨y, hy⟩ : ∃ y, y = baS (ss.getD k []) := ⟨_, rfl⟩
      replace hc : w.cell? { block := b, off := o + k } = some (Value.string y) := by rw [hy]; exact hc
      have ey : y.toList = ss.getD k [] := by rw [hy, baS_toList]
      clear hy
      cases hyx : (y.toList == x.toList)
      · have hne := Lib.hid (hpre.out.trans (plc_step hkk (by rw [← ey]; simpa using hyx)))
        clear hkk ey
        go_wp2
        go_round
        case rel => exact ⟨k + 1, by omega, by go_num, hne⟩
        case measure => simp [intOf]; omega
      · have he := Lib.hid (hpre.out.trans (plc_hit hkk (by rw [← ey]; simpa using hyx)))
        clear hkk ey
        go_wp2
        go_ret
        exact ⟨ret_int he.out.symm, rfl⟩
    · have he := Lib.hid (show plc ss x.toList = -1 by rw [hpre.out, List.drop_of_length_le (by rw [HL.out]; omega)]; rfl)
      go_wp2
      go_ret
      exact ⟨ret_int he.out.symm, rfl⟩

theorem refHas_any (a : Option Addr) (n c : Nat) (ss : List Str) (x : ByteArray) (w : World) (bound : Nat) (h : Strs w bound a n ss) :
    Calls Tryz.prog 75 #[.slice a n c, .string x] w fun e w' => e = .returned (.bool (hasS ss x.toList)) ∧ w = w' := by
  have hp := refPlace_any a n c ss x w bound h
  have hd := plc_has x.toList ss 0
  obtain ⟨pv, hpv⟩ : ∃ pv, pv = plc ss x.toList := ⟨_, rfl⟩
  rw [← hpv] at hp
  rw [show plcFrom ss x.toList 0 = pv from hpv.symm] at hd
  clear hpv h
  have CP := Lib.hid hp
  clear hp
  cases hb : hasS ss x.toList
  all_goals
    rw [hb] at hd
    clear hb
    go_enter Tryz.func75, Tryz.ntmps75
    go_wp2_with (go_at_call 108; refine CP.out.mono ?_; rintro e w' ⟨rfl, rfl⟩)
    go_ret
    exact ⟨rfl, rfl⟩

theorem nodup_more {ss : List Str} {k : Nat} (hk : k < ss.length) (hn : (ss.take k).Nodup) (hno : hasS (ss.take k) (ss.getD k []) = false) : (ss.take (k + 1)).Nodup := by
  rw [take_more ss k hk, List.nodup_append]
  refine ⟨hn, by simp, fun x hx y hy e => ?_⟩
  rw [List.mem_singleton] at hy
  rw [← Bool.not_eq_true, hasS_iff] at hno
  exact hno (by rw [← hy, ← e]; exact hx)
theorem twice_at {ss : List Str} {k : Nat} (hk : k < ss.length) (hh : hasS (ss.take k) (ss.getD k []) = true) : once ss = false := by
  rw [← Bool.not_eq_true, once_iff]
  intro hn
  have h1 : (ss.take (k + 1)).Nodup := hn.sublist (List.take_sublist _ _)
  rw [take_more ss k hk, List.nodup_append] at h1
  exact h1.2.2 _ ((hasS_iff _ _).1 hh) _ (by simp) rfl

end Go.Proofs.YtiofpeckcfdilaaGreatDoor

/- Contracts of the reference's put and Put. -/
namespace Go.Proofs.YtiofpeckcfdilaaGreatDoor
open Go.RowKit Go.Sort

theorem putS_in {ss : List Str} {s : Str} (h : Rises ss) (hs : s ∈ ss) : putS ss s = ss :=
  putS_only h (fun x => ⟨fun hx => .inl hx, fun hx => by
    rcases hx with hx | hx
    · exact hx
    · rw [hx]; exact hs⟩)
theorem putS_at {ss : List Str} {s : Str} {k : Nat} (h : Rises ss) (hk : k ≤ ss.length) (hlo : ∀ j, j < k → ss.getD j [] < s) (hhi : ∀ (hkk : k < ss.length), s < ss[k]) : putS ss s = ss.take k ++ [s] ++ ss.drop k := by
  have htl : ∀ x ∈ ss.take k, x < s := fun x hx => by
    obtain ⟨j, hj, rfl⟩ := List.getElem_of_mem hx
    rw [List.length_take] at hj
    have := hlo j (by omega)
    rw [List.getD_eq_getElem?_getD, List.getElem?_eq_getElem (by omega)] at this
    simpa using this
  have hdl : ∀ x ∈ ss.drop k, s < x := fun x hx => by
    obtain ⟨j, hj, rfl⟩ := List.getElem_of_mem hx
    rw [List.length_drop] at hj
    rw [List.getElem_drop]
    have h0 := hhi (by omega)
    rcases Nat.eq_zero_or_pos j with e | e
    · subst e; exact h0
    · exact List.lt_trans h0 (List.pairwise_iff_getElem.1 h k (k + j) (by omega) (by omega) (by omega))
  refine putS_only ?_ (fun x => ?_)
  · unfold Rises
    rw [List.append_assoc, List.pairwise_append, List.pairwise_append]
    refine ⟨h.sublist (List.take_sublist _ _), ⟨by simp, h.sublist (List.drop_sublist _ _), fun x hx y hy => ?_⟩, fun x hx y hy => ?_⟩
    · rw [List.mem_singleton] at hx; rw [hx]; exact hdl y hy
    · rcases List.mem_append.1 hy with hy | hy
      · rw [List.mem_singleton] at hy; rw [hy]; exact htl x hx
      · exact List.lt_trans (htl x hx) (hdl y hy)
  · have hm : x ∈ ss ↔ x ∈ ss.take k ∨ x ∈ ss.drop k := by rw [← List.mem_append, List.take_append_drop]
    rw [hm]
    simp only [List.mem_append, List.mem_singleton]
    constructor
    · rintro ((h1 | h1) | h1)
      · exact .inl (.inl h1)
      · exact .inr h1
      · exact .inl (.inr h1)
    · rintro ((h1 | h1) | h1)
      · exact .inl (.inl h1)
      · exact .inr h1
      · exact .inl (.inr h1)

/-- From what the three appends leave to the contract. -/
theorem put_done {w w3 : World} {b off n k : Nat} {ss : List Str} {s : ByteArray} {v3 : Value} (hs : s.size ≤ maxLen) (hp : putS ss s.toList = ss.take k ++ [s.toList] ++ ss.drop k) (h : Strs w w.heap.size (some ⟨b, off, none⟩) n ss) (hk : k ≤ n) (hn : n ≤ 1000) {mm : Nat} {tt : List Str} (hmm : mm = n - k) (htt : tt = ss.drop k)
    (hown : w3.ownsRow w.heap.size 9 1 v3 (0 + k + 1 + mm) (([] ++ ss.take k ++ [s.toList] ++ tt).map encStr)) (hb : Below w.heap.size w w3) :
    ∃ b1 o1 m c1, Ending.returned v3 = .returned (.slice (some ⟨b1, o1, none⟩) m c1) ∧ Strs w3 w3.heap.size (some ⟨b1, o1, none⟩) m (putS ss s.toList) ∧ m ≤ c1 ∧ c1 ≤ maxLen ∧ Below w.heap.size w w3 := by
  subst hmm htt
  rw [List.nil_append, ← hp] at hown
  have hmx : ∀ x ∈ putS ss s.toList, x.length ≤ maxLen := fun x hx => by
    rw [mem_putS] at hx
    rcases hx with hx | hx
    · exact h.max x hx
    · rw [hx, len_toList]; exact hs
  rcases hown.2 with ⟨_, h0⟩ | ⟨g, cap, cur, rfl, _, _, hcap, hmax, _⟩
  · omega
  obtain ⟨a1, c1, e, hst, hle, _⟩ := Strs.of_own hown (by omega) hmx
  injection e with e1 e2 e3
  subst e1 e3
  exact ⟨g, 0, _, cap, rfl, hst, hcap, hmax, hb⟩

set_option maxHeartbeats 1000000 in
theorem refput_any (b off n c : Nat) (ss : List Str) (s : ByteArray) (w : World) (h0 : 0 < n) (hn : n ≤ 1000) (hnc : n ≤ c) (hc : c ≤ maxLen) (hs : s.size ≤ maxLen) (hr : Rises ss) (h : Strs w w.heap.size (some ⟨b, off, none⟩) n ss) :
    Calls Tryz.prog 103 #[.slice (some ⟨b, off, none⟩) n c, .string s] w fun e w' =>
      ∃ b1 o1 m c1, e = .returned (.slice (some ⟨b1, o1, none⟩) m c1) ∧ Strs w' w'.heap.size (some ⟨b1, o1, none⟩) m (putS ss s.toList) ∧ m ≤ c1 ∧ c1 ≤ maxLen ∧ Below w.heap.size w w' := by
  have hsn := h.2.1
  have H := Lib.hid h
  have HL := Lib.hid h.1
  have HRI := Lib.hid hr
  have hcm : c ≤ 9223372036854775807 := by unfold maxLen at hc; omega
  have HC := Lib.hid hc
  have HSM := Lib.hid hs
  clear h hr hc hs
  go_enter Tryz.func103, Tryz.ntmps103
  go_wp2
  go_loop [5] (fun i => ∃ k : Nat, k ≤ n ∧ i = .int .i64 k ∧ Hid (∀ j, j < k → ss.getD j [] < s.toList)) (fun i => n - (intOf i).toNat)
  case atStart => exact ⟨0, Nat.zero_le _, rfl, Lib.hid (fun j hj => absurd hj (Nat.not_lt_zero _))⟩
  case round =>
    obtain ⟨k, hk, rfl, hpre⟩ := hrel
    by_cases hlt : k < n
    · have hkk : k < ss.length := by rw [HL.out]; exact hlt
      obtain ⟨b2, o2, e2, hb2, hc2⟩ := H.out.at_ hlt
      obtain ⟨rfl, rfl⟩ : b = b2 ∧ off = o2 := by injection e2 with e2; injection e2 with e3 e4; exact ⟨e3, e4⟩
      clear e2
      obtain ⟨y, hy⟩ : ∃ y, y = baS (ss.getD k []) := ⟨_, rfl⟩
      replace hc2 : w.cell? { block := b, off := off + k } = some (Value.string y) := by rw [hy]; exact hc2
      have ey : y.toList = ss.getD k [] := by rw [hy, baS_toList]
      clear hy
      cases hls : Op.bytesLess y.toList s.toList
      · have hge : ¬ ss.getD k [] < s.toList := by
          rw [bytesLess_eq, decide_eq_false_iff_not, ey] at hls
          exact hls
        have hgk : ss.getD k [] = ss[k] := by rw [List.getD_eq_getElem?_getD, List.getElem?_eq_getElem hkk]; rfl
        cases hye : (y.toList == s.toList)
        · have hhi : ∀ (hkk : k < ss.length), s.toList < ss[k] := fun hkk => by
            rw [← hgk]
            exact lt_of (List.not_lt.1 hge) (fun e => by rw [ey, ← e] at hye; simp at hye)
          have HP := Lib.hid (putS_at HRI.out (Nat.le_of_lt hkk) hpre.out hhi)
          clear ey hkk hge hgk hhi
          have hkc : (k : Int) ≤ (c : Int) := by omega
          have hcd : Strs w w.heap.size (if c = k then some ⟨b, off, none⟩ else (some ⟨b, off, none⟩ : Option Addr).map (·.add k)) (n - k) (ss.drop k) := H.out.drop hk hnc
          rw [if_neg (by omega), Option.map_some, Go.WideShapes.add_plain] at hcd
          have HCD := Lib.hid hcd
          clear hcd
          go_wp2_with (first
            | (at_builtin
               refine wpList_append_strs _ rfl (.const (.slice none 0 0)) (.tmp 36) _ rfl w.heap.size 9 Tryz.underlying34 info9 _ 0 [] rfl (World.ownsRow_nil _ _ _ _) w.heap.size _ k _ (ss.take k) rfl (H.out.cut hk) (by omega) (Nat.le_refl _) ?_
               intro v1 w1 own1 gr1 at1
               replace gr1 : w.grownBy w1 (Value.slice none 0 0).ownBlock := gr1
               have O1 := Lib.hid own1
               have B1 := Lib.hid ((Below.refl w.heap.size w).grown gr1 (Nat.le_refl _) (fun j hj => by simp [Value.ownBlock] at hj))
               clear own1 gr1 at1)
            | (at_builtin
               refine wpList_append_strs _ rfl (.tmp 38) (.tmp 40) _ rfl w.heap.size 9 Tryz.underlying34 info9 v1 (0 + k) ([] ++ ss.take k) rfl (O1.out.alloc _) _ _ 1 1 [s.toList] rfl (strs_one w1 s HSM.out) (by omega) (by have := B1.out.size; simp; omega) ?_
               intro v2 w2 own2 gr2 at2
               have O2 := Lib.hid own2
               have B2 := Lib.hid ((B1.out.alloc B1.out.size _).grown gr2 (by have := B1.out.size; simp; omega) (fun j hj => (O1.out.lt j hj).1))
               clear own2 gr2 at2)
            | (at_builtin
               refine wpList_append_strs _ rfl (.tmp 42) (.tmp 45) _ rfl w.heap.size 9 Tryz.underlying34 info9 v2 (0 + k + 1) ([] ++ ss.take k ++ [s.toList]) rfl O2.out w.heap.size _ (n - k) _ (ss.drop k) rfl (HCD.out.below B2.out) (by omega) B2.out.size ?_
               intro v3 w3 own3 gr3 at3
               have O3 := Lib.hid own3
               have B3 := Lib.hid (B2.out.grown gr3 B2.out.size (fun j hj => (O2.out.lt j hj).1))
               clear own3 gr3 at3))
          go_ret
          exact put_done HSM.out HP.out H.out hk hn rfl rfl O3.out B3.out
        · have HP := Lib.hid (putS_in HRI.out (show s.toList ∈ ss by
            have : y.toList = s.toList := by simpa using hye
            rw [← this, ey, hgk]; exact List.getElem_mem hkk))
          clear ey hkk hge hgk
          go_wp2
          go_ret
          rw [HP.out]
          exact ⟨b, off, n, c, rfl, H.out, hnc, HC.out, Below.refl _ _⟩
      · have hmore := Lib.hid (show ∀ j, j < k + 1 → ss.getD j [] < s.toList from fun j hj => by
          rcases Nat.lt_or_ge j k with hjk | hjk
          · exact hpre.out j hjk
          · obtain rfl : j = k := by omega
            rw [bytesLess_eq, decide_eq_true_eq, ey] at hls
            exact hls)
        clear ey hkk
        go_wp2
        go_round
        case rel => exact ⟨k + 1, by omega, by go_num, hmore⟩
        case measure => simp [intOf]; omega
    · have hkn : k = n := by omega
      have hkl : k = ss.length := by rw [HL.out]; exact hkn
      have HP := Lib.hid (putS_at HRI.out (Nat.le_of_eq hkl) hpre.out (fun hkk => by omega))
      have HDR := Lib.hid (show ss.drop k = [] from List.drop_of_length_le (Nat.le_of_eq hkl.symm))
      clear hkl
      have hkc : (k : Int) ≤ (c : Int) := by omega
      have hge : n ≤ k := by omega
      have HKN := Lib.hid hkn
      clear hkn
      by_cases hck : c = k
      · go_wp2_with (first
          | (at_builtin
             refine wpList_append_strs _ rfl (.const (.slice none 0 0)) (.tmp 36) _ rfl w.heap.size 9 Tryz.underlying34 info9 _ 0 [] rfl (World.ownsRow_nil _ _ _ _) w.heap.size _ k _ (ss.take k) rfl (H.out.cut hk) (by omega) (Nat.le_refl _) ?_
             intro v1 w1 own1 gr1 at1
             replace gr1 : w.grownBy w1 (Value.slice none 0 0).ownBlock := gr1
             have O1 := Lib.hid own1
             have B1 := Lib.hid ((Below.refl w.heap.size w).grown gr1 (Nat.le_refl _) (fun j hj => by simp [Value.ownBlock] at hj))
             clear own1 gr1 at1)
          | (at_builtin
             refine wpList_append_strs _ rfl (.tmp 38) (.tmp 40) _ rfl w.heap.size 9 Tryz.underlying34 info9 v1 (0 + k) ([] ++ ss.take k) rfl (O1.out.alloc _) _ _ 1 1 [s.toList] rfl (strs_one w1 s HSM.out) (by omega) (by have := B1.out.size; simp; omega) ?_
             intro v2 w2 own2 gr2 at2
             have O2 := Lib.hid own2
             have B2 := Lib.hid ((B1.out.alloc B1.out.size _).grown gr2 (by have := B1.out.size; simp; omega) (fun j hj => (O1.out.lt j hj).1))
             clear own2 gr2 at2)
          | (at_builtin
             refine wpList_append_strs _ rfl (.tmp 42) (.tmp 45) _ rfl w.heap.size 9 Tryz.underlying34 info9 v2 (0 + k + 1) ([] ++ ss.take k ++ [s.toList]) rfl O2.out w.heap.size _ 0 _ [] rfl (Strs.zero _ _ _) (by omega) B2.out.size ?_
             intro v3 w3 own3 gr3 at3
             have O3 := Lib.hid own3
             have B3 := Lib.hid (B2.out.grown gr3 B2.out.size (fun j hj => (O2.out.lt j hj).1))
             clear own3 gr3 at3))
        go_ret
        exact put_done HSM.out HP.out H.out hk hn (by omega) HDR.out.symm O3.out B3.out
      · go_wp2_with (first
          | (at_builtin
             refine wpList_append_strs _ rfl (.const (.slice none 0 0)) (.tmp 36) _ rfl w.heap.size 9 Tryz.underlying34 info9 _ 0 [] rfl (World.ownsRow_nil _ _ _ _) w.heap.size _ k _ (ss.take k) rfl (H.out.cut hk) (by omega) (Nat.le_refl _) ?_
             intro v1 w1 own1 gr1 at1
             replace gr1 : w.grownBy w1 (Value.slice none 0 0).ownBlock := gr1
             have O1 := Lib.hid own1
             have B1 := Lib.hid ((Below.refl w.heap.size w).grown gr1 (Nat.le_refl _) (fun j hj => by simp [Value.ownBlock] at hj))
             clear own1 gr1 at1)
          | (at_builtin
             refine wpList_append_strs _ rfl (.tmp 38) (.tmp 40) _ rfl w.heap.size 9 Tryz.underlying34 info9 v1 (0 + k) ([] ++ ss.take k) rfl (O1.out.alloc _) _ _ 1 1 [s.toList] rfl (strs_one w1 s HSM.out) (by omega) (by have := B1.out.size; simp; omega) ?_
             intro v2 w2 own2 gr2 at2
             have O2 := Lib.hid own2
             have B2 := Lib.hid ((B1.out.alloc B1.out.size _).grown gr2 (by have := B1.out.size; simp; omega) (fun j hj => (O1.out.lt j hj).1))
             clear own2 gr2 at2)
          | (at_builtin
             refine wpList_append_strs _ rfl (.tmp 42) (.tmp 45) _ rfl w.heap.size 9 Tryz.underlying34 info9 v2 (0 + k + 1) ([] ++ ss.take k ++ [s.toList]) rfl O2.out w.heap.size _ 0 _ [] rfl (Strs.zero _ _ _) (by omega) B2.out.size ?_
             intro v3 w3 own3 gr3 at3
             have O3 := Lib.hid own3
             have B3 := Lib.hid (B2.out.grown gr3 B2.out.size (fun j hj => (O2.out.lt j hj).1))
             clear own3 gr3 at3))
        go_ret
        exact put_done HSM.out HP.out H.out hk hn (by omega) HDR.out.symm O3.out B3.out
end Go.Proofs.YtiofpeckcfdilaaGreatDoor
