/- Contracts of the reference's LocalReach, walk and LocalWalk. -/
import Derived.Test.YtbbdmipfbnfpfaaGreatTuReach
namespace Go.Proofs.YtbbdmipfbnfpfaaGreat
open Go.RowKit

def reachL (ts : List TurnL) : List Nat := if locB ts then reachT ts else []
theorem arms_few {ts : List TurnL} (h : locB ts = true) : ∀ l ∈ ts.map TurnL.arms, l.length ≤ 1000 ∧ (∀ x ∈ l, 0 ≤ x.next) := by
  intro l hl
  obtain ⟨t, ht, rfl⟩ := List.mem_map.1 hl
  rcases turnB_arms ((locB_one h).2.2 t ht) with ⟨_, _, e⟩ | ⟨_, _, e⟩
  · rw [e]; exact ⟨by simp, by simp⟩
  · obtain ⟨h1, _, _, h4⟩ := armsB_all e
    exact ⟨by omega, fun x hx => (armB_all (h1 x hx)).2.2.1⟩
set_option maxHeartbeats 4000000 in
theorem tuLReach_any (nm : ByteArray) (a : Option Addr) (n c : Nat) (ts : List TurnL) (w : World) (bound : Nat) (hb : bound ≤ w.heap.size) (h : Turns w bound a n ts) :
    Calls Tryz.prog 10 #[.agg #[.string nm, .slice a n c]] w fun e w' => (∃ v, e = .returned v ∧ IInts w' w.heap.size v (rowI (reachL ts))) ∧ Below w.heap.size w w' := by
  have HB0 := Lib.hid (tu1 w (.cells #[.string nm, .slice a n c] 24))
  have HL := Lib.hid (LBox.new w nm a n c)
  have CL := Lib.hid (fun (W : World) (hW : Below w.heap.size w W) => tuLocal_any nm a n c ts W bound (by have := hW.size; omega) (h.below (hW.mono hb)))
  obtain ⟨lc0, lc1⟩ := HL.out.cells
  cases hv : locB ts
  · rw [hv] at CL
    have HZ := Lib.hid (show reachL ts = [] by unfold reachL; rw [hv]; rfl)
    clear h hv
    go_enter Tryz.func10, Tryz.ntmps10
    go_wp2_with (first
      | (go_at_call 12; (with_reducible refine (CL.out _ HB0.out).mono ?_)
         rintro e w1 ⟨rfl, hb1⟩
         have HB1 := Lib.hid (below_on HB0.out hb1)
         clear hb1)
      | fail)
    go_ret
    exact ⟨⟨_, rfl, by rw [HZ.out]; exact IInts.zero _ _⟩, HB1.out⟩
  · rw [hv] at CL
    have hone := locB_one hv
    have hlen := h.1
    have HZ := Lib.hid (show reachL ts = bfs (nextsF (ts.map TurnL.arms)) n 0 [0] by unfold reachL reachT; rw [hv, nextsOf_arms, hlen]; rfl)
    have CA := Lib.hid (fun (W : World) (hW : Below w.heap.size w W) => tuArr_any nm a n c ts W bound (by have := hW.size; omega) (h.below (hW.mono hb)) (by omega))
    have CR := Lib.hid (fun (ra : Option Addr) (rc : Nat) (W : World) (hA : ArmsR W W.heap.size ra n (ts.map TurnL.arms)) => tuReach_any ra n rc _ W _ (Nat.le_refl _) hA (by omega) (by omega)
      (by rw [← nextsOf_arms, ← hlen]; exact nexts_lt hv) (fun l hl => (arms_few hv l hl).2) (fun l hl => (arms_few hv l hl).1))
    clear h hv hone hlen
    go_enter Tryz.func10, Tryz.ntmps10
    go_wp2_with (first
      | (go_at_call 12; (with_reducible refine (CL.out _ HB0.out).mono ?_)
         rintro e w1 ⟨rfl, hb1⟩
         have HB1 := Lib.hid (below_on HB0.out hb1)
         obtain ⟨mc0, mc1⟩ := (HL.out.on hb1).cells
         clear hb1)
      | (go_at_call 27; (with_reducible refine (CA.out _ HB1.out).mono ?_)
         rintro e w2 ⟨⟨ra, rc, rfl, hra⟩, hb2⟩
         have HB2 := Lib.hid (below_on HB1.out hb2)
         have HRA := Lib.hid hra
         clear hra hb2)
      | (go_at_call 29; (with_reducible refine (CR.out _ _ _ HRA.out).mono ?_)
         rintro e w3 ⟨⟨v, rfl, hiv⟩, hb3⟩
         have HB3 := Lib.hid (below_on HB2.out hb3)
         have HIV := Lib.hid (hiv.low HB2.out.size)
         clear hiv hb3)
      | fail)
    go_ret
    exact ⟨⟨_, rfl, by rw [HZ.out]; exact HIV.out⟩, HB3.out⟩

theorem Strs.part1 {w : World} {bound : Nat} {a : Option Addr} {n : Nat} {ss : List Str} (h : Strs w bound a n ss) {k : Nat} (hk : k < n) : ∃ b off, ∃ t : ByteArray, a = some ⟨b, off, none⟩ ∧ b < bound ∧ ss[k]? = some t.toList ∧ w.cell? ⟨b, off + k, none⟩ = some (.string t) := by
  obtain ⟨b, off, e, hb, hc⟩ := h.2.2.2 (by omega)
  have hk' : k < ss.length := by rw [h.1]; exact hk
  have hg := List.getElem?_eq_getElem hk'
  exact ⟨b, off, baS ss[k], e, hb, by rw [baS_toList]; exact hg, hc k _ hg⟩
/-- Where the last arm of a label leads. -/
def lastN (l : List ArmL) (s : Str) (t : Int) : Int := l.foldl (fun t a => if a.label = s then a.next else t) t
theorem lastN_snoc (l : List ArmL) (x : ArmL) (s : Str) (t : Int) : lastN (l ++ [x]) s t = if x.label = s then x.next else lastN l s t := by
  unfold lastN
  rw [List.foldl_append]
  rfl
theorem lastN_none {s : Str} : ∀ {l : List ArmL} (t : Int), (∀ a ∈ l, a.label ≠ s) → lastN l s t = t
  | [], _, _ => rfl
  | a :: l, t, h => by
    unfold lastN
    rw [List.foldl_cons, if_neg (h a (by simp))]
    exact lastN_none t fun b hb => h b (by simp [hb])
theorem lastN_find {s : Str} : ∀ {l : List ArmL} (t : Int), (l.map ArmL.label).Nodup → lastN l s t = match findA l s with | none => t | some a => a.next
  | [], _, _ => rfl
  | a :: l, t, hn => by
    rw [List.map_cons, List.nodup_cons] at hn
    unfold findA
    rw [List.find?_cons]
    by_cases h : a.label = s
    · rw [beq_iff_eq.2 h]
      unfold lastN
      rw [List.foldl_cons, if_pos h]
      exact lastN_none _ fun b hb e => hn.1 (List.mem_map.2 ⟨b, hb, e.trans h.symm⟩)
    · rw [beq_eq_false_iff_ne.2 h]
      have := lastN_find (s := s) (l := l) t hn.2
      unfold lastN at this ⊢
      rw [List.foldl_cons, if_neg h]
      exact this
def walkV : Option Nat → Value
  | none => .tuple #[.int .i64 0, .bool false]
  | some p => .tuple #[.int .i64 (p : Int), .bool true]

set_option maxHeartbeats 8000000 in
set_option maxRecDepth 20000 in
theorem tuWalk_any (a : Option Addr) (n c : Nat) (ts : List TurnL) (va : Option Addr) (vn vc : Nat) (ls : List Str) (w : World) (bound : Nat) (h : ArmsR w bound a n (ts.map TurnL.arms)) (hv : locB ts = true) (hs : Strs w bound va vn ls) :
    Calls Tryz.prog 26 #[.slice a n c, .slice va vn vc] w fun e w' => e = .returned (walkV (walkT ts 0 ls)) ∧ ∃ q, w' = w.drewN q := by
  have hlen : ts.length = n := by have := h.1; rwa [List.length_map] at this
  have hn1 : 1 ≤ n := by have := (locB_one hv).1; omega
  have hvn := hs.2.1
  have HA := Lib.hid h
  have HS := Lib.hid hs
  have HSL := Lib.hid hs.1
  have HV := Lib.hid hv
  have HLEN := Lib.hid hlen
  obtain ⟨R, hR⟩ : ∃ R, walkT ts 0 ls = R := ⟨_, rfl⟩
  rw [hR]
  have HR := Lib.hid hR
  clear h hs hv hlen hR
  go_enter Tryz.func26, Tryz.ntmps26
  go_wp2
  go_loopw [6, 7] (fun at_ i wr => ∃ (p j : Nat), j ≤ vn ∧ i = .int .i64 j ∧ at_ = .int .i64 p ∧ p < n ∧ Hid (walkT ts p (ls.drop j) = R) ∧ ∃ q, wr = w.drewN q) (fun _ i _ => vn - (intOf i).toNat)
  case atStart => exact ⟨0, 0, Nat.zero_le _, rfl, by go_num, by omega, Lib.hid (by rw [List.drop_zero]; exact HR.out), 0, rfl⟩
  case round =>
    obtain ⟨p, j, hj, rfl, rfl, hp, HF, q, rfl⟩ := hrel
    by_cases hlt : j < vn
    · obtain ⟨vb, voff, t, hvae, hvb, hvt, hvc⟩ := HS.out.part1 hlt
      subst hvae
      obtain ⟨b, off, aa, an, ac, l, hae, hbb, hfl, c0, hal⟩ := HA.out.at_ hp
      subst hae
      have hl : armsOf ts p = l := by
        rw [List.getElem?_map] at hfl
        unfold armsOf
        rw [hfl]
        rfl
      have hnd := (arms_ok HV.out p).2
      have hgood := (arms_ok HV.out p).1
      rw [hl] at hnd hgood
      have HG := Lib.hid hgood
      have hst : walkT ts p (ls.drop j) = match findA l t.toList with | none => none | some x => walkT ts x.next.toNat (ls.drop (j + 1)) := by
        obtain ⟨h1, e⟩ := List.getElem?_eq_some_iff.1 hvt
        rw [List.drop_eq_getElem_cons h1, e, walkT, hl]
        rfl
      have HST := Lib.hid (HF.out.symm.trans hst)
      have HLF := Lib.hid (lastN_find (s := t.toList) (l := l) (-1) hnd)
      have HAL := Lib.hid hal
      have hanz := hal.2.1
      have HAN := Lib.hid hal.1
      clear hvt hal hnd hgood hst hfl hl
      go_wp2
      go_loopw [8, 9] (fun to_ i wr => ∃ (k : Nat), k ≤ an ∧ i = .int .i64 k ∧ to_ = .int .i64 (lastN (l.take k) t.toList (-1)) ∧ ∃ q, wr = w.drewN q) (fun _ i _ => an - (intOf i).toNat)
      case atStart => exact ⟨0, Nat.zero_le _, by go_num, rfl, q, rfl⟩
      case round =>
        obtain ⟨k, hk, rfl, rfl, q2, rfl⟩ := hrel
        by_cases hki : k < an
        · obtain ⟨lb, lo, s, u, ck, nx, hlae, hlb, hx, ⟨q0, _, _, q3⟩, _, _⟩ := HAL.out.at_ hki
          subst hlae
          have hsn := lastN_snoc (l.take k) ⟨s.toList, ck, u.toList, nx⟩ t.toList (-1)
          rw [← tuTake_at hx] at hsn
          dsimp only at hsn
          cases hq : (s.toList == t.toList)
          · rw [if_neg (by rw [beq_eq_false_iff_ne] at hq; exact hq)] at hsn
            have HSN := Lib.hid hsn
            clear hsn hx
            go_wp2
            go_quiet (fail)
            go_wp2
            go_roundw
            case rel => exact ⟨k + 1, by omega, by go_num, by rw [HSN.out], q2 + nq, rfl⟩
            case measure => simp [intOf]; omega
          · rw [if_pos (eq_of_beq hq)] at hsn
            have HSN := Lib.hid hsn
            clear hsn hx
            go_wp2
            go_quiet (fail)
            go_wp2
            go_roundw
            case rel => exact ⟨k + 1, by omega, by go_num, by rw [HSN.out], q2 + nq, rfl⟩
            case measure => simp [intOf]; omega
        · have hto : lastN (l.take k) t.toList (-1) = match findA l t.toList with | none => -1 | some x => x.next := by
            rw [List.take_of_length_le (by rw [HAN.out]; omega)]
            exact HLF.out
          rcases hf : findA l t.toList with _ | x
          · rw [hf] at hto
            dsimp only at hto
            have HZ := Lib.hid (show R = none by have := HST.out; rw [hf] at this; exact this)
            rw [hto]
            clear hf hto
            go_wp2_with fail
            go_ret2
            exact ⟨by rw [HZ.out]; rfl, q2, rfl⟩
          · rw [hf] at hto
            dsimp only at hto
            have hx := (armB_all (HG.out x (List.mem_of_find?_eq_some hf))).2.2
            rw [HLEN.out] at hx
            have HZ := Lib.hid (show walkT ts x.next.toNat (ls.drop (j + 1)) = R by have := HST.out; rw [hf] at this; exact this.symm)
            obtain ⟨y, hy⟩ : ∃ y : Nat, x.next = (y : Int) := ⟨x.next.toNat, by omega⟩
            rw [hy] at hto hx HZ
            rw [hto]
            rw [Int.toNat_natCast] at HZ
            have dy : decide ((y : Int) < 0) = false := decide_eq_false (by omega)
            clear hf hto hy
            go_wp2_with fail
            go_roundw
            case rel => exact ⟨y, j + 1, by omega, by go_num, rfl, by omega, HZ, q2, rfl⟩
            case measure => simp [intOf]; omega
    · have HZ := Lib.hid (show R = some p by have := HF.out; rw [List.drop_of_length_le (by rw [HSL.out]; omega), walkT] at this; exact this.symm)
      go_wp2_with fail
      go_ret2
      exact ⟨by rw [HZ.out]; rfl, q, rfl⟩
end Go.Proofs.YtbbdmipfbnfpfaaGreat
