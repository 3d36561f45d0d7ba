/- Contracts of the program's Reach, Peers and Walk. -/
import Derived.Test.YtiofpeckcfdilaaGreatDoorTuSearchs
import Derived.Test.YtiofpeckcfdilaaGreatDoorTuWalk
import Derived.Test.YtiofpeckcfdilaaGreatDoorTuOwnV
import Derived.Laws.EntriesVeiled
namespace Go.Proofs.YtiofpeckcfdilaaGreatDoor
open Go.RowKit Go.Sort

set_option maxHeartbeats 4000000 in
theorem ownReach_any (nm : ByteArray) (a : Option Addr) (n c : Nat) (ts : List TurnL) (w : World) (bound : Nat) (hb : bound ≤ w.heap.size) (h : Turns w bound a n ts) :
    Calls Tryz.prog 60 #[.agg #[.string nm, .slice a n c]] w fun e w' => (∃ v, e = .returned v ∧ IInts w' w.heap.size v (rowI (reachL ts))) ∧ Below w.heap.size w w' := by
  have HB0 := Lib.hid (tu1 w (.cells #[.string nm, .slice a n c] 24))
  have HL := Lib.hid (LBox.new w nm a n c)
  have CM := Lib.hid (fun (W : World) (hW : Below w.heap.size w W) => ownMay_any nm a n c ts W bound (by have := hW.size; omega) (h.below (hW.mono hb)))
  obtain ⟨lc0, lc1⟩ := HL.out.cells
  cases hv : locB ts
  · rw [hv] at CM
    have HZ := Lib.hid (show reachL ts = [] by unfold reachL; rw [hv]; rfl)
    clear h hv
    go_enter Tryz.func60, Tryz.ntmps60
    go_wp2_with (first
      | (go_at_call 53; (with_reducible refine (CM.out _ HB0.out).mono ?_)
         rintro e w1 ⟨rfl, hb1⟩
         have HB1 := Lib.hid (below_on HB0.out hb1)
         clear hb1)
      | fail)
    go_ret
    exact ⟨⟨_, rfl, by rw [HZ.out]; exact IInts.zero _ _⟩, HB1.out⟩
  · rw [hv] at CM
    have HZ := Lib.hid (show reachL ts = reachT ts by unfold reachL; rw [hv]; rfl)
    have CS := Lib.hid (fun (W : World) (hW : Below w.heap.size w W) => ownSearch_any nm a n c ts W bound (by have := hW.size; omega) (h.below (hW.mono hb)) hv)
    clear h hv
    go_enter Tryz.func60, Tryz.ntmps60
    go_wp2_with (first
      | (go_at_call 53; (with_reducible refine (CM.out _ HB0.out).mono ?_)
         rintro e w1 ⟨rfl, hb1⟩
         have HB1 := Lib.hid (below_on HB0.out hb1)
         obtain ⟨mc0, mc1⟩ := (HL.out.on hb1).cells
         clear hb1)
      | (go_at_call 67; (with_reducible refine (CS.out _ HB1.out).mono ?_)
         rintro e w2 ⟨⟨v, mb, rfl, hi, _⟩, hb2⟩
         have HI := Lib.hid (hi.low HB1.out.size)
         have HB2 := Lib.hid (below_on HB1.out hb2)
         clear hi hb2)
      | fail)
    go_ret
    exact ⟨⟨_, rfl, by rw [HZ.out]; exact HI.out⟩, HB2.out⟩
/-- Of a valid type's turns just the ends have no peer. -/
theorem peer_end {ts : List TurnL} (h : locB ts = true) {p : Nat} {t : TurnL} (hp : ts[p]? = some t) : (t.peer = [] ↔ t.kind = 0) := by
  rcases turnB_arms ((locB_one h).2.2 t (List.mem_of_getElem? hp)) with ⟨h1, h2, _⟩ | ⟨h1, h2, _⟩
  · simp [h1, h2]
  · constructor
    · intro e
      rw [e] at h2
      exact absurd h2 (by decide)
    · intro e
      omega
theorem reachL_valid {ts : List TurnL} {p : Nat} (h : p ∈ reachL ts) : locB ts = true := by
  unfold reachL at h
  cases hv : locB ts
  · rw [hv] at h; simp at h
  · rfl
set_option maxHeartbeats 8000000 in
theorem ownPeers_any (nm : ByteArray) (a : Option Addr) (n c : Nat) (ts : List TurnL) (w : World) (bound : Nat) (hb : bound ≤ w.heap.size) (h : Turns w bound a n ts) :
    Calls Tryz.prog 25 #[.agg #[.string nm, .slice a n c]] w fun e w' => (∃ ra rn rc, e = .returned (.slice ra rn rc) ∧ Strs w' w'.heap.size ra rn (peersT ts)) ∧ Below w.heap.size w w' := by
  have HB0 := Lib.hid (tu1 w (.cells #[.string nm, .slice a n c] 24))
  have HL := Lib.hid (LBox.new w nm a n c)
  have CR := Lib.hid (fun (W : World) (hW : Below w.heap.size w W) => ownReach_any nm a n c ts W bound (by have := hW.size; omega) (h.below (hW.mono hb)))
  obtain ⟨lc0, lc1⟩ := HL.out.cells
  have HN := Lib.hid h
  have HLEN := Lib.hid h.1
  have HRL := Lib.hid (reachL_lt (ts := ts))
  have HRF := Lib.hid (reachL_few ts)
  have HPE := Lib.hid (fun (p : Nat) (t : TurnL) (hm : p ∈ reachL ts) (hp : ts[p]? = some t) => peer_end (reachL_valid hm) hp)
  clear h
  go_enter Tryz.func25, Tryz.ntmps25
  go_wp2_with (first
    | (go_at_call 60; (with_reducible refine (CR.out _ HB0.out).mono ?_)
       rintro e w1 ⟨⟨v, rfl, hiv⟩, hb1⟩
       have HB1 := Lib.hid (below_on HB0.out hb1)
       obtain ⟨ra, rc, rfl, _, _, _, hnu⟩ := hiv.sees
       have HNU := Lib.hid hnu
       have HLM := Lib.hid (HL.out.on hb1)
       clear hb1 hiv hnu)
    | fail)
  rw [rowI_len] at HNU
  obtain ⟨rn, hrn⟩ : ∃ rn, rn = (reachL ts).length := ⟨_, rfl⟩
  rw [rowI_len, ← hrn]
  rw [← hrn] at HNU HRF
  have HRN := Lib.hid hrn
  clear hrn
  go_loopw [3, 10] (fun o i wr => ∃ (k : Nat) (oa : Option Addr) (on oc : Nat), k ≤ rn ∧ i = .int .i64 k ∧ o = .slice oa on oc ∧ Hid (Strs wr wr.heap.size oa on (peersF ts ((reachL ts).take k))) ∧ Hid (Below w1.heap.size w1 wr)) (fun _ i _ => rn - (intOf i).toNat)
  case atStart => exact ⟨0, none, 0, 0, Nat.zero_le _, rfl, rfl, Lib.hid (by rw [List.take_zero]; exact Strs.zero _ _ _), Lib.hid (Below.refl _ _)⟩
  case round =>
    obtain ⟨k, oa, on, oc, hk, rfl, rfl, HO, HBr⟩ := hrel
    have hrf := HRF.out
    obtain ⟨mc0, mc1⟩ := (HLM.out.on HBr.out).cells
    have HBW := Lib.hid (below_on HB1.out HBr.out)
    by_cases hlt : k < rn
    · obtain ⟨rb, ro, x, rfl, hrb, hx, hc⟩ := (HNU.out.below HBr.out).at_ hlt
      obtain ⟨p, rfl, hp⟩ := rowI_at hx
      have hmem := List.mem_of_getElem? hp
      have hpn := HRL.out p hmem
      rw [HLEN.out] at hpn
      obtain ⟨b, off, kd, s, aa, an, ac, l, rfl, hbb, ht, ⟨q0, q1, q2⟩, hs, hal⟩ := HN.out.at_ hpn
      have r0 := (HBW.out.cell (p := ⟨b, off + p * 3, none⟩) (by show b < _; omega)).trans q0
      have r1 := (HBW.out.cell (p := ⟨b, off + p * 3 + 1, none⟩) (by show b < _; omega)).trans q1
      have r2 := (HBW.out.cell (p := ⟨b, off + p * 3 + 2, none⟩) (by show b < _; omega)).trans q2
      have hpe : peerAt ts p = s.toList := by unfold peerAt; rw [ht]; rfl
      have hst := peersF_snoc ts ((reachL ts).take k) p
      rw [← take_snoc hp, hpe] at hst
      have hon : on ≤ 40 := by
        have h1 := HO.out.1
        have h2 := peersF_len ts ((reachL ts).take k)
        rw [List.length_take] at h2
        have := HRF.out
        omega
      have HBT := Lib.hid (tu1 wr (.cells #[.int .i64 kd, .string s, .slice aa an ac] 51))
      have CP := Lib.hid (put_any oa on oc _ s (wr.alloc (.cells #[.int .i64 kd, .string s, .slice aa an ac] 51)) (by omega) hs ((HO.out.below HBT.out).more HBT.out.size))
      have hke := HPE.out p _ hmem ht
      dsimp only at hke
      have HMX := Lib.hid (show ∀ x ∈ putS (peersF ts ((reachL ts).take k)) s.toList, x.length ≤ maxLen from fun x hx => by
        rw [mem_putS] at hx
        rcases hx with hx | rfl
        · exact HO.out.max x hx
        · rw [len_toList]; exact hs)
      have HPL := Lib.hid (show (putS (peersF ts ((reachL ts).take k)) s.toList).length ≤ 41 by
        have h1 := putS_len (peersF ts ((reachL ts).take k)) s.toList
        have h2 := HO.out.1
        omega)
      clear q0 q1 q2 hx hp ht hal hpe hmem
      by_cases hk0 : kd = 0
      · subst hk0
        rw [if_pos (hke.2 rfl)] at hst
        have HST := Lib.hid hst
        clear hst hke
        go_wp2_with fail
        go_roundw
        case rel => exact ⟨k + 1, _, _, _, by omega, by go_num, rfl, Lib.hid (by rw [HST.out]; exact (HO.out.below HBT.out).more HBT.out.size), Lib.hid (HBr.out.trans (HBT.out.mono HBr.out.size))⟩
        case measure => simp [intOf]; omega
      · have hk1 : (kd == 0) = false := by rw [beq_eq_false_iff_ne]; exact hk0
        have hk2 : (kd != 0) = true := by unfold bne; rw [hk1]; rfl
        rw [if_neg (fun e => hk0 (hke.1 e))] at hst
        have HST := Lib.hid hst
        clear hst hke hk0
        go_wp2_with (first
          | (go_at_call 61; (with_reducible refine CP.out.mono ?_)
             rintro e w2 ⟨v2, rfl, hown, hb2⟩
             obtain ⟨a3, c3, hv3, hs3, _, _⟩ := Strs.of_own hown (by have := HPL.out; omega) HMX.out
             obtain ⟨n3, hn3⟩ : ∃ n3, n3 = (putS (peersF ts ((reachL ts).take k)) s.toList).length := ⟨_, rfl⟩
             rw [← hn3] at hv3 hs3
             clear hn3
             subst hv3
             have HS3 := Lib.hid hs3
             have HB2 := Lib.hid (HBr.out.trans ((below_on HBT.out hb2).mono HBr.out.size))
             clear hown hb2 hs3)
          | fail)
        go_roundw
        case rel => exact ⟨k + 1, a3, n3, c3, by omega, by go_num, rfl, Lib.hid (by rw [HST.out]; exact HS3.out), HB2⟩
        case measure => simp [intOf]; omega
    · have HZ := Lib.hid (show peersF ts ((reachL ts).take k) = peersT ts by rw [List.take_of_length_le (by have := HRN.out; omega)]; rfl)
      go_wp2
      go_ret
      exact ⟨⟨_, _, _, rfl, by rw [← HZ.out]; exact HO.out⟩, HBW.out⟩
end Go.Proofs.YtiofpeckcfdilaaGreatDoor

/- Contracts of slices.IndexFunc at arms by a label, and of the program's Walk. -/
namespace Go.Proofs.YtiofpeckcfdilaaGreatDoor
open Go.RowKit

/-- The first place of a label, from a place on. -/
def idxA (nm : Str) : List ArmL → Nat → Int
  | [], _ => -1
  | x :: r, i => if x.label = nm then (i : Int) else idxA nm r (i + 1)
theorem idxA_at {nm : Str} {l : List ArmL} {k : Nat} {x : ArmL} (h : l[k]? = some x) : idxA nm (l.drop k) k = if x.label = nm then (k : Int) else idxA nm (l.drop (k + 1)) (k + 1) := by
  obtain ⟨h1, e⟩ := List.getElem?_eq_some_iff.1 h
  rw [List.drop_eq_getElem_cons h1, e, idxA]
theorem idxA_find (nm : Str) : ∀ (l : List ArmL) (i : Nat), (idxA nm l i = -1 ∧ findA l nm = none) ∨ ∃ k x, idxA nm l i = ((i + k : Nat) : Int) ∧ l[k]? = some x ∧ findA l nm = some x
  | [], i => .inl ⟨rfl, rfl⟩
  | a :: r, i => by
    rw [idxA]
    unfold findA
    rw [List.find?_cons]
    by_cases h : a.label = nm
    · rw [if_pos h, beq_iff_eq.2 h]
      exact .inr ⟨0, a, rfl, rfl, rfl⟩
    · rw [if_neg h, beq_eq_false_iff_ne.2 h]
      rcases idxA_find nm r (i + 1) with ⟨h1, h2⟩ | ⟨k, x, h1, h2, h3⟩
      · exact .inl ⟨h1, h2⟩
      · exact .inr ⟨k + 1, x, by rw [h1]; congr 1; omega, by rw [List.getElem?_cons_succ]; exact h2, h3⟩
theorem armNamed_any (s u nm : ByteArray) (ck nx : Int) (A : Nat) (w : World) (hA : w.cell? ⟨A, 0, none⟩ = some (.string nm)) (hlt : A < w.heap.size) :
    Calls Tryz.prog 55 #[.agg #[.string s, .int .i64 ck, .string u, .int .i64 nx], .pointer (some ⟨A, 0, none⟩)] w fun e w' => e = .returned (.bool (s.toList == nm.toList)) ∧ Below w.heap.size w w' := by
  have HB := Lib.hid ((Below.refl w.heap.size w).alloc (Nat.le_refl _) (.cells #[.string s, .int .i64 ck, .string u, .int .i64 nx] 67))
  go_enter Tryz.func55, Tryz.ntmps55
  go_wp2
  go_ret
  exact ⟨rfl, HB.out⟩
set_option maxHeartbeats 4000000 in
theorem indexArm_any (a : Option Addr) (n c A : Nat) (l : List ArmL) (nm : ByteArray) (w : World) (bound : Nat) (hb : bound ≤ w.heap.size) (h : Arms w bound a n l) (hA : w.cell? ⟨A, 0, none⟩ = some (.string nm)) (hlt : A < w.heap.size) :
    Calls Tryz.prog 54 #[.slice a n c, .func (.func 55) #[] #[.pointer (some ⟨A, 0, none⟩)]] w fun e w' => e = .returned (.int .i64 (idxA nm.toList l 0)) ∧ Below w.heap.size w w' := by
  have hl := Lib.hid h.1
  have hs := h.2.1
  have HN := Lib.hid h
  have HA := Lib.hid hA
  clear h hA
  go_enter Tryz.func54, Tryz.ntmps54
  go_wp2
  go_loopw [8, 5] (fun v _ wr => ∃ k : Nat, k ≤ n ∧ v = .int .i64 k ∧ Hid (Below w.heap.size w wr) ∧ Hid (idxA nm.toList l 0 = idxA nm.toList (l.drop k) k)) (fun v _ _ => n - (intOf v).toNat)
  case atStart => exact ⟨0, Nat.zero_le _, rfl, Lib.hid (Below.refl _ _), Lib.hid rfl⟩
  case round =>
    obtain ⟨k, hk, rfl, HW, HF⟩ := hrel
    by_cases hkn : k < n
    · obtain ⟨b, off, s, u, ck, nx, rfl, hbb, hx, ⟨q0, q1, q2, q3⟩, _, _⟩ := (HN.out.below (HW.out.mono hb)).at_ hkn
      have hfd := HF.out.trans (idxA_at (nm := nm.toList) hx)
      dsimp only at hfd
      have cn := fun W hW hl => armNamed_any s u nm ck nx A W hW hl
      have ha1 := (HW.out.cell (p := ⟨A, 0, none⟩) hlt).trans HA.out
      have hs5 := hs
      cases he : s.toList == nm.toList
      · rw [he] at cn
        rw [if_neg (by rw [beq_eq_false_iff_ne] at he; exact he)] at hfd
        have CN := Lib.hid (cn wr ha1 (by have := HW.out.size; omega))
        have HZ := Lib.hid hfd
        clear cn hfd he hx
        go_wp2_with (first
          | (go_at_call 55; (with_reducible refine CN.out.mono ?_)
             rintro e w1 ⟨rfl, hb1⟩
             have HB1 := Lib.hid (below_on HW.out hb1)
             clear hb1)
          | fail)
        go_roundw
        case rel => exact ⟨k + 1, by omega, by go_num, HB1, HZ⟩
        case measure => simp [intOf]; omega
      · rw [he] at cn
        rw [if_pos (eq_of_beq he)] at hfd
        have CN := Lib.hid (cn wr ha1 (by have := HW.out.size; omega))
        have HZ := Lib.hid hfd
        clear cn hfd he hx
        go_wp2_with (first
          | (go_at_call 55; (with_reducible refine CN.out.mono ?_)
             rintro e w1 ⟨rfl, hb1⟩
             have HB1 := Lib.hid (below_on HW.out hb1)
             clear hb1)
          | fail)
        go_ret
        exact ⟨ret_int (by rw [HZ.out]), HB1.out⟩
    · have HZ := Lib.hid (show idxA nm.toList l 0 = -1 by rw [HF.out, List.drop_of_length_le (by rw [hl.out]; omega), idxA])
      go_wp2
      go_ret
      exact ⟨ret_int (by rw [HZ.out]), HW.out⟩
set_option maxHeartbeats 8000000 in
set_option maxRecDepth 20000 in
theorem ownWalk_any (nm : ByteArray) (a : Option Addr) (n c : Nat) (ts : List TurnL) (va : Option Addr) (vn vc : Nat) (ls : List Str) (w : World) (bound : Nat) (hb : bound ≤ w.heap.size) (h : Turns w bound a n ts) (hs : Strs w bound va vn ls) :
    Calls Tryz.prog 21 #[.agg #[.string nm, .slice a n c], .slice va vn vc] w fun e w' => e = .returned (walkV (walkL ts ls)) ∧ Below w.heap.size w w' := by
  have HB0 := Lib.hid (tu1 w (.cells #[.string nm, .slice a n c] 24))
  have HL := Lib.hid (LBox.new w nm a n c)
  have CM := Lib.hid (fun (W : World) (hW : Below w.heap.size w W) => ownMay_any nm a n c ts W bound (by have := hW.size; omega) (h.below (hW.mono hb)))
  obtain ⟨lc0, lc1⟩ := HL.out.cells
  have hvn := hs.2.1
  cases hv : locB ts
  · rw [hv] at CM
    have HZ := Lib.hid (show walkL ts ls = none by unfold walkL; rw [hv]; rfl)
    clear h hv
    go_enter Tryz.func21, Tryz.ntmps21
    go_wp2_with (first
      | (go_at_call 53; (with_reducible refine (CM.out _ HB0.out).mono ?_)
         rintro e w1 ⟨rfl, hb1⟩
         have HB1 := Lib.hid (below_on HB0.out hb1)
         clear hb1)
      | fail)
    go_ret2
    exact ⟨by rw [HZ.out]; rfl, HB1.out⟩
  rw [hv] at CM
  have hlen : ts.length = n := h.1
  have hn1 : 1 ≤ n := by have := (locB_one hv).1; omega
  have hn40 : n ≤ 40 := by have := (locB_one hv).2.1; omega
  have HW0 := Lib.hid (show walkL ts ls = walkT ts 0 ls by unfold walkL; rw [hv]; rfl)
  have HN := Lib.hid h
  have HS := Lib.hid hs
  have HSL := Lib.hid hs.1
  have HV := Lib.hid hv
  have HLEN := Lib.hid hlen
  obtain ⟨R, hR⟩ : ∃ R, walkT ts 0 ls = R := ⟨_, rfl⟩
  rw [hR] at HW0
  rw [HW0.out]
  have HR := Lib.hid hR
  clear h hs hv hlen hR
  go_enter Tryz.func21, Tryz.ntmps21
  go_wp2_with (first
    | (go_at_call 53; (with_reducible refine (CM.out _ HB0.out).mono ?_)
       rintro e w1 ⟨rfl, hb1⟩
       have HB1 := Lib.hid (below_on HB0.out hb1)
       have HLM := Lib.hid (HL.out.on hb1)
       have hzL : w.heap.size < w1.heap.size := by have := hb1.size; simp at this; omega
       clear hb1)
    | fail)
  go_loopw [6, 16] (fun at_ i wr => ∃ (p j : Nat), j ≤ vn ∧ i = .int .i64 j ∧ at_ = .int .i64 p ∧ p < n ∧ Hid (walkT ts p (ls.drop j) = R) ∧ Hid (Below w1.heap.size w1 wr)) (fun _ i _ => vn - (intOf i).toNat)
  case atStart => exact ⟨0, 0, Nat.zero_le _, rfl, by go_num, by omega, Lib.hid (by rw [List.drop_zero]; exact HR.out), Lib.hid (Below.refl _ _)⟩
  case round =>
    obtain ⟨p, j, hj, rfl, rfl, hp, HF, HBr⟩ := hrel
    have HBW := Lib.hid (below_on HB1.out HBr.out)
    have HLr := Lib.hid (HLM.out.on HBr.out)
    have hzr := HBr.out.size
    have hzw := HB1.out.size
    by_cases hlt : j < vn
    · obtain ⟨vb, voff, t, hvae, hvb, hvt, hvc⟩ := HS.out.part1 hlt
      subst hvae
      obtain ⟨b, off, kd, s0, aa, an, ac, l, rfl, hbb, ht, ⟨q0, q1, q2⟩, _, hal⟩ := HN.out.at_ hp
      have v0 := (HBW.out.cell (p := ⟨vb, voff + j, none⟩) (by show vb < _; omega)).trans hvc
      have r2 := (HBW.out.cell (p := ⟨b, off + p * 3 + 2, none⟩) (by show b < _; omega)).trans q2
      have hl : armsOf ts p = l := by unfold armsOf; rw [ht]; rfl
      have hgood := (arms_ok HV.out p).1
      rw [hl] at hgood
      have HG := Lib.hid hgood
      have hst : walkT ts p (ls.drop j) = match findA l t.toList with | none => none | some x => walkT ts x.next.toNat (ls.drop (j + 1)) := by
        obtain ⟨h1, e⟩ := List.getElem?_eq_some_iff.1 hvt
        rw [List.drop_eq_getElem_cons h1, e, walkT, hl]
        rfl
      have hst2 := HF.out.symm.trans hst
      have HBX := Lib.hid (tu1 wr (.cells #[.string t] 9))
      have HBY := Lib.hid (below_on HBW.out HBX.out)
      obtain ⟨lc0, lc1⟩ := (HLr.out.on HBX.out).cells
      have hanz := hal.2.1
      have HAN := Lib.hid hal.1
      have HAL := Lib.hid (hal.below (HBY.out.mono hb))
      have CX := Lib.hid (indexArm_any aa an ac wr.heap.size l t (wr.alloc (.cells #[.string t] 9)) bound (by simp; omega) HAL.out (by simp) (by simp))
      have i1 : (p : Int) < (n : Int) := by omega
      have hzb : b < wr.heap.size := by omega
      rcases idxA_find t.toList l 0 with ⟨h1, h2⟩ | ⟨k, x, h1, h2, h3⟩
      · rw [h1] at CX
        have HZ := Lib.hid (show R = none by rw [hst2, h2])
        clear hvt hal hgood hst hl hst2 h1 h2 ht q0 q1 q2 hvc
        go_wp2_with (first
          | (go_at_call 54; (with_reducible refine CX.out.mono ?_)
             rintro e w4 ⟨rfl, hb4⟩
             have HB4 := Lib.hid (below_on HBY.out hb4)
             clear hb4)
          | fail)
        go_ret2
        exact ⟨by rw [HZ.out]; rfl, HB4.out⟩
      · rw [h1] at CX
        rw [Nat.zero_add] at CX
        have hkn : k < an := by have := (List.getElem?_eq_some_iff.1 h2).1; have := HAN.out; omega
        obtain ⟨lb, lo, s, u, ck, nx, hlae, hlb, hx, ⟨x0, x1, x2, x3⟩, _, _⟩ := HAL.out.at_ hkn
        rw [h2] at hx
        obtain rfl := Option.some.inj hx
        have hnx := (armB_all (HG.out _ (List.mem_of_getElem? h2))).2.2
        dsimp only at hnx
        rw [HLEN.out] at hnx
        have HZ := Lib.hid (show walkT ts nx.toNat (ls.drop (j + 1)) = R by rw [hst2, h3])
        obtain ⟨y, rfl⟩ : ∃ y : Nat, nx = (y : Int) := ⟨nx.toNat, by omega⟩
        rw [Int.toNat_natCast] at HZ
        subst hlae
        have dk : decide ((k : Int) < 0) = false := decide_eq_false (by omega)
        have i2 : (k : Int) < (an : Int) := by omega
        have hz4 : lb < wr.heap.size := by omega
        clear hvt hal hgood hst hl hst2 h1 h2 h3 ht q0 q1 q2 hvc x0 x1 x2 hx
        go_wp2_with (first
          | (go_at_call 54; (with_reducible refine CX.out.mono ?_)
             rintro e w4 ⟨rfl, hb4⟩
             have t3 := (hb4.cell (p := ⟨lb, lo + k * 4 + 3, none⟩) (by simp; omega)).trans x3
             have HB4 := Lib.hid (HBr.out.trans ((below_on HBX.out hb4).mono hzr))
             clear hb4)
          | fail)
        go_roundw
        case rel => exact ⟨y, j + 1, by omega, by go_num, rfl, by omega, HZ, HB4⟩
        case measure => simp [intOf]; omega
    · have HZ := Lib.hid (show R = some p by have := HF.out; rw [List.drop_of_length_le (by rw [HSL.out]; omega), walkT] at this; exact this.symm)
      go_wp2_with fail
      go_ret2
      exact ⟨by rw [HZ.out]; rfl, HBW.out⟩
end Go.Proofs.YtiofpeckcfdilaaGreatDoor
