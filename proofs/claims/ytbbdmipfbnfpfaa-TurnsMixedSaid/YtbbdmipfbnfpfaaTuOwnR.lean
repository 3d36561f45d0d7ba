/- Contracts of the program's Reach, Peers and Walk. -/
import Derived.Test.YtbbdmipfbnfpfaaTuSearchO
import Derived.Test.YtbbdmipfbnfpfaaTuWalk
namespace Go.Proofs.Ytbbdmipfbnfpfaa
open Go.RowKit Go.Sort

set_option maxHeartbeats 4000000 in
theorem ownReach_any (nm : ByteArray) (a : Option Addr) (n c : Nat) (ts : List TurnL) (w : World) (bound : Nat) (hb : bound ≤ w.heap.size) (h : Turns w bound a n ts) :
    Calls Try.prog 14 #[.agg #[.string nm, .slice a n c]] w fun e w' => (∃ v, e = .returned v ∧ IInts w' w.heap.size v (rowI (reachL ts))) ∧ Below w.heap.size w w' := by
  have HB0 := Lib.hid (tu1 w (.cells #[.string nm, .slice a n c] 26))
  have HL := Lib.hid (LBox.new w nm a n c)
  have CM := Lib.hid (fun (W : World) (hW : Below w.heap.size w W) => ownMay_any nm a n c ts W bound (by have := hW.size; omega) (h.below (hW.mono hb)))
  obtain ⟨lc0, lc1⟩ := HL.out.cells
  cases hv : locB ts
  · rw [hv] at CM
    have HZ := Lib.hid (show reachL ts = [] by unfold reachL; rw [hv]; rfl)
    clear h hv
    go_enter Try.func14, Try.ntmps14
    go_wp2_with (first
      | (go_at_call 11; (with_reducible refine (CM.out _ HB0.out).mono ?_)
         rintro e w1 ⟨rfl, hb1⟩
         have HB1 := Lib.hid (below_on HB0.out hb1)
         clear hb1)
      | fail)
    go_ret
    exact ⟨⟨_, rfl, by rw [HZ.out]; exact IInts.zero _ _⟩, HB1.out⟩
  · rw [hv] at CM
    have HZ := Lib.hid (show reachL ts = reachT ts by unfold reachL; rw [hv]; rfl)
    have CS := Lib.hid (fun (W : World) (hW : Below w.heap.size w W) => ownSearch_any nm a n c ts W bound (by have := hW.size; omega) (h.below (hW.mono hb)) hv)
    clear h hv
    go_enter Try.func14, Try.ntmps14
    go_wp2_with (first
      | (go_at_call 11; (with_reducible refine (CM.out _ HB0.out).mono ?_)
         rintro e w1 ⟨rfl, hb1⟩
         have HB1 := Lib.hid (below_on HB0.out hb1)
         obtain ⟨mc0, mc1⟩ := (HL.out.on hb1).cells
         clear hb1)
      | (go_at_call 26; (with_reducible refine (CS.out _ HB1.out).mono ?_)
         rintro e w2 ⟨⟨v, mb, rfl, hi, _⟩, hb2⟩
         have HI := Lib.hid (hi.low HB1.out.size)
         have HB2 := Lib.hid (below_on HB1.out hb2)
         clear hi hb2)
      | fail)
    go_ret
    exact ⟨⟨_, rfl, by rw [HZ.out]; exact HI.out⟩, HB2.out⟩
/-- Of a valid type's turns just the ends have no peer. -/
theorem peer_end {ts : List TurnL} (h : locB ts = true) {p : Nat} {t : TurnL} (hp : ts[p]? = some t) : (t.peer = [] ↔ t.kind = 0) := by
  rcases turnB_arms ((locB_one h).2.2 t (List.mem_of_getElem? hp)) with ⟨h1, h2, _⟩ | ⟨h1, h2, _⟩
  · simp [h1, h2]
  · constructor
    · intro e
      rw [e] at h2
      exact absurd h2 (by decide)
    · intro e
      omega
theorem reachL_valid {ts : List TurnL} {p : Nat} (h : p ∈ reachL ts) : locB ts = true := by
  unfold reachL at h
  cases hv : locB ts
  · rw [hv] at h; simp at h
  · rfl
set_option maxHeartbeats 8000000 in
theorem ownPeers_any (nm : ByteArray) (a : Option Addr) (n c : Nat) (ts : List TurnL) (w : World) (bound : Nat) (hb : bound ≤ w.heap.size) (h : Turns w bound a n ts) :
    Calls Try.prog 18 #[.agg #[.string nm, .slice a n c]] w fun e w' => (∃ ra rn rc, e = .returned (.slice ra rn rc) ∧ Strs w' w'.heap.size ra rn (peersT ts)) ∧ Below w.heap.size w w' := by
  have HB0 := Lib.hid (tu1 w (.cells #[.string nm, .slice a n c] 26))
  have HL := Lib.hid (LBox.new w nm a n c)
  have CR := Lib.hid (fun (W : World) (hW : Below w.heap.size w W) => ownReach_any nm a n c ts W bound (by have := hW.size; omega) (h.below (hW.mono hb)))
  obtain ⟨lc0, lc1⟩ := HL.out.cells
  have HN := Lib.hid h
  have HLEN := Lib.hid h.1
  have HRL := Lib.hid (reachL_lt (ts := ts))
  have HRF := Lib.hid (reachL_few ts)
  have HPE := Lib.hid (fun (p : Nat) (t : TurnL) (hm : p ∈ reachL ts) (hp : ts[p]? = some t) => peer_end (reachL_valid hm) hp)
  clear h
  go_enter Try.func18, Try.ntmps18
  go_wp2_with (first
    | (go_at_call 14; (with_reducible refine (CR.out _ HB0.out).mono ?_)
       rintro e w1 ⟨⟨v, rfl, hiv⟩, hb1⟩
       have HB1 := Lib.hid (below_on HB0.out hb1)
       obtain ⟨ra, rc, rfl, _, _, _, hnu⟩ := hiv.sees
       have HNU := Lib.hid hnu
       have HLM := Lib.hid (HL.out.on hb1)
       clear hb1 hiv hnu)
    | fail)
  rw [rowI_len] at HNU
  obtain ⟨rn, hrn⟩ : ∃ rn, rn = (reachL ts).length := ⟨_, rfl⟩
  rw [rowI_len, ← hrn]
  rw [← hrn] at HNU HRF
  have HRN := Lib.hid hrn
  clear hrn
  go_loopw [3, 10] (fun o i wr => ∃ (k : Nat) (oa : Option Addr) (on oc : Nat), k ≤ rn ∧ i = .int .i64 k ∧ o = .slice oa on oc ∧ Hid (Strs wr wr.heap.size oa on (peersF ts ((reachL ts).take k))) ∧ Hid (Below w1.heap.size w1 wr)) (fun _ i _ => rn - (intOf i).toNat)
  case atStart => exact ⟨0, none, 0, 0, Nat.zero_le _, rfl, rfl, Lib.hid (by rw [List.take_zero]; exact Strs.zero _ _ _), Lib.hid (Below.refl _ _)⟩
  case round =>
    obtain ⟨k, oa, on, oc, hk, rfl, rfl, HO, HBr⟩ := hrel
    have hrf := HRF.out
    obtain ⟨mc0, mc1⟩ := (HLM.out.on HBr.out).cells
    have HBW := Lib.hid (below_on HB1.out HBr.out)
    by_cases hlt : k < rn
    · obtain ⟨rb, ro, x, rfl, hrb, hx, hc⟩ := (HNU.out.below HBr.out).at_ hlt
      obtain ⟨p, rfl, hp⟩ := rowI_at hx
      have hmem := List.mem_of_getElem? hp
      have hpn := HRL.out p hmem
      rw [HLEN.out] at hpn
      obtain ⟨b, off, kd, s, aa, an, ac, l, rfl, hbb, ht, ⟨q0, q1, q2⟩, hs, hal⟩ := HN.out.at_ hpn
      have r0 := (HBW.out.cell (p := ⟨b, off + p * 3, none⟩) (by show b < _; omega)).trans q0
      have r1 := (HBW.out.cell (p := ⟨b, off + p * 3 + 1, none⟩) (by show b < _; omega)).trans q1
      have r2 := (HBW.out.cell (p := ⟨b, off + p * 3 + 2, none⟩) (by show b < _; omega)).trans q2
      have hpe : peerAt ts p = s.toList := by unfold peerAt; rw [ht]; rfl
      have hst := peersF_snoc ts ((reachL ts).take k) p
      rw [← take_snoc hp, hpe] at hst
      have hon : on ≤ 40 := by
        have h1 := HO.out.1
        have h2 := peersF_len ts ((reachL ts).take k)
        rw [List.length_take] at h2
        have := HRF.out
        omega
      have HBT := Lib.hid (tu1 wr (.cells #[.int .i64 kd, .string s, .slice aa an ac] 40))
      have CP := Lib.hid (put_any oa on oc _ s (wr.alloc (.cells #[.int .i64 kd, .string s, .slice aa an ac] 40)) (by omega) hs ((HO.out.below HBT.out).more HBT.out.size))
      have hke := HPE.out p _ hmem ht
      dsimp only at hke
      have HMX := Lib.hid (show ∀ x ∈ putS (peersF ts ((reachL ts).take k)) s.toList, x.length ≤ maxLen from fun x hx => by
        rw [mem_putS] at hx
        rcases hx with hx | rfl
        · exact HO.out.max x hx
        · rw [len_toList]; exact hs)
      have HPL := Lib.hid (show (putS (peersF ts ((reachL ts).take k)) s.toList).length ≤ 41 by
        have h1 := putS_len (peersF ts ((reachL ts).take k)) s.toList
        have h2 := HO.out.1
        omega)
      clear q0 q1 q2 hx hp ht hal hpe hmem
      by_cases hk0 : kd = 0
      · subst hk0
        rw [if_pos (hke.2 rfl)] at hst
        have HST := Lib.hid hst
        clear hst hke
        go_wp2_with fail
        go_roundw
        case rel => exact ⟨k + 1, _, _, _, by omega, by go_num, rfl, Lib.hid (by rw [HST.out]; exact (HO.out.below HBT.out).more HBT.out.size), Lib.hid (HBr.out.trans (HBT.out.mono HBr.out.size))⟩
        case measure => simp [intOf]; omega
      · have hk1 : (kd == 0) = false := by rw [beq_eq_false_iff_ne]; exact hk0
        have hk2 : (kd != 0) = true := by unfold bne; rw [hk1]; rfl
        rw [if_neg (fun e => hk0 (hke.1 e))] at hst
        have HST := Lib.hid hst
        clear hst hke hk0
        go_wp2_with (first
          | (go_at_call 33; (with_reducible refine CP.out.mono ?_)
             rintro e w2 ⟨v2, rfl, hown, hb2⟩
             obtain ⟨a3, c3, hv3, hs3, _, _⟩ := Strs.of_own hown (by have := HPL.out; omega) HMX.out
             obtain ⟨n3, hn3⟩ : ∃ n3, n3 = (putS (peersF ts ((reachL ts).take k)) s.toList).length := ⟨_, rfl⟩
             rw [← hn3] at hv3 hs3
             clear hn3
             subst hv3
             have HS3 := Lib.hid hs3
             have HB2 := Lib.hid (HBr.out.trans ((below_on HBT.out hb2).mono HBr.out.size))
             clear hown hb2 hs3)
          | fail)
        go_roundw
        case rel => exact ⟨k + 1, a3, n3, c3, by omega, by go_num, rfl, Lib.hid (by rw [HST.out]; exact HS3.out), HB2⟩
        case measure => simp [intOf]; omega
    · have HZ := Lib.hid (show peersF ts ((reachL ts).take k) = peersT ts by rw [List.take_of_length_le (by have := HRN.out; omega)]; rfl)
      go_wp2
      go_ret
      exact ⟨⟨_, _, _, rfl, by rw [← HZ.out]; exact HO.out⟩, HBW.out⟩
end Go.Proofs.Ytbbdmipfbnfpfaa
