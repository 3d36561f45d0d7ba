/- Law: TurnsPeers. -/
import Derived.Test.YtbbdmipfbnfpfaaTuFirst
import Derived.Test.YtbbdmipfbnfpfaaTuMakeL
import Derived.Test.YtbbdmipfbnfpfaaTuOwnR
import Derived.Test.YtbbdmipfbnfpfaaTuSameO
namespace Go.Proofs.Ytbbdmipfbnfpfaa
open Go.RowKit

theorem reach_end {ts : List TurnL} (h : locB ts = true) {t : TurnL} (ht : ts[0]? = some t) (hk : t.kind = 0) : reachT ts = [0] ∧ peersT ts = [] := by
  have ha : t.arms = [] := by
    rcases turnB_arms ((locB_one h).2.2 t (List.mem_of_getElem? ht)) with ⟨_, _, e⟩ | ⟨e, _⟩
    · exact e
    · omega
  have hn : nextsOf ts 0 = [] := by unfold nextsOf armsOf; rw [ht]; simp [ha, sortA]
  have hr : reachT ts = [0] := by
    unfold reachT
    obtain ⟨n, hlen⟩ : ∃ n, ts.length = n + 1 := ⟨ts.length - 1, by have := (locB_one h).1; omega⟩
    rw [hlen, bfs_some n (show ([0] : List Nat)[0]? = some 0 from rfl), hn]
    exact bfs_none _ (by simp [addN])
  refine ⟨hr, ?_⟩
  unfold peersT reachL
  rw [h, if_pos rfl, hr]
  have hp : peerAt ts 0 = [] := by
    unfold peerAt
    rw [ht]
    exact (peer_end h ht).2 hk
  show (if peerAt ts 0 = [] then [] else putS [] (peerAt ts 0)) = []
  rw [if_pos hp]
theorem reachL_eq {ts : List TurnL} (h : locB ts = true) : reachL ts = reachT ts := by unfold reachL; rw [h]; rfl
theorem peer_has {ts : List TurnL} (h : locB ts = true) {p : Nat} {t : TurnL} (hp : p ∈ reachT ts) (ht : ts[p]? = some t) (hk : t.kind ≠ 0) : t.peer ∈ peersT ts := by
  unfold peersT
  refine mem_peersF.2 ⟨fun e => hk ((peer_end h ht).1 e), p, by rw [reachL_eq h]; exact hp, ?_⟩
  unfold peerAt
  rw [ht]
  rfl
theorem peers_may {ts : List TurnL} (h : locB ts = true) {s : Str} (hs : s ∈ peersT ts) : may s = true := by
  unfold peersT at hs
  obtain ⟨hne, p, hp, e⟩ := mem_peersF.1 hs
  unfold peerAt at e
  rcases ht : ts[p]? with _ | t
  · rw [ht] at e; exact absurd e.symm hne
  · rw [ht] at e
    have e : t.peer = s := e
    rcases turnB_arms ((locB_one h).2.2 t (List.mem_of_getElem? ht)) with ⟨_, e2, _⟩ | ⟨_, e2, _⟩
    · exact absurd (e.symm.trans e2) hne
    · rw [← e]; exact e2
theorem peers_rise (ts : List TurnL) : Rises (peersT ts) := peersF_rises
theorem peers_once (ts : List TurnL) : once (peersT ts) = true := (once_iff _).2 (rises_nodup (peers_rise ts))
theorem rise_at {l : List Str} (h : Rises l) {k : Nat} {x y : Str} (hk : 0 < k) (hx : l[k - 1]? = some x) (hy : l[k]? = some y) : x < y := by
  obtain ⟨h1, e1⟩ := List.getElem?_eq_some_iff.1 hx
  obtain ⟨h2, e2⟩ := List.getElem?_eq_some_iff.1 hy
  have := List.pairwise_iff_getElem.1 h (k - 1) k h1 h2 (by omega)
  rwa [e1, e2] at this
theorem peers_few (ts : List TurnL) : (peersT ts).length ≤ 40 := Nat.le_trans (peersF_len _ _) (reachL_few ts)
theorem made_local {g : Nat} {w : World} (hD : Dice w g) : Calls Try.prog 8 #[.pointer (some ⟨g, 0, none⟩), .string ⟨#[116]⟩, .slice none 0 0] w fun e w' => LocalRet ⟨#[116]⟩ w e w' ∧ Beside g w w' := local_any g ⟨#[116]⟩ w hD
theorem MRow.sees {w : World} {base S : Nat} {a : Option Addr} {n c : Nat} {f : List TurnL} (h : MRow w base S (.slice a n c) f) (hl : f.length ≤ 1000000) : Turns w w.heap.size a n f := by
  obtain ⟨a2, c2, hv, ht⟩ := h.towns.sees hl
  obtain ⟨e1, e2, e3⟩ := Value.slice.inj hv
  rw [e1, e2]
  exact ht
set_option maxHeartbeats 16000000 in
set_option maxRecDepth 20000 in
theorem turnsPeers_walk (a : Option Addr) (n c : Nat) (l : List Int) (w : World) (h : Nums w w.heap.size a n l) (hlim : n * 8 ≤ 140737488351232) :
    Calls Try.prog 6 #[.slice a n c] w fun e w' => e = .returned (.bool true) ∧ Below w.heap.size w w' := by
  have HN := Lib.hid h
  have HF := Lib.hid (tuFirst_any w)
  clear h
  go_enter Try.func6, Try.ntmps6
  go_upto_region 4 with (first
    | (go_at_call 7; (with_reducible refine HF.out.mono ?_)
       rintro e w1 ⟨rfl, hb1⟩
       have HB1 := Lib.hid hb1
       clear hb1)
    | (go_at_call 9; (with_reducible refine (new_any a n c l w1 w.heap.size (HN.out.below HB1.out) hlim).mono ?_)
       rintro e w2 ⟨g, rfl, hd2, hg2, hb2⟩
       have HD2 := Lib.hid hd2
       have HB2 := Lib.hid hb2
       clear hd2 hb2)
    | (go_at_call 8; (with_reducible refine (made_local HD2.out).mono ?_)
       rintro e w3 ⟨⟨sa, sn, sc, ts, rfl, hm3, hln, hloc, hfew⟩, hb3⟩
       have HT3 := Lib.hid (hm3.sees (by omega))
       have HLOC := Lib.hid hloc
       have HLN := Lib.hid hln
       have HB3 := Lib.hid (below_on HB1.out (HB2.out.trans (hb3.below hg2 HB2.out.size)))
       clear hm3 hloc hb3 hln)
    | fail)
  have HL4 := Lib.hid (LBox.new w3 ⟨#[116]⟩ sa sn sc)
  have HBX := Lib.hid (tu1 w3 (.cells #[.string ⟨#[116]⟩, .slice sa sn sc] 26))
  have HT4 := Lib.hid (HT3.out.on HBX.out)
  have HB4 := Lib.hid (below_on HB3.out HBX.out)
  have hn1 : 1 ≤ sn := by have := (locB_one HLOC.out).1; have := HLN.out; omega
  have hn6 : sn ≤ 6 := by have := HLN.out; omega
  have CP := Lib.hid (ownPeers_any ⟨#[116]⟩ sa sn sc ts _ _ (Nat.le_refl _) HT4.out)
  have CR := Lib.hid (fun (W : World) (hW : Below (w3.alloc (.cells #[.string ⟨#[116]⟩, .slice sa sn sc] 26)).heap.size (w3.alloc (.cells #[.string ⟨#[116]⟩, .slice sa sn sc] 26)) W) => ownReach_any ⟨#[116]⟩ sa sn sc ts W _ hW.size (HT4.out.below hW))
  rw [reachL_eq HLOC.out] at CR
  obtain ⟨tc0, tc1⟩ := HL4.out.cells
  go_upto_region 6 with (first
    | (go_at_call 18; (with_reducible refine CP.out.mono ?_)
       rintro e w5 ⟨⟨pa, pn, pc, rfl, hp5⟩, hb5⟩
       have HP5 := Lib.hid hp5
       have HB45 := Lib.hid hb5
       obtain ⟨_, _⟩ := (HL4.out.on hb5).cells
       clear hp5 hb5)
    | (go_at_call 14; (with_reducible refine (CR.out _ HB45.out).mono ?_)
       rintro e w6 ⟨⟨v, rfl, hi6⟩, hb6⟩
       obtain ⟨ra, rc, rfl, _, _, _, hnu⟩ := hi6.sees
       have HNU := Lib.hid hnu
       have HP6 := Lib.hid ((HP5.out.below hb6).more hb6.size)
       have HB46 := Lib.hid (below_on HB45.out hb6)
       clear hi6 hb6 hnu)
    | fail)
  rw [rowI_len] at HNU
  rw [rowI_len]
  obtain ⟨rn, hrn⟩ : ∃ rn, rn = (reachT ts).length := ⟨_, rfl⟩
  rw [← hrn] at HNU
  rw [← hrn]
  have HRN := Lib.hid hrn
  have HPN := Lib.hid HP6.out.1
  have hpn40 : pn ≤ 40 := by have := peers_few ts; have := HPN.out; omega
  have hrn40 : rn ≤ 40 := by have := reach_few HLOC.out; have := (locB_one HLOC.out).2.1; omega
  have HB6 := Lib.hid (below_on HB4.out HB46.out)
  have HL6 := Lib.hid (HL4.out.on HB46.out)
  have HT6 := Lib.hid (HT4.out.on HB46.out)
  clear hrn
  obtain ⟨mc0, mc1⟩ := HL6.out.cells
  obtain ⟨b, off, kd, s, aa, an, ac, l1, rfl, hbb, ht, ⟨q0, q1, q2⟩, hs, hal⟩ := HT6.out.at_ (show 0 < sn by omega)
  rw [Nat.zero_mul, Nat.add_zero] at q0
  have i0 : (0 : Int) < (sn : Int) := by omega
  by_cases hk0 : kd = 0
  · subst hk0
    obtain ⟨hr1, hp1⟩ := reach_end HLOC.out ht rfl
    have hrn1 : rn = 1 := by rw [HRN.out, hr1]; rfl
    have hpn0 : pn = 0 := by have := HPN.out; rw [hp1] at this; exact this.symm
    subst hrn1 hpn0
    clear ht hal q1 q2 hs hr1 hp1
    go_wp2_with fail
    go_ret
    exact ⟨rfl, HB6.out⟩
  have k1 : (kd == 0) = false := by rw [beq_eq_false_iff_ne]; exact hk0
  have HNE := Lib.hid (show 1 ≤ pn by
    obtain ⟨r, hr⟩ := reach_zero ts
    have := peer_has HLOC.out (p := 0) (by rw [hr]; simp) ht hk0
    have h2 := List.length_pos_of_mem this
    rw [HPN.out] at h2
    exact h2)
  clear ht hal q1 q2 hs
  go_wp2_with fail
  go_loopw [6] (fun i wr => ∃ k : Nat, k ≤ rn ∧ i = .int .i64 k ∧ Hid (Below w6.heap.size w6 wr)) (fun i _ => rn - (intOf i).toNat)
  case atStart => exact ⟨0, Nat.zero_le _, rfl, Lib.hid (Below.refl _ _)⟩
  case round =>
    obtain ⟨k, hk, rfl, HBr⟩ := hrel
    obtain ⟨_, _⟩ := (HL6.out.on HBr.out).cells
    have hzr := HBr.out.size
    by_cases hlt : k < rn
    · obtain ⟨rb, ro, x, rfl, hrb, hx, hc⟩ := (HNU.out.below HBr.out).at_ hlt
      obtain ⟨p, rfl, hp⟩ := rowI_at hx
      have hmem := List.mem_of_getElem? hp
      have hpn := reach_lt HLOC.out p hmem
      rw [HLN.out] at hpn
      obtain ⟨b2, off2, kd2, s2, aa2, an2, ac2, l2, e2, hbb2, ht2, ⟨y0, y1, y2⟩, hs2, _⟩ := HT6.out.at_ hpn
      obtain ⟨e3, e4, _⟩ := Addr.mk.inj (Option.some.inj e2)
      subst e3 e4
      have r0 := (HBr.out.cell (p := ⟨b, off + p * 3, none⟩) hbb2).trans y0
      have r1 := (HBr.out.cell (p := ⟨b, off + p * 3 + 1, none⟩) hbb2).trans y1
      have r2 := (HBr.out.cell (p := ⟨b, off + p * 3 + 2, none⟩) hbb2).trans y2
      have i1 : (p : Int) < (sn : Int) := by omega
      have i2 : (0 : Int) ≤ (p : Int) := by omega
      have i3 : (k : Int) < (rn : Int) := by omega
      have z0 : w3.heap.size < wr.heap.size := by have := HL6.out.lt; omega
      have z1 : b < wr.heap.size := by omega
      have z2 : rb < wr.heap.size := by omega
      have HBN := Lib.hid (show Below w6.heap.size w6 (wr.alloc (.cells #[.int .i64 kd2, .string s2, .slice aa2 an2 ac2] 40)).drew from bel_drewN (HBr.out.trans ((tu1 wr (.cells #[.int .i64 kd2, .string s2, .slice aa2 an2 ac2] 40)).mono hzr)) 1)
      have HPH := Lib.hid (fun (h : kd2 ≠ 0) => peer_has HLOC.out hmem ht2 h)
      have CH := Lib.hid (fun (W : World) (hW : Below w6.heap.size w6 W) => has_any pa pn pc (peersT ts) s2 W _ (HP6.out.below hW))
      clear hx hp ht2 y0 y1 y2 hmem hs2
      by_cases hk2 : kd2 = 0
      · subst hk2
        go_wp2
        go_region
        go_wp2_with fail
        go_roundw
        case rel => exact ⟨k + 1, by omega, by go_num, HBN⟩
        case measure => simp [intOf]; omega
      · have k2 : (kd2 == 0) = false := by rw [beq_eq_false_iff_ne]; exact hk2
        have k3 : (kd2 != 0) = true := by unfold bne; rw [k2]; rfl
        have hh := HPH.out hk2
        rw [show hasS (peersT ts) s2.toList = true by unfold hasS; exact List.contains_iff_mem.2 hh] at CH
        clear hk2 hh
        go_wp2
        go_region
        go_wp2_with (first
          | (go_at_call 19; (with_reducible refine (CH.out _ HBN.out).mono ?_); rintro e w8 ⟨rfl, rfl⟩)
          | fail)
        go_roundw
        case rel => exact ⟨k + 1, by omega, by go_num, HBN⟩
        case measure => simp [intOf]; omega
    · go_wp2_with fail
      go_loopw [8] (fun i wt => ∃ j : Nat, j ≤ pn ∧ i = .int .i64 j ∧ Hid (Below w6.heap.size w6 wt)) (fun i _ => pn - (intOf i).toNat)
      case atStart => exact ⟨0, Nat.zero_le _, rfl, HBr⟩
      case round =>
        obtain ⟨j, hj, rfl, HBt⟩ := hrel
        have HPR := Lib.hid ((HP6.out.below HBt.out).more HBt.out.size)
        by_cases hjt : j < pn
        · obtain ⟨pb, po, t1, hpa, hpb, hpt, hpc⟩ := HPR.out.part1 hjt
          subst hpa
          have hmay := peers_may HLOC.out (List.mem_of_getElem? hpt)
          have hsm : t1.size ≤ maxLen := by
            have := HPR.out.max _ (List.mem_of_getElem? hpt)
            rwa [len_toList] at this
          have CM := Lib.hid (fun W => refMay_any t1 W hsm)
          rw [hmay] at CM
          have j1 : (j : Int) < (pn : Int) := by omega
          have j2 : (0 : Int) ≤ (j : Int) := by omega
          by_cases hj0 : j = 0
          · have d0 : decide (0 < j) = false := decide_eq_false (by omega)
            have HJ := Lib.hid hj0
            clear hpt hmay hj0
            go_wp2
            go_quiet ((go_at_call 20; exact quiet_at (CM.out _)))
            go_wp2_with fail
            go_roundw
            case rel => exact ⟨j + 1, by omega, by go_num, Lib.hid (bel_drewN HBt.out nq)⟩
            case measure => simp [intOf]; omega
          · have d0 : decide (0 < j) = true := decide_eq_true (by omega)
            obtain ⟨pb2, po2, t0, hpa2, _, hpt2, hpc2⟩ := HPR.out.part1 (show j - 1 < pn by omega)
            obtain ⟨e5, e6, _⟩ := Addr.mk.inj (Option.some.inj hpa2)
            subst e5 e6
            have hr := rise_at (peers_rise ts) (by omega) hpt2 hpt
            have hbl : Op.bytesLess t0.toList t1.toList = true := by rw [bytesLess_eq, decide_eq_true hr]
            obtain ⟨j0, hj00⟩ : ∃ j0 : Nat, j0 = j - 1 := ⟨_, rfl⟩
            rw [← hj00] at hpc2
            have hw1 : IntKind.i64.wrap ((j : Int) - 1) = (j0 : Int) := by simp [IntKind.wrap, IntKind.bits, IntKind.signed]; omega
            have hw2 : (j : Int) - 1 = (j0 : Int) := by omega
            have j3 : (j0 : Int) < (pn : Int) := by omega
            have j4 : (0 : Int) ≤ (j0 : Int) := by omega
            clear hpt hmay hpt2 hr hpa2 hj0 hj00
            go_wp2
            go_quiet ((go_at_call 20; exact quiet_at (CM.out _)))
            go_wp2_with fail
            go_roundw
            case rel => exact ⟨j + 1, by omega, by go_num, Lib.hid (bel_drewN HBt.out nq)⟩
            case measure => simp [intOf]; omega
        · have d1 : decide ((1 : Int) ≤ (pn : Int)) = true := decide_eq_true (by have := HNE.out; omega)
          have CO := Lib.hid (once_any pa pn pc (peersT ts) wr HPR.out)
          rw [peers_once] at CO
          go_wp2_with (first
            | (go_at_call 21; (with_reducible refine CO.out.mono ?_)
               rintro e w9 ⟨rfl, hb9⟩
               have HB9 := Lib.hid (below_on HB6.out (below_on HBt.out hb9))
               clear hb9)
            | fail)
          go_ret
          exact ⟨rfl, HB9.out⟩
end Go.Proofs.Ytbbdmipfbnfpfaa
