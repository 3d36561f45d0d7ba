/- Contract of the reference's Peers. -/
import Derived.Test.YtiofpeckcfdilaaGreatDoorTuRows
import Derived.Test.YtiofpeckcfdilaaGreatDoorNmRefPutAll
namespace Go.Proofs.YtiofpeckcfdilaaGreatDoor
open Go.RowKit

/-- The peer of the turn at a place. -/
def peerAt (ts : List TurnL) (p : Nat) : Str := ((ts[p]?).map TurnL.peer).getD []
def peersF (ts : List TurnL) (row : List Nat) : List Str := row.foldl (fun out p => if peerAt ts p = [] then out else putS out (peerAt ts p)) []
def peersT (ts : List TurnL) : List Str := peersF ts (reachL ts)
theorem snoc_ind {α : Type} {P : List α → Prop} (h0 : P []) (hs : ∀ l x, P l → P (l ++ [x])) (l : List α) : P l := by
  rw [← List.reverse_reverse l]
  induction l.reverse with
  | nil => exact h0
  | cons x m ih => rw [List.reverse_cons]; exact hs _ _ ih
theorem peersF_snoc (ts : List TurnL) (row : List Nat) (p : Nat) : peersF ts (row ++ [p]) = if peerAt ts p = [] then peersF ts row else putS (peersF ts row) (peerAt ts p) := by
  unfold peersF
  rw [List.foldl_append]
  rfl
theorem mem_peersF {ts : List TurnL} {x : Str} {row : List Nat} : x ∈ peersF ts row ↔ x ≠ [] ∧ ∃ p ∈ row, peerAt ts p = x := by
  induction row using snoc_ind with
  | h0 => simp [peersF]
  | hs row p ih =>
    rw [peersF_snoc]
    by_cases h : peerAt ts p = []
    · rw [if_pos h, ih]
      constructor
      · rintro ⟨h1, q, h2, h3⟩; exact ⟨h1, q, by simp [h2], h3⟩
      · rintro ⟨h1, q, h2, h3⟩
        rw [List.mem_append, List.mem_singleton] at h2
        rcases h2 with h2 | rfl
        · exact ⟨h1, q, h2, h3⟩
        · exact absurd (h3.symm.trans h) h1
    · rw [if_neg h, mem_putS, ih]
      constructor
      · rintro (⟨h1, q, h2, h3⟩ | rfl)
        · exact ⟨h1, q, by simp [h2], h3⟩
        · exact ⟨h, p, by simp, rfl⟩
      · rintro ⟨h1, q, h2, h3⟩
        rw [List.mem_append, List.mem_singleton] at h2
        rcases h2 with h2 | rfl
        · exact .inl ⟨h1, q, h2, h3⟩
        · exact .inr h3.symm
theorem peersF_rises {ts : List TurnL} {row : List Nat} : Rises (peersF ts row) := by
  induction row using snoc_ind with
  | h0 => simp [peersF, Rises]
  | hs row p ih =>
    rw [peersF_snoc]
    by_cases h : peerAt ts p = []
    · rw [if_pos h]; exact ih
    · rw [if_neg h]; exact putS_rises _ _
theorem peersF_len (ts : List TurnL) (row : List Nat) : (peersF ts row).length ≤ row.length := by
  induction row using snoc_ind with
  | h0 => simp [peersF]
  | hs row p ih =>
    rw [peersF_snoc, List.length_append]
    by_cases h : peerAt ts p = []
    · rw [if_pos h]; simp; omega
    · rw [if_neg h]
      have := putS_len (peersF ts row) (peerAt ts p)
      simp; omega
theorem reachL_lt {ts : List TurnL} : ∀ p ∈ reachL ts, p < ts.length := by
  unfold reachL
  cases h : locB ts
  · simp
  · simpa using reach_lt h
theorem reachL_few (ts : List TurnL) : (reachL ts).length ≤ 40 := by
  unfold reachL
  cases h : locB ts
  · simp
  · have := reach_few h
    have := (locB_one h).2.1
    simp; omega
theorem rowI_at {row : List Nat} {k : Nat} {x : Int} (h : (rowI row)[k]? = some x) : ∃ p : Nat, x = (p : Int) ∧ row[k]? = some p := by
  unfold rowI at h
  rw [List.getElem?_map] at h
  obtain ⟨p, hp, rfl⟩ := Option.map_eq_some_iff.1 h
  exact ⟨p, rfl, hp⟩
theorem take_snoc {α : Type} {l : List α} {k : Nat} {x : α} (h : l[k]? = some x) : l.take (k + 1) = l.take k ++ [x] := by
  rw [List.take_add_one, h]
  rfl

set_option maxHeartbeats 8000000 in
theorem tuPeers_any (nm : ByteArray) (a : Option Addr) (n c : Nat) (ts : List TurnL) (w : World) (bound : Nat) (hb : bound ≤ w.heap.size) (h : Turns w bound a n ts) :
    Calls Tryz.prog 38 #[.agg #[.string nm, .slice a n c]] w fun e w' => (∃ ra rn rc, e = .returned (.slice ra rn rc) ∧ Strs w' w'.heap.size ra rn (peersT ts)) ∧ Below w.heap.size w w' := by
  have HB0 := Lib.hid (tu1 w (.cells #[.string nm, .slice a n c] 24))
  have HL := Lib.hid (LBox.new w nm a n c)
  have CR := Lib.hid (fun (W : World) (hW : Below w.heap.size w W) => tuLReach_any nm a n c ts W bound (by have := hW.size; omega) (h.below (hW.mono hb)))
  obtain ⟨lc0, lc1⟩ := HL.out.cells
  have HN := Lib.hid h
  have HLEN := Lib.hid h.1
  have HRL := Lib.hid (reachL_lt (ts := ts))
  have HRF := Lib.hid (reachL_few ts)
  clear h
  go_enter Tryz.func38, Tryz.ntmps38
  go_wp2_with (first
    | (go_at_call 71; (with_reducible refine (CR.out _ HB0.out).mono ?_)
       rintro e w1 ⟨⟨v, rfl, hiv⟩, hb1⟩
       have HB1 := Lib.hid (below_on HB0.out hb1)
       obtain ⟨ra, rc, rfl, _, _, _, hnu⟩ := hiv.sees
       have HNU := Lib.hid hnu
       have HLM := Lib.hid (HL.out.on hb1)
       clear hb1 hiv hnu)
    | fail)
  rw [rowI_len] at HNU
  obtain ⟨rn, hrn⟩ : ∃ rn, rn = (reachL ts).length := ⟨_, rfl⟩
  rw [rowI_len, ← hrn]
  rw [← hrn] at HNU HRF
  have HRN := Lib.hid hrn
  clear hrn
  go_loopw [4, 5] (fun o i wr => ∃ (k : Nat) (oa : Option Addr) (on oc : Nat), k ≤ rn ∧ i = .int .i64 k ∧ o = .slice oa on oc ∧ Hid (Strs wr wr.heap.size oa on (peersF ts ((reachL ts).take k))) ∧ Hid (Below w1.heap.size w1 wr)) (fun _ i _ => rn - (intOf i).toNat)
  case atStart => exact ⟨0, none, 0, 0, Nat.zero_le _, rfl, rfl, Lib.hid (by rw [List.take_zero]; exact Strs.zero _ _ _), Lib.hid (Below.refl _ _)⟩
  case round =>
    obtain ⟨k, oa, on, oc, hk, rfl, rfl, HO, HBr⟩ := hrel
    have hrf := HRF.out
    obtain ⟨mc0, mc1⟩ := (HLM.out.on HBr.out).cells
    have HBW := Lib.hid (below_on HB1.out HBr.out)
    by_cases hlt : k < rn
    · obtain ⟨rb, ro, x, rfl, hrb, hx, hc⟩ := (HNU.out.below HBr.out).at_ hlt
      obtain ⟨p, rfl, hp⟩ := rowI_at hx
      have hpn := HRL.out p (List.mem_of_getElem? hp)
      rw [HLEN.out] at hpn
      obtain ⟨b, off, kd, s, aa, an, ac, l, rfl, hbb, ht, ⟨q0, q1, q2⟩, hs, hal⟩ := HN.out.at_ hpn
      have r1 := (HBW.out.cell (p := ⟨b, off + p * 3 + 1, none⟩) (by show b < _; omega)).trans q1
      have hpe : peerAt ts p = s.toList := by unfold peerAt; rw [ht]; rfl
      have hst := peersF_snoc ts ((reachL ts).take k) p
      rw [← take_snoc hp, hpe] at hst
      have hon : on ≤ 40 := by
        have h1 := HO.out.1
        have h2 := peersF_len ts ((reachL ts).take k)
        rw [List.length_take] at h2
        have := HRF.out
        omega
      have CP := Lib.hid (fun q => refPut_any oa on oc _ s (wr.drewN q) (by omega) hs (HO.out.keep fun _ _ => rfl))
      clear q0 q1 q2 hx hp ht hal hpe
      cases he : s.toList.isEmpty
      · have he2 : (s.toList == []) = false := by rw [empty_is]; exact he
        have he3 : (s.toList != []) = true := by unfold bne; rw [he2]; rfl
        rw [if_neg (by rw [beq_eq_false_iff_ne] at he2; exact he2)] at hst
        have HST := Lib.hid hst
        clear hst
        go_wp2
        go_quiet (fail)
        go_wp2_with (first
          | (go_at_call 72; (with_reducible refine (CP.out _).mono ?_)
             rintro e w2 ⟨b1, o1, m, c1, rfl, hs2, _, _, hb2⟩
             have HS2 := Lib.hid hs2
             have HB2 := Lib.hid (below_on (bel_drewN HBr.out nq) hb2)
             clear hs2 hb2)
          | fail)
        go_roundw
        case rel => exact ⟨k + 1, _, _, _, by omega, by go_num, rfl, Lib.hid (by rw [HST.out]; exact HS2.out), HB2⟩
        case measure => simp [intOf]; omega
      · have he2 : (s.toList == []) = true := by rw [empty_is]; exact he
        have he3 : (s.toList != []) = false := by unfold bne; rw [he2]; rfl
        rw [if_pos (eq_of_beq he2)] at hst
        have HST := Lib.hid hst
        clear hst
        go_wp2
        go_quiet (fail)
        go_wp2_with fail
        go_roundw
        case rel => exact ⟨k + 1, _, _, _, by omega, by go_num, rfl, Lib.hid (by rw [HST.out]; exact HO.out.keep fun _ _ => rfl), Lib.hid (bel_drewN HBr.out nq)⟩
        case measure => simp [intOf]; omega
    · have HZ := Lib.hid (show peersF ts ((reachL ts).take k) = peersT ts by rw [List.take_of_length_le (by have := HRN.out; omega)]; rfl)
      go_wp2
      go_ret
      exact ⟨⟨_, _, _, rfl, by rw [← HZ.out]; exact HO.out⟩, HBW.out⟩
end Go.Proofs.YtiofpeckcfdilaaGreatDoor
