/- A valid protocol's trim, as a call. -/
import Derived.Test.YtokgpdceckaddaaGreatDoorGlViss
import Derived.Test.YtokgpdceckaddaaGreatDoorGlTrims
import Derived.Test.YtokgpdceckaddaaGreatDoorPjSpecs
import Derived.Test.YtokgpdceckaddaaGreatDoorPjUs
import Derived.Test.YtokgpdceckaddaaGreatDoorTuPeers
import Derived.Test.YtokgpdceckaddaaGreatDoorPjMades
import Derived.Test.YtokgpdceckaddaaGreatDoorPjFirsts
import Derived.Test.YtokgpdceckaddaaGreatDoorPjOwns
import Derived.Test.YtokgpdceckaddaaGreatDoorTuOwnRW
import Derived.Test.YtokgpdceckaddaaGreatDoorTuOwnV
import Derived.Deep.RegionHeld3
import Derived.Deep.CutRange
import Derived.Test.YtokgpdceckaddaaGreatDoorTuSeat
import Derived.Test.YtokgpdceckaddaaGreatDoorCards
import Derived.Test.YtokgpdceckaddaaGreatDoorTie
import Derived.SevenTiedAt
import Derived.LaidOnce
import Derived.Lay
import Derived.ChangeOld
import Derived.ShutString
namespace Go.Proofs.YtokgpdceckaddaaGreatDoor
open Go.RowKit

theorem PIn.trimOk {W : World} {nm : ByteArray} {ra : Option Addr} {rn rc : Nat} {rs : List Str} {a : Option Addr} {n c : Nat} {ps : List PointL} (h : PIn W nm ra rn rs a n ps) (hv : protB nm.toList rs ps = true) :
    Calls Tryz.prog 26 #[.agg #[.string nm, .slice ra rn rc, .slice a n c]] W fun e w' => (∃ xa xn xc ta tn tc, e = .returned (.agg #[.string nm, .slice xa xn xc, .slice ta tn tc]) ∧ PIn w' nm xa xn rs ta tn (trimP ps)) ∧ Below W.heap.size W w' :=
  (gTrim_any nm h.name ra rn rc rs a n c ps W _ (Nat.le_refl _) h.roles h.pts).mono fun e w' k => by
    obtain ⟨⟨xa, xn, xc, ta, tn, tc, e1, e2⟩, hb⟩ := k
    have e3 : nameQ nm rs ps = nm := by unfold nameQ; rw [hv]; rfl
    have e4 : rolesQ nm.toList rs ps = rs := by unfold rolesQ; rw [hv]; rfl
    have e5 : trimQ nm.toList rs ps = trimP ps := by unfold trimQ; rw [hv]; rfl
    rw [e3] at e1 e2
    rw [e4, e5] at e2
    exact ⟨⟨xa, xn, xc, ta, tn, tc, e1, e2⟩, hb⟩
/-- What Role says of a trim. -/
theorem roleTrim_any {W : World} {ra : Option Addr} {rn rc : Nat} {many sn : Nat} {a : Option Addr} {n c : Nat} {ps : List PointL} (h : PIn W ⟨#[112]⟩ ra rn (rolesL many) a n (trimP ps)) (hm : GMade many sn ps) {i : Nat} (hi : i < many) :
    Calls Tryz.prog 15 #[.agg #[.string ⟨#[112]⟩, .slice ra rn rc, .slice a n c], .string (rolS i)] W fun e w' => RoleAns W [112] (rolS i).toList (roleP ps (rolS i).toList) e w' := by
  have := roleU_any ⟨#[112]⟩ ra rn rc (rolesL many) a n c (trimP ps) (rolS i) W h
  rw [prot_one, roleQ_in (trimP_valid hm.ok) (hasS_made hi), role_trim hm.ok] at this
  exact this
/-- A peer of a projection is another role. -/
theorem peers_role {nm : Str} {rs : List Str} {ps : List PointL} {r : Str} (hp : protB nm rs ps = true) (hr : hasS rs r = true) {ts : List TurnL} {ns : List (List Nat)} (h : RoleOk ps r ts ns) {x : Str} (hx : x ∈ peersT ts) : x ≠ r ∧ x ∈ rs := by
  obtain ⟨h1, p, _, h3⟩ := mem_peersF.1 hx
  unfold peerAt at h3
  cases ht : ts[p]? with
  | none => rw [ht] at h3; exact absurd h3.symm h1
  | some t =>
    rw [ht] at h3
    have h3 : t.peer = x := h3
    rcases turn_valid hp hr h ht with rfl | ⟨_, h4, h5, _⟩
    · exact absurd h3.symm h1
    · rw [← h3]; exact ⟨h5, h4⟩
end Go.Proofs.YtokgpdceckaddaaGreatDoor

/- Law: ProjectTrim. (The first rows printed by gen/gen8.py.) -/
namespace Go.Proofs.YtokgpdceckaddaaGreatDoor
open Go.RowKit

set_option maxHeartbeats 16000000 in
set_option maxRecDepth 20000 in
theorem projectTrim_walk (a : Option Addr) (n c : Nat) (l : List Int) (y : Int) (w : World) (h : Nums w w.heap.size a n l) (hlim : n * 8 ≤ 140737488351232) :
    Calls Tryz.prog 7 #[.slice a n c, .int .i64 y] w fun e w' => e = .returned (.bool true) ∧ Below w.heap.size w w' := by
  have HN := Lib.hid h
  have HF := Lib.hid (first8_any w)
  have hn0 := h.1
  have HLN := Lib.hid hn0
  clear h hn0
  go_enter Tryz.func7, Tryz.ntmps7
  go_upto_region 4 with (first
    | (go_at_call 11; (with_reducible refine HF.out.mono ?_)
       rintro e w1 ⟨rfl, hb1⟩
       have HB1 := Lib.hid hb1
       clear hb1)
    | (go_at_call 13; (with_reducible refine (given8_any _).mono ?_)
       rintro e w2 ⟨xa, xb, rfl, _, hb2⟩
       have HB2 := Lib.hid (below_on HB1.out hb2)
       clear hb2)
    | (at_builtin
       refine wpList_append_plus rfl (.tmp 17) (.tmp 18) rfl w2.heap.size w.heap.size (.slice (some ⟨w2.heap.size, 0, none⟩) 1 1) a n c [2] l rfl rfl (IInts.one (W := w2) (cs := #[.int .i64 2]) (base := w2.heap.size) (g := w2.heap.size) 2 rfl rfl (Nat.le_refl _)) ((HN.out.below HB2.out).alloc HB2.out.size _) (by show (1 + n) * 8 ≤ _; omega) (by simp) ?_
       intro v3 w3 hown hgr
       obtain ⟨pa, pc, hv, _, _, _, hnu⟩ := hown.sees
       obtain ⟨pn, hpn⟩ : ∃ pn, pn = ([2] ++ l : List Int).length := ⟨_, rfl⟩
       rw [← hpn] at hv hnu
       subst hv
       have hpl : pn * 8 ≤ 140737488355328 := by rw [hpn, List.length_append, HLN.out]; show (1 + n) * 8 ≤ _; omega
       clear hpn
       have HNU := Lib.hid (show Nums w3 w3.heap.size pa pn (2 :: l) from hnu)
       have HB3 := Lib.hid ((HB2.out.alloc HB2.out.size (.cells #[.int .i64 2] 3)).grown hgr (by have := HB2.out.size; simp; omega) (fun j e => by cases e; exact HB2.out.size))
       clear hown hgr hnu)
    | (go_at_call 12; (with_reducible refine (law8two_any xa xb pa pn pc l w3 HNU.out hpl).mono ?_)
       rintro e w4 ⟨⟨many, hmany, ra, rc, sa, sn, sc, ps, rfl, hm, hr, hl, hok, h2, h9⟩, hb4⟩
       have HB4 := Lib.hid (below_on HB3.out hb4)
       have hm2 : 2 ≤ many := by omega
       have hm4 : many ≤ 4 := by omega
       obtain ⟨hpin, hmade⟩ := made_in hm2 hm4 hm hr hl hok h2 h9
       have HPI := Lib.hid hpin
       have HMD := Lib.hid hmade
       have HMANY := Lib.hid hmany
       clear hm hr hl hok h2 h9 hb4 hpin hmade hmany)
    | fail)
  have HG5 := Lib.hid (GIn.begin (rc := rc) (sc := sc) HB4.out HPI.out)
  generalize hg5 : w4.heap.size = g5 at HG5 ⊢
  generalize hw5 : w4.alloc (.cells #[.string ⟨#[112]⟩, .slice ra many rc, .slice sa sn sc] 27) = w5 at HG5 ⊢
  clear hg5 hw5 HPI HB4 HB3 HNU HB2 HB1 HF HN hpl
  obtain ⟨pc0, pc1, pc2⟩ := HG5.out.box.cells
  obtain ⟨ri, hri, hmz⟩ := mod_lt y many (by omega) (by omega)
  obtain ⟨rb, ro, rfl, hrb, hrc⟩ := HG5.out.roles hri
  have hne : ((many : Int) == 0) = false := by rw [beq_eq_false_iff_ne]; omega
  have i1 : (ri : Int) < (many : Int) := by omega
  have i2 : (0 : Int) ≤ (ri : Int) := by omega
  have hwm : IntKind.u64.wrap (many : Int) = (many : Int) := IntWalk.u64_in _ (by omega)
  go_quiet (fail)
  go_upto_region 5 with fail
  have hbq := bel_drewN (Below.refl w5.heap.size w5) nq
  have HG6 := Lib.hid (HG5.out.on hbq)
  generalize hw6 : w5.drewN nq = w6 at HG6 ⊢
  clear hw6 hmz hwm hrc hrb pc0 pc1 pc2 HG5
  obtain ⟨pc0, pc1, pc2⟩ := HG6.out.box.cells
  have CR1 := Lib.hid (HG6.out.role HMD.out hri)
  obtain ⟨X, hX⟩ : ∃ X, X = roleP ps (rolS ri).toList := ⟨_, rfl⟩
  rw [← hX] at CR1
  have HXE := Lib.hid hX
  clear hX
  go_upto_region 6 with (first
    | (go_at_call 15; (with_reducible refine CR1.out.mono ?_)
       rintro e v1 ⟨s1, a1, n1, c1, rfl, hl1, hb1⟩
       have HL1 := Lib.hid hl1
       have HB1 := Lib.hid hb1
       clear hl1 hb1)
    | fail)
  have hb7 := below_on HB1.out (tu1 v1 (.cells #[.string s1, .slice a1 n1 c1] 34))
  have HG7 := Lib.hid (HG6.out.on hb7)
  have HL7 := Lib.hid (HL1.out.on (tu1 v1 (.cells #[.string s1, .slice a1 n1 c1] 34)))
  have HX7 := Lib.hid (LBox.new v1 s1 a1 n1 c1)
  generalize hg7 : v1.heap.size = g7 at HX7 ⊢
  generalize hw7 : v1.alloc (.cells #[.string s1, .slice a1 n1 c1] 34) = w7 at HG7 HL7 HX7 ⊢
  clear hw7 hg7 hb7 HG6 HL1 HB1 pc0 pc1 pc2 CR1
  obtain ⟨pc0, pc1, pc2⟩ := HG7.out.box.cells
  have CT := Lib.hid (HG7.out.pin.trimOk (rc := rc) (c := sc) (by rw [prot_one]; exact HMD.out.ok))
  have CR2 := Lib.hid (fun (xa : Option Addr) (xn xc : Nat) (ta : Option Addr) (tn tc : Nat) (W : World) (hW : Below w7.heap.size w7 W) (hP : PIn W ⟨#[112]⟩ xa xn (rolesL many) ta tn (trimP ps)) => show Calls Tryz.prog 15 #[.agg #[.string ⟨#[112]⟩, .slice xa xn xc, .slice ta tn tc], .string (rolS ri)] W fun e w' => ∃ (s : ByteArray) (a : Option Addr) (n c : Nat), e = .returned (.tuple #[.agg #[.string s, .slice a n c], .int .i64 (errU X)]) ∧ LIn w' s a n (nameU [112] (rolS ri).toList X) (turnsU X) ∧ Below w7.heap.size w7 w' from (roleTrim_any (rc := xc) (c := tc) hP HMD.out hri).mono fun e w' k => by
    rw [← HXE.out] at k
    obtain ⟨s, a, n, c, k1, k2, k3⟩ := k
    exact ⟨s, a, n, c, k1, k2, below_on hW k3⟩)
  go_upto_region 7 with (first
    | (go_at_call 26; (with_reducible refine CT.out.mono ?_)
       rintro e v2 ⟨⟨xa, xn, xc, ta, tn, tc, rfl, hp2⟩, hb2⟩
       have CX := Lib.hid (CR2.out xa xn xc ta tn tc v2 hb2 hp2)
       clear hp2 hb2)
    | (go_at_call 15; (with_reducible refine CX.out.mono ?_)
       rintro e v3 ⟨s2, a2, n2, c2, rfl, hl2, hb3⟩
       have HL2 := Lib.hid hl2
       have HB2 := Lib.hid hb3
       clear hl2 hb3)
    | fail)
  have hb8 := below_on HB2.out (tu1 v3 (.cells #[.string s2, .slice a2 n2 c2] 34))
  have HG8 := Lib.hid (HG7.out.on hb8)
  have HL8 := Lib.hid (HL7.out.on hb8)
  have HX8 := Lib.hid (HX7.out.on hb8)
  have HM8 := Lib.hid (HL2.out.on (tu1 v3 (.cells #[.string s2, .slice a2 n2 c2] 34)))
  have HY8 := Lib.hid (LBox.new v3 s2 a2 n2 c2)
  generalize hg8 : v3.heap.size = g8 at HY8 ⊢
  generalize hw8 : v3.alloc (.cells #[.string s2, .slice a2 n2 c2] 34) = w8 at HG8 HL8 HX8 HM8 HY8 ⊢
  clear hw8 hg8 hb8 HG7 HL7 HX7 HL2 HB2 pc0 pc1 pc2 CX CR2 CT
  obtain ⟨xa0, xa1⟩ := HX8.out.cells
  obtain ⟨xb0, xb1⟩ := HY8.out.cells
  have CS := Lib.hid (show Calls Tryz.prog 18 #[.agg #[.string s1, .slice a1 n1 c1], .agg #[.string s2, .slice a2 n2 c2]] w8 fun e w' => e = .returned (.bool true) ∧ Below w8.heap.size w8 w' from
    (same8_any s1 s2 a1 a2 n1 c1 n2 c2 _ _ w8 _ (Nat.le_refl _) HL8.out.turns HM8.out.turns).mono fun e w' k => ⟨by rw [k.1, HL8.out.name, HM8.out.name, sameTs_iff.2 rfl]; simp, k.2⟩)
  obtain ⟨E, hE⟩ : ∃ E, E = errU X := ⟨_, rfl⟩
  rw [← hE]
  have HE := Lib.hid hE
  clear hE
  have ee : (E == E) = true := by simp
  have en : (E != E) = false := by simp
  go_upto_region 9 with (first
    | (go_at_call 18; (with_reducible refine CS.out.mono ?_)
       rintro e w9 ⟨rfl, hb9⟩
       have HB9 := Lib.hid hb9
       clear hb9)
    | fail)
  have HG9 := Lib.hid (HG8.out.on HB9.out)
  have HL9 := Lib.hid (HL8.out.on HB9.out)
  have HX9 := Lib.hid (HX8.out.on HB9.out)
  clear xa0 xa1 xb0 xb1 HG8 HL8 HX8 HM8 HY8 CS HB9
  have hxe := HXE.out
  cases hx : X with
  | error er =>
    rw [hx] at hxe HE HL9
    have her : E ≠ 0 := by rw [HE.out]; exact roleP_err hxe.symm
    have hn0 : n1 = 0 := HL9.out.turns.1.symm
    subst hn0
    obtain rfl : s1 = ⟨#[]⟩ := toList_inj (HL9.out.name.trans (show ([] : Str) = _ by rw [ByteArray.toList_eq]))
    have e1 : (E != 0) = true := by simp [bne, beq_eq_false_iff_ne.2 her]
    obtain ⟨xa0, xa1⟩ := HX9.out.cells
    have HZ := Lib.hid HG9.out.bel
    clear hx hxe her
    go_wp2_with fail
    go_ret
    exact ⟨rfl, HZ.out⟩
  | ok ts =>
    rw [hx] at hxe HE HL9
    have hE0 : E = 0 := HE.out
    subst hE0
    obtain ⟨ns, hro⟩ := roleP_spec hxe.symm
    have HRO := Lib.hid hro
    have HV := Lib.hid (role_valid HMD.out.ok (hasS_made hri) hro)
    have htrim : trimL ts = ts := by unfold trimL; rw [HV.out, if_pos rfl]; exact role_own_trim HMD.out.ok (hasS_made hri) hro
    have htn : trimName ts s1 = s1 := by unfold trimName; rw [HV.out, if_pos rfl]
    have HT9 := Lib.hid (show Turns w9 w9.heap.size a1 n1 ts from HL9.out.turns)
    obtain ⟨xa0, xa1⟩ := HX9.out.cells
    have C1 := ownTrim_any s1 a1 n1 c1 ts w9 _ (Nat.le_refl _) HT9.out
    rw [htrim, htn] at C1
    have C1 := Lib.hid C1
    clear hx hxe hro htrim htn
    go_upto_region 12 with (first
      | (go_at_call 27; (with_reducible refine C1.out.mono ?_)
         rintro e v4 ⟨⟨ua, un, uc, rfl, ht4⟩, hb4⟩
         have HT4 := Lib.hid ht4
         have HB4 := Lib.hid hb4
         clear ht4 hb4)
      | fail)
    have hba := below_on HB4.out (tu1 v4 (.cells #[.string s1, .slice ua un uc] 34))
    have HGa := Lib.hid (HG9.out.on hba)
    have HXa := Lib.hid (HX9.out.on hba)
    have HTa := Lib.hid (HT9.out.on hba)
    have HUa := Lib.hid (HT4.out.on (tu1 v4 (.cells #[.string s1, .slice ua un uc] 34)))
    have HYa := Lib.hid (LBox.new v4 s1 ua un uc)
    generalize hga : v4.heap.size = ga at HYa ⊢
    generalize hwa : v4.alloc (.cells #[.string s1, .slice ua un uc] 34) = wa at HGa HXa HTa HUa HYa ⊢
    clear hwa hga hba HG9 HX9 HT4 HB4 C1 xa0 xa1
    obtain ⟨xa0, xa1⟩ := HXa.out.cells
    have C2 := Lib.hid (ownPeers_any s1 a1 n1 c1 ts wa _ (Nat.le_refl _) HTa.out)
    go_upto_region 13 with (first
      | (go_at_call 28; (with_reducible refine C2.out.mono ?_)
         rintro e wb ⟨⟨qa, qn, qc, rfl, hq⟩, hbb⟩
         have HQ := Lib.hid hq
         have HBb := Lib.hid hbb
         clear hq hbb)
      | fail)
    have HGb := Lib.hid (HGa.out.on HBb.out)
    have HXb := Lib.hid (HXa.out.on HBb.out)
    have HTb := Lib.hid (HTa.out.on HBb.out)
    have HUb := Lib.hid (HUa.out.on HBb.out)
    have HYb := Lib.hid (HYa.out.on HBb.out)
    clear xa0 xa1 HGa HXa HTa HUa HYa HBb C2 HT9
    have CH := Lib.hid (fun (W : World) (hW : Below wb.heap.size wb W) (s : ByteArray) (hs : s.toList ∈ rolesL many) => show Calls Tryz.prog 29 #[.slice (some ⟨rb, ro, none⟩) many rc, .string s] W fun e w' => e = .returned (.bool true) ∧ W = w' from (has_any (some ⟨rb, ro, none⟩) many rc (rolesL many) s W _ (HGb.out.on hW).pin.roles).mono fun e w' k => ⟨by rw [k.1, (hasS_iff _ _).2 hs], k.2⟩)
    go_wp2_with fail
    go_loopw [13] (fun i wr => ∃ k : Nat, k ≤ qn ∧ i = .int .i64 k ∧ Hid (Below wb.heap.size wb wr)) (fun i _ => qn - (intOf i).toNat)
    case atStart => exact ⟨0, Nat.zero_le _, rfl, Lib.hid (Below.refl _ _)⟩
    case round =>
      obtain ⟨k, hk, rfl, HBr⟩ := hrel
      have hqn := HQ.out.2.1
      by_cases hlt : k < qn
      · obtain ⟨b, off, t, rfl, hb, ht, q0⟩ := (HQ.out.below HBr.out).part1 hlt
        obtain ⟨p1, p2⟩ := peers_role HMD.out.ok (hasS_made hri) HRO.out (List.mem_of_getElem? ht)
        have HIN := Lib.hid p2
        have d1 : (t.toList == (rolS ri).toList) = false := beq_eq_false_iff_ne.2 p1
        have i1 : (k : Int) < (qn : Int) := by omega
        have i2 : (0 : Int) ≤ (k : Int) := by omega
        obtain ⟨pc0, pc1, pc2⟩ := (HGb.out.on HBr.out).box.cells
        have HDR := Lib.hid (show Below wb.heap.size wb wr.drew from bel_drewN HBr.out 1)
        clear ht p1 p2
        go_upto_region 16 with fail
        go_region_law (first
          | (go_simp; go_at_call 29; (with_reducible refine (CH.out wr.drew HDR.out t HIN.out).mono ?_)
             rintro e v5 ⟨rfl, rfl⟩)
          | fail)
        all_goals
          go_wp2_with fail
          go_roundw
          case rel => exact ⟨k + 1, by omega, by go_num, HDR⟩
          case measure => simp [intOf]; omega
      · have d1 : decide ((k : Int) < (qn : Int)) = false := decide_eq_false (by omega)
        have CM := Lib.hid (fun (W : World) (hW : Below wb.heap.size wb W) => show Calls Tryz.prog 30 #[.agg #[.string s1, .slice a1 n1 c1]] W fun e w' => e = .returned (.bool true) ∧ Below W.heap.size W w' from (ownMay_any s1 a1 n1 c1 ts W _ (Nat.le_refl _) (HTb.out.on hW)).mono fun e w' k => ⟨by rw [k.1, HV.out], k.2⟩)
        have CS := Lib.hid (fun (W : World) (hW : Below wb.heap.size wb W) => show Calls Tryz.prog 18 #[.agg #[.string s1, .slice ua un uc], .agg #[.string s1, .slice a1 n1 c1]] W fun e w' => e = .returned (.bool true) ∧ Below W.heap.size W w' from
          (same8_any s1 s1 ua a1 un uc n1 c1 _ _ W _ (Nat.le_refl _) (HUb.out.on hW) (HTb.out.on hW)).mono fun e w' k => ⟨by rw [k.1, sameTs_iff.2 rfl]; simp, k.2⟩)
        have HNM := Lib.hid (show (s1.toList == ((⟨#[112, 46]⟩ : ByteArray) ++ rolS ri).toList) = true by
          rw [beq_iff_eq, show s1.toList = [112] ++ 46 :: (rolS ri).toList from HL9.out.name, ByteArray.toList_eq ((⟨#[112, 46]⟩ : ByteArray) ++ rolS ri), ByteArray.data_append, Array.toList_append, ← ByteArray.toList_eq, ← ByteArray.toList_eq, show (⟨#[112, 46]⟩ : ByteArray).toList = [112, 46] by rw [ByteArray.toList_eq]]
          rfl)
        obtain ⟨xa0, xa1⟩ := (HXb.out.on HBr.out).cells
        obtain ⟨xb0, xb1⟩ := (HYb.out.on HBr.out).cells
        go_wp2_with (first
          | (go_at_call 30; (with_reducible refine (CM.out _ HBr.out).mono ?_)
             rintro e v6 ⟨rfl, hb6⟩
             have HB6 := Lib.hid (below_on HBr.out hb6)
             obtain ⟨xa0, xa1⟩ := (HXb.out.on HB6.out).cells
             obtain ⟨xb0, xb1⟩ := (HYb.out.on HB6.out).cells
             clear hb6)
          | (go_at_call 18; (with_reducible refine (CS.out _ HB6.out).mono ?_)
             rintro e v7 ⟨rfl, hb7⟩
             have HB7 := Lib.hid (below_on HB6.out hb7)
             obtain ⟨xa0, xa1⟩ := (HXb.out.on HB7.out).cells
             clear hb7)
          | fail)
        go_ret
        exact ⟨ret_bool HNM.out, HGb.out.bel.trans (HB7.out.mono HGb.out.bel.size)⟩
end Go.Proofs.YtokgpdceckaddaaGreatDoor

/- The statement ProjectTrim holds for every argument, with no condition; the listed tables are tied to the program's text. -/
namespace Go.Proofs.YtokgpdceckaddaaGreatDoor.projectTrim
open Go Go.ChangeShapes Go.WideShapes Go.ChangeAt Go.RowKit
open Go.ChangeMaps (open_string shut_string)

theorem door_met (os : Os) (args : Array Value) : laidMetH Tryz.prog Rows.projectTrimRow.laid ((World.laidAll Tryz.prog os Rows.projectTrimRow.laid).forCall (fun _ _ => 0) ⟨#[], args, []⟩).memory := by
  rw [MakeChecks.laidMetH_plain _ _ _ (by kernel_rfl)]
  exact laidMet_laidAll _ (by kernel_rfl) (by kernel_rfl)
set_option maxRecDepth 100000 in
theorem lifted (os : Os) (started : os.Started) (H : Type) (enc : TypeId × Value → H) :
    ReturnsInHanded {} Tryz.checked os 7 .any (fun w args => (Rows.projectTrimSpec.pre enc Tryz.prog Tryz.f7 [] false w args ∧ laidMetH Tryz.prog Rows.projectTrimRow.laid w) ∧ sizedMet enc Tryz.prog Tryz.f7 (OpenSpec.ofChange Rows.projectTrimSpec) false w args)
      (Rows.projectTrimSpec.post enc Tryz.prog Tryz.f7 false true false false) := by
  refine returnsInHanded_of_change_and (C := Tryz.checked) (X := fun w _ => laidMetH Tryz.prog Rows.projectTrimRow.laid w) (fun _ _ _ hh h => h.of_heap hh) seatOwn started (by kernel_rfl) Tryz.func7
    (ChangeSpec.witness_shaped (enc := enc) (C := Tryz.checked) (os := os) (X := fun w _ => laidMetH Tryz.prog Rows.projectTrimRow.laid w) false (World.laidAll Tryz.prog os Rows.projectTrimRow.laid) #[.slice none 0 0, .int .i64 0] 8 (World.laidAll_os _ _ _)
      (World.shaped_of_ZipB (by kernel_rfl) (by kernel_rfl)) (by kernel_rfl) (by kernel_rfl) (by kernel_rfl) (door_met os _)) ?_
  intro W base args ds gs before hval0 hW _ hsz0 hX0 _
  have hval : ∀ (j : Nat) t v, Tryz.f7.params[j]? = some t → args[j]? = some v → Value.okWide Tryz.prog W .any base t v := hval0
  have hsz : (DataW.weightsEach Tryz.prog (Tryz.f7.params.toList ++ Rows.projectTrimSpec.plain.varTypes Tryz.prog) (ds ++ gs)).all (· ≤ reachBytes) = true := hsz0
  have hW' := hW
  obtain ⟨p, q, hA0, hV, rfl, hfz, hnd⟩ := hW
  have hA : DataW.TrodAll enc Tryz.prog W 0 (fun _ => true) true Tryz.f7.params.toList args.toList ds p := hA0
  rw [Tryz.params7] at hA hval hsz
  obtain ⟨v0, vs0, d0, ds0, p0, q0, hargs, rfl, rfl, h0, r0⟩ := trodAll_cons hA
  obtain ⟨v1, vs1, d1, ds1, p1, q1, rfl, rfl, rfl, h1, r1⟩ := trodAll_cons r0
  obtain ⟨rfl, rfl, rfl⟩ := trodAll_nil r1
  obtain rfl : args = #[v0, v1] := by cases args; simp_all
  obtain ⟨rfl, rfl⟩ := trodVars_none hV
  have k0 := h0
  have lt0 := args_below k0
  obtain ⟨fu0, hf0⟩ := h0
  obtain ⟨ia0, ilen0, icap0, rfl⟩ := okWide_slice Tryz.underlying22 (hval 0 22 v0 rfl rfl)
  obtain ⟨a0, n0, c0, l0, hv0, hn0, hi0, hc0, hm0, hz0⟩ := open_ints hf0 (fun elems spare e => by
    have := sized_slice hsz (j := 0) (t := 22) (e := 3) rfl (congrArg some e) Tryz.underlying22
    rwa [seatBytes2] at this)
  obtain ⟨ea0, en0, ec0⟩ := Value.slice.inj hv0
  subst ea0 en0 ec0
  have k1 := h1
  have lt1 := args_below k1
  obtain ⟨a1, rfl, rfl, rfl, w1⟩ := open_int Tryz.underlying3 (hval 1 3 v1 rfl rfl) h1
  clear hA0 hval0 hsz0
  refine (projectTrim_walk ia0 ilen0 icap0 l0 a1 W hn0 hz0 ).mono fun e W' ⟨he, bel⟩ => ?_
  subst he
  exact ⟨_, rfl, _, _, _, [], _, [], hW', trodAll_mk1 (shut_bool Tryz.underlying4 _), (trodAll_cons_mk (Below.trod seatLaidOut (by kernel_rfl) (of_decide_eq_true (by kernel_rfl)) k0 bel lt0) (trodAll_cons_mk (Below.trod seatLaidOut (by kernel_rfl) (of_decide_eq_true (by kernel_rfl)) k1 bel lt1) trodAll_mk0)), rfl, bel.frame _, fun h => by cases h⟩

theorem over : Rows.ProjectTrimSaid :=
  OpenClaim.holds_of_wide 7 Tryz.f7 rfl rfl rfl rfl rfl rfl rfl ⟨rfl, rfl, rfl, rfl, rfl⟩ rfl rfl rfl rfl rfl (by kernel_rfl) Tryz.func7 (by kernel_rfl)
    (of_decide_eq_true (by kernel_rfl)) (by unfold Func.isWrapper; first | (rw [if_pos (by decide +kernel)]; kernel_rfl) | (rw [if_neg (by decide +kernel)]; exact ⟨rfl, rfl⟩))
    (fun os started H enc _ => lifted os started H enc)

theorem proved : Rows.ProjectTrimCardSaid :=
  Claim7.holds_tied_plain_at .later [] [.data, .data, .data] true _ false
    over (fun _ h => by cases h) (by kernel_rfl) (fun _ h => by cases h) projectTrim_row_tie rfl ⟨rfl, rfl⟩ (by kernel_rfl) rfl
    (fun f fn hf hfn => by
      obtain rfl : f = 7 := Option.some.inj ((show Tryz.prog.funcNamed Rows.projectTrimRow.func = some 7 by kernel_rfl).symm.trans hf) |>.symm
      obtain rfl : fn = Tryz.f7 := (Option.some.inj (Tryz.func7.symm.trans hfn)).symm
      exact ⟨by kernel_rfl, fun j t ht => by
        rw [Tryz.params7] at ht
        have hm : t ∈ [22, 3] := by simpa using Array.mem_of_getElem? ht
        have hall : ([22, 3].all fun u => !Tryz.prog.wantsStandIn u) = true := by kernel_rfl
        exact (show Tryz.prog.wantsStandIn t = false by simpa using List.all_eq_true.1 hall t hm)⟩)
    (by kernel_rfl)
#print axioms proved
end Go.Proofs.YtokgpdceckaddaaGreatDoor.projectTrim
