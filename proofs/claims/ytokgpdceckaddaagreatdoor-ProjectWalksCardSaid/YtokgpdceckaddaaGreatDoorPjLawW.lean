/- Law: ProjectWalks. (The first rows printed by gen/gen8.py.) -/
import Derived.Test.YtokgpdceckaddaaGreatDoorPjMades
import Derived.Test.YtokgpdceckaddaaGreatDoorPjUs
import Derived.Test.YtokgpdceckaddaaGreatDoorPjFirsts
import Derived.Test.YtokgpdceckaddaaGreatDoorPjSpecs
import Derived.Test.YtokgpdceckaddaaGreatDoorPjOwnL
import Derived.Test.YtokgpdceckaddaaGreatDoorPjWalkP
import Derived.Test.YtokgpdceckaddaaGreatDoorTuOwnRW
import Derived.Deep.RegionHeld3
import Derived.Deep.CutRange
import Derived.Deep.CutBlock
import Derived.Deep.DeepCutAuto
namespace Go.Proofs.YtokgpdceckaddaaGreatDoor
open Go.RowKit

def OwnAns (w : World) (ln : Nat) (L : List Str) (e : Ending) (w' : World) : Prop := ∃ (oa : Option Addr) (oc : Nat), e = .returned (.tuple #[.slice oa ln oc, .bool true]) ∧ Strs w' w'.heap.size oa ln L ∧ Below w.heap.size w w'
theorem ownA_any (nm : ByteArray) (ra : Option Addr) (rn rc : Nat) (rs : List Str) (a : Option Addr) (n c : Nat) (ps : List PointL) (r : ByteArray) (va : Option Addr) (vn vc : Nat) (ws L : List Str) (w : World) (hP : PIn w nm ra rn rs a n ps) (hv : protB nm.toList rs ps = true) (hs : Strs w w.heap.size va vn ws) (hvn : vn ≤ 30) (hm : ∀ s ∈ ws, s.length ≤ maxLen) (hL : ownP ps r.toList 0 ws = some L) :
    Calls Tryz.prog 32 #[.agg #[.string nm, .slice ra rn rc, .slice a n c], .string r, .slice va vn vc] w fun e w' => OwnAns w L.length L e w' :=
  (own8_any nm ra rn rc rs a n c ps r va vn vc ws L w hP hv hs (by omega) hL).mono fun e w' k => by
    obtain ⟨v, h1, h2, h3⟩ := k
    have hf := ownP_few _ _ _ hL
    obtain ⟨oa, oc, rfl, h4, _, _⟩ := Strs.of_own h2 (by have := hf.1; have := hs.len; omega) (fun s hs => hm s (hf.2 s hs))
    exact ⟨oa, oc, h1, h4, h3⟩
def NearAns (w : World) (N : List Nat) (e : Ending) (w' : World) : Prop := ∃ (na : Option Addr) (nl nc : Nat), e = .returned (.slice na nl nc) ∧ nl = N.length ∧ Below w.heap.size w w'
theorem near1_any {w0 W : World} {g many : Nat} {ra : Option Addr} {rc : Nat} {sa : Option Addr} {sn sc : Nat} {ps : List PointL} (h : GIn w0 W g many ra rc sa sn sc ps) (hm : GMade many sn ps) {i : Nat} (hi : i < many) {base : Nat} {va : Option Addr} {vc q : Nat} (hl : IInts W base (.slice va 1 vc) [(q : Int)]) (hq : q < ps.length) :
    Calls Tryz.prog 33 #[.agg #[.string ⟨#[112]⟩, .slice ra many rc, .slice sa sn sc], .string (rolS i), .slice va 1 vc] W fun e w' => NearAns W (nearP ps (rolS i).toList [q]) e w' := by
  obtain ⟨a, cap, hv, _, _, _, hnu⟩ := hl.sees
  obtain ⟨e1, _, _⟩ := Value.slice.inj hv
  subst e1
  refine (h.near hm hi vc hnu).mono fun e w' k => ?_
  obtain ⟨⟨v, h1, h2⟩, h3⟩ := k
  have hst : startP ps.length [(q : Int)] = [q] := startP_all (n := ps.length) (l := [q]) (fun x hx => by rw [List.mem_singleton.1 hx]; exact hq)
  rw [hst] at h2
  obtain ⟨na, nc, hv2, _, _, _, _⟩ := h2.sees
  rw [hv2, rowI_len] at h1
  exact ⟨na, _, nc, h1, rfl, h3⟩
def RefusedAns (w : World) (er : Int) (e : Ending) (w' : World) : Prop := ∃ (s : ByteArray) (a : Option Addr) (n c : Nat), e = .returned (.tuple #[.agg #[.string s, .slice a n c], .int .i64 er]) ∧ Below w.heap.size w w'
def GrantedAns (w : World) (nm : Str) (ts : List TurnL) (e : Ending) (w' : World) : Prop := ∃ (s : ByteArray) (a : Option Addr) (n c : Nat), e = .returned (.tuple #[.agg #[.string s, .slice a n c], .int .i64 0]) ∧ LIn w' s a n nm ts ∧ Below w.heap.size w w'
theorem GIn.walkP {w0 W : World} {g many : Nat} {ra : Option Addr} {rc : Nat} {sa : Option Addr} {sn sc : Nat} {ps : List PointL} (h : GIn w0 W g many ra rc sa sn sc ps) (hm : GMade many sn ps) {va : Option Addr} {vn : Nat} (vc : Nat) {ls : List Str} (hs : Strs W W.heap.size va vn ls) :
    Calls Tryz.prog 31 #[.agg #[.string ⟨#[112]⟩, .slice ra many rc, .slice sa sn sc], .slice va vn vc] W fun e w' => e = .returned (walkV (Go.Proofs.YtokgpdceckaddaaGreatDoor.walkP ps ls)) ∧ Below W.heap.size W w' := by
  have := PIn.walk (rc := rc) (c := sc) h.pin vc hs
  unfold walkQ at this
  rw [prot_one, hm.ok, if_pos rfl] at this
  exact this
set_option maxHeartbeats 16000000 in
set_option maxRecDepth 20000 in
theorem projectWalks_walk (a : Option Addr) (n c : Nat) (l : List Int) (a' : Option Addr) (n' c' : Nat) (l' : List Int) (y : Int) (w : World) (h : Nums w w.heap.size a n l) (hlim : n * 8 ≤ 140737488351232) (h' : Nums w w.heap.size a' n' l') (_hlim' : n' * 8 ≤ 140737488351232) :
    Calls Tryz.prog 9 #[.slice a n c, .slice a' n' c', .int .i64 y] w fun e w' => e = .returned (.bool true) ∧ Below w.heap.size w w' := by
  have HN := Lib.hid h
  have HN' := Lib.hid h'
  have HF := Lib.hid (first8_any w)
  have hn0 := h.1
  have HLN := Lib.hid hn0
  clear h h' hn0
  go_enter Tryz.func9, Tryz.ntmps9
  go_upto_region 4 with (first
    | (go_at_call 11; (with_reducible refine HF.out.mono ?_)
       rintro e w1 ⟨rfl, hb1⟩
       have HB1 := Lib.hid hb1
       clear hb1)
    | (go_at_call 13; (with_reducible refine (given8_any _).mono ?_)
       rintro e w2 ⟨xa, xb, rfl, _, hb2⟩
       have HB2 := Lib.hid (below_on HB1.out hb2)
       clear hb2)
    | (at_builtin
       refine wpList_append_plus rfl (.tmp 26) (.tmp 27) rfl w2.heap.size w.heap.size (.slice (some ⟨w2.heap.size, 0, none⟩) 1 1) a n c [2] l rfl rfl (IInts.one (W := w2) (cs := #[.int .i64 2]) (base := w2.heap.size) (g := w2.heap.size) 2 rfl rfl (Nat.le_refl _)) ((HN.out.below HB2.out).alloc HB2.out.size _) (by show (1 + n) * 8 ≤ _; omega) (by simp) ?_
       intro v3 w3 hown hgr
       obtain ⟨pa, pc, hv, _, _, _, hnu⟩ := hown.sees
       obtain ⟨pn, hpn⟩ : ∃ pn, pn = ([2] ++ l : List Int).length := ⟨_, rfl⟩
       rw [← hpn] at hv hnu
       subst hv
       have hpl : pn * 8 ≤ 140737488355328 := by rw [hpn, List.length_append, HLN.out]; show (1 + n) * 8 ≤ _; omega
       clear hpn
       have HNU := Lib.hid (show Nums w3 w3.heap.size pa pn (2 :: l) from hnu)
       have HB3 := Lib.hid ((HB2.out.alloc HB2.out.size (.cells #[.int .i64 2] 3)).grown hgr (by have := HB2.out.size; simp; omega) (fun j e => by cases e; exact HB2.out.size))
       clear hown hgr hnu)
    | (go_at_call 12; (with_reducible refine (law8two_any xa xb pa pn pc l w3 HNU.out hpl).mono ?_)
       rintro e w4 ⟨⟨many, hmany, ra, rc, sa, sn, sc, ps, rfl, hm, hr, hl, hok, h2, h9⟩, hb4⟩
       have HB4 := Lib.hid (below_on HB3.out hb4)
       have hm2 : 2 ≤ many := by omega
       have hm4 : many ≤ 4 := by omega
       obtain ⟨hpin, hmade⟩ := made_in hm2 hm4 hm hr hl hok h2 h9
       have HPI := Lib.hid hpin
       have HMD := Lib.hid hmade
       have HMANY := Lib.hid hmany
       clear hm hr hl hok h2 h9 hb4 hpin hmade hmany)
    | fail)
  have HG5 := Lib.hid (GIn.begin (rc := rc) (sc := sc) HB4.out HPI.out)
  generalize hg5 : w4.heap.size = g5 at HG5 ⊢
  generalize hw5 : w4.alloc (.cells #[.string ⟨#[112]⟩, .slice ra many rc, .slice sa sn sc] 27) = w5 at HG5 ⊢
  clear hg5 hw5 HPI HB4 HB3 HNU HB2 HB1 HF HN hpl
  obtain ⟨pc0, pc1, pc2⟩ := HG5.out.box.cells
  obtain ⟨ri, hri, hmz⟩ := mod_lt y many (by omega) (by omega)
  obtain ⟨rb, ro, rfl, hrb, hrc⟩ := HG5.out.roles hri
  have hne : ((many : Int) == 0) = false := by rw [beq_eq_false_iff_ne]; omega
  have i1 : (ri : Int) < (many : Int) := by omega
  have i2 : (0 : Int) ≤ (ri : Int) := by omega
  have hwm : IntKind.u64.wrap (many : Int) = (many : Int) := IntWalk.u64_in _ (by omega)
  go_quiet (fail)
  go_upto_region 5 with fail
  have hbq := bel_drewN (Below.refl w5.heap.size w5) nq
  have HG6 := Lib.hid (HG5.out.on hbq)
  generalize hw6 : w5.drewN nq = w6 at HG6 ⊢
  clear hw6 hmz hwm hrc hrb pc0 pc1 pc2 HG5
  obtain ⟨pc0, pc1, pc2⟩ := HG6.out.box.cells
  have CR1 := HG6.out.role HMD.out hri
  cases hx : roleP ps (rolS ri).toList with
  | error er =>
    rw [hx] at CR1
    have CR := Lib.hid (show Calls Tryz.prog 15 #[.agg #[.string ⟨#[112]⟩, .slice (some ⟨rb, ro, none⟩) many rc, .slice sa sn sc], .string (rolS ri)] w6 fun e w' => RefusedAns w6 er e w' from CR1.mono fun e w' k => by
      obtain ⟨s, a, n, c, h1, _, h2⟩ := k
      exact ⟨s, a, n, c, h1, h2⟩)
    have her : (er != 0) = true := by simp [bne, beq_eq_false_iff_ne.2 (roleP_err hx)]
    clear CR1 hx
    go_wp2_with (first
      | (go_at_call 15; (with_reducible refine CR.out.mono ?_)
         rintro e v1 ⟨s1, a1, n1, c1, rfl, hb1⟩
         have HB1 := Lib.hid (below_on hb1 (tu1 v1 (.cells #[.string s1, .slice a1 n1 c1] 34)))
         clear hb1)
      | fail)
    go_ret
    exact ⟨rfl, HG6.out.bel.trans (HB1.out.mono HG6.out.bel.size)⟩
  | ok ts =>
    obtain ⟨ns, hro⟩ := roleP_spec hx
    rw [hx] at CR1
    have HRO := Lib.hid hro
    have CR := Lib.hid (show Calls Tryz.prog 15 #[.agg #[.string ⟨#[112]⟩, .slice (some ⟨rb, ro, none⟩) many rc, .slice sa sn sc], .string (rolS ri)] w6 fun e w' => GrantedAns w6 (nameU [112] (rolS ri).toList (.ok ts)) ts e w' from CR1.mono fun e w' k => k)
    clear CR1 hx hro
    go_upto_region 6 with (first
      | (go_at_call 15; (with_reducible refine CR.out.mono ?_)
         rintro e v1 ⟨s1, a1, n1, c1, rfl, hl1, hb1⟩
         have HL1 := Lib.hid hl1
         have HB1 := Lib.hid hb1
         clear hl1 hb1)
      | fail)
    have hb7 := below_on HB1.out (tu1 v1 (.cells #[.string s1, .slice a1 n1 c1] 34))
    have HG7 := Lib.hid (HG6.out.on hb7)
    have HL7 := Lib.hid (HL1.out.on (tu1 v1 (.cells #[.string s1, .slice a1 n1 c1] 34)))
    have HX7 := Lib.hid (LBox.new v1 s1 a1 n1 c1)
    generalize hg7 : v1.heap.size = g7 at HX7 ⊢
    generalize hw7 : v1.alloc (.cells #[.string s1, .slice a1 n1 c1] 34) = w7 at HG7 HL7 HX7 ⊢
    clear hw7 hg7 hb7 HG6 HL1 HB1 pc0 pc1 pc2 CR
    obtain ⟨pc0, pc1, pc2⟩ := HG7.out.box.cells
    obtain ⟨xc0, xc1⟩ := HX7.out.cells
    have hnl : n1 = ts.length := HL7.out.turns.1.symm
    have HNL := Lib.hid hnl
    have HPL := Lib.hid HMD.out.len
    have HLV := Lib.hid (role_valid HMD.out.ok (hasS_made hri) HRO.out)
    clear hnl
    have HW0 := Lib.hid (show walkP ps [] = some 0 from rfl)
    have CW := Lib.hid (fun (v : Value) (k : Nat) (ws : List Str) (W : World) (hk : k ≤ 30) (hw : W.ownsRow w7.heap.size 9 1 v k (ws.map encStr)) (hm : ∀ s ∈ ws, s.length ≤ maxLen) (hW : Below w7.heap.size w7 W) => show Calls Tryz.prog 31 #[.agg #[.string ⟨#[112]⟩, .slice (some ⟨rb, ro, none⟩) many rc, .slice sa sn sc], v] W fun e w' => e = .returned (walkV (walkP ps ws)) ∧ Below W.heap.size W w' from by
      obtain ⟨oa, oc, rfl, hss, _, _⟩ := Strs.of_own hw (by omega) hm
      exact (HG7.out.on hW).walkP HMD.out oc hss)
    go_upto_block 0 with fail
    go_cut [11] (fun s11 wx => ∃ (k q : Nat) (v : Value) (ws : List Str), s11 = v ∧ k ≤ 30 ∧ Hid (wx.ownsRow w7.heap.size 9 1 v k (ws.map encStr)) ∧ Hid (∀ s ∈ ws, s.length ≤ maxLen) ∧ Hid (walkP ps ws = some q) ∧ Hid (Below w7.heap.size w7 wx))
    case first =>
      go_wp2_with fail
      go_loopw [11, 12] (fun sl i wr => ∃ (k q : Nat) (v : Value) (ws : List Str), k ≤ 30 ∧ k ≤ n' ∧ i = .int .i64 k ∧ v = sl ∧ Hid (wr.ownsRow w7.heap.size 9 1 v k (ws.map encStr)) ∧ Hid (∀ s ∈ ws, s.length ≤ maxLen) ∧ Hid (walkP ps ws = some q) ∧ Hid (Below w7.heap.size w7 wr)) (fun _ i _ => n' - (intOf i).toNat)
      case atStart => exact ⟨0, 0, _, [], Nat.zero_le _, Nat.zero_le _, rfl, rfl, Lib.hid (World.ownsRow_nil _ _ _ _), Lib.hid (fun s hs => by cases hs), HW0, Lib.hid (Below.refl _ _)⟩
      case round =>
        obtain ⟨k, q, v, ws, hk30, hk, rfl, hvo, HO, HM, HWK, HBr⟩ := hrel
        subst hvo
        have hzr := HBr.out.size
        by_cases hk1 : k < n'
        · by_cases hk2 : k < 30
          · have i1 : (k : Int) < (n' : Int) := by omega
            have i2 : (0 : Int) ≤ (k : Int) := by omega
            have i3 : (k : Int) < 30 := by omega
            have C1 := CW.out v k ws wr (by omega) HO.out HM.out HBr.out
            rw [HWK.out] at C1
            have C1 := Lib.hid (show Calls Tryz.prog 31 #[.agg #[.string ⟨#[112]⟩, .slice (some ⟨rb, ro, none⟩) many rc, .slice sa sn sc], v] wr fun e w' => e = .returned (.tuple #[.int .i64 (q : Int), .bool true]) ∧ Below wr.heap.size wr w' from C1)
            have hql := walkP_lt HMD.out.ok HWK.out
            rw [HPL.out] at hql
            obtain ⟨_, _, _⟩ := (HG7.out.on HBr.out).box.cells
            go_upto_region 13 with (first
              | (go_at_call 31; (with_reducible refine C1.out.mono ?_)
                 rintro e w9 ⟨rfl, hb9⟩
                 have HB9 := Lib.hid (below_on HBr.out hb9)
                 have HO9 := Lib.hid (ownsRow_on HO.out hb9 (Nat.le_refl _))
                 clear hb9)
              | fail)
            have HG9 := Lib.hid (HG7.out.on HB9.out)
            have hz9 := HB9.out.size
            obtain ⟨_, _, _⟩ := HG9.out.box.cells
            obtain ⟨b, off, qq, ss, aa, an, ac, al, rfl, hbb, hx, ⟨q0, q1, q2⟩, _, _, hal⟩ := HG9.out.pin.pts.at_ hql
            have hpo : pointOf ps q = ⟨qq.toList, ss.toList, al⟩ := by unfold pointOf; rw [hx]; rfl
            have HPO := Lib.hid hpo
            have HAL := Lib.hid hal
            have hanz := hal.2.1
            have j1 : (q : Int) < (sn : Int) := by omega
            have j2 : (0 : Int) ≤ (q : Int) := by omega
            by_cases han : an = 0
            · have d1 : ((an : Int) == 0) = true := by rw [beq_iff_eq]; omega
              clear hpo hx hal han
              go_wp2_with fail
              go_meet
              case rel => exact ⟨k, q, v, ws, rfl, by omega, HO9, HM, HWK, HB9⟩
            · have d1 : ((an : Int) == 0) = false := by rw [beq_eq_false_iff_ne]; omega
              obtain ⟨lb0, lo0, x, rfl, hlb0, _, hc⟩ := (HN'.out.below (HG7.out.bel.trans (HB9.out.mono HG7.out.bel.size))).at_ hk1
              have hzw : w.heap.size ≤ w9.heap.size := Nat.le_trans HG7.out.bel.size HB9.out.size
              have an6 : an ≤ 6 := by
                have hql2 : q < ps.length := by have := HPL.out; omega
                have h1 := pts_arms HMD.out.ok (near := [q]) (fun z hz => by rw [List.mem_singleton.1 hz]; exact hql2) (pointOf ps q) (by unfold ptsOf; simp)
                rw [hpo] at h1
                have := hal.1
                have := h1.1
                dsimp only at this
                omega
              obtain ⟨m, hm4, hmod⟩ := mod_lt x an (by omega) (by omega)
              obtain ⟨lb, lo, sv, u6, ck, nx, haa, hlb, hx6, ⟨z0, _, _, _⟩, hsv, _⟩ := hal.at_ hm4
              subst haa
              have hqlp : q < ps.length := by have := HPL.out; omega
              have harm : (⟨sv.toList, ck, u6.toList, nx⟩ : ArmL) ∈ (pointOf ps q).arms := by rw [hpo]; exact List.mem_of_getElem? hx6
              have HWN := Lib.hid (walkP_snoc HMD.out.ok HWK.out harm)
              have HMN := Lib.hid (show ∀ s ∈ ws ++ [sv.toList], s.length ≤ maxLen from fun s hs => by
                rcases List.mem_append.1 hs with h | h
                · exact HM.out s h
                · rw [List.mem_singleton.1 h, len_toList]
                  exact hsv)
              have hnea : ((an : Int) == 0) = false := d1
              have hwa : IntKind.u64.wrap (an : Int) = (an : Int) := IntWalk.u64_in _ (by omega)
              have j3 : (m : Int) < (an : Int) := by omega
              have j4 : (0 : Int) ≤ (m : Int) := by omega
              have hbs : b < w9.heap.size := hbb
              have hlbs : lb < w9.heap.size := hlb
              have hlb2 : lb0 < w9.heap.size := by omega
              clear hpo hx hal han hx6 harm hm4
              go_wp2_with (first
                | (at_builtin
                   refine wpList_append_strs _ rfl (.tmp 75) (.tmp 90) _ rfl w7.heap.size 9 Tryz.underlying24 info9 _ k ws rfl (HO9.out.alloc _) _ _ 1 1 [sv.toList] rfl (strs_one9 w9 _ sv rfl hsv) (by omega) (by simp; omega) ?_
                   intro v3 w3 own3 gr3 at3
                   have HO3 := Lib.hid own3
                   have HB3 := Lib.hid (show Below w7.heap.size w7 w3 from ((HB9.out.alloc (by omega) (.cells #[.string sv] 9))).grown gr3 (by simp; omega) (fun j hj => (HO9.out.lt j hj).1))
                   clear own3 gr3 at3)
                | fail)
              go_roundw
              case rel => exact ⟨k + 1, _, _, ws ++ [sv.toList], by omega, by omega, by go_num, rfl, HO3, HMN, HWN, HB3⟩
              case measure => simp [intOf]; omega
          · have d1 : decide ((k : Int) < 30) = false := decide_eq_false (by omega)
            have i1 : (k : Int) < (n' : Int) := by omega
            clear hk2
            go_wp2_with fail
            go_meet
            case rel => exact ⟨k, q, v, ws, rfl, hk30, HO, HM, HWK, HBr⟩
        · have d1 : decide ((k : Int) < (n' : Int)) = false := decide_eq_false (by omega)
          go_wp2_with fail
          go_meet
          case rel => exact ⟨k, q, v, ws, rfl, hk30, HO, HM, HWK, HBr⟩
    case rest =>
      obtain ⟨k, q, v, ws, hvo, hk30, HO, HM, HWK, HBc⟩ := hcut
      subst hvo
      obtain ⟨L, u, hoL, hwL, hsL, hqL⟩ := walk_sees HMD.out.ok HRO.out HWK.out
      have hfew := ownP_few _ _ _ hoL
      have hGc := HG7.out.on HBc.out
      obtain ⟨va, vc, rfl, hss, _, _⟩ := Strs.of_own HO.out (by omega) HM.out
      have CO := Lib.hid (ownA_any ⟨#[112]⟩ (some ⟨rb, ro, none⟩) many rc (rolesL many) sa sn sc ps (rolS ri) va k vc ws L wc hGc.pin (by rw [prot_one]; exact HMD.out.ok) hss hk30 HM.out hoL)
      obtain ⟨ln, hln⟩ : ∃ ln, ln = L.length := ⟨_, rfl⟩
      rw [← hln] at CO
      have HSL := Lib.hid (And.intro hsL hqL)
      have hwl : walkL ts L = some u := by unfold walkL; rw [HLV.out]; exact hwL
      have HWL := Lib.hid hwl
      have HSS := Lib.hid hss
      have hu : u < n1 := by have := hsL.lt; have := HRO.out.1; have := HNL.out; omega
      have hzc := HBc.out.size
      obtain ⟨_, _, _⟩ := hGc.box.cells
      clear hln hoL hwL hsL hqL hfew hGc hss hwl
      go_upto_region 17 with (first
        | (go_at_call 32; (with_reducible refine CO.out.mono ?_)
           rintro e w10 ⟨oa, oc, rfl, hos, hb10⟩
           have HBA := Lib.hid (below_on HBc.out hb10)
           have HSA := Lib.hid (HSS.out.on hb10)
           have HOS := Lib.hid hos
           clear hos hb10)
        | fail)
      obtain ⟨xa0, xa1⟩ := (HX7.out.on HBA.out).cells
      have C2 := ownWalk_any s1 a1 n1 c1 ts oa ln oc L w10 _ (Nat.le_refl _) (HL7.out.on HBA.out).turns HOS.out
      rw [HWL.out] at C2
      have C2 := Lib.hid (show Calls Tryz.prog 21 #[.agg #[.string s1, .slice a1 n1 c1], .slice oa ln oc] w10 fun e w' => e = .returned (.tuple #[.int .i64 (u : Int), .bool true]) ∧ Below w10.heap.size w10 w' from C2)
      go_upto_region 20 with (first
        | (go_at_call 21; (with_reducible refine C2.out.mono ?_)
           rintro e w11 ⟨rfl, hb11⟩
           have HBB := Lib.hid (below_on HBA.out hb11)
           have HSB := Lib.hid (HSA.out.on hb11)
           clear hb11)
        | fail)
      obtain ⟨_, _, _⟩ := (HG7.out.on HBB.out).box.cells
      have C3 := (HG7.out.on HBB.out).walkP HMD.out vc HSB.out
      rw [HWK.out] at C3
      have C3 := Lib.hid (show Calls Tryz.prog 31 #[.agg #[.string ⟨#[112]⟩, .slice (some ⟨rb, ro, none⟩) many rc, .slice sa sn sc], .slice va k vc] w11 fun e w' => e = .returned (.tuple #[.int .i64 (q : Int), .bool true]) ∧ Below w11.heap.size w11 w' from C3)
      go_upto_region 21 with (first
        | (go_at_call 31; (with_reducible refine C3.out.mono ?_)
           rintro e w12 ⟨rfl, hb12⟩
           have HBC := Lib.hid (below_on HBB.out hb12)
           clear hb12)
        | fail)
      obtain ⟨_, _, _⟩ := (HG7.out.on HBC.out).box.cells
      have hbn := below_on HBC.out (tu1 w12 (.cells #[.int .i64 (q : Int)] 3))
      have hq1 := HSL.out.2
      have C4 := Lib.hid (near1_any (HG7.out.on hbn) HMD.out hri (IInts.one (W := w12) (cs := #[.int .i64 (q : Int)]) (base := w12.heap.size) (g := w12.heap.size) (q : Int) rfl rfl (Nat.le_refl _)) hq1)
      have HBN := Lib.hid hbn
      clear hbn hq1
      go_upto_region 22 with (first
        | (go_at_call 33; (with_reducible refine C4.out.mono ?_)
           rintro e w13 ⟨na, nl, nc, rfl, hnl, hb13⟩
           have HBD := Lib.hid (below_on HBN.out hb13)
           have HNR := Lib.hid hnl
           clear hnl hb13)
        | fail)
      have hLd := HL7.out.on HBD.out
      obtain ⟨xa0, xa1⟩ := (HX7.out.on HBD.out).cells
      obtain ⟨tb, tz, kd, ss, ta, tn, tc, tl, rfl, htb, htx, ⟨tc0, _, _⟩, _⟩ := hLd.turns.at_ hu
      have j1 : (u : Int) < (n1 : Int) := by omega
      have j2 : (0 : Int) ≤ (u : Int) := by omega
      have HE := Lib.hid (HG7.out.bel.trans (HBD.out.mono HG7.out.bel.size))
      rcases sees_end HMD.out.ok HRO.out HSL.out.1 HSL.out.2 htx with ⟨e1, e2⟩ | ⟨e1, e2⟩
      · have hnl0 : nl = 0 := by have := HNR.out; rw [e1] at this; exact this
        have d1 : ((nl : Int) == 0) = true := by rw [beq_iff_eq]; omega
        dsimp only at e2
        subst e2
        clear e1 htx hLd hnl0
        go_wp2_with fail
        go_ret
        exact ⟨rfl, HE.out⟩
      · have hnl0 : 0 < nl := by
          have := HNR.out
          rw [this]
          exact List.length_pos_iff.2 e1
        have d1 : ((nl : Int) == 0) = false := by rw [beq_eq_false_iff_ne]; omega
        have d2 : decide (0 < nl) = true := decide_eq_true hnl0
        have d4 : decide ((0 : Int) < (nl : Int)) = true := decide_eq_true (by omega)
        have d3 : (kd != 0) = true := by simp [bne, beq_eq_false_iff_ne.2 e2]
        clear e1 e2 htx hLd
        go_wp2_with fail
        go_ret
        exact ⟨rfl, HE.out⟩
end Go.Proofs.YtokgpdceckaddaaGreatDoor
