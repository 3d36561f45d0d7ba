/- Law: ProjectSteps. (The first rows printed by gen/gen8.py.) -/
import Derived.Test.YtokgpdceckaddaaGreatDoorPjMades
import Derived.Test.YtokgpdceckaddaaGreatDoorGlProtBs
import Derived.Test.YtokgpdceckaddaaGreatDoorPjLow
import Derived.Test.YtokgpdceckaddaaGreatDoorPjUs
import Derived.Test.YtokgpdceckaddaaGreatDoorPjFirsts
import Derived.Test.YtokgpdceckaddaaGreatDoorPjSpecs
import Derived.Test.YtokgpdceckaddaaGreatDoorPjOwns
import Derived.Test.YtokgpdceckaddaaGreatDoorTuOwnRW
import Derived.Deep.RegionHeld3
import Derived.Deep.CutRange
import Derived.Deep.CutBlock
import Derived.Deep.DeepCutAuto
import Derived.BigQuiet
import Derived.Deep.RegionLaw
import Derived.Test.YtokgpdceckaddaaGreatDoorTuSeat
import Derived.Test.YtokgpdceckaddaaGreatDoorCards
import Derived.Test.YtokgpdceckaddaaGreatDoorTie
import Derived.SevenTiedAt
import Derived.LaidOnce
import Derived.Lay
import Derived.ChangeOld
import Derived.ShutString
namespace Go.Proofs.YtokgpdceckaddaaGreatDoor
open Go.RowKit

def OwnAns (w : World) (ln : Nat) (L : List Str) (e : Ending) (w' : World) : Prop := ∃ (oa : Option Addr) (oc : Nat), e = .returned (.tuple #[.slice oa ln oc, .bool true]) ∧ Strs w' w'.heap.size oa ln L ∧ Below w.heap.size w w'
theorem ownA_any (nm : ByteArray) (ra : Option Addr) (rn rc : Nat) (rs : List Str) (a : Option Addr) (n c : Nat) (ps : List PointL) (r : ByteArray) (va : Option Addr) (vn vc : Nat) (ws L : List Str) (w : World) (hP : PIn w nm ra rn rs a n ps) (hv : protB nm.toList rs ps = true) (hs : Strs w w.heap.size va vn ws) (hvn : vn ≤ 30) (hm : ∀ s ∈ ws, s.length ≤ maxLen) (hL : ownP ps r.toList 0 ws = some L) :
    Calls Tryz.prog 32 #[.agg #[.string nm, .slice ra rn rc, .slice a n c], .string r, .slice va vn vc] w fun e w' => OwnAns w L.length L e w' :=
  (own8_any nm ra rn rc rs a n c ps r va vn vc ws L w hP hv hs (by omega) hL).mono fun e w' k => by
    obtain ⟨v, h1, h2, h3⟩ := k
    have hf := ownP_few _ _ _ hL
    obtain ⟨oa, oc, rfl, h4, _, _⟩ := Strs.of_own h2 (by have := hf.1; have := hs.len; omega) (fun s hs => hm s (hf.2 s hs))
    exact ⟨oa, oc, h1, h4, h3⟩
def NearAns (w : World) (N : List Nat) (e : Ending) (w' : World) : Prop := ∃ (na : Option Addr) (nl nc : Nat), e = .returned (.slice na nl nc) ∧ nl = N.length ∧ Below w.heap.size w w'
theorem near1_any {w0 W : World} {g many : Nat} {ra : Option Addr} {rc : Nat} {sa : Option Addr} {sn sc : Nat} {ps : List PointL} (h : GIn w0 W g many ra rc sa sn sc ps) (hm : GMade many sn ps) {i : Nat} (hi : i < many) {base : Nat} {va : Option Addr} {vc q : Nat} (hl : IInts W base (.slice va 1 vc) [(q : Int)]) (hq : q < ps.length) :
    Calls Tryz.prog 33 #[.agg #[.string ⟨#[112]⟩, .slice ra many rc, .slice sa sn sc], .string (rolS i), .slice va 1 vc] W fun e w' => NearAns W (nearP ps (rolS i).toList [q]) e w' := by
  obtain ⟨a, cap, hv, _, _, _, hnu⟩ := hl.sees
  obtain ⟨e1, _, _⟩ := Value.slice.inj hv
  subst e1
  refine (h.near hm hi vc hnu).mono fun e w' k => ?_
  obtain ⟨⟨v, h1, h2⟩, h3⟩ := k
  have hst : startP ps.length [(q : Int)] = [q] := startP_all (n := ps.length) (l := [q]) (fun x hx => by rw [List.mem_singleton.1 hx]; exact hq)
  rw [hst] at h2
  obtain ⟨na, nc, hv2, _, _, _, _⟩ := h2.sees
  rw [hv2, rowI_len] at h1
  exact ⟨na, _, nc, h1, rfl, h3⟩
def RefusedAns (w : World) (er : Int) (e : Ending) (w' : World) : Prop := ∃ (s : ByteArray) (a : Option Addr) (n c : Nat), e = .returned (.tuple #[.agg #[.string s, .slice a n c], .int .i64 er]) ∧ Below w.heap.size w w'
def GrantedAns (w : World) (nm : Str) (ts : List TurnL) (e : Ending) (w' : World) : Prop := ∃ (s : ByteArray) (a : Option Addr) (n c : Nat), e = .returned (.tuple #[.agg #[.string s, .slice a n c], .int .i64 0]) ∧ LIn w' s a n nm ts ∧ Below w.heap.size w w'
theorem GIn.walkP {w0 W : World} {g many : Nat} {ra : Option Addr} {rc : Nat} {sa : Option Addr} {sn sc : Nat} {ps : List PointL} (h : GIn w0 W g many ra rc sa sn sc ps) (hm : GMade many sn ps) {va : Option Addr} {vn : Nat} (vc : Nat) {ls : List Str} (hs : Strs W W.heap.size va vn ls) :
    Calls Tryz.prog 31 #[.agg #[.string ⟨#[112]⟩, .slice ra many rc, .slice sa sn sc], .slice va vn vc] W fun e w' => e = .returned (walkV (Go.Proofs.YtokgpdceckaddaaGreatDoor.walkP ps ls)) ∧ Below W.heap.size W w' := by
  have := PIn.walk (rc := rc) (c := sc) h.pin vc hs
  unfold walkQ at this
  rw [prot_one, hm.ok, if_pos rfl] at this
  exact this
theorem iints_two (W : World) (x y : Int) : IInts (W.alloc (.cells #[.int .i64 x, .int .i64 y] 3)) W.heap.size (.slice (some ⟨W.heap.size, 0, none⟩) 2 2) [x, y] :=
  ⟨by simp [encI64], .inr ⟨W.heap.size, 2, _, rfl, Nat.le_refl _, heap_alloc_new W _, Nat.le_refl _, by unfold maxLen; omega, by simp, by simp [encI64]⟩⟩
theorem step_append_one {ops : Array Oper} {o : Oper} {a : Act} {K : Act → World → Prop} {Q : Exit → Act → World → Prop} {E : Prop} {w1 : World} (W : World) (hgd : o.guard = none) (s x : Operand)
    (ho : o.op = .call { callee := .builtin .append, args := #[s, x], argTypes := #[24, 24] }) (base : Nat) (v : Value) (n : Nat) (ss : List Str) (sv : ByteArray)
    (hw1 : w1 = W.alloc (.cells #[.string sv] 9)) (hs : a.eval s = v) (hx : a.eval x = .slice (some ⟨W.heap.size, 0, none⟩) 1 1)
    (hown : W.ownsRow base 9 1 v n (ss.map encStr)) (hsv : sv.size ≤ maxLen) (hlim : n ≤ 1000) (hb : base ≤ W.heap.size)
    (h : ∀ v' w', w'.ownsRow base 9 1 v' (n + 1) ((ss ++ [sv.toList]).map encStr) → Below base W w' → K (a.put o.dst v') w') : if Region.wanted o (yielded ops a.tmps) = true then Oper.wp Tryz.prog o a w1 K Q else E := by
  have hwant : Region.wanted o (yielded ops a.tmps) = true := by simp [Region.wanted, hgd]
  rw [if_pos hwant]
  subst hw1
  exact wp_append_strs _ s x _ ho base _ Tryz.underlying24 info9 v n ss hs (hown.alloc _) _ _ 1 1 [sv.toList] hx (strs_one9 W _ sv rfl hsv) (by omega) (by simp; omega) (fun v' w' h1 h2 _ => h v' w' h1 (((Below.refl base W).alloc hb _).grown h2 (by simp; omega) (fun j hj => (hown.lt j hj).1)))
set_option maxHeartbeats 16000000 in
set_option maxRecDepth 20000 in
theorem projectSteps_walk (a : Option Addr) (n c : Nat) (l : List Int) (a' : Option Addr) (n' c' : Nat) (l' : List Int) (y : Int) (w : World) (h : Nums w w.heap.size a n l) (hlim : n * 8 ≤ 140737488351232) (h' : Nums w w.heap.size a' n' l') (_hlim' : n' * 8 ≤ 140737488351232) :
    Calls Tryz.prog 10 #[.slice a n c, .slice a' n' c', .int .i64 y] w fun e w' => e = .returned (.bool true) ∧ Below w.heap.size w w' := by
  have HN := Lib.hid h
  have HN' := Lib.hid h'
  have HF := Lib.hid (first8_any w)
  have hn0 := h.1
  have HLN := Lib.hid hn0
  clear h h' hn0
  go_enter Tryz.func10, Tryz.ntmps10
  go_upto_region 4 with (first
    | (go_at_call 11; (with_reducible refine HF.out.mono ?_)
       rintro e w1 ⟨rfl, hb1⟩
       have HB1 := Lib.hid hb1
       clear hb1)
    | (go_at_call 13; (with_reducible refine (given8_any _).mono ?_)
       rintro e w2 ⟨xa, xb, rfl, _, hb2⟩
       have HB2 := Lib.hid (below_on HB1.out hb2)
       clear hb2)
    | (at_builtin
       refine wpList_append_plus rfl (.tmp 23) (.tmp 24) rfl w2.heap.size w.heap.size (.slice (some ⟨w2.heap.size, 0, none⟩) 2 2) a n c [1, 1] l rfl rfl (iints_two w2 1 1) ((HN.out.below HB2.out).alloc HB2.out.size _) (by show (2 + n) * 8 ≤ _; omega) (by simp) ?_
       intro v3 w3 hown hgr
       obtain ⟨pa, pc, hv, _, _, _, hnu⟩ := hown.sees
       obtain ⟨pn, hpn⟩ : ∃ pn, pn = ([1, 1] ++ l : List Int).length := ⟨_, rfl⟩
       rw [← hpn] at hv hnu
       subst hv
       have hpl : pn * 8 ≤ 140737488355328 := by rw [hpn, List.length_append, HLN.out]; show (2 + n) * 8 ≤ _; omega
       clear hpn
       have HNU := Lib.hid (show Nums w3 w3.heap.size pa pn (1 :: 1 :: l) from hnu)
       have HB3 := Lib.hid ((HB2.out.alloc HB2.out.size (.cells #[.int .i64 1, .int .i64 1] 3)).grown hgr (by have := HB2.out.size; simp; omega) (fun j e => by cases e; exact HB2.out.size))
       clear hown hgr hnu)
    | (go_at_call 12; (with_reducible refine (law8one_any xa xb pa pn pc (1 :: l) w3 HNU.out hpl).mono ?_)
       rintro e w4 ⟨⟨many, hmany, ra, rc, sa, sn, sc, ps, rfl, hm, hr, hl, hok, h2, h9⟩, hb4⟩
       have HB4 := Lib.hid (below_on HB3.out hb4)
       have hm2 : 2 ≤ many := by omega
       have hm4 : many ≤ 4 := by omega
       obtain ⟨hpin, hmade⟩ := made_in hm2 hm4 hm hr hl hok h2 h9
       have HPI := Lib.hid hpin
       have HMD := Lib.hid hmade
       have HMANY := Lib.hid hmany
       clear hm hr hl hok h2 h9 hb4 hpin hmade hmany)
    | fail)
  have HG5 := Lib.hid (GIn.begin (rc := rc) (sc := sc) HB4.out HPI.out)
  generalize hg5 : w4.heap.size = g5 at HG5 ⊢
  generalize hw5 : w4.alloc (.cells #[.string ⟨#[112]⟩, .slice ra many rc, .slice sa sn sc] 27) = w5 at HG5 ⊢
  clear hg5 hw5 HPI HB4 HB3 HNU HB2 HB1 HF HN hpl
  obtain ⟨pc0, pc1, pc2⟩ := HG5.out.box.cells
  obtain ⟨ri, hri, hmz⟩ := mod_lt y many (by omega) (by omega)
  obtain ⟨rb, ro, rfl, hrb, hrc⟩ := HG5.out.roles hri
  have hne : ((many : Int) == 0) = false := by rw [beq_eq_false_iff_ne]; omega
  have i1 : (ri : Int) < (many : Int) := by omega
  have i2 : (0 : Int) ≤ (ri : Int) := by omega
  have hwm : IntKind.u64.wrap (many : Int) = (many : Int) := IntWalk.u64_in _ (by omega)
  go_quiet (fail)
  go_upto_region 5 with fail
  have hbq := bel_drewN (Below.refl w5.heap.size w5) nq
  have HG6 := Lib.hid (HG5.out.on hbq)
  generalize hw6 : w5.drewN nq = w6 at HG6 ⊢
  clear hw6 hmz hwm hrc hrb pc0 pc1 pc2 HG5
  obtain ⟨pc0, pc1, pc2⟩ := HG6.out.box.cells
  have CR1 := HG6.out.role HMD.out hri
  cases hx : roleP ps (rolS ri).toList with
  | error er =>
    rw [hx] at CR1
    have CR := Lib.hid (show Calls Tryz.prog 15 #[.agg #[.string ⟨#[112]⟩, .slice (some ⟨rb, ro, none⟩) many rc, .slice sa sn sc], .string (rolS ri)] w6 fun e w' => RefusedAns w6 er e w' from CR1.mono fun e w' k => by
      obtain ⟨s, a, n, c, h1, _, h2⟩ := k
      exact ⟨s, a, n, c, h1, h2⟩)
    have her : (er != 0) = true := by simp [bne, beq_eq_false_iff_ne.2 (roleP_err hx)]
    clear CR1 hx
    go_wp2_with (first
      | (go_at_call 15; (with_reducible refine CR.out.mono ?_)
         rintro e v1 ⟨s1, a1, n1, c1, rfl, hb1⟩
         have HB1 := Lib.hid (below_on hb1 (tu1 v1 (.cells #[.string s1, .slice a1 n1 c1] 34)))
         clear hb1)
      | fail)
    go_ret
    exact ⟨rfl, HG6.out.bel.trans (HB1.out.mono HG6.out.bel.size)⟩
  | ok ts =>
    obtain ⟨ns, hro⟩ := roleP_spec hx
    rw [hx] at CR1
    have HRO := Lib.hid hro
    have CR := Lib.hid (show Calls Tryz.prog 15 #[.agg #[.string ⟨#[112]⟩, .slice (some ⟨rb, ro, none⟩) many rc, .slice sa sn sc], .string (rolS ri)] w6 fun e w' => GrantedAns w6 (nameU [112] (rolS ri).toList (.ok ts)) ts e w' from CR1.mono fun e w' k => k)
    clear CR1 hx hro
    go_upto_region 6 with (first
      | (go_at_call 15; (with_reducible refine CR.out.mono ?_)
         rintro e v1 ⟨s1, a1, n1, c1, rfl, hl1, hb1⟩
         have HL1 := Lib.hid hl1
         have HB1 := Lib.hid hb1
         clear hl1 hb1)
      | fail)
    have hb7 := below_on HB1.out (tu1 v1 (.cells #[.string s1, .slice a1 n1 c1] 34))
    have HG7 := Lib.hid (HG6.out.on hb7)
    have HL7 := Lib.hid (HL1.out.on (tu1 v1 (.cells #[.string s1, .slice a1 n1 c1] 34)))
    have HX7 := Lib.hid (LBox.new v1 s1 a1 n1 c1)
    generalize hg7 : v1.heap.size = g7 at HX7 ⊢
    generalize hw7 : v1.alloc (.cells #[.string s1, .slice a1 n1 c1] 34) = w7 at HG7 HL7 HX7 ⊢
    clear hw7 hg7 hb7 HG6 HL1 HB1 pc0 pc1 pc2 CR
    obtain ⟨pc0, pc1, pc2⟩ := HG7.out.box.cells
    obtain ⟨xc0, xc1⟩ := HX7.out.cells
    have hnl : n1 = ts.length := HL7.out.turns.1.symm
    have HNL := Lib.hid hnl
    have HPL := Lib.hid HMD.out.len
    have HLV := Lib.hid (role_valid HMD.out.ok (hasS_made hri) HRO.out)
    clear hnl
    have HW0 := Lib.hid (show walkP ps [] = some 0 from rfl)
    have HPR := Lib.hid (show protB (⟨#[112]⟩ : ByteArray).toList (rolesL many) ps = true by rw [prot_one]; exact HMD.out.ok)
    have CW := Lib.hid (fun (v : Value) (k : Nat) (ws : List Str) (W : World) (hk : k ≤ 30) (hw : W.ownsRow w7.heap.size 9 1 v k (ws.map encStr)) (hm : ∀ s ∈ ws, s.length ≤ maxLen) (hW : Below w7.heap.size w7 W) => show Calls Tryz.prog 31 #[.agg #[.string ⟨#[112]⟩, .slice (some ⟨rb, ro, none⟩) many rc, .slice sa sn sc], v] W fun e w' => e = .returned (walkV (walkP ps ws)) ∧ Below W.heap.size W w' from by
      obtain ⟨oa, oc, rfl, hss, _, _⟩ := Strs.of_own hw (by omega) hm
      exact (HG7.out.on hW).walkP HMD.out oc hss)
    go_wp2_with fail
    go_loopw [11, 12] (fun sl i wr => ∃ (k q : Nat) (v : Value) (ws : List Str), k ≤ 30 ∧ k ≤ n' ∧ i = .int .i64 k ∧ v = sl ∧ Hid (wr.ownsRow w7.heap.size 9 1 v k (ws.map encStr)) ∧ Hid (∀ s ∈ ws, s.length ≤ maxLen) ∧ Hid (walkP ps ws = some q) ∧ Hid (Below w7.heap.size w7 wr)) (fun _ i _ => n' - (intOf i).toNat)
    case atStart => exact ⟨0, 0, _, [], Nat.zero_le _, Nat.zero_le _, rfl, rfl, Lib.hid (World.ownsRow_nil _ _ _ _), Lib.hid (fun s hs => by cases hs), HW0, Lib.hid (Below.refl _ _)⟩
    case round =>
      obtain ⟨k, q, v, ws, hk30, hk, rfl, hvo, HO, HM, HWK, HBr⟩ := hrel
      subst hvo
      have hzr := HBr.out.size
      by_cases hk1 : k < n'
      · by_cases hk2 : k < 30
        · have i1 : (k : Int) < (n' : Int) := by omega
          have i2 : (0 : Int) ≤ (k : Int) := by omega
          have i3 : (k : Int) < 30 := by omega
          have C1 := CW.out v k ws wr (by omega) HO.out HM.out HBr.out
          rw [HWK.out] at C1
          have C1 := Lib.hid (show Calls Tryz.prog 31 #[.agg #[.string ⟨#[112]⟩, .slice (some ⟨rb, ro, none⟩) many rc, .slice sa sn sc], v] wr fun e w' => e = .returned (.tuple #[.int .i64 (q : Int), .bool true]) ∧ Below wr.heap.size wr w' from C1)
          have hql := walkP_lt HMD.out.ok HWK.out
          rw [HPL.out] at hql
          obtain ⟨_, _, _⟩ := (HG7.out.on HBr.out).box.cells
          go_upto_region 13 with (first
            | (go_at_call 31; (with_reducible refine C1.out.mono ?_)
               rintro e w9 ⟨rfl, hb9⟩
               have HB9 := Lib.hid (below_on HBr.out hb9)
               have HO9 := Lib.hid (ownsRow_on HO.out hb9 (Nat.le_refl _))
               clear hb9)
            | fail)
          have HG9 := Lib.hid (HG7.out.on HB9.out)
          have hz9 := HB9.out.size
          obtain ⟨_, _, _⟩ := HG9.out.box.cells
          obtain ⟨b, off, qq, ss, aa, an, ac, al, rfl, hbb, hx, ⟨q0, q1, q2⟩, _, _, hal⟩ := HG9.out.pin.pts.at_ hql
          have hpo : pointOf ps q = ⟨qq.toList, ss.toList, al⟩ := by unfold pointOf; rw [hx]; rfl
          have HPO := Lib.hid hpo
          have hanz := hal.2.1
          have hqlp : q < ps.length := by have := HPL.out; omega
          have j1 : (q : Int) < (sn : Int) := by omega
          have j2 : (0 : Int) ≤ (q : Int) := by omega
          have an6 : an ≤ 6 := by
            have h1 := pts_arms HMD.out.ok (near := [q]) (fun z hz => by rw [List.mem_singleton.1 hz]; exact hqlp) (pointOf ps q) (by unfold ptsOf; simp)
            rw [hpo] at h1
            have := hal.1
            have := h1.1
            dsimp only at this
            omega
          have HPX := Lib.hid (heap_alloc_new w9 (.cells #[.string qq, .string ss, .slice aa an ac] 63))
          have HBP := Lib.hid (tu1 w9 (.cells #[.string qq, .string ss, .slice aa an ac] 63))
          have HAL := Lib.hid (hal.on HBP.out)
          clear hx hpo
          go_upto_region 14 with fail
          have HBa := Lib.hid (below_on HB9.out HBP.out)
          have HOa := Lib.hid (ownsRow_on HO9.out HBP.out (Nat.le_refl _))
          generalize hgx : w9.heap.size = gx at HPX ⊢
          generalize hwa : w9.alloc (.cells #[.string qq, .string ss, .slice aa an ac] 63) = wa at HPX HAL HBa HOa ⊢
          clear hgx hwa q0 q1 q2 hal hbb HBP HO9 HB9 HG9 hz9
          have hgx2 : gx < wa.heap.size := (Array.getElem?_eq_some_iff.1 HPX.out).1
          obtain ⟨_, _, _⟩ := (HG7.out.on HBa.out).box.cells
          obtain ⟨L, u, hoL, hwL, hsL, hqL⟩ := walk_sees HMD.out.ok HRO.out HWK.out
          have hGa := HG7.out.on HBa.out
          obtain ⟨va, vc, rfl, hss, _, _⟩ := Strs.of_own HOa.out (by omega) HM.out
          have CO := Lib.hid (ownA_any ⟨#[112]⟩ (some ⟨rb, ro, none⟩) many rc (rolesL many) (some ⟨b, off, none⟩) sn sc ps (rolS ri) va k vc ws L wa hGa.pin HPR.out hss hk30 HM.out hoL)
          obtain ⟨ln, hln⟩ : ∃ ln, ln = L.length := ⟨_, rfl⟩
          rw [← hln] at CO
          have HSL := Lib.hid (And.intro hsL hqL)
          have hwl : walkL ts L = some u := by unfold walkL; rw [HLV.out]; exact hwL
          have HWL := Lib.hid hwl
          have hu : u < n1 := by have := hsL.lt; have := HRO.out.1; have := HNL.out; omega
          clear hln hoL hwL hsL hqL hGa hss hwl
          go_upto_region 15 with (first
            | (go_at_call 32; (with_reducible refine CO.out.mono ?_)
               rintro e wb ⟨oa, oc, rfl, hos, hb11⟩
               have HBb := Lib.hid (below_on HBa.out hb11)
               have HOb := Lib.hid (ownsRow_on HOa.out hb11 (Nat.le_refl _))
               have HAb := Lib.hid (HAL.out.on hb11)
               have HPb := Lib.hid ((hb11.block gx hgx2).trans HPX.out)
               have HOS := Lib.hid hos
               have hzb := hb11.size
               clear hos hb11)
            | fail)
          obtain ⟨xa0, xa1⟩ := (HX7.out.on HBb.out).cells
          have C2 := ownWalk_any s1 a1 n1 c1 ts oa ln oc L wb _ (Nat.le_refl _) (HL7.out.on HBb.out).turns HOS.out
          rw [HWL.out] at C2
          have C2 := Lib.hid (show Calls Tryz.prog 21 #[.agg #[.string s1, .slice a1 n1 c1], .slice oa ln oc] wb fun e w' => e = .returned (.tuple #[.int .i64 (u : Int), .bool true]) ∧ Below wb.heap.size wb w' from C2)
          go_upto_region 16 with (first
            | (go_at_call 21; (with_reducible refine C2.out.mono ?_)
               rintro e wd ⟨rfl, hb12⟩
               have HBd := Lib.hid (below_on HBb.out hb12)
               have HOd := Lib.hid (ownsRow_on HOb.out hb12 (Nat.le_refl _))
               have HAd := Lib.hid (HAb.out.on hb12)
               have HPd := Lib.hid ((hb12.block gx (by omega)).trans HPb.out)
               have hzd := hb12.size
               clear hb12)
            | fail)
          clear C1 C2 CO HAL HPX HPb HAb HOb HBb HOa HBa HOS xa0 xa1
          obtain ⟨xa0, xa1⟩ := (HX7.out.on HBd.out).cells
          obtain ⟨tb, tz, kd, pe, ta, tn, tc, tl, ha1, htb, htx, ⟨tc0, tc1, tc2⟩, _, hta⟩ := (HL7.out.on HBd.out).turns.at_ hu
          subst ha1
          have htl := hta.1
          have k1 : (u : Int) < (n1 : Int) := by omega
          have k2 : (0 : Int) ≤ (u : Int) := by omega
          have x0 : wd.cell? ⟨gx, 0, none⟩ = some (.string qq) := by rw [cell_of_row _ _ _ _ _ _ HPd.out]; rfl
          have x1 : wd.cell? ⟨gx, 1, none⟩ = some (.string ss) := by rw [cell_of_row _ _ _ _ _ _ HPd.out]; rfl
          have x2 : wd.cell? ⟨gx, 2, none⟩ = some (.slice aa an ac) := by rw [cell_of_row _ _ _ _ _ _ HPd.out]; rfl
          have hgd : gx < wd.heap.size := by omega
          obtain ⟨sp1, sp2⟩ := sees_point HMD.out.ok (hasS_made hri) HRO.out HSL.out.1 HSL.out.2 htx
          rw [HPO.out] at sp1 sp2
          have hall : al.length = an := HAd.out.1
          have SP1 := Lib.hid sp1
          have SP2 := Lib.hid sp2
          have HCC := Lib.hid (And.intro (And.intro tc0 (And.intro tc1 tc2)) (And.intro x0 (And.intro x1 (And.intro x2 xa1))))
          have HTL := Lib.hid (And.intro htl hall)
          clear sp1 sp2 htl hall htx hta
          go_cut [117] (fun sx wx => sx = .bool false ∧ Hid (Below wd.heap.size wd wx))
          case first =>
            cases hq1 : (qq.toList == (rolS ri).toList)
            · go_quiet (fail)
              go_wp2_with fail
              go_meet
              case rel => exact ⟨rfl, Lib.hid (bel_drewN (Below.refl _ _) _)⟩
            · obtain ⟨e1, e2, e3⟩ := SP1.out (beq_iff_eq.1 hq1)
              dsimp only at e1 e2 e3
              subst e1
              have m1 : (pe.toList == ss.toList) = true := by rw [beq_iff_eq]; exact e2
              have m2 : (pe.toList != ss.toList) = false := by rw [bne, m1]; rfl
              have m3 : ((tn : Int) != (an : Int)) = false := by
                have h1 := HTL.out.1
                have h2 := HTL.out.2
                rw [show tn = an by omega]
                simp
              clear e2 e3
              go_quiet (fail)
              go_wp2_with fail
              go_meet
              case rel => exact ⟨rfl, Lib.hid (bel_drewN (Below.refl _ _) _)⟩
          case rest =>
            obtain ⟨hs117, HBE⟩ := hcut
            subst hs117
            obtain ⟨we, hwe⟩ : ∃ we : World, we = wc := ⟨_, rfl⟩
            subst hwe
            have hze := HBE.out.size
            clear tc0 tc1 tc2 x0 x1 x2 xa1 xa0
            have HLIFT := Lib.hid (fun (W : World) (hW : Below wd.heap.size wd W) => show (W.cell? ⟨tb, tz + u * 3, none⟩ = some (.int .i64 kd) ∧ W.cell? ⟨tb, tz + u * 3 + 1, none⟩ = some (.string pe) ∧ W.cell? ⟨tb, tz + u * 3 + 2, none⟩ = some (.slice ta tn tc)) ∧ W.cell? ⟨gx, 0, none⟩ = some (.string qq) ∧ W.cell? ⟨gx, 1, none⟩ = some (.string ss) ∧ W.cell? ⟨gx, 2, none⟩ = some (.slice aa an ac) ∧ W.cell? ⟨g7, 1, none⟩ = some (.slice (some ⟨tb, tz, none⟩) n1 c1) from by
              obtain ⟨⟨h1, h2, h3⟩, h4, h5, h6, _⟩ := HCC.out
              exact ⟨⟨(hW.cell (p := ⟨tb, tz + u * 3, none⟩) htb).trans h1, (hW.cell (p := ⟨tb, tz + u * 3 + 1, none⟩) htb).trans h2, (hW.cell (p := ⟨tb, tz + u * 3 + 2, none⟩) htb).trans h3⟩, (hW.cell (p := ⟨gx, 0, none⟩) hgd).trans h4, (hW.cell (p := ⟨gx, 1, none⟩) hgd).trans h5, (hW.cell (p := ⟨gx, 2, none⟩) hgd).trans h6, (HX7.out.on (below_on HBd.out hW)).cells.2⟩)
            obtain ⟨⟨tc0, tc1, tc2⟩, x0, x1, x2, xa1⟩ := HLIFT.out we HBE.out
            have htbe : tb < we.heap.size := by omega
            have hgxe : gx < we.heap.size := by omega
            go_upto_region 18 with fail
            go_cut [154] (fun sx wx => sx = .bool false ∧ Hid (Below wd.heap.size wd wx))
            case first =>
              cases hq2 : (ss.toList == (rolS ri).toList)
              · go_quiet (fail)
                go_wp2_with fail
                go_meet
                case rel => exact ⟨rfl, Lib.hid (bel_drewN HBE.out _)⟩
              · obtain ⟨e1, e2, e3⟩ := SP2.out (beq_iff_eq.1 hq2)
                dsimp only at e1 e2 e3
                subst e1
                have m1 : (pe.toList == qq.toList) = true := by rw [beq_iff_eq]; exact e2
                have m2 : (pe.toList != qq.toList) = false := by rw [bne, m1]; rfl
                have m3 : decide ((tn : Int) < (an : Int)) = false := decide_eq_false (by
                  have h1 := HTL.out.1
                  have h2 := HTL.out.2
                  omega)
                have m4 : decide (tn < an) = false := decide_eq_false (by
                  have h1 := HTL.out.1
                  have h2 := HTL.out.2
                  omega)
                clear e2 e3
                go_quiet (fail)
                go_wp2_with fail
                go_meet
                case rel => exact ⟨rfl, Lib.hid (bel_drewN HBE.out _)⟩
            case rest =>
              obtain ⟨hs154, HBF⟩ := hcut
              subst hs154
              obtain ⟨wf, hwf⟩ : ∃ wf : World, wf = wc := ⟨_, rfl⟩
              subst hwf
              have hzf := HBF.out.size
              clear tc0 tc1 tc2 x0 x1 x2 xa1 HBE htbe hgxe hze
              obtain ⟨_, x0, x1, x2, _⟩ := HLIFT.out wf HBF.out
              have hgxf : gx < wf.heap.size := by omega
              have HBW := Lib.hid (below_on HBd.out HBF.out)
              have hz7 := HG7.out.bel.size
              have hz77 := HBW.out.size
              by_cases han : an = 0
              · have d1 : ((an : Int) == 0) = true := by rw [beq_iff_eq]; omega
                have HE := Lib.hid (HG7.out.bel.trans (HBW.out.mono HG7.out.bel.size))
                clear han
                go_wp2_with fail
                go_ret
                exact ⟨rfl, HE.out⟩
              · have d1 : ((an : Int) == 0) = false := by rw [beq_eq_false_iff_ne]; omega
                obtain ⟨lb0, lo0, x, rfl, hlb0, _, hc⟩ := (HN'.out.below (HG7.out.bel.trans (HBW.out.mono HG7.out.bel.size))).at_ hk1
                obtain ⟨m, hm4, hmod⟩ := mod_lt x an (by omega) (by omega)
                obtain ⟨lb, lo, sv, u6, ck, nx, haa, hlb, hx6, ⟨z0, _, _, _⟩, hsv, _⟩ := (HAd.out.on HBF.out).at_ hm4
                subst haa
                have harm : (⟨sv.toList, ck, u6.toList, nx⟩ : ArmL) ∈ (pointOf ps q).arms := by rw [HPO.out]; exact List.mem_of_getElem? hx6
                have HWN := Lib.hid (walkP_snoc HMD.out.ok HWK.out harm)
                have HMN := Lib.hid (show ∀ s ∈ ws ++ [sv.toList], s.length ≤ maxLen from fun s hs => by
                  rcases List.mem_append.1 hs with h | h
                  · exact HM.out s h
                  · rw [List.mem_singleton.1 h, len_toList]
                    exact hsv)
                have hwa : IntKind.u64.wrap (an : Int) = (an : Int) := IntWalk.u64_in _ (by omega)
                have j3 : (m : Int) < (an : Int) := by omega
                have j4 : (0 : Int) ≤ (m : Int) := by omega
                have HOf := Lib.hid (ownsRow_on HOd.out HBF.out (Nat.le_refl _)).drew
                have hlb2 : lb0 < wf.heap.size := by omega
                have hne3 : ¬ (an = 0) := han
                have hwm2 : IntKind.i64.wrap (m : Int) = (m : Int) := IntWalk.i64_in _ (by omega)
                have HBFd := Lib.hid (show Below w7.heap.size w7 wf.drew from ⟨HBW.out.os, HBW.out.tape, HBW.out.output, HBW.out.size, HBW.out.block⟩)
                clear han hx6 harm
                go_upto_region 22 with fail
                go_region_law (first
                  | (refine step_append_one wf.drew (by rfl) (.tmp 159) (.tmp 176) (by rfl) w7.heap.size (.slice va k vc) k ws sv (by rfl) (by rfl) (by rfl) HOf.out hsv (by omega) hz77 ?_
                     intro v3 w3 own3 hb3
                     have HO3 := Lib.hid own3
                     have HB3 := Lib.hid (HBFd.out.trans hb3)
                     clear own3 hb3)
                  | fail)
                all_goals
                  go_wp2_with fail
                  go_roundw
                  case rel => exact ⟨k + 1, _, _, ws ++ [sv.toList], by omega, by omega, by go_num, rfl, HO3, HMN, HWN, HB3⟩
                  case measure => simp [intOf]; omega
        · have d1 : decide ((k : Int) < 30) = false := decide_eq_false (by omega)
          have i1 : (k : Int) < (n' : Int) := by omega
          have HE := Lib.hid (HG7.out.bel.trans (HBr.out.mono HG7.out.bel.size))
          clear hk2
          go_wp2_with fail
          go_ret
          exact ⟨rfl, HE.out⟩
      · have d1 : decide ((k : Int) < (n' : Int)) = false := decide_eq_false (by omega)
        have HE := Lib.hid (HG7.out.bel.trans (HBr.out.mono HG7.out.bel.size))
        go_wp2_with fail
        go_ret
        exact ⟨rfl, HE.out⟩
end Go.Proofs.YtokgpdceckaddaaGreatDoor

/- The statement ProjectSteps holds for every argument, with no condition; the listed tables are tied to the program's text. -/
namespace Go.Proofs.YtokgpdceckaddaaGreatDoor.projectSteps
open Go Go.ChangeShapes Go.WideShapes Go.ChangeAt Go.RowKit
open Go.ChangeMaps (open_string shut_string)

theorem door_met (os : Os) (args : Array Value) : laidMetH Tryz.prog Rows.projectStepsRow.laid ((World.laidAll Tryz.prog os Rows.projectStepsRow.laid).forCall (fun _ _ => 0) ⟨#[], args, []⟩).memory := by
  rw [MakeChecks.laidMetH_plain _ _ _ (by kernel_rfl)]
  exact laidMet_laidAll _ (by kernel_rfl) (by kernel_rfl)
set_option maxRecDepth 100000 in
theorem lifted (os : Os) (started : os.Started) (H : Type) (enc : TypeId × Value → H) :
    ReturnsInHanded {} Tryz.checked os 10 .any (fun w args => (Rows.projectStepsSpec.pre enc Tryz.prog Tryz.f10 [] false w args ∧ laidMetH Tryz.prog Rows.projectStepsRow.laid w) ∧ sizedMet enc Tryz.prog Tryz.f10 (OpenSpec.ofChange Rows.projectStepsSpec) false w args)
      (Rows.projectStepsSpec.post enc Tryz.prog Tryz.f10 false true false false) := by
  refine returnsInHanded_of_change_and (C := Tryz.checked) (X := fun w _ => laidMetH Tryz.prog Rows.projectStepsRow.laid w) (fun _ _ _ hh h => h.of_heap hh) seatOwn started (by kernel_rfl) Tryz.func10
    (ChangeSpec.witness_shaped (enc := enc) (C := Tryz.checked) (os := os) (X := fun w _ => laidMetH Tryz.prog Rows.projectStepsRow.laid w) false (World.laidAll Tryz.prog os Rows.projectStepsRow.laid) #[.slice none 0 0, .slice none 0 0, .int .i64 0] 8 (World.laidAll_os _ _ _)
      (World.shaped_of_ZipB (by kernel_rfl) (by kernel_rfl)) (by kernel_rfl) (by kernel_rfl) (by kernel_rfl) (door_met os _)) ?_
  intro W base args ds gs before hval0 hW _ hsz0 hX0 _
  have hval : ∀ (j : Nat) t v, Tryz.f10.params[j]? = some t → args[j]? = some v → Value.okWide Tryz.prog W .any base t v := hval0
  have hsz : (DataW.weightsEach Tryz.prog (Tryz.f10.params.toList ++ Rows.projectStepsSpec.plain.varTypes Tryz.prog) (ds ++ gs)).all (· ≤ reachBytes) = true := hsz0
  have hW' := hW
  obtain ⟨p, q, hA0, hV, rfl, hfz, hnd⟩ := hW
  have hA : DataW.TrodAll enc Tryz.prog W 0 (fun _ => true) true Tryz.f10.params.toList args.toList ds p := hA0
  rw [Tryz.params10] at hA hval hsz
  obtain ⟨v0, vs0, d0, ds0, p0, q0, hargs, rfl, rfl, h0, r0⟩ := trodAll_cons hA
  obtain ⟨v1, vs1, d1, ds1, p1, q1, rfl, rfl, rfl, h1, r1⟩ := trodAll_cons r0
  obtain ⟨v2, vs2, d2, ds2, p2, q2, rfl, rfl, rfl, h2, r2⟩ := trodAll_cons r1
  obtain ⟨rfl, rfl, rfl⟩ := trodAll_nil r2
  obtain rfl : args = #[v0, v1, v2] := by cases args; simp_all
  obtain ⟨rfl, rfl⟩ := trodVars_none hV
  have k0 := h0
  have lt0 := args_below k0
  obtain ⟨fu0, hf0⟩ := h0
  obtain ⟨ia0, ilen0, icap0, rfl⟩ := okWide_slice Tryz.underlying22 (hval 0 22 v0 rfl rfl)
  obtain ⟨a0, n0, c0, l0, hv0, hn0, hi0, hc0, hm0, hz0⟩ := open_ints hf0 (fun elems spare e => by
    have := sized_slice hsz (j := 0) (t := 22) (e := 3) rfl (congrArg some e) Tryz.underlying22
    rwa [seatBytes2] at this)
  obtain ⟨ea0, en0, ec0⟩ := Value.slice.inj hv0
  subst ea0 en0 ec0
  have k1 := h1
  have lt1 := args_below k1
  obtain ⟨fu1, hf1⟩ := h1
  obtain ⟨ia1, ilen1, icap1, rfl⟩ := okWide_slice Tryz.underlying22 (hval 1 22 v1 rfl rfl)
  obtain ⟨a1, n1, c1, l1, hv1, hn1, hi1, hc1, hm1, hz1⟩ := open_ints hf1 (fun elems spare e => by
    have := sized_slice hsz (j := 1) (t := 22) (e := 3) rfl (congrArg some e) Tryz.underlying22
    rwa [seatBytes2] at this)
  obtain ⟨ea1, en1, ec1⟩ := Value.slice.inj hv1
  subst ea1 en1 ec1
  have k2 := h2
  have lt2 := args_below k2
  obtain ⟨a2, rfl, rfl, rfl, w2⟩ := open_int Tryz.underlying3 (hval 2 3 v2 rfl rfl) h2
  clear hA0 hval0 hsz0
  refine (projectSteps_walk ia0 ilen0 icap0 l0 ia1 ilen1 icap1 l1 a2 W hn0 hz0 hn1 hz1 ).mono fun e W' ⟨he, bel⟩ => ?_
  subst he
  exact ⟨_, rfl, _, _, _, [], _, [], hW', trodAll_mk1 (shut_bool Tryz.underlying4 _), (trodAll_cons_mk (Below.trod seatLaidOut (by kernel_rfl) (of_decide_eq_true (by kernel_rfl)) k0 bel lt0) (trodAll_cons_mk (Below.trod seatLaidOut (by kernel_rfl) (of_decide_eq_true (by kernel_rfl)) k1 bel lt1) (trodAll_cons_mk (Below.trod seatLaidOut (by kernel_rfl) (of_decide_eq_true (by kernel_rfl)) k2 bel lt2) trodAll_mk0))), rfl, bel.frame _, fun h => by cases h⟩

theorem over : Rows.ProjectStepsSaid :=
  OpenClaim.holds_of_wide 10 Tryz.f10 rfl rfl rfl rfl rfl rfl rfl ⟨rfl, rfl, rfl, rfl, rfl⟩ rfl rfl rfl rfl rfl (by kernel_rfl) Tryz.func10 (by kernel_rfl)
    (of_decide_eq_true (by kernel_rfl)) (by unfold Func.isWrapper; first | (rw [if_pos (by decide +kernel)]; kernel_rfl) | (rw [if_neg (by decide +kernel)]; exact ⟨rfl, rfl⟩))
    (fun os started H enc _ => lifted os started H enc)

theorem proved : Rows.ProjectStepsCardSaid :=
  Claim7.holds_tied_plain_at .later [] [.data, .data, .data] true _ false
    over (fun _ h => by cases h) (by kernel_rfl) (fun _ h => by cases h) projectSteps_row_tie rfl ⟨rfl, rfl⟩ (by kernel_rfl) rfl
    (fun f fn hf hfn => by
      obtain rfl : f = 10 := Option.some.inj ((show Tryz.prog.funcNamed Rows.projectStepsRow.func = some 10 by kernel_rfl).symm.trans hf) |>.symm
      obtain rfl : fn = Tryz.f10 := (Option.some.inj (Tryz.func10.symm.trans hfn)).symm
      exact ⟨by kernel_rfl, fun j t ht => by
        rw [Tryz.params10] at ht
        have hm : t ∈ [22, 22, 3] := by simpa using Array.mem_of_getElem? ht
        have hall : ([22, 22, 3].all fun u => !Tryz.prog.wantsStandIn u) = true := by kernel_rfl
        exact (show Tryz.prog.wantsStandIn t = false by simpa using List.all_eq_true.1 hall t hm)⟩)
    (by kernel_rfl)
#print axioms proved
end Go.Proofs.YtokgpdceckaddaaGreatDoor.projectSteps
