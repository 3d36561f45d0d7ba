/- Law: ProjectIdle. (The first rows printed by gen/gen8.py.) -/
import Derived.Test.YtokgpdceckaddaaGreatDoorPjMades
import Derived.Test.YtokgpdceckaddaaGreatDoorPjUs
import Derived.Test.YtokgpdceckaddaaGreatDoorPjFirsts
import Derived.Test.YtokgpdceckaddaaGreatDoorPjSpecs
import Derived.Test.YtokgpdceckaddaaGreatDoorPjIdle
import Derived.Deep.RegionHeld3
import Derived.Deep.CutRange
namespace Go.Proofs.YtokgpdceckaddaaGreatDoor
open Go.RowKit

set_option maxHeartbeats 16000000 in
set_option maxRecDepth 20000 in
theorem projectIdle_walk (a : Option Addr) (n c : Nat) (l : List Int) (y : Int) (w : World) (h : Nums w w.heap.size a n l) (hlim : n * 8 ≤ 140737488351232) :
    Calls Tryz.prog 4 #[.slice a n c, .int .i64 y] w fun e w' => e = .returned (.bool true) ∧ Below w.heap.size w w' := by
  have HN := Lib.hid h
  have HF := Lib.hid (first8_any w)
  have hn0 := h.1
  have HLN := Lib.hid hn0
  clear h hn0
  go_enter Tryz.func4, Tryz.ntmps4
  go_upto_region 4 with (first
    | (go_at_call 11; (with_reducible refine HF.out.mono ?_)
       rintro e w1 ⟨rfl, hb1⟩
       have HB1 := Lib.hid hb1
       clear hb1)
    | (go_at_call 13; (with_reducible refine (given8_any _).mono ?_)
       rintro e w2 ⟨xa, xb, rfl, _, hb2⟩
       have HB2 := Lib.hid (below_on HB1.out hb2)
       clear hb2)
    | (at_builtin
       refine wpList_append_plus rfl (.tmp 17) (.tmp 18) rfl w2.heap.size w.heap.size (.slice (some ⟨w2.heap.size, 0, none⟩) 1 1) a n c [2] l rfl rfl (IInts.one (W := w2) (cs := #[.int .i64 2]) (base := w2.heap.size) (g := w2.heap.size) 2 rfl rfl (Nat.le_refl _)) ((HN.out.below HB2.out).alloc HB2.out.size _) (by show (1 + n) * 8 ≤ _; omega) (by simp) ?_
       intro v3 w3 hown hgr
       obtain ⟨pa, pc, hv, _, _, _, hnu⟩ := hown.sees
       obtain ⟨pn, hpn⟩ : ∃ pn, pn = ([2] ++ l : List Int).length := ⟨_, rfl⟩
       rw [← hpn] at hv hnu
       subst hv
       have hpl : pn * 8 ≤ 140737488355328 := by rw [hpn, List.length_append, HLN.out]; show (1 + n) * 8 ≤ _; omega
       clear hpn
       have HNU := Lib.hid (show Nums w3 w3.heap.size pa pn (2 :: l) from hnu)
       have HB3 := Lib.hid ((HB2.out.alloc HB2.out.size (.cells #[.int .i64 2] 3)).grown hgr (by have := HB2.out.size; simp; omega) (fun j e => by cases e; exact HB2.out.size))
       clear hown hgr hnu)
    | (go_at_call 12; (with_reducible refine (law8two_any xa xb pa pn pc l w3 HNU.out hpl).mono ?_)
       rintro e w4 ⟨⟨many, hmany, ra, rc, sa, sn, sc, ps, rfl, hm, hr, hl, hok, h2, h9⟩, hb4⟩
       have HB4 := Lib.hid (below_on HB3.out hb4)
       have hm2 : 2 ≤ many := by omega
       have hm4 : many ≤ 4 := by omega
       obtain ⟨hpin, hmade⟩ := made_in hm2 hm4 hm hr hl hok h2 h9
       have HPI := Lib.hid hpin
       have HMD := Lib.hid hmade
       have HMANY := Lib.hid hmany
       clear hm hr hl hok h2 h9 hb4 hpin hmade hmany)
    | fail)
  have HG5 := Lib.hid (GIn.begin (rc := rc) (sc := sc) HB4.out HPI.out)
  generalize hg5 : w4.heap.size = g5 at HG5 ⊢
  generalize hw5 : w4.alloc (.cells #[.string ⟨#[112]⟩, .slice ra many rc, .slice sa sn sc] 27) = w5 at HG5 ⊢
  clear hg5 hw5 HPI HB4 HB3 HNU HB2 HB1 HF HN hpl
  obtain ⟨pc0, pc1, pc2⟩ := HG5.out.box.cells
  have CI := Lib.hid (idle_any ⟨#[112]⟩ ra many rc (rolesL many) sa sn sc ps w5 HG5.out.pin (by omega))
  go_upto_region 5 with (first
    | (go_at_call 17; (with_reducible refine CI.out.mono ?_)
       rintro e w6 ⟨ya, yc, rfl, hp6, hb6⟩
       have HP6 := Lib.hid hp6
       have HG6 := Lib.hid (HG5.out.on hb6)
       clear hp6 hb6)
    | fail)
  have HQ7 := Lib.hid (PBox.new w6 ⟨#[112]⟩ ya (many + 1) yc sa sn sc)
  have HP7 := Lib.hid (HP6.out.on (tu1 w6 (.cells #[.string ⟨#[112]⟩, .slice ya (many + 1) yc, .slice sa sn sc] 27)))
  have HG7 := Lib.hid (HG6.out.on (tu1 w6 (.cells #[.string ⟨#[112]⟩, .slice ya (many + 1) yc, .slice sa sn sc] 27)))
  generalize hg7 : w6.heap.size = g7 at HQ7 ⊢
  generalize hw7 : w6.alloc (.cells #[.string ⟨#[112]⟩, .slice ya (many + 1) yc, .slice sa sn sc] 27) = w7 at HQ7 HP7 HG7 ⊢
  clear hg7 hw7 HP6 HG6 HG5 CI pc0 pc1 pc2
  obtain ⟨pc0, pc1, pc2⟩ := HG7.out.box.cells
  obtain ⟨ri, hri, hmz⟩ := mod_lt y many (by omega) (by omega)
  obtain ⟨rb, ro, rfl, hrb, hrc⟩ := HG7.out.roles hri
  have hne : ((many : Int) == 0) = false := by rw [beq_eq_false_iff_ne]; omega
  have i1 : (ri : Int) < (many : Int) := by omega
  have i2 : (0 : Int) ≤ (ri : Int) := by omega
  have hwm : IntKind.u64.wrap (many : Int) = (many : Int) := IntWalk.u64_in _ (by omega)
  go_quiet (fail)
  go_upto_region 6 with fail
  have hbq := bel_drewN (Below.refl w7.heap.size w7) nq
  have HG8 := Lib.hid (HG7.out.on hbq)
  have HQ8 := Lib.hid (HQ7.out.on hbq)
  have HP8 := Lib.hid (HP7.out.on hbq)
  generalize hw8 : w7.drewN nq = w8 at HG8 HQ8 HP8 ⊢
  clear hw8 hmz hwm hrc hrb pc0 pc1 pc2 HG7 HQ7 HP7
  obtain ⟨pc0, pc1, pc2⟩ := HG8.out.box.cells
  have hnid : idleS ∉ rolesL many := fun hc => by
    have : many = 2 ∨ many = 3 ∨ many = 4 := by omega
    rcases this with rfl | rfl | rfl <;> exact absurd hc (by decide)
  obtain ⟨hpq, hin⟩ := prot_idle HMD.out.ok (by rw [rolesL_len]; omega) hnid
  have HPQ := Lib.hid hpq
  have HIN := Lib.hid hin
  have CR1 := Lib.hid (HG8.out.role HMD.out hri)
  obtain ⟨X, hX⟩ : ∃ X, X = roleP ps (rolS ri).toList := ⟨_, rfl⟩
  rw [← hX] at CR1
  have HXE := Lib.hid hX
  clear hX hpq hin hnid
  go_upto_region 7 with (first
    | (go_at_call 15; (with_reducible refine CR1.out.mono ?_)
       rintro e v1 ⟨s1, a1, n1, c1, rfl, hl1, hb1⟩
       have HL1 := Lib.hid hl1
       have HB1 := Lib.hid hb1
       clear hl1 hb1)
    | fail)
  have hb9 := below_on HB1.out (tu1 v1 (.cells #[.string s1, .slice a1 n1 c1] 34))
  have HG9 := Lib.hid (HG8.out.on hb9)
  have HQ9 := Lib.hid (HQ8.out.on hb9)
  have HP9 := Lib.hid (HP8.out.on hb9)
  have HL9 := Lib.hid (HL1.out.on (tu1 v1 (.cells #[.string s1, .slice a1 n1 c1] 34)))
  have HX9 := Lib.hid (LBox.new v1 s1 a1 n1 c1)
  generalize hg9 : v1.heap.size = g9 at HX9 ⊢
  generalize hw9 : v1.alloc (.cells #[.string s1, .slice a1 n1 c1] 34) = w9 at HG9 HQ9 HP9 HL9 HX9 ⊢
  clear hw9 hg9 hb9 HG8 HQ8 HP8 HL1 HB1 pc0 pc1 pc2 CR1
  obtain ⟨pc0, pc1, pc2⟩ := HQ9.out.cells
  have CR2 := Lib.hid (show Calls Tryz.prog 15 #[.agg #[.string ⟨#[112]⟩, .slice ya (many + 1) yc, .slice sa sn sc], .string (rolS ri)] w9 fun e w' => RoleAns w9 [112] (rolS ri).toList X e w' from by
    have := roleU_any ⟨#[112]⟩ ya (many + 1) yc (rolesL many ++ [idleS]) sa sn sc ps (rolS ri) w9 HP9.out
    rw [prot_one, roleQ_in HPQ.out (List.contains_iff_mem.2 (List.mem_append_left _ ((hasS_iff _ _).1 (hasS_made hri)))), ← HXE.out] at this
    exact this)
  go_upto_region 8 with (first
    | (go_at_call 15; (with_reducible refine CR2.out.mono ?_)
       rintro e v2 ⟨s2, a2, n2, c2, rfl, hl2, hb2⟩
       have HL2 := Lib.hid hl2
       have HB2 := Lib.hid hb2
       clear hl2 hb2)
    | fail)
  have hb10 := below_on HB2.out (tu1 v2 (.cells #[.string s2, .slice a2 n2 c2] 34))
  have HG10 := Lib.hid (HG9.out.on hb10)
  have HQ10 := Lib.hid (HQ9.out.on hb10)
  have HP10 := Lib.hid (HP9.out.on hb10)
  have HLA := Lib.hid (HL9.out.on hb10)
  have HXA := Lib.hid (HX9.out.on hb10)
  have HLB := Lib.hid (HL2.out.on (tu1 v2 (.cells #[.string s2, .slice a2 n2 c2] 34)))
  have HXB := Lib.hid (LBox.new v2 s2 a2 n2 c2)
  generalize hg10 : v2.heap.size = g10 at HXB ⊢
  generalize hw10 : v2.alloc (.cells #[.string s2, .slice a2 n2 c2] 34) = w10 at HG10 HQ10 HP10 HLA HXA HLB HXB ⊢
  clear hw10 hg10 hb10 HG9 HQ9 HP9 HL9 HX9 HL2 HB2 pc0 pc1 pc2 CR2
  obtain ⟨pc0, pc1, pc2⟩ := HQ10.out.cells
  have CR3 := Lib.hid (show Calls Tryz.prog 15 #[.agg #[.string ⟨#[112]⟩, .slice ya (many + 1) yc, .slice sa sn sc], .string ⟨#[105, 100, 108, 101]⟩] w10 fun e w' => RoleAns w10 [112] idleS (.ok [⟨0, [], []⟩]) e w' from by
    have := roleU_any ⟨#[112]⟩ ya (many + 1) yc (rolesL many ++ [idleS]) sa sn sc ps idleB w10 HP10.out
    rw [prot_one, idleB_str, roleQ_in HPQ.out (List.contains_iff_mem.2 (by simp)), role_idle HIN.out] at this
    exact this)
  go_upto_region 9 with (first
    | (go_at_call 15; (with_reducible refine CR3.out.mono ?_)
       rintro e v3 ⟨s3, a3, n3, c3, rfl, hl3, hb3⟩
       have HL3 := Lib.hid hl3
       have HB3 := Lib.hid hb3
       clear hl3 hb3)
    | fail)
  have hb11 := below_on HB3.out (tu1 v3 (.cells #[.string s3, .slice a3 n3 c3] 34))
  have HG11 := Lib.hid (HG10.out.on hb11)
  have HQ11 := Lib.hid (HQ10.out.on hb11)
  have HP11 := Lib.hid (HP10.out.on hb11)
  have HLA1 := Lib.hid (HLA.out.on hb11)
  have HXA1 := Lib.hid (HXA.out.on hb11)
  have HLB1 := Lib.hid (HLB.out.on hb11)
  have HXB1 := Lib.hid (HXB.out.on hb11)
  have HLC1 := Lib.hid (HL3.out.on (tu1 v3 (.cells #[.string s3, .slice a3 n3 c3] 34)))
  have HXC1 := Lib.hid (LBox.new v3 s3 a3 n3 c3)
  generalize hg11 : v3.heap.size = g11 at HXC1 ⊢
  generalize hw11 : v3.alloc (.cells #[.string s3, .slice a3 n3 c3] 34) = w11 at HG11 HQ11 HP11 HLA1 HXA1 HLB1 HXB1 HLC1 HXC1 ⊢
  clear hw11 hg11 hb11 HG10 HQ10 HP10 HLA HXA HLB HXB HL3 HB3 pc0 pc1 pc2 CR3
  have hn3 : n3 = 1 := by have := HLC1.out.turns.1; exact this.symm
  subst hn3
  obtain ⟨tb, tz, kd, ss, ta, tn, tc, tl, rfl, htb, htx, ⟨tc0, _, _⟩, _⟩ := HLC1.out.turns.at_ (k := 0) (by omega)
  have hkd : kd = 0 := by have := congrArg TurnL.kind (Option.some.inj htx); exact this.symm
  subst hkd
  have tc1 : w11.cell? ⟨tb, tz, none⟩ = some (.int .i64 0) := by simpa using tc0
  clear htx tc0
  obtain ⟨pc0, pc1, pc2⟩ := HQ11.out.cells
  obtain ⟨xa0, xa1⟩ := HXA1.out.cells
  obtain ⟨xb0, xb1⟩ := HXB1.out.cells
  obtain ⟨xc0, xc1⟩ := HXC1.out.cells
  have CS := Lib.hid (show Calls Tryz.prog 18 #[.agg #[.string s1, .slice a1 n1 c1], .agg #[.string s2, .slice a2 n2 c2]] w11 fun e w' => e = .returned (.bool true) ∧ Below w11.heap.size w11 w' from
    (same8_any s1 s2 a1 a2 n1 c1 n2 c2 _ _ w11 _ (Nat.le_refl _) HLA1.out.turns HLB1.out.turns).mono fun e w' k => ⟨by rw [k.1, HLA1.out.name, HLB1.out.name, sameTs_iff.2 rfl]; simp, k.2⟩)
  have CL := Lib.hid (fun (W : World) (hW : Below w11.heap.size w11 W) => show Calls Tryz.prog 19 #[.agg #[.string ⟨#[112]⟩, .slice ya (many + 1) yc, .slice sa sn sc], .string ⟨#[105, 100, 108, 101]⟩, .int .i64 0] W fun e w' => e = .returned (.bool true) ∧ Below W.heap.size W w' from by
    have := PIn.lost (rc := yc) (c := sc) (HP11.out.on hW) idleB 0
    have hlo : lostQ (⟨#[112]⟩ : ByteArray).toList (rolesL many ++ [idleS]) ps idleB.toList 0 = true := by
      unfold lostQ
      rw [prot_one, HPQ.out, idleB_str, show hasS (rolesL many ++ [idleS]) idleS = true from List.contains_iff_mem.2 (by simp), decide_eq_true (show (0 : Int) ≤ 0 by omega), decide_eq_true (show (0 : Int) < (ps.length : Int) by have := HMD.out.len; have := HMD.out.low; omega)]
      have : nearP ps idleS [(0 : Int).toNat] = [] := by
        unfold nearP
        rw [List.filter_eq_nil_iff]
        intro x _
        rw [HIN.out x]
        decide
      rw [this]
      rfl
    rw [hlo] at this
    exact this)
  have ee : (errU X == errU X) = true := by simp
  go_wp2_with (first
    | (go_at_call 18; (with_reducible refine CS.out.mono ?_)
       rintro e v4 ⟨rfl, hb4⟩
       have HB4 := Lib.hid hb4
       have hQ := HQ11.out.on hb4
       obtain ⟨_, _, _⟩ := hQ.cells
       obtain ⟨_, _⟩ := (HXC1.out.on hb4).cells
       have t0 : v4.cell? ⟨tb, tz, none⟩ = some (.int .i64 0) := (hb4.cell (p := ⟨tb, tz, none⟩) htb).trans tc1
       clear hb4 hQ)
    | (go_at_call 19; (with_reducible refine (CL.out _ HB4.out).mono ?_)
       rintro e v5 ⟨rfl, hb5⟩
       have HB5 := Lib.hid (below_on HB4.out hb5)
       clear hb5)
    | fail)
  go_ret
  exact ⟨rfl, HG11.out.bel.trans (HB5.out.mono HG11.out.bel.size)⟩
end Go.Proofs.YtokgpdceckaddaaGreatDoor
