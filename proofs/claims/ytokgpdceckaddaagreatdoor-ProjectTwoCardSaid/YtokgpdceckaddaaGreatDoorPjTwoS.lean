/- Two roles: what All answers of such a protocol; the row of two local types, in memory. -/
import Derived.Test.YtokgpdceckaddaaGreatDoorPjAlls
import Derived.Test.YtokgpdceckaddaaGreatDoorPjTwoQ
import Derived.Test.YtokgpdceckaddaaGreatDoorPjMades
import Derived.Test.YtokgpdceckaddaaGreatDoorPjFirsts
import Derived.Test.YtokgpdceckaddaaGreatDoorPjSpecs
import Derived.Test.YtokgpdceckaddaaGreatDoorTuOwnRW
import Derived.Deep.RegionHeld3
import Derived.Deep.CutRange
import Derived.Deep.DeepCutAuto
import Derived.Test.YtokgpdceckaddaaGreatDoorTuSeat
import Derived.Test.YtokgpdceckaddaaGreatDoorCards
import Derived.Test.YtokgpdceckaddaaGreatDoorTie
import Derived.SevenTiedAt
import Derived.LaidOnce
import Derived.Lay
import Derived.ChangeOld
import Derived.ShutString
namespace Go.Proofs.YtokgpdceckaddaaGreatDoor
open Go.RowKit

theorem rol_ne : (rolS 0).toList ≠ (rolS 1).toList := by rw [rolS_list, rolS_list]; decide
theorem allQ_two {ps : List PointL} {ts us : List TurnL} (hp : protB [112] (rolesL 2) ps = true) (h0 : roleP ps (rolS 0).toList = .ok ts) (h1 : roleP ps (rolS 1).toList = .ok us) :
    allQ [112] (rolesL 2) ps = ([([112] ++ 46 :: (rolS 0).toList, ts), ([112] ++ 46 :: (rolS 1).toList, us)], 0, 0) := by
  unfold allQ
  rw [hp, if_pos rfl, show rolesL 2 = [(rolS 0).toList, (rolS 1).toList] by rw [rolS_list, rolS_list]; rfl]
  simp only [allF, h0, h1, List.nil_append, List.cons_append]
/-- Two local types in a row. -/
structure Two9 (W : World) (b off : Nat) (x0 : ByteArray) (a0 : Option Addr) (n c0 : Nat) (x1 : ByteArray) (a1 : Option Addr) (c1 : Nat) (ts us : List TurnL) : Prop where
  lt : b < W.heap.size
  cells : W.cell? ⟨b, off, none⟩ = some (.string x0) ∧ W.cell? ⟨b, off + 1, none⟩ = some (.slice a0 n c0) ∧ W.cell? ⟨b, off + 2, none⟩ = some (.string x1) ∧ W.cell? ⟨b, off + 2 + 1, none⟩ = some (.slice a1 n c1)
  one : Turns W W.heap.size a0 n ts
  two : Turns W W.heap.size a1 n us
theorem Two9.on {W W' : World} {b off : Nat} {x0 : ByteArray} {a0 : Option Addr} {n c0 : Nat} {x1 : ByteArray} {a1 : Option Addr} {c1 : Nat} {ts us : List TurnL} (h : Two9 W b off x0 a0 n c0 x1 a1 c1 ts us) (hb : Below W.heap.size W W') : Two9 W' b off x0 a0 n c0 x1 a1 c1 ts us :=
  ⟨by have := h.lt; have := hb.size; omega, ⟨(hb.cell (p := ⟨b, _, none⟩) h.lt).trans h.cells.1, (hb.cell (p := ⟨b, _, none⟩) h.lt).trans h.cells.2.1, (hb.cell (p := ⟨b, _, none⟩) h.lt).trans h.cells.2.2.1, (hb.cell (p := ⟨b, _, none⟩) h.lt).trans h.cells.2.2.2⟩, h.one.on hb, h.two.on hb⟩
def TwoAns (w : World) (ts us : List TurnL) (e : Ending) (w' : World) : Prop :=
  ∃ (b off lc : Nat) (x0 : ByteArray) (a0 : Option Addr) (n c0 : Nat) (x1 : ByteArray) (a1 : Option Addr) (c1 : Nat), e = .returned (.tuple #[.slice (some ⟨b, off, none⟩) 2 lc, .int .i64 0, .int .i64 0]) ∧ Two9 w' b off x0 a0 n c0 x1 a1 c1 ts us ∧ Below w.heap.size w w'
theorem allTwo_any {ra : Option Addr} {rc : Nat} {sa : Option Addr} {sn sc : Nat} {ps : List PointL} {w : World} (hP : PIn w ⟨#[112]⟩ ra 2 (rolesL 2) sa sn ps) {ts us : List TurnL} (hp : protB [112] (rolesL 2) ps = true) (h0 : roleP ps (rolS 0).toList = .ok ts) (h1 : roleP ps (rolS 1).toList = .ok us) (hl : us.length = ts.length) :
    Calls Tryz.prog 24 #[.agg #[.string ⟨#[112]⟩, .slice ra 2 rc, .slice sa sn sc]] w fun e w' => TwoAns w ts us e w' :=
  (all_any ⟨#[112]⟩ ra 2 rc (rolesL 2) sa sn sc ps w hP).mono fun e w' k => by
    rw [prot_one, allQ_two hp h0 h1] at k
    obtain ⟨⟨la, ln, lc, k1, k2⟩, k3⟩ := k
    have hln : ln = 2 := k2.1.symm
    subst hln
    obtain ⟨b, off, x0, a0, n0, c0, t0, e0, hb, f0, ⟨q0, q1⟩, _, h5⟩ := k2.at_ (k := 0) (by omega)
    obtain ⟨b', off', x1, a1, n1, c1, t1, e1, _, f1, ⟨q2, q3⟩, _, h6⟩ := k2.at_ (k := 1) (by omega)
    subst e0
    obtain ⟨e2, e3, _⟩ := Addr.mk.inj (Option.some.inj e1)
    subst e2 e3
    have g0 : ts = t0 := (Prod.mk.inj (Option.some.inj f0)).2
    have g1 : us = t1 := (Prod.mk.inj (Option.some.inj f1)).2
    subst g0 g1
    have hn : n1 = n0 := by rw [← h6.1, ← h5.1, hl]
    subst hn
    exact ⟨b, off, lc, x0, a0, n1, c0, x1, a1, c1, k1, ⟨hb, ⟨by simpa using q0, by simpa using q1, by simpa using q2, by simpa using q3⟩, h5, h6⟩, k3⟩
end Go.Proofs.YtokgpdceckaddaaGreatDoor

/- Law: ProjectTwo. (The first rows printed by gen/gen8.py.) -/
namespace Go.Proofs.YtokgpdceckaddaaGreatDoor
open Go.RowKit

theorem tur_two (w : World) (k k' : Int) (s s' : ByteArray) (a a' : Option Addr) (n c n' c' : Nat) : 
    let W := ((w.alloc (.cells #[.int .i64 k, .string s, .slice a n c] 41)).alloc (.cells #[.int .i64 k', .string s', .slice a' n' c'] 41)).drew
    (W.cell? ⟨w.heap.size, 0, none⟩ = some (.int .i64 k) ∧ W.cell? ⟨w.heap.size, 2, none⟩ = some (.slice a n c)) ∧ (W.cell? ⟨w.heap.size + 1, 0, none⟩ = some (.int .i64 k') ∧ W.cell? ⟨w.heap.size + 1, 2, none⟩ = some (.slice a' n' c')) ∧ w.heap.size < W.heap.size ∧ w.heap.size + 1 < W.heap.size ∧ Below w.heap.size w W := by
  intro W
  have h1 : W.heap[w.heap.size]? = some (.cells #[.int .i64 k, .string s, .slice a n c] 41 (0, 0)) :=
    ((tu1 (w.alloc (.cells #[.int .i64 k, .string s, .slice a n c] 41)) (.cells #[.int .i64 k', .string s', .slice a' n' c'] 41)).block w.heap.size (by simp)).trans (heap_alloc_new w _)
  have h2 : W.heap[w.heap.size + 1]? = some (.cells #[.int .i64 k', .string s', .slice a' n' c'] 41 (0, 0)) := by
    have := heap_alloc_new (w.alloc (.cells #[.int .i64 k, .string s, .slice a n c] 41)) (.cells #[.int .i64 k', .string s', .slice a' n' c'] 41)
    rw [World.size_alloc] at this
    exact this
  have hb : Below w.heap.size w W := bel_drewN (below_on (tu1 w _) (tu1 _ _)) 1
  exact ⟨⟨by rw [cell_of_row _ _ _ _ _ _ h1]; rfl, by rw [cell_of_row _ _ _ _ _ _ h1]; rfl⟩, ⟨by rw [cell_of_row _ _ _ _ _ _ h2]; rfl, by rw [cell_of_row _ _ _ _ _ _ h2]; rfl⟩, (Array.getElem?_eq_some_iff.1 h1).1, (Array.getElem?_eq_some_iff.1 h2).1, hb⟩
theorem bel_drew8 {B : Nat} {w W : World} (h : Below B w W) : Below B w W.drew := bel_drewN h 1
theorem strs_one_at8 (w : World) (g : Nat) (s : ByteArray) (hg : g = w.heap.size) (hs : s.size ≤ maxLen) : Strs (w.alloc (.cells #[.string s] 9)) (w.heap.size + 1) (some ⟨g, 0, none⟩) 1 [s.toList] := by
  subst hg
  exact strs_one w s hs
theorem lab_small8 (m : Nat) : (labB m).size ≤ maxLen := by simp [labB, maxLen, ByteArray.size]
theorem lab_at8 (w : World) (m : Nat) (hm : m < 4) : (w.alloc (.cells #[.string ⟨#[119]⟩, .string ⟨#[120]⟩, .string ⟨#[121]⟩, .string ⟨#[122]⟩] 9)).cell? ⟨w.heap.size, m, none⟩ = some (.string (labB m)) := by
  have := labObj_at w m
  rw [Nat.mod_eq_of_lt hm] at this
  exact this
theorem GIn.walkP8 {w0 W : World} {g many : Nat} {ra : Option Addr} {rc : Nat} {sa : Option Addr} {sn sc : Nat} {ps : List PointL} (h : GIn w0 W g many ra rc sa sn sc ps) (hm : GMade many sn ps) {va : Option Addr} {vn : Nat} (vc : Nat) {ls : List Str} (hs : Strs W W.heap.size va vn ls) :
    Calls Tryz.prog 31 #[.agg #[.string ⟨#[112]⟩, .slice ra many rc, .slice sa sn sc], .slice va vn vc] W fun e w' => e = .returned (walkV (walkT (ps.map asT) 0 ls)) ∧ Below W.heap.size W w' := by
  have := PIn.walk (rc := rc) (c := sc) h.pin vc hs
  unfold walkQ at this
  rw [prot_one, hm.ok, if_pos rfl] at this
  exact this
theorem walkT_any8 {W : World} {x : ByteArray} {a : Option Addr} {n c : Nat} {ts : List TurnL} (h : Turns W W.heap.size a n ts) (hv : locB ts = true) {va : Option Addr} {vn : Nat} (vc : Nat) {ls : List Str} (hs : Strs W W.heap.size va vn ls) :
    Calls Tryz.prog 21 #[.agg #[.string x, .slice a n c], .slice va vn vc] W fun e w' => e = .returned (walkV (walkT ts 0 ls)) ∧ Below W.heap.size W w' := by
  have := ownWalk_any x a n c ts va vn vc ls W _ (Nat.le_refl _) h hs
  unfold walkL at this
  rw [hv, if_pos rfl] at this
  exact this
set_option maxHeartbeats 16000000 in
set_option maxRecDepth 20000 in
theorem projectTwo_walk (a : Option Addr) (n c : Nat) (l : List Int) (a' : Option Addr) (n' c' : Nat) (l' : List Int) (w : World) (h : Nums w w.heap.size a n l) (hlim : n * 8 ≤ 140737488351232) (h' : Nums w w.heap.size a' n' l') (_hlim' : n' * 8 ≤ 140737488351232) :
    Calls Tryz.prog 8 #[.slice a n c, .slice a' n' c'] w fun e w' => e = .returned (.bool true) ∧ Below w.heap.size w w' := by
  have HN := Lib.hid h
  have HN' := Lib.hid h'
  have HF := Lib.hid (first8_any w)
  have hn0 := h.1
  have HLN := Lib.hid hn0
  clear h h' hn0
  go_enter Tryz.func8, Tryz.ntmps8
  go_upto_region 4 with (first
    | (go_at_call 11; (with_reducible refine HF.out.mono ?_)
       rintro e w1 ⟨rfl, hb1⟩
       have HB1 := Lib.hid hb1
       clear hb1)
    | (go_at_call 13; (with_reducible refine (given8_any _).mono ?_)
       rintro e w2 ⟨xa, xb, rfl, _, hb2⟩
       have HB2 := Lib.hid (below_on HB1.out hb2)
       clear hb2)
    | (at_builtin
       refine wpList_append_plus rfl (.tmp 23) (.tmp 24) rfl w2.heap.size w.heap.size (.slice (some ⟨w2.heap.size, 0, none⟩) 1 1) a n c [0] l rfl rfl (IInts.one (W := w2) (cs := #[.int .i64 0]) (base := w2.heap.size) (g := w2.heap.size) 0 rfl rfl (Nat.le_refl _)) ((HN.out.below HB2.out).alloc HB2.out.size _) (by show (1 + n) * 8 ≤ _; omega) (by simp) ?_
       intro v3 w3 hown hgr
       obtain ⟨pa, pc, hv, _, _, _, hnu⟩ := hown.sees
       obtain ⟨pn, hpn⟩ : ∃ pn, pn = ([0] ++ l : List Int).length := ⟨_, rfl⟩
       rw [← hpn] at hv hnu
       subst hv
       have hpl : pn * 8 ≤ 140737488355328 := by rw [hpn, List.length_append, HLN.out]; show (1 + n) * 8 ≤ _; omega
       clear hpn
       have HNU := Lib.hid (show Nums w3 w3.heap.size pa pn (0 :: l) from hnu)
       have HB3 := Lib.hid ((HB2.out.alloc HB2.out.size (.cells #[.int .i64 0] 3)).grown hgr (by have := HB2.out.size; simp; omega) (fun j e => by cases e; exact HB2.out.size))
       clear hown hgr hnu)
    | (go_at_call 12; (with_reducible refine (law8zero_any xa xb pa pn pc l w3 HNU.out hpl).mono ?_)
       rintro e w4 ⟨⟨many, hmany, ra, rc, sa, sn, sc, ps, rfl, hm, hr, hl, hok, h2, h9⟩, hb4⟩
       have HB4 := Lib.hid (below_on HB3.out hb4)
       have hm2 : 2 ≤ many := by omega
       have hm4 : many ≤ 4 := by omega
       obtain ⟨hpin, hmade⟩ := made_in hm2 hm4 hm hr hl hok h2 h9
       have HPI := Lib.hid hpin
       have HMD := Lib.hid hmade
       have HMANY := Lib.hid hmany
       clear hm hr hl hok h2 h9 hb4 hpin hmade hmany)
    | fail)
  have HG5 := Lib.hid (GIn.begin (rc := rc) (sc := sc) HB4.out HPI.out)
  generalize hg5 : w4.heap.size = g5 at HG5 ⊢
  generalize hw5 : w4.alloc (.cells #[.string ⟨#[112]⟩, .slice ra many rc, .slice sa sn sc] 27) = w5 at HG5 ⊢
  clear hg5 hw5 HPI HB4 HB3 HNU HB2 HB1 HF HN hpl
  obtain ⟨pc0, pc1, pc2⟩ := HG5.out.box.cells
  have hmany : many = 2 := HMANY.out
  subst hmany
  clear HMANY
  have z2 : (0 : Nat) < 2 := by omega
  have o2 : (1 : Nat) < 2 := by omega
  obtain ⟨ts, hts⟩ := duo_role HMD.out.ok (hasS_made z2) (two_in HMD.out.ok z2)
  obtain ⟨us, hus, hfc⟩ := duo_role2 HMD.out.ok (hasS_made z2) (hasS_made o2) (two_in HMD.out.ok z2) (two_in HMD.out.ok o2) rol_ne hts
  obtain ⟨ns, hro⟩ := roleP_spec hts
  obtain ⟨ms, hro'⟩ := roleP_spec hus
  have HRND := Lib.hid (fun ws => duo_round HMD.out.ok (hasS_made z2) (two_in HMD.out.ok z2) hro hfc ws)
  have HV0 := Lib.hid (role_valid HMD.out.ok (hasS_made z2) hro)
  have HV1 := Lib.hid (role_valid HMD.out.ok (hasS_made o2) hro')
  have CA := Lib.hid (allTwo_any (rc := rc) (sc := sc) HG5.out.pin HMD.out.ok hts hus hfc.1)
  clear hts hus hfc hro hro' z2 o2
  go_upto_region 5 with (first
    | (go_at_call 24; (with_reducible refine CA.out.mono ?_)
       rintro e w6 ⟨b, off, lc, x0, a0, nt, c0, x1, a1, c1, rfl, h2, hb6⟩
       have HT6 := Lib.hid h2
       have HG6 := Lib.hid (HG5.out.on hb6)
       clear h2 hb6)
    | fail)
  clear pc0 pc1 pc2 HG5 CA
  obtain ⟨t0, t1, t2, t3⟩ := HT6.out.cells
  have nn : ((nt : Int) != (nt : Int)) = false := by simp
  go_quiet (fail)
  go_upto_region 7 with fail
  have hbq := bel_drewN (Below.refl w6.heap.size w6) nq
  have HG7 := Lib.hid (HG6.out.on hbq)
  have HT7 := Lib.hid (HT6.out.on hbq)
  generalize hw7 : w6.drewN nq = w7 at HG7 HT7 ⊢
  clear hw7 hbq t0 t1 t2 t3 HG6 HT6
  have CW0 := Lib.hid (fun (v : Value) (k : Nat) (ws : List Str) (W : World) (hk : k ≤ 20) (hw : W.ownsRow w7.heap.size 9 1 v k (ws.map encStr)) (hm : ∀ s ∈ ws, s.length ≤ maxLen) (hW : Below w7.heap.size w7 W) => show Calls Tryz.prog 21 #[.agg #[.string x0, .slice a0 nt c0], v] W fun e w' => e = .returned (walkV (walkT ts 0 ws)) ∧ Below W.heap.size W w' from by
    obtain ⟨oa, oc, rfl, hss, _, _⟩ := Strs.of_own hw (by omega) hm
    exact walkT_any8 (HT7.out.on hW).one HV0.out oc hss)
  have CW1 := Lib.hid (fun (v : Value) (k : Nat) (ws : List Str) (W : World) (hk : k ≤ 20) (hw : W.ownsRow w7.heap.size 9 1 v k (ws.map encStr)) (hm : ∀ s ∈ ws, s.length ≤ maxLen) (hW : Below w7.heap.size w7 W) => show Calls Tryz.prog 21 #[.agg #[.string x1, .slice a1 nt c1], v] W fun e w' => e = .returned (walkV (walkT us 0 ws)) ∧ Below W.heap.size W w' from by
    obtain ⟨oa, oc, rfl, hss, _, _⟩ := Strs.of_own hw (by omega) hm
    exact walkT_any8 (HT7.out.on hW).two HV1.out oc hss)
  have CWG := Lib.hid (fun (v : Value) (k : Nat) (ws : List Str) (W : World) (hk : k ≤ 20) (hw : W.ownsRow w7.heap.size 9 1 v k (ws.map encStr)) (hm : ∀ s ∈ ws, s.length ≤ maxLen) (hW : Below w7.heap.size w7 W) => show Calls Tryz.prog 31 #[.agg #[.string ⟨#[112]⟩, .slice ra 2 rc, .slice sa sn sc], v] W fun e w' => e = .returned (walkV (walkT (ps.map asT) 0 ws)) ∧ Below W.heap.size W w' from by
    obtain ⟨oa, oc, rfl, hss, _, _⟩ := Strs.of_own hw (by omega) hm
    exact (HG7.out.on hW).walkP8 HMD.out oc hss)
  go_wp2_with fail
  go_loopw [9, 10] (fun sl i wr => ∃ (k j : Nat) (v : Value) (ws : List Str), k ≤ 20 ∧ j ≤ k ∧ k ≤ n' + 1 ∧ i = .int .i64 k ∧ v = sl ∧ Hid (wr.ownsRow w7.heap.size 9 1 v j (ws.map encStr)) ∧ Hid (∀ s ∈ ws, s.length ≤ maxLen) ∧ Hid (Below w7.heap.size w7 wr)) (fun _ i _ => n' + 1 - (intOf i).toNat)
  case atStart => exact ⟨0, 0, _, [], Nat.zero_le _, Nat.zero_le _, Nat.zero_le _, rfl, rfl, Lib.hid (World.ownsRow_nil _ _ _ _), Lib.hid (fun s hs => by cases hs), Lib.hid (Below.refl _ _)⟩
  case round =>
    obtain ⟨k, j, v, ws, hk20, hjk, hk, rfl, hvo, HO, HM, HBr⟩ := hrel
    subst hvo
    have hzr := HBr.out.size
    have hz7 := HG7.out.bel.size
    by_cases hk1 : k ≤ n'
    · by_cases hk2 : k < 20
      · have i1 : (k : Int) ≤ (n' : Int) := by omega
        have i2 : (0 : Int) ≤ (k : Int) := by omega
        have i3 : (k : Int) < 20 := by omega
        have D0 := CW0.out v j ws wr (by omega) HO.out HM.out HBr.out
        have D1 := fun (W : World) (hB : Below w7.heap.size w7 W) (hO : W.ownsRow w7.heap.size 9 1 v j (ws.map encStr)) => CW1.out v j ws W (by omega) hO HM.out hB
        have D2 := fun (W : World) (hB : Below w7.heap.size w7 W) (hO : W.ownsRow w7.heap.size 9 1 v j (ws.map encStr)) => CWG.out v j ws W (by omega) hO HM.out hB
        obtain ⟨t0, t1, t2, t3⟩ := (HT7.out.on HBr.out).cells
        rcases HRND.out ws with ⟨e1, e2, e3⟩ | ⟨q, u, tt, xx, e1, e2, e3, hq, ht, hx, hf, h0⟩
        · rw [e2] at D0
          rw [e3] at D1
          rw [e1] at D2
          dsimp only [walkV] at D0 D1 D2
          have D0 := Lib.hid D0
          have D1 := Lib.hid D1
          have D2 := Lib.hid D2
          clear e1 e2 e3
          go_wp2_with (first
            | (go_at_call 21; (with_reducible refine D0.out.mono ?_)
               rintro e v1 ⟨rfl, hb1⟩
               have HO1 := Lib.hid (ownsRow_on HO.out hb1 (Nat.le_refl _))
               have HB1 := Lib.hid (below_on HBr.out hb1)
               obtain ⟨t0, t1, t2, t3⟩ := (HT7.out.on HB1.out).cells
               clear hb1)
            | (go_at_call 21; (with_reducible refine (D1.out _ HB1.out HO1.out).mono ?_)
               rintro e v2 ⟨rfl, hb2⟩
               have HO2 := Lib.hid (ownsRow_on HO1.out hb2 (Nat.le_refl _))
               have HB2 := Lib.hid (below_on HB1.out hb2)
               obtain ⟨pc0, pc1, pc2⟩ := (HG7.out.on HB2.out).box.cells
               clear hb2)
            | (go_at_call 31; (with_reducible refine (D2.out _ HB2.out HO2.out).mono ?_)
               rintro e v3 ⟨rfl, hb3⟩
               have HB3 := Lib.hid (below_on HB2.out hb3)
               clear hb3)
            | fail)
          go_ret
          exact ⟨rfl, HG7.out.bel.trans (HB3.out.mono hz7)⟩
        · rw [e2] at D0
          rw [e3] at D1
          rw [e1] at D2
          dsimp only [walkV] at D0 D1 D2
          have D0 := Lib.hid D0
          have D1 := Lib.hid D1
          have D2 := Lib.hid D2
          have HQ := Lib.hid (And.intro hq (And.intro ht (And.intro hx (And.intro hf h0))))
          clear e1 e2 e3 hq ht hx hf h0
          go_upto_region 18 with (first
            | (go_at_call 21; (with_reducible refine D0.out.mono ?_)
               rintro e v1 ⟨rfl, hb1⟩
               have HO1 := Lib.hid (ownsRow_on HO.out hb1 (Nat.le_refl _))
               have HB1 := Lib.hid (below_on HBr.out hb1)
               obtain ⟨t0, t1, t2, t3⟩ := (HT7.out.on HB1.out).cells
               clear hb1)
            | (go_at_call 21; (with_reducible refine (D1.out _ HB1.out HO1.out).mono ?_)
               rintro e v2 ⟨rfl, hb2⟩
               have HO2 := Lib.hid (ownsRow_on HO1.out hb2 (Nat.le_refl _))
               have HB2 := Lib.hid (below_on HB1.out hb2)
               obtain ⟨pc0, pc1, pc2⟩ := (HG7.out.on HB2.out).box.cells
               clear hb2)
            | (go_at_call 31; (with_reducible refine (D2.out _ HB2.out HO2.out).mono ?_)
               rintro e v3 ⟨rfl, hb3⟩
               have HO3 := Lib.hid (ownsRow_on HO2.out hb3 (Nat.le_refl _))
               have HB3 := Lib.hid (below_on HB2.out hb3)
               clear hb3)
            | fail)
          clear t0 t1 t2 t3 pc0 pc1 pc2
          obtain ⟨hq, ht, hx, hf, h0⟩ := HQ.out
          have hT3 := HT7.out.on HB3.out
          have hu : u < nt := by
            have := (List.getElem?_eq_some_iff.1 ht).1
            rw [← hT3.one.1]
            exact this
          obtain ⟨tb, tz, kd, pe, ta, tn, tc, tl, ea0, htb, htx, ⟨xc0, xc1, xc2⟩, _, hta⟩ := hT3.one.at_ hu
          obtain ⟨ub, uz, ke, qe, va, vn, vc, vl, ea1, hub, hux, ⟨yc0, yc1, yc2⟩, _, hva⟩ := hT3.two.at_ hu
          subst ea0 ea1
          obtain rfl : tt = ⟨kd, pe.toList, tl⟩ := by rw [htx] at ht; exact (Option.some.inj ht).symm
          obtain rfl : xx = ⟨ke, qe.toList, vl⟩ := by rw [hux] at hx; exact (Option.some.inj hx).symm
          have hvl : vl = tl := hf.1
          subst hvl
          have hvn : vn = tn := by rw [← hva.1, ← hta.1]
          subst hvn
          have HK := Lib.hid (fun (W : World) (hW : Below v3.heap.size v3 W) => show (W.cell? ⟨b, off + 1, none⟩ = some (.slice (some ⟨tb, tz, none⟩) nt c0) ∧ W.cell? ⟨b, off + 2 + 1, none⟩ = some (.slice (some ⟨ub, uz, none⟩) nt c1)) ∧ (W.cell? ⟨tb, tz + u * 3, none⟩ = some (.int .i64 kd) ∧ W.cell? ⟨tb, tz + u * 3 + 1, none⟩ = some (.string pe) ∧ W.cell? ⟨tb, tz + u * 3 + 2, none⟩ = some (.slice ta vn tc)) ∧ W.cell? ⟨ub, uz + u * 3, none⟩ = some (.int .i64 ke) ∧ W.cell? ⟨ub, uz + u * 3 + 1, none⟩ = some (.string qe) ∧ W.cell? ⟨ub, uz + u * 3 + 2, none⟩ = some (.slice va vn vc) from by
            have hc := ((HT7.out.on HB3.out).on hW).cells
            exact ⟨⟨hc.2.1, hc.2.2.2⟩, ⟨(hW.cell (p := ⟨tb, tz + u * 3, none⟩) htb).trans xc0, (hW.cell (p := ⟨tb, tz + u * 3 + 1, none⟩) htb).trans xc1, (hW.cell (p := ⟨tb, tz + u * 3 + 2, none⟩) htb).trans xc2⟩, (hW.cell (p := ⟨ub, uz + u * 3, none⟩) hub).trans yc0, (hW.cell (p := ⟨ub, uz + u * 3 + 1, none⟩) hub).trans yc1, (hW.cell (p := ⟨ub, uz + u * 3 + 2, none⟩) hub).trans yc2⟩)
          have HF := Lib.hid (And.intro hf.2 (And.intro h0 (And.intro hq (And.intro hta hva))))
          have HD := Lib.hid (Below.refl v3.heap.size v3)
          have j1 : (u : Int) < (nt : Int) := by omega
          have j2 : (0 : Int) ≤ (u : Int) := by omega
          clear hq ht hx hf h0 hT3 htx hux hta hva xc0 xc1 xc2 yc0 yc1 yc2 HQ
          go_cut [17, 18] (fun s17 s18 wx => ∃ gx gy : Nat, s17 = .pointer (some ⟨gx, 0, none⟩) ∧ s18 = .pointer (some ⟨gy, 0, none⟩) ∧ Hid (wx.cell? ⟨gx, 0, none⟩ = some (.int .i64 kd) ∧ wx.cell? ⟨gx, 2, none⟩ = some (.slice ta vn tc)) ∧ Hid (wx.cell? ⟨gy, 0, none⟩ = some (.int .i64 ke) ∧ wx.cell? ⟨gy, 2, none⟩ = some (.slice va vn vc)) ∧ gx < wx.heap.size ∧ gy < wx.heap.size ∧ Hid (Below v3.heap.size v3 wx))
          case first =>
            go_region_held3 (fun W => (W.cell? ⟨b, off + 1, none⟩ = some (.slice (some ⟨tb, tz, none⟩) nt c0) ∧ W.cell? ⟨b, off + 2 + 1, none⟩ = some (.slice (some ⟨ub, uz, none⟩) nt c1)) ∧ (W.cell? ⟨tb, tz + u * 3, none⟩ = some (.int .i64 kd) ∧ W.cell? ⟨tb, tz + u * 3 + 1, none⟩ = some (.string pe) ∧ W.cell? ⟨tb, tz + u * 3 + 2, none⟩ = some (.slice ta vn tc)) ∧ W.cell? ⟨ub, uz + u * 3, none⟩ = some (.int .i64 ke) ∧ W.cell? ⟨ub, uz + u * 3 + 1, none⟩ = some (.string qe) ∧ W.cell? ⟨ub, uz + u * 3 + 2, none⟩ = some (.slice va vn vc))
              (first | exact HK.out _ HD.out | exact HK.out _ (bel_drew8 HD.out) | (refine HK.out _ ?_; ((repeat' (first | exact HD.out | with_reducible apply bel_drew8 | with_reducible apply Below.setCell | with_reducible apply Below.alloc)) <;> simp)))
              (fail)
            all_goals (go_wp2_with fail; go_meet)
            case rel =>
              have h := tur_two v3 kd ke pe qe ta va vn tc vn vc
              exact ⟨_, _, rfl, rfl, Lib.hid h.1, Lib.hid h.2.1, h.2.2.1, h.2.2.2.1, Lib.hid h.2.2.2.2⟩
            case rel =>
              have h := tur_two v3 ke kd qe pe va ta vn vc vn tc
              exact ⟨_, _, rfl, rfl, Lib.hid h.2.1, Lib.hid h.1, h.2.2.2.1, h.2.2.1, Lib.hid h.2.2.2.2⟩
          case rest =>
            obtain ⟨gx, gy, e17, e18, HXC, HYC, hgx, hgy, HBE⟩ := hcut
            subst e17 e18
            obtain ⟨we, hwe⟩ : ∃ we : World, we = wc := ⟨_, rfl⟩
            subst hwe
            have HBe := Lib.hid (below_on HB3.out HBE.out)
            have hze := HBE.out.size
            obtain ⟨pc0, pc1, pc2⟩ := (HG7.out.on HBe.out).box.cells
            have hqs : q < sn := by have := HMD.out.len; have := HF.out.2.2.1; omega
            obtain ⟨pb, po, qq, ss, aa, an, ac, al, rfl, hpb, hpx, ⟨_, _, p2⟩, _, _, hal⟩ := (HG7.out.on HBe.out).pin.pts.at_ hqs
            have hpo : pointOf ps q = ⟨qq.toList, ss.toList, al⟩ := by unfold pointOf; rw [hpx]; rfl
            have h0 := HF.out.2.1
            have hf := HF.out.1
            rw [hpo] at h0
            have h0 : kd = 0 ↔ al = [] := h0
            have hal1 := hal.1
            have j3 : (q : Int) < (sn : Int) := by omega
            have j4 : (0 : Int) ≤ (q : Int) := by omega
            have nn2 : ((vn : Int) != (vn : Int)) = false := by simp
            obtain ⟨x0, x2⟩ := HXC.out
            obtain ⟨y0, y2⟩ := HYC.out
            clear hpx hpo hal
            go_upto_region 19 with fail
            go_cut [150] (fun sx wx => sx = .bool false ∧ Hid (Below we.heap.size we wx))
            case first =>
              by_cases hk0 : kd = 0
              · have hke : ke = 0 := hf.1.1 hk0
                have han : an = 0 := by rw [← hal1, h0.1 hk0]; rfl
                subst hk0 hke han
                clear h0 hf hal1
                go_quiet (fail)
                go_wp2_with fail
                go_meet
                case rel => exact ⟨rfl, Lib.hid (bel_drewN (Below.refl _ _) _)⟩
              · have d1 : (kd == ke) = false := beq_eq_false_iff_ne.2 (hf.2 hk0)
                have d2 : (kd == 0) = false := beq_eq_false_iff_ne.2 hk0
                have d3 : (kd != 0) = true := by rw [bne, d2]; rfl
                have d4 : (ke == 0) = false := beq_eq_false_iff_ne.2 (fun e => hk0 (hf.1.2 e))
                have d5 : ((an : Int) == 0) = false := by
                  rw [beq_eq_false_iff_ne]
                  intro e
                  exact hk0 (h0.2 (List.eq_nil_of_length_eq_zero (by omega)))
                clear h0 hf hal1 hk0
                go_quiet (fail)
                go_wp2_with fail
                go_meet
                case rel => exact ⟨rfl, Lib.hid (bel_drewN (Below.refl _ _) _)⟩
            case rest =>
              obtain ⟨hs150, HBF⟩ := hcut
              subst hs150
              obtain ⟨wf, hwf⟩ : ∃ wf : World, wf = wc := ⟨_, rfl⟩
              subst hwf
              clear x0 x2 y0 y2 pc0 pc1 pc2 p2 h0 hf hal1 j3 j4 hqs
              have HAX := Lib.hid (HF.out.2.2.2.1.on (below_on HBE.out HBF.out))
              have HAY := Lib.hid (HF.out.2.2.2.2.on (below_on HBE.out HBF.out))
              have HLX := Lib.hid (fun (W : World) (hW : Below wf.heap.size wf W) => show W.cell? ⟨gx, 2, none⟩ = some (.slice ta vn tc) ∧ W.cell? ⟨gy, 2, none⟩ = some (.slice va vn vc) from
                ⟨((below_on HBF.out hW).cell (p := ⟨gx, 2, none⟩) hgx).trans HXC.out.2, ((below_on HBF.out hW).cell (p := ⟨gy, 2, none⟩) hgy).trans HYC.out.2⟩)
              have hzf := HBF.out.size
              obtain ⟨x2, y2⟩ := HLX.out wf (Below.refl _ _)
              go_wp2_with fail
              go_loopw [19] (fun i wx => ∃ m : Nat, m ≤ vn ∧ i = .int .i64 m ∧ Hid (Below wf.heap.size wf wx)) (fun i _ => vn - (intOf i).toNat)
              case atStart => exact ⟨0, Nat.zero_le _, rfl, Lib.hid (Below.refl _ _)⟩
              case round =>
                obtain ⟨m, hm, rfl, HBx⟩ := hrel
                obtain ⟨wx, hwx⟩ : ∃ wx : World, wx = wr := ⟨_, rfl⟩
                subst hwx
                obtain ⟨x2, y2⟩ := HLX.out _ HBx.out
                have hvn6 := HAX.out.2.1
                by_cases hmn : m < vn
                · have i1 : (m : Int) < (vn : Int) := by omega
                  have i2 : (0 : Int) ≤ (m : Int) := by omega
                  obtain ⟨lb, lo, sv, cu, ck, nx, ea, hlb, hx6, ⟨z0, z1, z2, _⟩, _, _⟩ := (HAX.out.on HBx.out).at_ hmn
                  obtain ⟨mb, mo, tv, du, dk, ox, eb, hmb, hy6, ⟨u0, u1, u2, _⟩, _, _⟩ := (HAY.out.on HBx.out).at_ hmn
                  subst ea eb
                  rw [hx6] at hy6
                  obtain ⟨q1, q2, q3, _⟩ := ArmL.mk.inj (Option.some.inj hy6)
                  obtain rfl := toList_inj q1
                  obtain rfl := toList_inj q3
                  subst q2
                  have m1 : (sv.toList == sv.toList) = true := by simp
                  have m2 : (sv.toList != sv.toList) = false := by simp
                  clear hx6 hy6 q1 q3
                  go_upto_region 24 with fail
                  go_quiet (fail)
                  go_wp2_with fail
                  go_roundw
                  case rel => exact ⟨m + 1, by omega, by go_num, Lib.hid (bel_drewN HBx.out _)⟩
                  case measure => simp [intOf]; omega
                · have d1 : decide ((m : Int) < (vn : Int)) = false := decide_eq_false (by omega)
                  have HB3x := Lib.hid (below_on HBE.out (below_on HBF.out HBx.out))
                  have HBW := Lib.hid (below_on HB3.out HB3x.out)
                  have HOx := Lib.hid (ownsRow_on HO3.out HB3x.out (Nat.le_refl _))
                  have hzx := HBW.out.size
                  go_upto_region 26 with fail
                  clear x2 y2
                  by_cases hkn : k < n'
                  · obtain ⟨kb, ko, x, rfl, hkb, _, hc⟩ := (HN'.out.below (HG7.out.bel.trans (HBW.out.mono hz7))).at_ hkn
                    obtain ⟨m4, hm4, hmod⟩ := mod_lt x 4 (by omega) (by omega)
                    have hmod : (IntKind.u64.wrap x).tmod 4 = (m4 : Int) := hmod
                    have d2 : decide ((k : Int) < (n' : Int)) = true := decide_eq_true (by omega)
                    have d3 : (k : Int) < (n' : Int) := by omega
                    have d4 : (m4 : Int) < 4 := by omega
                    have d5 : (0 : Int) ≤ (m4 : Int) := by omega
                    have hlab := lab_at8 wx m4 hm4
                    have HMM := Lib.hid (show ∀ s ∈ ws ++ [(labB m4).toList], s.length ≤ maxLen from fun s hs => by
                      rcases List.mem_append.1 hs with h | h
                      · exact HM.out s h
                      · obtain rfl := List.mem_singleton.1 h
                        rw [len_toList]
                        exact lab_small8 m4)
                    have HRE := Lib.hid (show Below w7.heap.size w7 ((wx.alloc (.cells #[.string ⟨#[119]⟩, .string ⟨#[120]⟩, .string ⟨#[121]⟩, .string ⟨#[122]⟩] 9)).alloc (.cells #[.string (labB m4)] 9)) from (HBW.out.alloc hzx _).alloc (by simp; omega) _)
                    have zb : kb < wx.heap.size := by omega
                    clear hm4 hkb
                    go_wp2_with (first
                      | (at_builtin
                         refine wpList_append_strs _ rfl (.tmp 190) (.tmp 200) _ rfl w7.heap.size 9 Tryz.underlying24 info9 _ j ws rfl ((HOx.out.alloc _).alloc _) _ _ 1 1 [(labB m4).toList] rfl (strs_one_at8 (wx.alloc (.cells #[.string ⟨#[119]⟩, .string ⟨#[120]⟩, .string ⟨#[121]⟩, .string ⟨#[122]⟩] 9)) _ (labB m4) (by simp) (lab_small8 m4)) (by omega) (by simp; omega) ?_
                         intro v4 w9 own4 gr4 at4
                         have HO4 := Lib.hid own4
                         have HB4 := Lib.hid (HRE.out.grown gr4 (by simp; omega) (fun j hj => (HOx.out.lt j hj).1))
                         clear own4 gr4 at4)
                      | fail)
                    go_roundw
                    case rel => exact ⟨k + 1, j + 1, _, ws ++ [(labB m4).toList], by omega, by omega, by omega, by go_num, rfl, HO4, HMM, HB4⟩
                    case measure => simp [intOf]; omega
                  · have d2 : decide ((k : Int) < (n' : Int)) = false := decide_eq_false (by omega)
                    go_wp2_with fail
                    go_roundw
                    case rel => exact ⟨k + 1, j, _, ws, by omega, by omega, by omega, by go_num, rfl, HOx, HM, HBW⟩
                    case measure => simp [intOf]; omega
      · have d1 : decide ((k : Int) < 20) = false := decide_eq_false (by omega)
        have i1 : (k : Int) ≤ (n' : Int) := by omega
        have HE := Lib.hid (HG7.out.bel.trans (HBr.out.mono hz7))
        clear hk2
        go_wp2_with fail
        go_ret
        exact ⟨rfl, HE.out⟩
    · have d1 : decide ((k : Int) ≤ (n' : Int)) = false := decide_eq_false (by omega)
      have HE := Lib.hid (HG7.out.bel.trans (HBr.out.mono hz7))
      go_wp2_with fail
      go_ret
      exact ⟨rfl, HE.out⟩
end Go.Proofs.YtokgpdceckaddaaGreatDoor

/- The statement ProjectTwo holds for every argument, with no condition; the listed tables are tied to the program's text. -/
namespace Go.Proofs.YtokgpdceckaddaaGreatDoor.projectTwo
open Go Go.ChangeShapes Go.WideShapes Go.ChangeAt Go.RowKit
open Go.ChangeMaps (open_string shut_string)

theorem door_met (os : Os) (args : Array Value) : laidMetH Tryz.prog Rows.projectTwoRow.laid ((World.laidAll Tryz.prog os Rows.projectTwoRow.laid).forCall (fun _ _ => 0) ⟨#[], args, []⟩).memory := by
  rw [MakeChecks.laidMetH_plain _ _ _ (by kernel_rfl)]
  exact laidMet_laidAll _ (by kernel_rfl) (by kernel_rfl)
set_option maxRecDepth 100000 in
theorem lifted (os : Os) (started : os.Started) (H : Type) (enc : TypeId × Value → H) :
    ReturnsInHanded {} Tryz.checked os 8 .any (fun w args => (Rows.projectTwoSpec.pre enc Tryz.prog Tryz.f8 [] false w args ∧ laidMetH Tryz.prog Rows.projectTwoRow.laid w) ∧ sizedMet enc Tryz.prog Tryz.f8 (OpenSpec.ofChange Rows.projectTwoSpec) false w args)
      (Rows.projectTwoSpec.post enc Tryz.prog Tryz.f8 false true false false) := by
  refine returnsInHanded_of_change_and (C := Tryz.checked) (X := fun w _ => laidMetH Tryz.prog Rows.projectTwoRow.laid w) (fun _ _ _ hh h => h.of_heap hh) seatOwn started (by kernel_rfl) Tryz.func8
    (ChangeSpec.witness_shaped (enc := enc) (C := Tryz.checked) (os := os) (X := fun w _ => laidMetH Tryz.prog Rows.projectTwoRow.laid w) false (World.laidAll Tryz.prog os Rows.projectTwoRow.laid) #[.slice none 0 0, .slice none 0 0] 8 (World.laidAll_os _ _ _)
      (World.shaped_of_ZipB (by kernel_rfl) (by kernel_rfl)) (by kernel_rfl) (by kernel_rfl) (by kernel_rfl) (door_met os _)) ?_
  intro W base args ds gs before hval0 hW _ hsz0 hX0 _
  have hval : ∀ (j : Nat) t v, Tryz.f8.params[j]? = some t → args[j]? = some v → Value.okWide Tryz.prog W .any base t v := hval0
  have hsz : (DataW.weightsEach Tryz.prog (Tryz.f8.params.toList ++ Rows.projectTwoSpec.plain.varTypes Tryz.prog) (ds ++ gs)).all (· ≤ reachBytes) = true := hsz0
  have hW' := hW
  obtain ⟨p, q, hA0, hV, rfl, hfz, hnd⟩ := hW
  have hA : DataW.TrodAll enc Tryz.prog W 0 (fun _ => true) true Tryz.f8.params.toList args.toList ds p := hA0
  rw [Tryz.params8] at hA hval hsz
  obtain ⟨v0, vs0, d0, ds0, p0, q0, hargs, rfl, rfl, h0, r0⟩ := trodAll_cons hA
  obtain ⟨v1, vs1, d1, ds1, p1, q1, rfl, rfl, rfl, h1, r1⟩ := trodAll_cons r0
  obtain ⟨rfl, rfl, rfl⟩ := trodAll_nil r1
  obtain rfl : args = #[v0, v1] := by cases args; simp_all
  obtain ⟨rfl, rfl⟩ := trodVars_none hV
  have k0 := h0
  have lt0 := args_below k0
  obtain ⟨fu0, hf0⟩ := h0
  obtain ⟨ia0, ilen0, icap0, rfl⟩ := okWide_slice Tryz.underlying22 (hval 0 22 v0 rfl rfl)
  obtain ⟨a0, n0, c0, l0, hv0, hn0, hi0, hc0, hm0, hz0⟩ := open_ints hf0 (fun elems spare e => by
    have := sized_slice hsz (j := 0) (t := 22) (e := 3) rfl (congrArg some e) Tryz.underlying22
    rwa [seatBytes2] at this)
  obtain ⟨ea0, en0, ec0⟩ := Value.slice.inj hv0
  subst ea0 en0 ec0
  have k1 := h1
  have lt1 := args_below k1
  obtain ⟨fu1, hf1⟩ := h1
  obtain ⟨ia1, ilen1, icap1, rfl⟩ := okWide_slice Tryz.underlying22 (hval 1 22 v1 rfl rfl)
  obtain ⟨a1, n1, c1, l1, hv1, hn1, hi1, hc1, hm1, hz1⟩ := open_ints hf1 (fun elems spare e => by
    have := sized_slice hsz (j := 1) (t := 22) (e := 3) rfl (congrArg some e) Tryz.underlying22
    rwa [seatBytes2] at this)
  obtain ⟨ea1, en1, ec1⟩ := Value.slice.inj hv1
  subst ea1 en1 ec1
  clear hA0 hval0 hsz0
  refine (projectTwo_walk ia0 ilen0 icap0 l0 ia1 ilen1 icap1 l1 W hn0 hz0 hn1 hz1 ).mono fun e W' ⟨he, bel⟩ => ?_
  subst he
  exact ⟨_, rfl, _, _, _, [], _, [], hW', trodAll_mk1 (shut_bool Tryz.underlying4 _), (trodAll_cons_mk (Below.trod seatLaidOut (by kernel_rfl) (of_decide_eq_true (by kernel_rfl)) k0 bel lt0) (trodAll_cons_mk (Below.trod seatLaidOut (by kernel_rfl) (of_decide_eq_true (by kernel_rfl)) k1 bel lt1) trodAll_mk0)), rfl, bel.frame _, fun h => by cases h⟩

theorem over : Rows.ProjectTwoSaid :=
  OpenClaim.holds_of_wide 8 Tryz.f8 rfl rfl rfl rfl rfl rfl rfl ⟨rfl, rfl, rfl, rfl, rfl⟩ rfl rfl rfl rfl rfl (by kernel_rfl) Tryz.func8 (by kernel_rfl)
    (of_decide_eq_true (by kernel_rfl)) (by unfold Func.isWrapper; first | (rw [if_pos (by decide +kernel)]; kernel_rfl) | (rw [if_neg (by decide +kernel)]; exact ⟨rfl, rfl⟩))
    (fun os started H enc _ => lifted os started H enc)

theorem proved : Rows.ProjectTwoCardSaid :=
  Claim7.holds_tied_plain_at .later [] [.data, .data, .data] true _ false
    over (fun _ h => by cases h) (by kernel_rfl) (fun _ h => by cases h) projectTwo_row_tie rfl ⟨rfl, rfl⟩ (by kernel_rfl) rfl
    (fun f fn hf hfn => by
      obtain rfl : f = 8 := Option.some.inj ((show Tryz.prog.funcNamed Rows.projectTwoRow.func = some 8 by kernel_rfl).symm.trans hf) |>.symm
      obtain rfl : fn = Tryz.f8 := (Option.some.inj (Tryz.func8.symm.trans hfn)).symm
      exact ⟨by kernel_rfl, fun j t ht => by
        rw [Tryz.params8] at ht
        have hm : t ∈ [22, 22] := by simpa using Array.mem_of_getElem? ht
        have hall : ([22, 22].all fun u => !Tryz.prog.wantsStandIn u) = true := by kernel_rfl
        exact (show Tryz.prog.wantsStandIn t = false by simpa using List.all_eq_true.1 hall t hm)⟩)
    (by kernel_rfl)
#print axioms proved
end Go.Proofs.YtokgpdceckaddaaGreatDoor.projectTwo
