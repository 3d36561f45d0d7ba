/- Plain: one label more on a walk; what a role's errors are. No program stands in this text. -/
import Derived.Test.YtokgpdceckaddaaGreatDoorPjSpecs
import Derived.Test.YtokgpdceckaddaaGreatDoorPjUs
import Derived.Test.YtokgpdceckaddaaGreatDoorPjLow
import Derived.Deep.CutRange
namespace Go.Proofs.YtokgpdceckaddaaGreatDoor
open Go.RowKit

theorem turnsP_err {ps : List PointL} {r : Str} : ∀ (fuel i : Nat) (out : List TurnL) (ns : List (List Nat)) (e : Int), turnsP ps r fuel i out ns = .error e → e ≠ 0
  | 0, i, out, ns, e, h => by
    unfold turnsP at h
    cases h
    decide
  | fuel + 1, i, out, ns, e, h => by
    unfold turnsP at h
    cases hn : ns[i]? with
    | none => rw [hn] at h; cases h
    | some near =>
      rw [hn] at h
      dsimp only at h
      cases hk : turnP ps r near ns with
      | error e2 =>
        rw [hk] at h
        cases h
        exact turnP_err hk
      | ok p =>
        obtain ⟨t, ns1⟩ := p
        rw [hk] at h
        exact turnsP_err fuel (i + 1) _ ns1 e h
theorem roleP_err {ps : List PointL} {r : Str} {e : Int} (h : roleP ps r = .error e) : e ≠ 0 := by
  unfold roleP at h
  cases hk : lookP ps r [] [0] with
  | error e2 =>
    rw [hk] at h
    cases h
    rcases lookP_err hk with rfl | rfl <;> decide
  | ok p =>
    obtain ⟨k, ns⟩ := p
    rw [hk] at h
    exact turnsP_err _ _ _ _ _ h
theorem walkT_snoc (ts : List TurnL) (s : Str) : ∀ (w : List Str) (p : Nat), walkT ts p (w ++ [s]) = match walkT ts p w with
    | none => none
    | some q => match findA (Go.Proofs.YtokgpdceckaddaaGreatDoor.armsOf ts q) s with
      | none => none
      | some a => some a.next.toNat
  | [], p => by
    show (match findA (Go.Proofs.YtokgpdceckaddaaGreatDoor.armsOf ts p) s with
      | none => none
      | some a => walkT ts a.next.toNat []) = match findA (Go.Proofs.YtokgpdceckaddaaGreatDoor.armsOf ts p) s with
      | none => none
      | some a => some a.next.toNat
    rfl
  | t :: w, p => by
    rw [List.cons_append, walkT, walkT]
    cases findA (Go.Proofs.YtokgpdceckaddaaGreatDoor.armsOf ts p) t with
    | none => rfl
    | some a => exact walkT_snoc ts s w _
section
variable {nm : Str} {rs : List Str} {ps : List PointL} (hp : protB nm rs ps = true)
include hp
theorem walkP_lt {w : List Str} {q : Nat} (h : walkP ps w = some q) : q < ps.length := reachP_lt (prot_loc hp) (walkP_in (prot_loc hp) h)
theorem walkP_snoc {w : List Str} {q : Nat} (h : walkP ps w = some q) {a : ArmL} (ha : a ∈ (pointOf ps q).arms) : walkP ps (w ++ [a.label]) = some a.next.toNat := by
  have hnd := (pt_next hp (walkP_lt hp h) ha).2.2
  unfold walkP at h ⊢
  rw [walkT_snoc, h]
  dsimp only
  rw [armsOf_asT, (findA_some hnd).2 ⟨ha, rfl⟩]
end
end Go.Proofs.YtokgpdceckaddaaGreatDoor

/- Contract of the statements' own: of a walk's labels those that a role says or hears. -/
namespace Go.Proofs.YtokgpdceckaddaaGreatDoor
open Go.RowKit

/-- Where the last arm of a label leads. -/
def toW (s : Str) (l : List ArmL) : Int := l.foldl (fun t a => if a.label == s then a.next else t) (-1)
theorem toW_more {s : Str} {l : List ArmL} {k : Nat} {x : ArmL} (h : l[k]? = some x) : toW s (l.take (k + 1)) = if x.label == s then x.next else toW s (l.take k) := by
  unfold toW
  rw [tuTake_at h, List.foldl_append]
  rfl
theorem toW_none {s : Str} : ∀ (l : List ArmL) (t : Int), s ∉ l.map ArmL.label → l.foldl (fun t a => if a.label == s then a.next else t) t = t
  | [], _, _ => rfl
  | b :: l, t, h => by
    rw [List.map_cons, List.mem_cons] at h
    rw [List.foldl_cons, if_neg (by rw [beq_iff_eq]; exact fun e => h (.inl e.symm)), toW_none l t (fun k => h (.inr k))]
theorem toW_find {s : Str} {a : ArmL} : ∀ (l : List ArmL) (t : Int), (l.map ArmL.label).Nodup → findA l s = some a → l.foldl (fun t a => if a.label == s then a.next else t) t = a.next
  | [], _, _, h => by cases h
  | b :: l, t, hn, h => by
    rw [List.map_cons, List.nodup_cons] at hn
    unfold findA at h
    rw [List.find?_cons] at h
    rw [List.foldl_cons]
    cases hb : b.label == s with
    | true =>
      rw [hb] at h
      obtain rfl := Option.some.inj h
      rw [if_pos rfl]
      refine toW_none l _ ?_
      rw [← beq_iff_eq.1 hb]
      exact hn.1
    | false =>
      rw [hb] at h
      rw [if_neg (by simp)]
      exact toW_find l t hn.2 h
theorem ownP_cons {ps : List PointL} {r : Str} {k : Nat} {s : Str} {w L : List Str} (h : ownP ps r k (s :: w) = some L) : ∃ a L3, findA (pointOf ps k).arms s = some a ∧ ownP ps r a.next.toNat w = some L3 ∧ L = if inP (pointOf ps k) r then s :: L3 else L3 := by
  rw [ownP] at h
  cases hf : findA (pointOf ps k).arms s with
  | none => rw [hf] at h; cases h
  | some a =>
    rw [hf] at h
    dsimp only at h
    obtain ⟨L3, h1, h2⟩ := Option.map_eq_some_iff.1 h
    exact ⟨a, L3, rfl, h1, h2.symm⟩
theorem ownP_few {ps : List PointL} {r : Str} : ∀ (w : List Str) (k : Nat) (L : List Str), ownP ps r k w = some L → L.length ≤ w.length ∧ ∀ s ∈ L, s ∈ w
  | [], k, L, h => by
    rw [ownP] at h
    obtain rfl := Option.some.inj h
    exact ⟨Nat.le_refl _, fun s hs => hs⟩
  | s :: w, k, L, h => by
    obtain ⟨a, L3, _, h2, h3⟩ := ownP_cons h
    obtain ⟨h4, h5⟩ := ownP_few w _ L3 h2
    split at h3
    · subst h3
      exact ⟨by simp; omega, fun t ht => by
        rcases List.mem_cons.1 ht with rfl | ht
        · simp
        · simp [h5 t ht]⟩
    · subst h3
      exact ⟨by simp; omega, fun t ht => by simp [h5 t ht]⟩
def OwnRet (w : World) (L : List Str) (e : Ending) (w' : World) : Prop := ∃ v, e = .returned (.tuple #[v, .bool true]) ∧ w'.ownsRow w.heap.size 9 1 v L.length (L.map encStr) ∧ Below w.heap.size w w'
set_option maxHeartbeats 16000000 in
set_option maxRecDepth 20000 in
theorem own8_any (nm : ByteArray) (ra : Option Addr) (rn rc : Nat) (rs : List Str) (a : Option Addr) (n c : Nat) (ps : List PointL) (r : ByteArray) (va : Option Addr) (vn vc : Nat) (ws L : List Str) (w : World) (hP : PIn w nm ra rn rs a n ps) (hv : protB nm.toList rs ps = true) (hs : Strs w w.heap.size va vn ws) (hvn : vn ≤ 1000) (hL : ownP ps r.toList 0 ws = some L) :
    Calls Tryz.prog 32 #[.agg #[.string nm, .slice ra rn rc, .slice a n c], .string r, .slice va vn vc] w fun e w' => OwnRet w L e w' := by
  obtain ⟨S, hS⟩ : ∃ S, S = w.heap.size := ⟨_, rfl⟩
  obtain ⟨w1, hw1⟩ : ∃ w1, w1 = w.alloc (.cells #[.string nm, .slice ra rn rc, .slice a n c] 27) := ⟨_, rfl⟩
  have HB1 := Lib.hid (show Below w.heap.size w w1 by rw [hw1]; exact tu1 w _)
  have HX1 := Lib.hid (show PBox w1 S nm ra rn rc a n c by rw [hw1, hS]; exact PBox.new w nm ra rn rc a n c)
  have hz1 : S + 1 ≤ w1.heap.size := by rw [hw1, hS]; simp
  have hz1' : w1.heap.size ≤ S + 1 := by rw [hw1, hS]; simp
  have hsw1 : S ≤ w.heap.size := Nat.le_of_eq hS
  have hsw2 : w.heap.size ≤ S := Nat.le_of_eq hS.symm
  have HP1 := Lib.hid (hP.on HB1.out)
  have HS1 := Lib.hid (hs.on HB1.out)
  have hvl := hs.len
  have hpl := hP.pts.1
  have HVL := Lib.hid hvl
  have HPL := Lib.hid hpl
  have HV := Lib.hid hv
  have HL := Lib.hid hL
  have HW1 := Lib.hid hw1
  have HZ := Lib.hid hS
  have h0 : 0 < n := by have := (protB_all hv).2.2.1; omega
  have hMX := Lib.hid hs.max
  have h24 : n ≤ 24 := by have := (protB_all hv).2.2.2.1; omega
  clear hP hs hv hL hw1 hS hvl hpl
  go_enter Tryz.func32, Tryz.ntmps32
  go_wp2_with fail
  rw [← HW1.out]
  rw [← HZ.out]
  go_loopw [8, 9, 10] (fun at_ o i wr => ∃ (k pk m : Nat) (v : Value) (L1 L2 : List Str), k ≤ vn ∧ pk < n ∧ m ≤ k ∧ at_ = .int .i64 pk ∧ v = o ∧ i = .int .i64 k ∧ Hid (ownP ps r.toList pk (ws.drop k) = some L2 ∧ L = L1 ++ L2 ∧ L1.length = m) ∧ Hid (wr.ownsRow w1.heap.size 9 1 v m (L1.map encStr)) ∧ Hid (Below w1.heap.size w1 wr)) (fun _ _ i _ => vn - (intOf i).toNat)
  case atStart => exact ⟨0, 0, 0, _, [], L, Nat.zero_le _, h0, Nat.zero_le _, rfl, rfl, rfl, Lib.hid ⟨HL.out, rfl, rfl⟩, Lib.hid (World.ownsRow_nil _ _ _ _), Lib.hid (Below.refl _ _)⟩
  case round =>
    obtain ⟨k, pk, m, v, L1, L2, hk, hpk, hmk, rfl, hvo, rfl, HST, HO, HBr⟩ := hrel
    subst hvo
    have hzr := HBr.out.size
    have HXr := Lib.hid (HX1.out.on HBr.out)
    have HPr := Lib.hid (HP1.out.on HBr.out)
    have HSr := Lib.hid (HS1.out.on HBr.out)
    obtain ⟨pc0, pc1, pc2⟩ := HXr.out.cells
    by_cases hlt : k < vn
    · obtain ⟨wb, wo, sv, rfl, hwb, hsv, hwc⟩ := HSr.out.part1 hlt
      have hdrop : ws.drop k = sv.toList :: ws.drop (k + 1) := by
        have hk2 : k < ws.length := by have := HVL.out; omega
        rw [List.drop_eq_getElem_cons hk2]
        rw [List.getElem?_eq_getElem hk2] at hsv
        rw [Option.some.inj hsv]
      obtain ⟨st1, st2, st3⟩ := HST.out
      rw [hdrop] at st1
      obtain ⟨ar, L3, hf, ho3, hL2⟩ := ownP_cons st1
      obtain ⟨b, off, q, s, aa, an, ac, al, rfl, hbb, hx, ⟨q0, q1, q2⟩, hq, hs, hal⟩ := HPr.out.pts.at_ hpk
      have hpo : pointOf ps pk = ⟨q.toList, s.toList, al⟩ := by unfold pointOf; rw [hx]; rfl
      have hpkl : pk < ps.length := by have := HPL.out; omega
      have harm : ar ∈ al := by
        rw [hpo] at hf
        unfold findA at hf
        exact List.mem_of_find?_eq_some hf
      have hnx := pt_next HV.out hpkl (a := ar) (by rw [hpo]; exact harm)
      rw [hpo] at hf hL2 hnx
      obtain ⟨hb1, hnl, hnd⟩ := hnx
      obtain ⟨_, _, hge, hlt9⟩ := armB_all hb1
      obtain ⟨nx, hnxe⟩ : ∃ nx : Nat, ar.next = (nx : Int) := ⟨ar.next.toNat, by omega⟩
      have hnxn : nx < n := by have := HPL.out; omega
      have HFIN := Lib.hid (show toW sv.toList al = (nx : Int) by rw [← hnxe]; exact toW_find al (-1) hnd hf)
      have HNEXT := Lib.hid (show ownP ps r.toList nx (ws.drop (k + 1)) = some L3 by rw [hnxe, Int.toNat_natCast] at ho3; exact ho3)
      have HL2 := Lib.hid hL2
      have HLL := Lib.hid (And.intro st2 st3)
      have hanz := hal.2.1
      have hsmall : sv.size ≤ maxLen := by
        have := hMX.out _ (List.mem_of_getElem? hsv)
        rwa [len_toList] at this
      have i1 : (k : Int) < (vn : Int) := by omega
      have i2 : (0 : Int) ≤ (k : Int) := by omega
      have i3 : (pk : Int) < (n : Int) := by omega
      have i4 : (0 : Int) ≤ (pk : Int) := by omega
      have HAL := Lib.hid hal
      clear hsv hdrop st1 st2 st3 hf ho3 hL2 hx hq hs hpo hpkl harm hb1 hnl hnd hge hlt9 hnxe hal HST
      have HWR := Lib.hid (tu1 wr (.cells #[.string q, .string s, .slice aa an ac] 63))
      have hxb0 := heap_alloc_new wr (.cells #[.string q, .string s, .slice aa an ac] 63)
      go_upto_region 8 with fail
      obtain ⟨gx, hgx⟩ : ∃ gx, wr.heap.size = gx := ⟨_, rfl⟩
      obtain ⟨wx, hwx⟩ : ∃ wx, wr.alloc (.cells #[.string q, .string s, .slice aa an ac] 63) = wx := ⟨_, rfl⟩
      rw [hwx] at HWR hxb0
      rw [hwx, hgx]
      rw [hgx] at hxb0
      have HXB := Lib.hid hxb0
      have hgx1 : gx ≤ wr.heap.size := Nat.le_of_eq hgx.symm
      have hgx2 : wr.heap.size ≤ gx := Nat.le_of_eq hgx
      have hgx3 : gx < wx.heap.size := (Array.getElem?_eq_some_iff.1 hxb0).1
      have x0 : wx.cell? ⟨gx, 0, none⟩ = some (.string q) := by rw [cell_of_row _ _ _ _ _ _ hxb0]; rfl
      have x1 : wx.cell? ⟨gx, 1, none⟩ = some (.string s) := by rw [cell_of_row _ _ _ _ _ _ hxb0]; rfl
      have x2 : wx.cell? ⟨gx, 2, none⟩ = some (.slice aa an ac) := by rw [cell_of_row _ _ _ _ _ _ hxb0]; rfl
      have HXC := Lib.hid (And.intro x0 (And.intro x1 x2))
      have HWC := Lib.hid hwc
      clear hwx hgx hxb0 x0 x1 x2 pc0 pc1 pc2 q0 q1 q2 hwc
      go_wp2_with fail
      obtain ⟨wu, hwu⟩ : ∃ wu : World, wu = wr := ⟨_, rfl⟩
      subst hwu
      go_loopw [11, 13] (fun t2 i2 wq => ∃ (j : Nat) (z : Int), j ≤ an ∧ i2 = .int .i64 j ∧ t2 = .int .i64 z ∧ Hid (z = toW sv.toList (al.take j)) ∧ Hid (Below wx.heap.size wx wq)) (fun _ i2 _ => an - (intOf i2).toNat)
      case atStart => exact ⟨0, -1, Nat.zero_le _, rfl, rfl, Lib.hid rfl, Lib.hid (Below.refl _ _)⟩
      case round =>
        obtain ⟨wq, hwq⟩ : ∃ wq : World, wq = wr := ⟨_, rfl⟩
        subst hwq
        obtain ⟨j, z, hj, rfl, rfl, HZJ, HBJ⟩ := hrel
        have HBW := Lib.hid (show Below wu.heap.size wu wq from HWR.out.trans (HBJ.out.mono (by have := HWR.out.size; omega)))
        have hzq := HBW.out.size
        have hzx := HBJ.out.size
        have y0 := (HBJ.out.cell (p := ⟨gx, 0, none⟩) hgx3).trans HXC.out.1
        have y1 := (HBJ.out.cell (p := ⟨gx, 1, none⟩) hgx3).trans HXC.out.2.1
        have y2 := (HBJ.out.cell (p := ⟨gx, 2, none⟩) hgx3).trans HXC.out.2.2
        have yw := (HBW.out.cell (p := ⟨wb, wo + k, none⟩) hwb).trans HWC.out
        by_cases hlt2 : j < an
        · obtain ⟨lb, lo, s6, u6, ck, nx6, haa, hlb, hx6, ⟨z0, _, _, z3⟩, _, _⟩ := HAL.out.at_ hlt2
          subst haa
          have r0 := (HBW.out.cell (p := ⟨lb, lo + j * 4, none⟩) hlb).trans z0
          have r3 := (HBW.out.cell (p := ⟨lb, lo + j * 4 + 3, none⟩) hlb).trans z3
          have hmore := toW_more (s := sv.toList) hx6
          have j1 : (j : Int) < (an : Int) := by omega
          have j2 : (0 : Int) ≤ (j : Int) := by omega
          have zlb : lb < wq.heap.size := by omega
          have zgx : gx < wq.heap.size := by omega
          have zwb : wb < wq.heap.size := by omega
          cases hc : (s6.toList == sv.toList)
          · have HM := Lib.hid (show toW sv.toList (al.take (j + 1)) = toW sv.toList (al.take j) by rw [hmore]; dsimp only; rw [hc]; rfl)
            clear hmore hx6 z0 z3
            go_wp2_with fail
            go_quiet (fail)
            go_wp2_with fail
            go_roundw
            case rel => exact ⟨j + 1, z, by omega, by go_num, rfl, Lib.hid (by rw [HM.out]; exact HZJ.out), Lib.hid (bel_drewN HBJ.out _)⟩
            case measure => simp [intOf]; omega
          · have HM := Lib.hid (show toW sv.toList (al.take (j + 1)) = nx6 by rw [hmore]; dsimp only; rw [hc]; rfl)
            clear hmore hx6 z0 z3
            go_wp2_with fail
            go_quiet (fail)
            go_wp2_with fail
            go_roundw
            case rel => exact ⟨j + 1, nx6, by omega, by go_num, rfl, Lib.hid HM.out.symm, Lib.hid (bel_drewN HBJ.out _)⟩
            case measure => simp [intOf]; omega
        · have hzn : z = (nx : Int) := by
            have h1 := HZJ.out
            rw [List.take_of_length_le (by have := HAL.out.1; omega), HFIN.out] at h1
            exact h1
          subst hzn
          have d1 : decide ((j : Int) < (an : Int)) = false := decide_eq_false (by omega)
          have d2 : decide ((nx : Int) < 0) = false := decide_eq_false (by omega)
          have HBQ := Lib.hid (show Below w1.heap.size w1 wq from below_on HBr.out HBW.out)
          have HO2 := Lib.hid (ownsRow_on HO.out HBW.out (Nat.le_refl _))
          cases hq1 : (q.toList == r.toList)
          · cases hs1 : (s.toList == r.toList)
            · go_wp2_with fail
              go_roundw
              case rel => exact ⟨k + 1, nx, m, _, L1, L3, by omega, hnxn, by omega, rfl, rfl, by go_num, Lib.hid ⟨HNEXT.out, by
                have h2 := HL2.out
                rw [show inP ⟨q.toList, s.toList, al⟩ r.toList = false by unfold inP; dsimp only; rw [hq1, hs1]; rfl] at h2
                rw [HLL.out.1, h2, if_neg (by simp)], HLL.out.2⟩, HO2, HBQ⟩
              case measure => simp [intOf]; omega
            · go_wp2_with (first
                | (at_builtin
                   refine wpList_append_strs _ rfl (.tmp 61) (.tmp 66) _ rfl w1.heap.size 9 Tryz.underlying24 info9 _ m L1 rfl (HO2.out.alloc _) _ _ 1 1 [sv.toList] rfl (strs_one9 wq _ sv rfl hsmall) (by omega) (by simp; omega) ?_
                   intro v3 w3 own3 gr3 at3
                   have HO3 := Lib.hid own3
                   have HB3 := Lib.hid (show Below w1.heap.size w1 w3 from ((HBQ.out.alloc (by omega) (.cells #[.string sv] 9))).grown gr3 (by simp; omega) (fun j hj => (HO2.out.lt j hj).1))
                   clear own3 gr3 at3)
                | fail)
              go_roundw
              case rel => exact ⟨k + 1, nx, m + 1, _, L1 ++ [sv.toList], L3, by omega, hnxn, by omega, rfl, rfl, by go_num, Lib.hid ⟨HNEXT.out, by
                have h2 := HL2.out
                rw [show inP ⟨q.toList, s.toList, al⟩ r.toList = true by unfold inP; dsimp only; rw [hq1, hs1]; rfl] at h2
                rw [HLL.out.1, h2, if_pos rfl, List.append_assoc]
                rfl, by rw [List.length_append, HLL.out.2]; rfl⟩, HO3, HB3⟩
              case measure => simp [intOf]; omega
          · go_wp2_with (first
              | (at_builtin
                 refine wpList_append_strs _ rfl (.tmp 61) (.tmp 66) _ rfl w1.heap.size 9 Tryz.underlying24 info9 _ m L1 rfl (HO2.out.alloc _) _ _ 1 1 [sv.toList] rfl (strs_one9 wq _ sv rfl hsmall) (by omega) (by simp; omega) ?_
                 intro v3 w3 own3 gr3 at3
                 have HO3 := Lib.hid own3
                 have HB3 := Lib.hid (show Below w1.heap.size w1 w3 from ((HBQ.out.alloc (by omega) (.cells #[.string sv] 9))).grown gr3 (by simp; omega) (fun j hj => (HO2.out.lt j hj).1))
                 clear own3 gr3 at3)
              | fail)
            go_roundw
            case rel => exact ⟨k + 1, nx, m + 1, _, L1 ++ [sv.toList], L3, by omega, hnxn, by omega, rfl, rfl, by go_num, Lib.hid ⟨HNEXT.out, by
              have h2 := HL2.out
              rw [show inP ⟨q.toList, s.toList, al⟩ r.toList = true by unfold inP; dsimp only; rw [hq1]; rfl] at h2
              rw [HLL.out.1, h2, if_pos rfl, List.append_assoc]
              rfl, by rw [List.length_append, HLL.out.2]; rfl⟩, HO3, HB3⟩
            case measure => simp [intOf]; omega
    · have hall : ws.drop k = [] := List.drop_eq_nil_of_le (by have := HVL.out; omega)
      obtain ⟨st1, st2, st3⟩ := HST.out
      rw [hall, ownP] at st1
      obtain rfl := Option.some.inj st1
      rw [List.append_nil] at st2
      have HE := Lib.hid (And.intro st2 st3)
      have d1 : decide ((k : Int) < (vn : Int)) = false := decide_eq_false (by omega)
      clear hall st1 st2 st3
      go_wp2_with fail
      refine bodyPost_ret (v := .tuple #[v, .bool true]) (by simp [results, go_sem]) rfl ?_
      refine ⟨v, rfl, ?_, below_on HB1.out HBr.out⟩
      rw [HE.out.1, HE.out.2]
      exact World.ownsRow.mono HO.out (by omega)
end Go.Proofs.YtokgpdceckaddaaGreatDoor
