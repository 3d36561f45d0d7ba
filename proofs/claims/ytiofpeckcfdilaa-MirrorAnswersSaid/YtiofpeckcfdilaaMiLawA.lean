/- Law: MirrorAnswers. -/
import Derived.Test.YtiofpeckcfdilaaMiFacts
import Derived.Test.YtiofpeckcfdilaaTuLawT
import Derived.Test.YtiofpeckcfdilaaTuOwnRW
import Derived.Deep.RegionHeld3
import Derived.Deep.DeepCutAuto
namespace Go.Proofs.Ytiofpeckcfdilaa
open Go.RowKit

/-- An arm with the label and the carried type of another. -/
def hitA (x y : ArmL) : Bool := x.label == y.label && (x.ck == y.ck && x.cn == y.cn)
theorem hit_moved {row : List Nat} {l : List ArmL} {y : ArmL} (hy : y ∈ movedA row l) : l.any (fun x => hitA x y) = true := by
  unfold movedA at hy
  obtain ⟨x, hx, rfl⟩ := List.mem_map.1 hy
  rw [List.any_eq_true]
  exact ⟨x, mem_sortA.1 hx, by simp [hitA, toA]⟩
/-- Where labels lead in a type and in its mirror. -/
theorem ans_at {ts : List TurnL} (h : locB ts = true) (me : Str) {ls : List Str} {p : Nat} (e : walkT ts 0 ls = some p) :
    ∃ (q : Nat) (t u : TurnL), ts[p]? = some t ∧ (mirL me (trimT ts))[q]? = some u ∧ walkT (mirL me (trimT ts)) 0 ls = some q ∧ (t.kind = 0 ∧ u.kind = 0 ∨ t.kind = 1 ∧ u.kind = 2 ∨ t.kind = 2 ∧ u.kind = 1) ∧ u.arms.length = t.arms.length ∧ ∀ y ∈ u.arms, t.arms.any (fun x => hitA x y) = true := by
  obtain ⟨r, hr⟩ := reach_zero ts
  have hp := walk_in h ls 0 p (by rw [hr]; simp) e
  have hb := idx_back hp
  have hl := reach_lt h p hp
  have hv := (locB_one h).2.2 _ (List.getElem_mem hl)
  have hu : (trimT ts)[(reachT ts).idxOf p]? = some ⟨ts[p].kind, ts[p].peer, movedA (reachT ts) ts[p].arms⟩ := by
    unfold trimT
    rw [List.getElem?_map, hb, Option.map_some, turnOf_lt hl]
  have hw : walkT (mirL me (trimT ts)) 0 ls = some ((reachT ts).idxOf p) := by rw [mir_walk (trim_valid h), walk_trim h, e]; rfl
  have hv2 := (locB_one (trim_valid h)).2.2 _ (List.mem_of_getElem? hu)
  have ha := mirT_arms hv2 me
  refine ⟨_, ts[p], _, List.getElem?_eq_getElem hl, by rw [mir_at, hu]; rfl, hw, ?_, by rw [ha]; exact moved_len _ _, fun y hy => ?_⟩
  · unfold mirT
    dsimp only
    rcases turnB_arms hv with ⟨h1, _, _⟩ | ⟨h1 | h1, _, _⟩
    · rw [if_neg (by omega), if_neg (by omega)]; exact .inl ⟨h1, rfl⟩
    · rw [if_pos h1]; exact .inr (.inl ⟨h1, rfl⟩)
    · rw [if_neg (by omega), if_pos h1]; exact .inr (.inr ⟨h1, rfl⟩)
  · rw [ha] at hy
    exact hit_moved hy
theorem ans_none {ts : List TurnL} (h : locB ts = true) (me : Str) {ls : List Str} (e : walkT ts 0 ls = none) : walkT (mirL me (trimT ts)) 0 ls = none := by
  rw [mir_walk (trim_valid h), walk_trim h, e]
  rfl
theorem tbox_two (w : World) (k k' : Int) (s s' : ByteArray) (a a' : Option Addr) (n c n' c' : Nat) :
    let W := ((w.alloc (.cells #[.int .i64 k, .string s, .slice a n c] 52)).alloc (.cells #[.int .i64 k', .string s', .slice a' n' c'] 52)).drew
    TBox W w.heap.size k s a n c ∧ TBox W (w.heap.size + 1) k' s' a' n' c' ∧ Below w.heap.size w W := by
  intro W
  refine ⟨((tu1 (w.alloc (.cells #[.int .i64 k, .string s, .slice a n c] 52)) (.cells #[.int .i64 k', .string s', .slice a' n' c'] 52)).block w.heap.size (by simp)).trans (TBox.new w k s a n c), ?_, bel_drewN (below_on (tu1 w _) (tu1 _ _)) 1⟩
  have := TBox.new (w.alloc (.cells #[.int .i64 k, .string s, .slice a n c] 52)) k' s' a' n' c'
  rw [World.size_alloc] at this
  exact this
theorem bel_drewM {B : Nat} {w W : World} (h : Below B w W) : Below B w W.drew := bel_drewN h 1
theorem TBox.onM {W W' : World} {g : Nat} {k : Int} {s : ByteArray} {a : Option Addr} {n c : Nat} (h : TBox W g k s a n c) (hb : Below W.heap.size W W') : TBox W' g k s a n c := (hb.block g h.lt).trans h
theorem any_take {α : Type} (f : α → Bool) {l : List α} {k : Nat} {x : α} (h : l[k]? = some x) : (l.take (k + 1)).any f = ((l.take k).any f || f x) := by
  rw [take_snoc h, List.any_append]
  simp
set_option maxHeartbeats 16000000 in
set_option maxRecDepth 20000 in
theorem mirrorAnswers_walk (a : Option Addr) (n c : Nat) (l : List Int) (a' : Option Addr) (n' c' : Nat) (l' : List Int) (w : World) (h : Nums w w.heap.size a n l) (hlim : n * 8 ≤ 140737488351232) (h' : Nums w w.heap.size a' n' l') (_hlim' : n' * 8 ≤ 140737488351232) :
    Calls Try.prog 5 #[.slice a n c, .slice a' n' c'] w fun e w' => e = .returned (.bool true) ∧ Below w.heap.size w w' := by
  have HN := Lib.hid h
  have HN' := Lib.hid h'
  have HF := Lib.hid (miFirst_any w)
  clear h h'
  go_enter Try.func5, Try.ntmps5
  go_upto_region 4 with (first
    | (go_at_call 17; (with_reducible refine HF.out.mono ?_)
       rintro e w1 ⟨rfl, hb1⟩
       have HB1 := Lib.hid hb1
       clear hb1)
    | (go_at_call 18; (with_reducible refine (pair_any a n c l w1 ((HN.out.below HB1.out).more HB1.out.size) hlim).mono ?_)
       rintro e w2 ⟨⟨sa, sn, sc, ts, rfl, ht2, hln, hloc, hfew, hpe⟩, hb2⟩
       have HT2 := Lib.hid ht2
       have HLN := Lib.hid hln
       have HLOC := Lib.hid hloc
       have HPE := Lib.hid hpe
       have HB2 := Lib.hid (below_on HB1.out hb2)
       clear ht2 hln hloc hpe hb2)
    | fail)
  obtain ⟨p1, p2, p3, p4, p5, p6, p7⟩ := pair_facts HLOC.out HPE.out
  have P3 := Lib.hid p3
  have P6 := Lib.hid p6
  have HL3 := Lib.hid (LBox.new w2 ⟨#[116]⟩ sa sn sc)
  have HBX := Lib.hid (tu1 w2 (.cells #[.string ⟨#[116]⟩, .slice sa sn sc] 38))
  obtain ⟨g3, hg3⟩ : ∃ g3, g3 = w2.heap.size := ⟨_, rfl⟩
  rw [← hg3] at HL3 ⊢
  clear hg3
  generalize hw3 : w2.alloc (.cells #[.string ⟨#[116]⟩, .slice sa sn sc] 38) = w3 at HL3 HBX ⊢
  clear hw3
  have HT3 := Lib.hid (HT2.out.on HBX.out)
  have HB3 := Lib.hid (below_on HB2.out HBX.out)
  have CO := Lib.hid (of_any ⟨#[116]⟩ ⟨#[109, 101]⟩ sa sn sc ts w3 _ (Nat.le_refl _) HT3.out me_small)
  rw [me_list] at CO
  unfold OfRet mirN at CO
  rw [p1, p2, if_pos rfl] at CO
  obtain ⟨lc0, lc1⟩ := HL3.out.cells
  obtain ⟨M, hM⟩ : ∃ M, M = mirL [109, 101] (trimT ts) := ⟨_, rfl⟩
  have HM := Lib.hid hM
  rw [← hM] at CO P3 p4 p5 p7
  clear hM
  have P4 := Lib.hid p4
  have P5 := Lib.hid p5
  have P7 := Lib.hid p7
  clear p1 p2 p3 p4 p5 p6 p7
  go_upto_region 5 with (first
    | (go_at_call 19; (with_reducible refine CO.out.mono ?_)
       rintro e w4 ⟨⟨ra, rn, rc, rfl, ht4⟩, hb4⟩
       have HT4 := Lib.hid ht4
       have HB34 := Lib.hid hb4
       clear ht4 hb4)
    | fail)
  have HM5 := Lib.hid (LBox.new w4 ⟨#[116]⟩ ra rn rc)
  have HBY := Lib.hid (tu1 w4 (.cells #[.string ⟨#[116]⟩, .slice ra rn rc] 38))
  obtain ⟨g4, hg4⟩ : ∃ g4, g4 = w4.heap.size := ⟨_, rfl⟩
  rw [← hg4] at HM5 ⊢
  clear hg4
  generalize hw5 : w4.alloc (.cells #[.string ⟨#[116]⟩, .slice ra rn rc] 38) = w5 at HM5 HBY ⊢
  clear hw5
  have HB5 := Lib.hid (below_on (below_on HB3.out HB34.out) HBY.out)
  have HT5 := Lib.hid ((HT3.out.on HB34.out).on HBY.out)
  have HL5 := Lib.hid ((HL3.out.on HB34.out).on HBY.out)
  have HU5 := Lib.hid (HT4.out.on HBY.out)
  obtain ⟨mc0, mc1⟩ := HM5.out.cells
  clear lc0 lc1 mc0 mc1
  have HTW := Lib.hid (fun (ls : List Str) (p : Nat) (e : walkT ts 0 ls = some p) => ans_at HLOC.out [109, 101] e)
  have HTN := Lib.hid (fun (ls : List Str) (e : walkT ts 0 ls = none) => ans_none HLOC.out [109, 101] e)
  rw [← HM.out] at HTW HTN
  have CW1 := Lib.hid (fun (v : Value) (k : Nat) (ws : List Str) (W : World) (hk : k ≤ 20) (hw : W.ownsRow w5.heap.size 9 1 v k (ws.map encStr)) (hm : ∀ s ∈ ws, s.length ≤ maxLen) (hW : Below w5.heap.size w5 W) => show Calls Try.prog 24 #[.agg #[.string ⟨#[116]⟩, .slice sa sn sc], v] W fun e w' => e = .returned (walkV (walkT ts 0 ws)) ∧ Below W.heap.size W w' from by
    obtain ⟨oa, oc, rfl, hss, _, _⟩ := Strs.of_own hw (by omega) hm
    have := ownWalk_any ⟨#[116]⟩ sa sn sc ts oa k oc ws W _ (Nat.le_refl _) (HT5.out.on hW) hss
    rwa [walkL_of HLOC.out] at this)
  have CW2 := Lib.hid (fun (v : Value) (k : Nat) (ws : List Str) (W : World) (hk : k ≤ 20) (hw : W.ownsRow w5.heap.size 9 1 v k (ws.map encStr)) (hm : ∀ s ∈ ws, s.length ≤ maxLen) (hW : Below w5.heap.size w5 W) => show Calls Try.prog 24 #[.agg #[.string ⟨#[116]⟩, .slice ra rn rc], v] W fun e w' => e = .returned (walkV (walkT M 0 ws)) ∧ Below W.heap.size W w' from by
    obtain ⟨oa, oc, rfl, hss, _, _⟩ := Strs.of_own hw (by omega) hm
    have := ownWalk_any ⟨#[116]⟩ ra rn rc _ oa k oc ws W _ (Nat.le_refl _) (HU5.out.on hW) hss
    rwa [walkL_of P3.out] at this)
  go_wp2_with fail
  go_loopw [8, 9] (fun sl i wr => ∃ (k : Nat) (v : Value) (ws : List Str), k ≤ 20 ∧ k ≤ n' ∧ i = .int .i64 k ∧ v = sl ∧ Hid (wr.ownsRow w5.heap.size 9 1 v k (ws.map encStr)) ∧ Hid (∀ s ∈ ws, s.length ≤ maxLen) ∧ Hid (Below w5.heap.size w5 wr)) (fun _ i _ => n' - (intOf i).toNat)
  case atStart => exact ⟨0, _, [], Nat.zero_le _, Nat.zero_le _, rfl, rfl, Lib.hid (World.ownsRow_nil _ _ _ _), Lib.hid (fun s hs => by cases hs), Lib.hid (Below.refl _ _)⟩
  case round =>
    obtain ⟨k, v0, ws, hk20, hk, rfl, rfl, HO, HWS, HBr⟩ := hrel
    obtain ⟨wo, hwo⟩ : ∃ wo : World, wo = wr := ⟨_, rfl⟩
    subst hwo
    by_cases hk1 : k < n'
    · by_cases hk2 : k < 20
      · have i1 : (k : Int) < (n' : Int) := by omega
        have i2 : (0 : Int) ≤ (k : Int) := by omega
        have i3 : (k : Int) < 20 := by omega
        obtain ⟨_, _⟩ := (HL5.out.on HBr.out).cells
        have D1 := Lib.hid (CW1.out v0 k ws wo hk20 HO.out HWS.out HBr.out)
        have D2 := Lib.hid (fun (W : World) (hW : Below wo.heap.size wo W) => CW2.out v0 k ws W hk20 (ownsRow_on HO.out hW (Nat.le_refl _)) HWS.out (below_on HBr.out hW))
        rcases hres : walkT ts 0 ws with _ | p
        · have hm2 := HTN.out _ hres
          rw [hres] at D1
          rw [hm2] at D2
          dsimp only [walkV] at D1 D2
          clear hres hm2
          go_wp2_with (first
            | (go_at_call 24; (with_reducible refine D1.out.mono ?_)
               rintro e w6 ⟨rfl, hb6⟩
               have HB6 := Lib.hid hb6
               obtain ⟨_, _⟩ := (HM5.out.on (below_on HBr.out hb6)).cells
               clear hb6)
            | (go_at_call 24; (with_reducible refine (D2.out _ HB6.out).mono ?_)
               rintro e w7 ⟨rfl, hb7⟩
               have HB7 := Lib.hid (below_on HB6.out hb7)
               clear hb7)
            | fail)
          go_ret
          exact ⟨rfl, below_on HB5.out (below_on HBr.out HB7.out)⟩
        · obtain ⟨q, t, u, ht, hu, hm2, hkd, hlen, hhit⟩ := HTW.out _ _ hres
          rw [hres] at D1
          rw [hm2] at D2
          dsimp only [walkV] at D1 D2
          have HT := Lib.hid (And.intro ht hu)
          have HKD := Lib.hid hkd
          have HHIT := Lib.hid (And.intro hlen hhit)
          clear hres hm2 ht hu hkd hlen hhit
          go_upto_region 17 with (first
            | (go_at_call 24; (with_reducible refine D1.out.mono ?_)
               rintro e w6 ⟨rfl, hb6⟩
               have HB6 := Lib.hid hb6
               obtain ⟨_, _⟩ := (HM5.out.on (below_on HBr.out hb6)).cells
               clear hb6)
            | (go_at_call 24; (with_reducible refine (D2.out _ HB6.out).mono ?_)
               rintro e w7 ⟨rfl, hb7⟩
               have HB7 := Lib.hid (below_on HB6.out hb7)
               clear hb7)
            | fail)
          have HBW := Lib.hid (below_on HBr.out HB7.out)
          have hT7 := HT5.out.on HBW.out
          have hU7 := HU5.out.on HBW.out
          have hps : p < sn := by have := (List.getElem?_eq_some_iff.1 HT.out.1).1; have := HLN.out; omega
          have hqr : q < rn := by have := (List.getElem?_eq_some_iff.1 HT.out.2).1; have := hU7.1; omega
          obtain ⟨tb, tz, kd, s, aa, an, ac, xl, ea, htb, htx, ⟨xc0, xc1, xc2⟩, _, hxa⟩ := hT7.at_ hps
          obtain ⟨ub, uo, ke, s', ba, bn, bc, yl, eb, hub, hux, ⟨yc0, yc1, yc2⟩, _, hya⟩ := hU7.at_ hqr
          subst ea eb
          obtain rfl : t = ⟨kd, s.toList, xl⟩ := Option.some.inj (HT.out.1.symm.trans htx)
          obtain rfl : u = ⟨ke, s'.toList, yl⟩ := Option.some.inj (HT.out.2.symm.trans hux)
          have HXA := Lib.hid hxa
          have HYA := Lib.hid hya
          have hb6 : an ≤ 1000 := by
            have h1 := arms_few HLOC.out xl (List.mem_map.2 ⟨_, List.mem_of_getElem? htx, rfl⟩)
            have := hxa.1
            omega
          have hbn : bn = an := by have h1 := hxa.1; have h2 := hya.1; have h3 := HHIT.out.1; dsimp only at h3; omega
          have HL7 := Lib.hid (HL5.out.on HBW.out)
          have HM7 := Lib.hid (HM5.out.on HBW.out)
          have HK := Lib.hid (fun (W : World) (hW : Below w7.heap.size w7 W) => show (W.cell? ⟨g3, 1, none⟩ = some (.slice (some ⟨tb, tz, none⟩) sn sc) ∧ W.cell? ⟨g4, 1, none⟩ = some (.slice (some ⟨ub, uo, none⟩) rn rc)) ∧ (W.cell? ⟨tb, tz + p * 3, none⟩ = some (.int .i64 kd) ∧ W.cell? ⟨tb, tz + p * 3 + 1, none⟩ = some (.string s) ∧ W.cell? ⟨tb, tz + p * 3 + 2, none⟩ = some (.slice aa an ac)) ∧ (W.cell? ⟨ub, uo + q * 3, none⟩ = some (.int .i64 ke) ∧ W.cell? ⟨ub, uo + q * 3 + 1, none⟩ = some (.string s') ∧ W.cell? ⟨ub, uo + q * 3 + 2, none⟩ = some (.slice ba bn bc)) from
            ⟨⟨(HL7.out.on hW).cells.2, (HM7.out.on hW).cells.2⟩, ⟨(hW.cell (p := ⟨tb, tz + p * 3, none⟩) htb).trans xc0, (hW.cell (p := ⟨tb, tz + p * 3 + 1, none⟩) htb).trans xc1, (hW.cell (p := ⟨tb, tz + p * 3 + 2, none⟩) htb).trans xc2⟩, (hW.cell (p := ⟨ub, uo + q * 3, none⟩) hub).trans yc0, (hW.cell (p := ⟨ub, uo + q * 3 + 1, none⟩) hub).trans yc1, (hW.cell (p := ⟨ub, uo + q * 3 + 2, none⟩) hub).trans yc2⟩)
          have HD := Lib.hid (Below.refl w7.heap.size w7)
          have HBN := Lib.hid hbn
          have j1 : (p : Int) < (sn : Int) := by omega
          have j2 : (0 : Int) ≤ (p : Int) := by omega
          have j3 : (q : Int) < (rn : Int) := by omega
          have j4 : (0 : Int) ≤ (q : Int) := by omega
          clear hT7 hU7 htx hux hxa hya hbn xc0 xc1 xc2 yc0 yc1 yc2 HT
          go_cut [14, 15] (fun s6 s7 wx => ∃ gx gy : Nat, s6 = .pointer (some ⟨gx, 0, none⟩) ∧ s7 = .pointer (some ⟨gy, 0, none⟩) ∧ Hid (TBox wx gx kd s aa an ac) ∧ Hid (TBox wx gy ke s' ba bn bc) ∧ Hid (Below w7.heap.size w7 wx))
          case first =>
            go_region_held3 (fun W => (W.cell? ⟨g3, 1, none⟩ = some (.slice (some ⟨tb, tz, none⟩) sn sc) ∧ W.cell? ⟨g4, 1, none⟩ = some (.slice (some ⟨ub, uo, none⟩) rn rc)) ∧ (W.cell? ⟨tb, tz + p * 3, none⟩ = some (.int .i64 kd) ∧ W.cell? ⟨tb, tz + p * 3 + 1, none⟩ = some (.string s) ∧ W.cell? ⟨tb, tz + p * 3 + 2, none⟩ = some (.slice aa an ac)) ∧ (W.cell? ⟨ub, uo + q * 3, none⟩ = some (.int .i64 ke) ∧ W.cell? ⟨ub, uo + q * 3 + 1, none⟩ = some (.string s') ∧ W.cell? ⟨ub, uo + q * 3 + 2, none⟩ = some (.slice ba bn bc)))
              (first | exact HK.out _ HD.out | exact HK.out _ (bel_drewM HD.out) | (refine HK.out _ ?_; ((repeat' (first | exact HD.out | with_reducible apply bel_drewM | with_reducible apply Below.setCell | with_reducible apply Below.alloc)) <;> simp)))
              (fail)
            all_goals (go_wp2_with fail; go_meet)
            case rel =>
              have h := tbox_two w7 kd ke s s' aa ba an ac bn bc
              exact ⟨_, _, rfl, rfl, Lib.hid h.1, Lib.hid h.2.1, Lib.hid h.2.2⟩
            case rel =>
              have h := tbox_two w7 ke kd s' s ba aa bn bc an ac
              exact ⟨_, _, rfl, rfl, Lib.hid h.2.1, Lib.hid h.1, Lib.hid h.2.2⟩
          case rest =>
            obtain ⟨gx, gy, e6, e7, HNX, HNY, HBE⟩ := hcut
            subst e6 e7
            obtain ⟨we, hwe⟩ : ∃ we : World, we = wc := ⟨_, rfl⟩
            subst hwe
            have HXE := Lib.hid (HXA.out.on HBE.out)
            have HYE := Lib.hid (HYA.out.on HBE.out)
            clear HK HD HXA HYA
            obtain ⟨x0, x1, x2⟩ := HNX.out.cells
            obtain ⟨y0, y1, y2⟩ := HNY.out.cells
            obtain rfl : bn = an := HBN.out
            have nn : ((bn : Int) != (bn : Int)) = false := by simp
            go_upto_region 18 with fail
            go_cut [94] (fun s94 wx => s94 = .bool false ∧ wx = we)
            case first =>
              rcases HKD.out with ⟨h1, h2⟩ | ⟨h1, h2⟩ | ⟨h1, h2⟩
              all_goals
                dsimp only at h1 h2
                subst h1 h2
                go_wp2_with fail
                go_meet
                case rel => exact ⟨rfl, rfl⟩
            case rest =>
              obtain ⟨e94, ew⟩ := hcut
              have ew2 := ew.symm
              clear ew
              subst e94 ew2
              clear x0 x1 x2 y0 y1 y2
              go_wp2_with fail
              go_loopw [16] (fun i wr => ∃ k2 : Nat, k2 ≤ bn ∧ i = .int .i64 k2 ∧ Hid (Below we.heap.size we wr)) (fun i _ => bn - (intOf i).toNat)
              case atStart => exact ⟨0, Nat.zero_le _, rfl, Lib.hid (Below.refl _ _)⟩
              case round =>
                obtain ⟨k2, hk2b, rfl, HB2r⟩ := hrel
                obtain ⟨wp, hwp⟩ : ∃ wp : World, wp = wr := ⟨_, rfl⟩
                subst hwp
                have HNX2 := Lib.hid (HNX.out.onM HB2r.out)
                have HNY2 := Lib.hid (HNY.out.onM HB2r.out)
                obtain ⟨x0, x1, x2⟩ := HNX2.out.cells
                obtain ⟨y0, y1, y2⟩ := HNY2.out.cells
                by_cases hkb : k2 < bn
                · obtain ⟨yb, yo, ys, yu, yk, yx, ey, hyb, hyy, ⟨v0, v1, v2, v3⟩, _, _⟩ := (HYE.out.on HB2r.out).at_ hkb
                  have HHY := Lib.hid (HHIT.out.2 _ (List.mem_of_getElem? hyy))
                  have i4 : (k2 : Int) < (bn : Int) := by omega
                  have i5 : (0 : Int) ≤ (k2 : Int) := by omega
                  subst ey
                  clear hyy
                  go_wp2_with fail
                  go_loopw [17, 18] (fun f i wr => ∃ (j : Nat) (fb : Bool), j ≤ bn ∧ i = .int .i64 j ∧ f = .bool fb ∧ Hid (fb = (xl.take j).any (fun x => hitA x ⟨ys.toList, yk, yu.toList, yx⟩)) ∧ Hid (Below wp.heap.size wp wr)) (fun _ i _ => bn - (intOf i).toNat)
                  case atStart => exact ⟨0, false, Nat.zero_le _, rfl, rfl, Lib.hid rfl, Lib.hid (Below.refl _ _)⟩
                  case round =>
                    obtain ⟨j, fb, hj, rfl, rfl, HFB, HB3r⟩ := hrel
                    obtain ⟨wq, hwq⟩ : ∃ wq : World, wq = wr := ⟨_, rfl⟩
                    subst hwq
                    clear x0 x1 x2 y0 y1 y2
                    obtain ⟨x0, x1, x2⟩ := (HNX2.out.onM HB3r.out).cells
                    obtain ⟨y0, y1, y2⟩ := (HNY2.out.onM HB3r.out).cells
                    have V0 := (HB3r.out.cell (p := ⟨yb, yo + k2 * 4, none⟩) hyb).trans v0
                    have V1 := (HB3r.out.cell (p := ⟨yb, yo + k2 * 4 + 1, none⟩) hyb).trans v1
                    have V2 := (HB3r.out.cell (p := ⟨yb, yo + k2 * 4 + 2, none⟩) hyb).trans v2
                    by_cases hjb : j < bn
                    · obtain ⟨xb, xo, xs, xu, xk, xx, ex, hxb, hxx, ⟨u0, u1, u2, u3⟩, _, _⟩ := ((HXE.out.on HB2r.out).on HB3r.out).at_ hjb
                      have HNEXT := Lib.hid (any_take (fun x => hitA x ⟨ys.toList, yk, yu.toList, yx⟩) hxx)
                      have i6 : (j : Int) < (bn : Int) := by omega
                      have i7 : (0 : Int) ≤ (j : Int) := by omega
                      subst ex
                      clear hxx v0 v1 v2 v3
                      cases fb
                      · cases hl : (xs.toList == ys.toList)
                        · have HH := Lib.hid (show hitA ⟨xs.toList, xk, xu.toList, xx⟩ ⟨ys.toList, yk, yu.toList, yx⟩ = false by unfold hitA; dsimp only; rw [hl]; rfl)
                          go_upto_region 27 with fail
                          go_quiet (fail)
                          go_wp2_with fail
                          go_roundw
                          case rel => exact ⟨j + 1, false, by omega, by go_num, rfl, Lib.hid (by rw [HNEXT.out, ← HFB.out, HH.out]; rfl), Lib.hid (bel_drewN HB3r.out nq)⟩
                          case measure => simp [intOf]; omega
                        · cases hc : (xk == yk)
                          · have HH := Lib.hid (show hitA ⟨xs.toList, xk, xu.toList, xx⟩ ⟨ys.toList, yk, yu.toList, yx⟩ = false by unfold hitA; dsimp only; rw [hl, hc]; rfl)
                            go_upto_region 27 with fail
                            go_quiet (fail)
                            go_wp2_with fail
                            go_roundw
                            case rel => exact ⟨j + 1, false, by omega, by go_num, rfl, Lib.hid (by rw [HNEXT.out, ← HFB.out, HH.out]; rfl), Lib.hid (bel_drewN HB3r.out nq)⟩
                            case measure => simp [intOf]; omega
                          · cases hu : (xu.toList == yu.toList)
                            · have HH := Lib.hid (show hitA ⟨xs.toList, xk, xu.toList, xx⟩ ⟨ys.toList, yk, yu.toList, yx⟩ = false by unfold hitA; dsimp only; rw [hl, hc, hu]; rfl)
                              go_upto_region 27 with fail
                              go_quiet (fail)
                              go_wp2_with fail
                              go_roundw
                              case rel => exact ⟨j + 1, false, by omega, by go_num, rfl, Lib.hid (by rw [HNEXT.out, ← HFB.out, HH.out]; rfl), Lib.hid (bel_drewN HB3r.out nq)⟩
                              case measure => simp [intOf]; omega
                            · have HH := Lib.hid (show hitA ⟨xs.toList, xk, xu.toList, xx⟩ ⟨ys.toList, yk, yu.toList, yx⟩ = true by unfold hitA; dsimp only; rw [hl, hc, hu]; rfl)
                              go_upto_region 27 with fail
                              go_quiet (fail)
                              go_wp2_with fail
                              go_roundw
                              case rel => exact ⟨j + 1, true, by omega, by go_num, rfl, Lib.hid (by rw [HNEXT.out, ← HFB.out, HH.out]; rfl), Lib.hid (bel_drewN HB3r.out nq)⟩
                              case measure => simp [intOf]; omega
                      · go_upto_region 27 with fail
                        go_quiet (fail)
                        go_wp2_with fail
                        go_roundw
                        case rel => exact ⟨j + 1, true, by omega, by go_num, rfl, Lib.hid (by rw [HNEXT.out, ← HFB.out]; rfl), Lib.hid (bel_drewN HB3r.out nq)⟩
                        case measure => simp [intOf]; omega
                    · have hfb : fb = true := by
                        have h1 := HFB.out
                        rw [List.take_of_length_le (by have := HXE.out.1; omega)] at h1
                        rw [h1]
                        exact HHY.out
                      subst hfb
                      go_wp2_with fail
                      go_roundw
                      case rel => exact ⟨k2 + 1, by omega, by go_num, Lib.hid (below_on HB2r.out HB3r.out)⟩
                      case measure => simp [intOf]; omega
                · clear x0 x1 y0 y1
                  have HWP := Lib.hid (below_on HB7.out (below_on HBE.out HB2r.out))
                  have HBP := Lib.hid (below_on HBr.out HWP.out)
                  have HOP := Lib.hid (ownsRow_on HO.out HWP.out (Nat.le_refl _))
                  have hz5 : w.heap.size ≤ w5.heap.size := HB5.out.size
                  have hz9 : w5.heap.size ≤ wp.heap.size := HBP.out.size
                  obtain ⟨lb, lf, x, ea, hlb, _, hc⟩ := (HN'.out.below (below_on HB5.out HBP.out)).at_ hk1
                  subst ea
                  obtain ⟨m, hm4, hmod⟩ := mod_lt x 4 (by omega) (by omega)
                  have hmod : (IntKind.u64.wrap x).tmod 4 = (m : Int) := hmod
                  have i4 : (m : Int) < 4 := by omega
                  have i5 : (0 : Int) ≤ (m : Int) := by omega
                  have zb : lb < wp.heap.size := by omega
                  have hlab := lab_at wp m hm4
                  have HMM := Lib.hid (show ∀ s ∈ ws ++ [(labB m).toList], s.length ≤ maxLen from fun s hs => by
                    rcases List.mem_append.1 hs with h | h
                    · exact HWS.out s h
                    · obtain rfl := List.mem_singleton.1 h
                      rw [len_toList]
                      exact lab_small m)
                  have HRE := Lib.hid (show Below w5.heap.size w5 ((wp.alloc (.cells #[.string ⟨#[119]⟩, .string ⟨#[120]⟩, .string ⟨#[121]⟩, .string ⟨#[122]⟩] 9)).alloc (.cells #[.string (labB m)] 9)) from (HBP.out.alloc hz9 _).alloc (by simp; omega) _)
                  clear hm4 hlb
                  go_wp2_with (first
                    | (at_builtin
                       refine wpList_append_strs _ rfl (.tmp 142) (.tmp 152) _ rfl w5.heap.size 9 Try.underlying23 info9 _ k ws rfl ((HOP.out.alloc _).alloc _) _ _ 1 1 [(labB m).toList] rfl (strs_one_at (wp.alloc (.cells #[.string ⟨#[119]⟩, .string ⟨#[120]⟩, .string ⟨#[121]⟩, .string ⟨#[122]⟩] 9)) _ (labB m) (by simp) (lab_small m)) (by omega) (by simp; omega) ?_
                       intro v3 w9 own3 gr3 at3
                       have HO3 := Lib.hid own3
                       have HB3 := Lib.hid (HRE.out.grown gr3 (by simp; omega) (fun j hj => (HOP.out.lt j hj).1))
                       clear own3 gr3 at3)
                    | fail)
                  go_roundw
                  case rel => exact ⟨k + 1, _, ws ++ [(labB m).toList], by omega, by omega, by go_num, rfl, HO3, HMM, HB3⟩
                  case measure => simp [intOf]; omega
      · have d1 : decide ((k : Int) < 20) = false := decide_eq_false (by omega)
        have i1 : (k : Int) < (n' : Int) := by omega
        have HE := Lib.hid (below_on HB5.out HBr.out)
        clear hk2
        go_wp2_with fail
        go_ret
        exact ⟨rfl, HE.out⟩
    · have HE := Lib.hid (below_on HB5.out HBr.out)
      have d1 : decide ((k : Int) < (n' : Int)) = false := decide_eq_false (by omega)
      go_wp2_with fail
      go_ret
      exact ⟨rfl, HE.out⟩
end Go.Proofs.Ytiofpeckcfdilaa
