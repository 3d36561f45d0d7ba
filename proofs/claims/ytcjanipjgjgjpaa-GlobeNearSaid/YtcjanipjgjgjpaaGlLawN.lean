/- Law: GlobeNear. -/
import Derived.Test.YtcjanipjgjgjpaaGlFirsts
import Derived.Deep.RegionHeld3
import Derived.Deep.DeepCutAuto
namespace Go.Proofs.Ytcjanipjgjgjpaa
open Go.RowKit

theorem sum_facts {a b c : Nat} (h : c ≤ a + b) (ha : a ≤ 24) (hb : b ≤ 24) : IntKind.i64.wrap ((a : Int) + (b : Int)) = (a : Int) + (b : Int) ∧ wrap64 ((a : Int) + (b : Int)) = (a : Int) + (b : Int) ∧ decide ((c : Int) ≤ (a : Int) + (b : Int)) = true :=
  ⟨i64_small (by omega) (by omega), wrap_small (by omega) (by omega), decide_eq_true (by omega)⟩
theorem near_few (ps : List PointL) (r : Str) (l : List Nat) : (nearP ps r l).length ≤ ps.length := by
  unfold nearP spanP
  have h1 := List.length_filter_le (fun p => inP (pointOf ps p) r) ((List.range ps.length).filter fun p => decide (p ∈ metL (outsP ps r) ps.length l))
  have h2 := List.length_filter_le (fun p => decide (p ∈ metL (outsP ps r) ps.length l)) (List.range ps.length)
  rw [List.length_range] at h2
  omega
theorem nums_block {W : World} {g : Nat} {cs : Array Value} {l : List Int} {n : Nat} (h : W.heap[g]? = some (.cells cs 3 (0, 0))) (hc : cs = (l.map encI64).toArray) (hn : l.length = n) (hl : n ≤ 100000) : Nums W W.heap.size (some ⟨g, 0, none⟩) n l := by
  refine ⟨hn, by omega, fun _ => ⟨g, 0, rfl, (Array.getElem?_eq_some_iff.1 h).1, fun j x hj => ?_⟩⟩
  rw [cell_of_row _ _ _ _ _ _ h, hc, Nat.zero_add, List.getElem?_toArray, List.getElem?_map, hj]
  rfl
set_option maxHeartbeats 16000000 in
set_option maxRecDepth 20000 in
theorem globeNear_walk (a : Option Addr) (n c : Nat) (l : List Int) (y z u : Int) (w : World) (h : Nums w w.heap.size a n l) (hlim : n * 8 ≤ 140737488351232) :
    Calls Try.prog 4 #[.slice a n c, .int .i64 y, .int .i64 z, .int .i64 u] w fun e w' => e = .returned (.bool true) ∧ Below w.heap.size w w' := by
  have HN := Lib.hid h
  have HF := Lib.hid (glFirst_any w)
  have hn0 := h.1
  have HLN := Lib.hid hn0
  clear h hn0
  go_enter Try.func4, Try.ntmps4
  go_upto_region 4 with (first
    | (go_at_call 8; (with_reducible refine HF.out.mono ?_)
       rintro e w1 ⟨rfl, hb1⟩
       have HB1 := Lib.hid hb1
       clear hb1)
    | (go_at_call 10; (with_reducible refine (given_any _).mono ?_)
       rintro e w2 ⟨xa, xb, rfl, _, hb2⟩
       have HB2 := Lib.hid (below_on HB1.out hb2)
       clear hb2)
    | (at_builtin
       refine wpList_append_plus rfl (.tmp 25) (.tmp 26) rfl w2.heap.size w.heap.size (.slice (some ⟨w2.heap.size, 0, none⟩) 1 1) a n c [2] l rfl rfl (IInts.one (W := w2) (cs := #[.int .i64 2]) (base := w2.heap.size) (g := w2.heap.size) 2 rfl rfl (Nat.le_refl _)) ((HN.out.below HB2.out).alloc HB2.out.size _) (by show (1 + n) * 8 ≤ _; omega) (by simp) ?_
       intro v3 w3 hown hgr
       obtain ⟨pa, pc, hv, _, _, _, hnu⟩ := hown.sees
       obtain ⟨pn, hpn⟩ : ∃ pn, pn = ([2] ++ l : List Int).length := ⟨_, rfl⟩
       rw [← hpn] at hv hnu
       subst hv
       have hpl : pn * 8 ≤ 140737488355328 := by rw [hpn, List.length_append, HLN.out]; show (1 + n) * 8 ≤ _; omega
       clear hpn
       have HNU := Lib.hid (show Nums w3 w3.heap.size pa pn (2 :: l) from hnu)
       have HB3 := Lib.hid ((HB2.out.alloc HB2.out.size (.cells #[.int .i64 2] 3)).grown hgr (by have := HB2.out.size; simp; omega) (fun j e => by cases e; exact HB2.out.size))
       clear hown hgr hnu)
    | (go_at_call 9; (with_reducible refine (law2_any xa xb pa pn pc l w3 HNU.out hpl).mono ?_)
       rintro e w4 ⟨⟨many, ⟨hm2, hm4⟩, ra, rc, sa, sn, sc, ps, rfl, hm, hr, hl, hok, h2, h9⟩, hb4⟩
       have HB4 := Lib.hid (below_on HB3.out hb4)
       obtain ⟨hpin, hmade⟩ := made_in hm2 hm4 hm hr hl hok h2 h9
       have HPI := Lib.hid hpin
       have HMD := Lib.hid hmade
       clear hm hr hl hok h2 h9 hb4 hpin hmade)
    | fail)
  have HG5 := Lib.hid (GIn.begin (rc := rc) (sc := sc) HB4.out HPI.out)
  generalize hg5 : w4.heap.size = g5 at HG5 ⊢
  generalize hw5 : w4.alloc (.cells #[.string ⟨#[112]⟩, .slice ra many rc, .slice sa sn sc] 27) = w5 at HG5 ⊢
  clear hg5 hw5 HPI HB4 HB3 HNU HB2 HB1 HF HN hpl
  obtain ⟨pc0, pc1, pc2⟩ := HG5.out.box.cells
  have hsn2 := HMD.out.low
  have hsn9 := HMD.out.high
  obtain ⟨ri, hri, hmz⟩ := mod_lt u many (by omega) (by omega)
  obtain ⟨k, hk, hmy⟩ := mod_lt y sn (by omega) (by omega)
  obtain ⟨m, hmm, hmw⟩ := mod_lt z sn (by omega) (by omega)
  obtain ⟨rb, ro, rfl, hrb, hrc⟩ := HG5.out.roles hri
  have hne : ((many : Int) == 0) = false := by rw [beq_eq_false_iff_ne]; omega
  have i1 : (ri : Int) < (many : Int) := by omega
  have i2 : (0 : Int) ≤ (ri : Int) := by omega
  have hne2 : ((sn : Int) == 0) = false := by rw [beq_eq_false_iff_ne]; omega
  have i3 : (k : Int) < (sn : Int) := by omega
  have i4 : (0 : Int) ≤ (k : Int) := by omega
  have i5 : (m : Int) < (sn : Int) := by omega
  have i6 : (0 : Int) ≤ (m : Int) := by omega
  have hwm : IntKind.u64.wrap (many : Int) = (many : Int) := IntWalk.u64_in _ (by omega)
  have hws : IntKind.u64.wrap (sn : Int) = (sn : Int) := IntWalk.u64_in _ (by omega)
  go_quiet (fail)
  have HG5b := Lib.hid (HG5.out.on (bel_drewN (Below.refl _ _) nq))
  generalize hw5b : w5.drewN nq = w5b at HG5b ⊢
  clear hw5b hmz hrc hrb pc0 pc1 pc2
  obtain ⟨pc0, pc1, pc2⟩ := HG5b.out.box.cells
  go_upto_region 5 with fail
  go_quiet (fail)
  have HG6 := Lib.hid (HG5b.out.on (bel_drewN (Below.refl _ _) nq))
  generalize hw6 : w5b.drewN nq = w6 at HG6 ⊢
  clear hw6 hmy hmw hwm hws pc0 pc1 pc2
  go_upto_region 6 with fail
  obtain ⟨L1, hL1⟩ : ∃ L1, L1 = nearP ps (rolS ri).toList [k] := ⟨_, rfl⟩
  obtain ⟨L2, hL2⟩ : ∃ L2, L2 = nearP ps (rolS ri).toList [m, k, m] := ⟨_, rfl⟩
  obtain ⟨n1, hn1⟩ : ∃ n1, n1 = L1.length := ⟨_, rfl⟩
  obtain ⟨n2, hn2⟩ : ∃ n2, n2 = L2.length := ⟨_, rfl⟩
  have HLEN := Lib.hid HMD.out.len
  have hnear : ∀ (l : List Nat) (L : List Nat) (n : Nat), (∀ x ∈ l, x < ps.length) → L = nearP ps (rolS ri).toList l → n = L.length → ∀ (W : World) (va : Option Addr) (vn vc : Nat), Below w6.heap.size w6 W → Nums W W.heap.size va vn (rowI l) → Calls Try.prog 17 #[.agg #[.string ⟨#[112]⟩, .slice (some ⟨rb, ro, none⟩) many rc, .slice sa sn sc], .string (rolS ri), .slice va vn vc] W fun e w' => (∃ xa xc, e = .returned (.slice xa n xc) ∧ Nums w' w'.heap.size xa n (rowI L)) ∧ Below W.heap.size W w' := fun l L n hl hL hn W va vn vc hW hnu => by
    refine ((HG6.out.on hW).near HMD.out hri vc hnu).mono fun e w2 h => ?_
    obtain ⟨⟨v, e1, e2⟩, e3⟩ := h
    rw [startP_all hl, ← hL] at e2
    obtain ⟨xa, xc, hv, _, _, _, hnu⟩ := e2.sees
    rw [rowI_len, ← hn] at hv hnu
    subst hv
    exact ⟨⟨xa, xc, e1, hnu⟩, e3⟩
  have HNE := Lib.hid hnear
  have hl1 : ∀ x ∈ [k], x < ps.length := fun x hx => by rw [HLEN.out]; simp at hx; omega
  have hl2 : ∀ x ∈ [m, k, m], x < ps.length := fun x hx => by rw [HLEN.out]; simp at hx; omega
  have hf2 : n2 ≤ 24 := by
    have := near_few ps (rolS ri).toList [m, k, m]
    rw [← hL2, ← hn2, HLEN.out] at this
    omega
  have hf1 : n1 ≤ 24 := by
    have := near_few ps (rolS ri).toList [k]
    rw [← hL1, ← hn1, HLEN.out] at this
    omega
  have HL1 := Lib.hid hL1
  have HL2 := Lib.hid hL2
  have HN1 := Lib.hid hn1
  have HN2 := Lib.hid hn2
  have H0 := Lib.hid (show Below w6.heap.size w6 w6.drew from bel_drewN (Below.refl _ _) 1)
  have HA := Lib.hid (show Below w6.heap.size w6 (w6.alloc (.cells #[.int .i64 (k : Int)] 3)).drew from bel_drewN (tu1 _ _) 1)
  have HB := Lib.hid (show Below w6.heap.size w6 (w6.alloc (.cells #[.int .i64 (m : Int), .int .i64 (k : Int), .int .i64 (m : Int)] 3)).drew from bel_drewN (tu1 _ _) 1)
  have HAB := Lib.hid (show Below w6.heap.size w6 ((w6.alloc (.cells #[.int .i64 (k : Int)] 3)).alloc (.cells #[.int .i64 (m : Int), .int .i64 (k : Int), .int .i64 (m : Int)] 3)).drew from bel_drewN (below_on (tu1 _ _) (tu1 _ _)) 1)
  have HBA := Lib.hid (show Below w6.heap.size w6 ((w6.alloc (.cells #[.int .i64 (m : Int), .int .i64 (k : Int), .int .i64 (m : Int)] 3)).alloc (.cells #[.int .i64 (k : Int)] 3)).drew from bel_drewN (below_on (tu1 _ _) (tu1 _ _)) 1)
  have HK := Lib.hid (fun (W : World) (hW : Below w6.heap.size w6 W) => (HG6.out.on hW).box.cells)
  have CA := Lib.hid (hnear [k] L1 n1 hl1 hL1 hn1 _ (some ⟨w6.heap.size, 0, none⟩) 1 1 HA.out (nums_block (heap_new_at rfl) rfl rfl (by omega)))
  have CAB := Lib.hid (hnear [k] L1 n1 hl1 hL1 hn1 _ (some ⟨w6.heap.size, 0, none⟩) 1 1 HAB.out (nums_block (heap_keep _ (heap_new_at rfl)) rfl rfl (by omega)))
  have CBA := Lib.hid (hnear [k] L1 n1 hl1 hL1 hn1 _ (some ⟨w6.heap.size + 1, 0, none⟩) 1 1 HBA.out (nums_block (heap_new_at (by simp)) rfl rfl (by omega)))
  have GAB := Lib.hid (show ((w6.alloc (.cells #[.int .i64 (k : Int)] 3)).alloc (.cells #[.int .i64 (m : Int), .int .i64 (k : Int), .int .i64 (m : Int)] 3)).drew.heap[w6.heap.size + 1]? = some (.cells #[.int .i64 (m : Int), .int .i64 (k : Int), .int .i64 (m : Int)] 3 (0, 0)) from heap_new_at (by simp))
  have GBA := Lib.hid (show ((w6.alloc (.cells #[.int .i64 (m : Int), .int .i64 (k : Int), .int .i64 (m : Int)] 3)).alloc (.cells #[.int .i64 (k : Int)] 3)).drew.heap[w6.heap.size]? = some (.cells #[.int .i64 (m : Int), .int .i64 (k : Int), .int .i64 (m : Int)] 3 (0, 0)) from heap_keep _ (heap_new_at rfl))
  have CN2 := Lib.hid (fun (W : World) (g : Nat) (hW : Below w6.heap.size w6 W) (hg : W.heap[g]? = some (.cells #[.int .i64 (m : Int), .int .i64 (k : Int), .int .i64 (m : Int)] 3 (0, 0))) => hnear [m, k, m] L2 n2 hl2 hL2 hn2 W (some ⟨g, 0, none⟩) 3 3 hW (nums_block hg rfl rfl (by omega)))
  obtain ⟨_, _, _⟩ := HG6.out.box.cells
  clear hnear hL1 hL2 hn1 hn2
  go_cut [13, 14] (fun s13 s14 wx => ∃ xa xc ya yc, s13 = .slice xa n1 xc ∧ s14 = .slice ya n2 yc ∧ Hid (Nums wx wx.heap.size xa n1 (rowI L1)) ∧ Hid (Nums wx wx.heap.size ya n2 (rowI L2)) ∧ Hid (Below w6.heap.size w6 wx))
  case first =>
    go_region_held3 (fun W => W.cell? ⟨g5, 0, none⟩ = some (.string ⟨#[112]⟩) ∧ W.cell? ⟨g5, 1, none⟩ = some (.slice (some ⟨rb, ro, none⟩) many rc) ∧ W.cell? ⟨g5, 2, none⟩ = some (.slice sa sn sc))
      (first | exact HK.out _ H0.out | exact HK.out _ HA.out | exact HK.out _ HB.out | exact HK.out _ HAB.out | exact HK.out _ HBA.out | exact HK.out _ H2.out | exact HK.out _ H3.out | exact HK.out _ H4.out)
      (first
      | (go_at_call 17; (with_reducible refine CA.out.mono ?_)
         rintro e v2 ⟨⟨xa, xc, rfl, hx⟩, h2⟩
         have H2 := Lib.hid (below_on HA.out h2)
         have H3 := Lib.hid (below_on (below_on HA.out h2) (tu1 v2 (.cells #[.int .i64 (m : Int), .int .i64 (k : Int), .int .i64 (m : Int)] 3)))
         have HXN := Lib.hid (hx.on (tu1 v2 (.cells #[.int .i64 (m : Int), .int .i64 (k : Int), .int .i64 (m : Int)] 3)))
         have CZ := Lib.hid (CN2.out _ v2.heap.size H3.out (heap_new_at rfl))
         clear h2 hx)
      | (go_at_call 17; (with_reducible refine CAB.out.mono ?_)
         rintro e v2 ⟨⟨xa, xc, rfl, hx⟩, h2⟩
         have H2 := Lib.hid (below_on HAB.out h2)
         have HXN := Lib.hid hx
         have CZ := Lib.hid (CN2.out _ (w6.heap.size + 1) H2.out ((h2.block _ (by show _ < (World.alloc _ _).heap.size; simp)).trans GAB.out))
         clear h2 hx)
      | (go_at_call 17; (with_reducible refine CBA.out.mono ?_)
         rintro e v2 ⟨⟨xa, xc, rfl, hx⟩, h2⟩
         have H2 := Lib.hid (below_on HBA.out h2)
         have HXN := Lib.hid hx
         have CZ := Lib.hid (CN2.out _ w6.heap.size H2.out ((h2.block _ (by show _ < (World.alloc _ _).heap.size; simp; omega)).trans GBA.out))
         clear h2 hx)
      | (go_at_call 17; (with_reducible refine CZ.out.mono ?_)
         rintro e v3 ⟨⟨ya, yc, rfl, hy⟩, h3⟩
         have HYN := Lib.hid hy
         have HXN3 := Lib.hid (HXN.out.on h3)
         first | have H4 := Lib.hid (below_on H3.out h3) | have H4 := Lib.hid (below_on H2.out h3)
         clear h3 hy)
      | fail)
    all_goals
      go_wp2_with fail
      go_meet
      exact ⟨xa, xc, ya, yc, rfl, rfl, HXN3, HYN, H4⟩
  case rest =>
    obtain ⟨xa, xc, ya, yc, rfl, rfl, HXN, HYN, HBc⟩ := hcut
    obtain ⟨w7, hw7⟩ : ∃ w7 : World, w7 = wc := ⟨_, rfl⟩
    subst hw7
    have HG7 := Lib.hid (HG6.out.on HBc.out)
    clear CA CAB CBA GAB GBA H0 HA HB HAB HBA CN2 HK
    obtain ⟨_, _, _⟩ := HG7.out.box.cells
    obtain ⟨b, off, q, s, aa, an, ac, al, hsa, hbb, hx, ⟨q0, q1, q2⟩, hq, hs, hal⟩ := HG7.out.pin.pts.at_ hk
    subst hsa
    obtain ⟨I, hI⟩ : ∃ I, I = inP (pointOf ps k) (rolS ri).toList := ⟨_, rfl⟩
    have HII := Lib.hid hI
    have HIP := Lib.hid (show I = inP ⟨q.toList, s.toList, al⟩ (rolS ri).toList by rw [hI]; unfold pointOf; rw [hx]; rfl)
    clear hI hx hq hs hal
    go_upto_region 7 with fail
    go_cut [15] (fun s15 wx => s15 = .bool I ∧ Hid (Below w7.heap.size w7 wx))
    case first =>
      cases hq1 : (q.toList == (rolS ri).toList)
      · cases hs1 : (s.toList == (rolS ri).toList)
        all_goals
          go_wp2_with fail
          go_meet
          exact ⟨by rw [HIP.out]; unfold inP; dsimp only; rw [hq1, hs1]; rfl, Lib.hid (Below.refl _ _)⟩
      · go_wp2_with fail
        go_meet
        exact ⟨by rw [HIP.out]; unfold inP; dsimp only; rw [hq1]; rfl, Lib.hid (Below.refl _ _)⟩
    case rest =>
      obtain ⟨rfl, HBd⟩ := hcut
      obtain ⟨w8, hw8⟩ : ∃ w8 : World, w8 = wc := ⟨_, rfl⟩
      subst hw8
      have HG8 := Lib.hid (HG7.out.on HBd.out)
      have HX8 := Lib.hid (HXN.out.on HBd.out)
      have HY8 := Lib.hid (HYN.out.on HBd.out)
      have HB8 := Lib.hid (below_on HBc.out HBd.out)
      clear HBd HBc HXN HYN HIP q0 q1 q2 HG7
      obtain ⟨_, _, _⟩ := HG8.out.box.cells
      obtain ⟨E, hE⟩ : ∃ E, E = L1.isEmpty := ⟨_, rfl⟩
      have he1 : ((n1 : Int) == 0) = E := by
        rw [hE, HN1.out]
        cases L1 with
        | nil => rfl
        | cons x l => rw [beq_eq_false_iff_ne.2 (by rw [List.length_cons]; omega)]; rfl
      have CL := Lib.hid (fun (W : World) (hW : Below w8.heap.size w8 W) => ((HG8.out.on hW).lost HMD.out hri hk).mono fun e w2 h => (⟨by rw [h.1, ← HL1.out, ← hE], h.2⟩ : e = .returned (.bool E) ∧ Below W.heap.size W w2))
      clear hE
      go_upto_region 8 with fail
      go_cut [104] (fun s104 wx => s104 = .bool false ∧ Hid (Below w8.heap.size w8 wx))
      case first =>
        cases I
        · go_wp2_with (first
            | (go_at_call 19; (with_reducible refine (CL.out _ (Below.refl _ _)).mono ?_)
               rintro e w9 ⟨rfl, hb9⟩
               have HB9 := Lib.hid hb9
               clear hb9)
            | fail)
          go_meet
          exact ⟨by simp, HB9⟩
        · have HSI := Lib.hid (show Calls Try.prog 18 #[.slice xa n1 xc, .slice (some ⟨w8.heap.size, 0, none⟩) 1 1] (w8.alloc (.cells #[.int .i64 (k : Int)] 3)) fun e w2 => e = .returned (.bool true) ∧ Below w8.heap.size w8 w2 from
            (sameInts_any xa (some ⟨w8.heap.size, 0, none⟩) n1 1 xc 1 (rowI L1) [(k : Int)] (w8.alloc (.cells #[.int .i64 (k : Int)] 3)) (w8.heap.size + 1) ((HX8.out.alloc (Nat.le_refl _) _).more (by omega)) (INums_made w8 #[.int .i64 (k : Int)] [(k : Int)] 1 rfl rfl (by omega))).mono fun e w2 h => by
              obtain ⟨h1, q9, h2⟩ := h
              refine ⟨by rw [h1, HL1.out, near_in HMD.out.ok (rolS ri).toList (k := k) (by rw [HLEN.out]; exact hk) HII.out.symm (s := [k]) (fun x => by simp), decide_eq_true (show rowI [k] = [(k : Int)] from rfl)], ?_⟩
              rw [h2]
              exact bel_drewN (tu1 w8 _) q9)
          go_wp2_with (first
            | (go_at_call 18; (with_reducible refine HSI.out.mono ?_)
               rintro e w9 ⟨rfl, hb9⟩
               have HB9 := Lib.hid hb9
               obtain ⟨_, _, _⟩ := (HG8.out.on hb9).box.cells
               clear hb9)
            | (go_at_call 19; (with_reducible refine (CL.out _ HB9.out).mono ?_)
               rintro e w10 ⟨rfl, hb10⟩
               have HB10 := Lib.hid (below_on HB9.out hb10)
               clear hb10)
            | fail)
          go_meet
          exact ⟨by simp, HB10⟩
      case rest =>
        obtain ⟨rfl, HBd⟩ := hcut
        obtain ⟨w9, hw9⟩ : ∃ w9 : World, w9 = wc := ⟨_, rfl⟩
        subst hw9
        have HG9 := Lib.hid (HG8.out.on HBd.out)
        have HX9 := Lib.hid (HX8.out.on HBd.out)
        have HY9 := Lib.hid (HY8.out.on HBd.out)
        have HB9 := Lib.hid (below_on HB8.out HBd.out)
        clear HBd HB8 HX8 HY8 HG8 CL he1
        go_wp2_with fail
        go_loopw [16] (fun i wr => ∃ k2 : Nat, k2 ≤ n2 ∧ i = .int .i64 k2 ∧ Hid (Below w9.heap.size w9 wr)) (fun i _ => n2 - (intOf i).toNat)
        case atStart => exact ⟨0, Nat.zero_le _, rfl, Lib.hid (Below.refl _ _)⟩
        case round =>
          obtain ⟨k2, hk2, rfl, HBr⟩ := hrel
          obtain ⟨wo, hwo⟩ : ∃ wo : World, wo = wr := ⟨_, rfl⟩
          subst hwo
          have HGr := Lib.hid (HG9.out.on HBr.out)
          have HYr := Lib.hid (HY9.out.on HBr.out)
          obtain ⟨_, _, _⟩ := HGr.out.box.cells
          by_cases hlt : k2 < n2
          · obtain ⟨yb, yo, x, rfl, hyb, hx, hyc⟩ := HYr.out.at_ hlt
            obtain ⟨p, rfl, hp⟩ := rowI_at hx
            have hmem : p ∈ nearP ps (rolS ri).toList [m, k, m] := HL2.out ▸ List.mem_of_getElem? hp
            have hps : p < sn := by have := near_lt hmem; rw [HLEN.out] at this; exact this
            have hin := near_in_it hmem
            obtain ⟨b2, off2, q, s, aa, an, ac, al, hsa, hbb2, hxp, ⟨q0, q1, q2⟩, hq, hs, hal⟩ := HGr.out.pin.pts.at_ hps
            obtain ⟨e1, e2, _⟩ := Addr.mk.inj (Option.some.inj hsa)
            subst e1 e2
            have hin2 : inP ⟨q.toList, s.toList, al⟩ (rolS ri).toList = true := by
              rw [← hin]; unfold pointOf; rw [hxp]; rfl
            have j1 : (k2 : Int) < (n2 : Int) := by omega
            have j2 : (0 : Int) ≤ (k2 : Int) := by omega
            have j3 : (p : Int) < (sn : Int) := by omega
            have j4 : (0 : Int) ≤ (p : Int) := by omega
            have HB13 := Lib.hid (show Below wo.heap.size wo (wo.alloc (.cells #[.string q, .string s, .slice aa an ac] 40)).drew from bel_drewN (tu1 _ _) 1)
            have HP13 := Lib.hid (show (wo.alloc (.cells #[.string q, .string s, .slice aa an ac] 40)).drew.heap[wo.heap.size]? = some (.cells #[.string q, .string s, .slice aa an ac] 40 (0, 0)) from heap_alloc_new wo _)
            have HKY := Lib.hid (fun (j p2 : Nat) (hj : L2[j]? = some p2) => show wo.cell? ⟨yb, yo + j, none⟩ = some (.int .i64 (p2 : Int)) from by
              obtain ⟨yb3, yo3, x3, e3, _, hx3, hc3⟩ := HYr.out.at_ (k := j) (by have := (List.getElem?_eq_some_iff.1 hj).1; rw [HN2.out]; exact this)
              obtain ⟨e1, e2, _⟩ := Addr.mk.inj (Option.some.inj e3)
              subst e1 e2
              obtain ⟨p3, rfl, hp3⟩ := rowI_at hx3
              rw [hj] at hp3
              rw [Option.some.inj hp3]
              exact hc3)
            have z1 : g5 < wo.heap.size := HGr.out.box.lt
            have z2 : b < wo.heap.size := hbb2
            have z3 : yb < wo.heap.size := hyb
            clear hsa hmem hin hxp hq hs hal hx
            go_upto_region 13 with fail
            go_region
            go_upto_region 14 with fail
            generalize hg13 : wo.heap.size = g13 at HB13 HP13 ⊢
            generalize hw13 : (wo.alloc (.cells #[.string q, .string s, .slice aa an ac] 40)).drew = w13 at HB13 HP13 ⊢
            rw [← hg13] at HB13
            clear hw13 q0 q1 q2
            have x0 : w13.cell? ⟨g13, 0, none⟩ = some (.string q) := by rw [cell_of_row _ _ _ _ _ _ HP13.out]; rfl
            have x1 : w13.cell? ⟨g13, 1, none⟩ = some (.string s) := by rw [cell_of_row _ _ _ _ _ _ HP13.out]; rfl
            have c2 := (HB13.out.cell (p := ⟨yb, yo + k2, none⟩) hyb).trans hyc
            have HEND := Lib.hid (fun (n : Nat) => show Below w9.heap.size w9 (w13.drewN n) from bel_drewN (HBr.out.trans (HB13.out.mono HBr.out.size)) n)
            rcases Nat.eq_zero_or_pos k2 with hk0 | hk0
            · have d0 : decide ((0 : Int) < (k2 : Int)) = false := decide_eq_false (by omega)
              have d0' : decide (0 < k2) = false := decide_eq_false (by omega)
              cases hq1 : (q.toList == (rolS ri).toList)
              · cases hs1 : (s.toList == (rolS ri).toList)
                · exfalso
                  unfold inP at hin2
                  dsimp only at hin2
                  rw [hq1, hs1] at hin2
                  cases hin2
                · clear hin2 hk0
                  go_quiet (fail)
                  go_wp2_with fail
                  go_roundw
                  case rel => exact ⟨k2 + 1, by omega, by go_num, Lib.hid (HEND.out _)⟩
                  case measure => simp [intOf]; omega
              · clear hin2 hk0
                go_quiet (fail)
                go_wp2_with fail
                go_roundw
                case rel => exact ⟨k2 + 1, by omega, by go_num, Lib.hid (HEND.out _)⟩
                case measure => simp [intOf]; omega
            · have d0 : decide ((0 : Int) < (k2 : Int)) = true := decide_eq_true (by omega)
              have d0' : decide (0 < k2) = true := decide_eq_true (by omega)
              obtain ⟨j, hj⟩ : ∃ j : Nat, (j : Int) = (k2 : Int) - 1 := ⟨k2 - 1, by omega⟩
              obtain ⟨p2, hp2⟩ : ∃ p2, L2[j]? = some p2 := ⟨_, List.getElem?_eq_getElem (by rw [← HN2.out]; omega)⟩
              have hup := near_up ps (rolS ri).toList [m, k, m]
              rw [← HL2.out] at hup
              have hlt2 : p2 < p := by
                obtain ⟨a1, a2⟩ := List.getElem?_eq_some_iff.1 hp2
                obtain ⟨a3, a4⟩ := List.getElem?_eq_some_iff.1 hp
                rw [← a2, ← a4]
                exact List.pairwise_iff_getElem.1 hup j k2 a1 a3 (by omega)
              have c1 := (HB13.out.cell (p := ⟨yb, yo + j, none⟩) hyb).trans (HKY.out j p2 hp2)
              have e5 : IntKind.i64.wrap ((k2 : Int) - 1) = (j : Int) := by rw [← hj]; simp [IntKind.wrap, IntKind.bits, IntKind.signed]; omega
              have e6 : wrap64 ((k2 : Int) - 1) = (j : Int) := by rw [← hj]; exact IntWalk.wrap64_in _ (by omega)
              have j5 : (j : Int) < (n2 : Int) := by omega
              have j6 : (0 : Int) ≤ (j : Int) := by omega
              have d3 : decide ((p : Int) ≤ (p2 : Int)) = false := decide_eq_false (by omega)
              have d3' : decide (p ≤ p2) = false := decide_eq_false (by omega)
              have HJ := Lib.hid hj
              cases hq1 : (q.toList == (rolS ri).toList)
              · cases hs1 : (s.toList == (rolS ri).toList)
                · exfalso
                  unfold inP at hin2
                  dsimp only at hin2
                  rw [hq1, hs1] at hin2
                  cases hin2
                · clear hin2 hk0 hj hup hp hp2
                  go_quiet (fail)
                  go_wp2_with fail
                  go_roundw
                  case rel => exact ⟨k2 + 1, by omega, by go_num, Lib.hid (HEND.out _)⟩
                  case measure => simp [intOf]; omega
              · clear hin2 hk0 hj hup hp hp2
                go_quiet (fail)
                go_wp2_with fail
                go_roundw
                case rel => exact ⟨k2 + 1, by omega, by go_num, Lib.hid (HEND.out _)⟩
                case measure => simp [intOf]; omega
          · have d1 : decide ((k2 : Int) < (n2 : Int)) = false := decide_eq_false (by omega)
            have HXr := Lib.hid (HX9.out.on HBr.out)
            go_wp2_with fail
            go_loopw [18] (fun i wr => ∃ k3 : Nat, k3 ≤ n1 ∧ i = .int .i64 k3 ∧ Hid (Below wo.heap.size wo wr)) (fun i _ => n1 - (intOf i).toNat)
            case atStart => exact ⟨0, Nat.zero_le _, rfl, Lib.hid (Below.refl _ _)⟩
            case round =>
              obtain ⟨k3, hk3, rfl, HBs⟩ := hrel
              obtain ⟨wp, hwp⟩ : ∃ wp : World, wp = wr := ⟨_, rfl⟩
              subst hwp
              have HXs := Lib.hid (HXr.out.on HBs.out)
              have HYs := Lib.hid (HYr.out.on HBs.out)
              by_cases hlt3 : k3 < n1
              · obtain ⟨xb, xo, x, rfl, hxb, hx, hxc⟩ := HXs.out.at_ hlt3
                obtain ⟨p, rfl, hp⟩ := rowI_at hx
                have hmem : p ∈ nearP ps (rolS ri).toList [k] := HL1.out ▸ List.mem_of_getElem? hp
                have hmem2 : p ∈ L2 := by
                  rw [HL2.out]
                  exact near_mono HMD.out.ok (rolS ri).toList hl2 (fun y hy => by rw [List.mem_singleton.1 hy]; simp) hmem
                have j1 : (k3 : Int) < (n1 : Int) := by omega
                have j2 : (0 : Int) ≤ (k3 : Int) := by omega
                have HM2 := Lib.hid hmem2
                clear hmem hmem2 hx hp
                go_wp2_with fail
                go_loopw [19, 20] (fun h j wr => ∃ k4 : Nat, k4 ≤ n2 ∧ j = .int .i64 k4 ∧ h = .bool (decide (p ∈ L2.take k4)) ∧ Hid (Below wp.heap.size wp wr)) (fun _ j _ => n2 - (intOf j).toNat)
                case atStart => exact ⟨0, Nat.zero_le _, rfl, by simp, Lib.hid (Below.refl _ _)⟩
                case round =>
                  obtain ⟨k4, hk4, rfl, hh, HBt⟩ := hrel
                  obtain ⟨B, hB⟩ : ∃ B, B = decide (p ∈ L2.take k4) := ⟨_, rfl⟩
                  rw [← hB] at hh
                  subst hh
                  have HBB := Lib.hid hB
                  clear hB
                  have HYt := Lib.hid (HYs.out.on HBt.out)
                  have c1 := (HBt.out.cell (p := ⟨xb, xo + k3, none⟩) hxb).trans hxc
                  by_cases hlt4 : k4 < n2
                  · obtain ⟨yb, yo, x, rfl, hyb, hx, hyc⟩ := HYt.out.at_ hlt4
                    obtain ⟨p2, rfl, hp2⟩ := rowI_at hx
                    have HT := Lib.hid (show decide (p ∈ L2.take (k4 + 1)) = (B || ((p2 : Int) == (p : Int))) from by
                      rw [HBB.out, take_snoc hp2, Bool.eq_iff_iff]
                      simp only [decide_eq_true_eq, List.mem_append, List.mem_singleton, Bool.or_eq_true, beq_iff_eq]
                      constructor
                      · rintro (h | rfl)
                        · exact .inl h
                        · exact .inr rfl
                      · rintro (h | h)
                        · exact .inl h
                        · exact .inr (by omega))
                    have j3 : (k4 : Int) < (n2 : Int) := by omega
                    have j4 : (0 : Int) ≤ (k4 : Int) := by omega
                    have HBU := Lib.hid (fun (n : Nat) => show Below wp.heap.size wp (wr.drewN n) from bel_drewN HBt.out n)
                    clear hx hp2
                    cases B
                    · have HT2 := Lib.hid (HT.out.trans (Bool.false_or _))
                      go_wp2_with fail
                      go_quiet (fail)
                      go_wp2_with fail
                      go_roundw
                      case rel => exact ⟨k4 + 1, by omega, by go_num, by rw [HT2.out], Lib.hid (HBU.out _)⟩
                      case measure => simp [intOf]; omega
                    · have HT2 := Lib.hid (HT.out.trans (Bool.true_or _))
                      go_wp2_with fail
                      go_quiet (fail)
                      go_wp2_with fail
                      go_roundw
                      case rel => exact ⟨k4 + 1, by omega, by go_num, by rw [HT2.out], Lib.hid (HBU.out _)⟩
                      case measure => simp [intOf]; omega
                  · have d4 : decide ((k4 : Int) < (n2 : Int)) = false := decide_eq_false (by omega)
                    obtain rfl : B = true := by
                      rw [HBB.out, List.take_of_length_le (by rw [← HN2.out]; omega)]
                      exact decide_eq_true HM2.out
                    go_wp2_with fail
                    go_roundw
                    case rel => exact ⟨k3 + 1, by omega, by go_num, Lib.hid (HBs.out.trans (HBt.out.mono HBs.out.size))⟩
                    case measure => simp [intOf]; omega
              · have d3 : decide ((k3 : Int) < (n1 : Int)) = false := decide_eq_false (by omega)
                have HGs := Lib.hid (HGr.out.on HBs.out)
                obtain ⟨_, _, _⟩ := HGs.out.box.cells
                have HBE := Lib.hid (show Below w6.heap.size w6 wp from below_on (below_on HB9.out HBr.out) HBs.out)
                have HB26 := Lib.hid (tu1 wp (.cells #[.int .i64 (m : Int)] 3))
                obtain ⟨L3, hL3⟩ : ∃ L3, L3 = nearP ps (rolS ri).toList [m] := ⟨_, rfl⟩
                obtain ⟨n3, hn3⟩ : ∃ n3, n3 = L3.length := ⟨_, rfl⟩
                have hl3 : ∀ x ∈ [m], x < ps.length := fun x hx => by rw [HLEN.out]; simp at hx; omega
                have CN3 := Lib.hid (HNE.out [m] L3 n3 hl3 hL3 hn3 _ (some ⟨wp.heap.size, 0, none⟩) 1 1 (below_on HBE.out HB26.out) (nums_block (heap_new_at rfl) rfl rfl (by omega)))
                have hsum : n2 ≤ n1 + n3 := by
                  rw [HN2.out, HN1.out, hn3, HL2.out, HL1.out, hL3]
                  refine near_sum HMD.out.ok (rolS ri).toList hl1 hl3 (fun x => ?_)
                  simp
                  omega
                have hf3 : n3 ≤ 24 := by
                  have := near_few ps (rolS ri).toList [m]
                  rw [← hL3, ← hn3, HLEN.out] at this
                  omega
                obtain ⟨e5, e6, d5⟩ := sum_facts hsum hf1 hf3
                clear hL3 hn3 hsum
                go_wp2_with (first
                  | (go_at_call 17; (with_reducible refine CN3.out.mono ?_)
                     rintro e v2 ⟨⟨za, zc, rfl, _⟩, h2⟩
                     have HG27 := Lib.hid (HGs.out.on (below_on HB26.out h2))
                     obtain ⟨_, _, _⟩ := HG27.out.box.cells
                     have CN0 := Lib.hid (HNE.out [] [] 0 (fun x hx => by cases hx) (near_nil _ _).symm rfl v2 none 0 0 (below_on HBE.out (below_on HB26.out h2)) (Nums.zero _ _ _))
                     clear h2)
                  | (go_at_call 17; (with_reducible refine CN0.out.mono ?_)
                     rintro e v3 ⟨⟨za2, zc2, rfl, _⟩, h3⟩
                     have H3 := Lib.hid (HG27.out.on h3)
                     clear h3)
                  | fail)
                go_ret
                exact ⟨by simp, H3.out.bel⟩
end Go.Proofs.Ytcjanipjgjgjpaa
