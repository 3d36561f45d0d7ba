/- Contract of the reference's LocalTrim. -/
import Derived.Test.YtiofpeckcfdilaaGreatDoorTuSames
import Derived.Test.YtiofpeckcfdilaaGreatDoorTuRows
import Derived.Deep.RegionHeld3
import Derived.Deep.RegionLaw
import Derived.Test.YtiofpeckcfdilaaGreatDoorTuLast
import Derived.Test.YtiofpeckcfdilaaGreatDoorTuTrimO
import Derived.Test.YtiofpeckcfdilaaGreatDoorTuLawP
import Derived.Test.YtiofpeckcfdilaaGreatDoorTuSameT
import Derived.Test.YtiofpeckcfdilaaGreatDoorTuSameL
import Derived.Test.YtiofpeckcfdilaaGreatDoorTuOwnRW
import Derived.Test.YtiofpeckcfdilaaGreatDoorTuWalk
import Derived.Test.YtiofpeckcfdilaaGreatDoorTuPeers
import Derived.BigQuiet
namespace Go.Proofs.YtiofpeckcfdilaaGreatDoor
open Go.RowKit

theorem TBox.on {W W' : World} {g : Nat} {k : Int} {s : ByteArray} {a : Option Addr} {n c : Nat} (h : TBox W g k s a n c) (hb : Below W.heap.size W W') : TBox W' g k s a n c := (hb.block g h.lt).trans h
theorem TOwn.add2 {W : World} {base : Nat} {v : Value} {f : List TurnL} {r : TR} {t : TurnL} (hB : TOwn W base v f) (hA : TurnAt W base v r t) (hb : base ≤ W.heap.size) (hlen : f.length ≤ 1000000) (ty : Nat) :
    ∃ v' w', (Builtin.append_ #[22, 22] ty #[v, .slice (some ⟨W.heap.size, 0, none⟩) 1 1]).run Tryz.prog (W.alloc (.cells #[.int .i64 r.k, .string r.s, .slice r.a r.n r.c] 51)) = .ok v' w' ∧ TOwn w' base v' (f ++ [t]) ∧ (∀ w0, Below base w0 W → Below base w0 w') ∧ W.heap.size + 1 ≤ w'.heap.size ∧ ∀ b, b < W.heap.size → v.ownBlock ≠ some b → w'.heap[b]? = W.heap[b]? := by
  obtain ⟨i0, hi0, hzz⟩ := Option.map_eq_some_iff.1 info_turn
  simp only [Prod.mk.injEq] at hzz
  obtain ⟨hz, hs1, hb1⟩ := hzz
  obtain ⟨rs, hown, hrl, hrd⟩ := hB
  have hown1 : (W.alloc (.cells #[.int .i64 r.k, .string r.s, .slice r.a r.n r.c] 51)).ownsRow base 51 3 v f.length (rs.flatMap encTR) := World.ownsRow.alloc hown _
  obtain ⟨v', w', hrun, hown', hgr, _, hat⟩ := run_append_own_at (P := Tryz.prog) (W.alloc (.cells #[.int .i64 r.k, .string r.s, .slice r.a r.n r.c] 51)) base 22 ty 51 i0 _ 3 48 Tryz.underlying22 hi0 hz hs1 hb1 rfl (by omega) v f.length (rs.flatMap encTR) hown1
    ⟨W.heap.size, 0, none⟩ 1 1 (encTR r) rfl
    (fun j u hu => by
      rw [Go.WideShapes.add_plain, cell_of_row _ _ _ _ _ _ (heap_alloc_new W _), Nat.zero_add, ← hu]
      rw [← Array.getElem?_toList]
      rfl)
    (fun u hu => by
      unfold encTR at hu
      simp only [List.mem_cons, List.not_mem_nil, or_false] at hu
      rcases hu with rfl | rfl | rfl <;> rfl) (by unfold maxLen; omega) (by omega) (by simp; omega)
  have hbel : ∀ B, B ≤ base → ∀ w0, Below B w0 W → Below B w0 w' := fun B hB w0 hw0 => (hw0.alloc (by omega) _).grown hgr (by simp; omega) (fun k hk => by
    have := hown1.lt k hk
    omega)
  have hsz : W.heap.size + 1 ≤ w'.heap.size := by
    have := hgr.size
    simpa using this
  have hblk : ∀ b, b < W.heap.size → v.ownBlock ≠ some b → w'.heap[b]? = W.heap[b]? := fun b hbl hne => (hgr.block b (by simp; omega) (fun e => hne e.symm)).trans ((tu1 W _).block b hbl)
  have hnew : ∀ b, b < W.heap.size → v.ownBlock ≠ some b → v'.ownBlock ≠ some b := fun b hbl hne => by
    rcases hat with e | e
    · rw [e]; exact hne
    · rw [e]
      intro e2
      have := Option.some.inj e2
      simp at this
      omega
  have hmove : ∀ (r : TR) (t : TurnL), TurnAt W base v r t → TurnAt w' base v' r t := fun r t ⟨e1, e2, e3, e4, e5⟩ =>
    ⟨e1, e2, e3, e4.stay (by omega) (fun b off e => hblk b (e5 b off e).2.1 (e5 b off e).2.2), fun b off e => ⟨(e5 b off e).1, by have := (e5 b off e).2.1; omega, hnew b (e5 b off e).2.1 (e5 b off e).2.2⟩⟩
  refine ⟨v', w', hrun, ⟨rs ++ [r], ?_, by simp [hrl], fun j r2 k hj hk => ?_⟩, fun w0 hw0 => hbel base (Nat.le_refl _) w0 hw0, hsz, hblk⟩
  · rw [List.length_append, List.flatMap_append, List.flatMap_cons, List.flatMap_nil, List.append_nil]
    exact hown'
  · rcases Nat.lt_or_ge j rs.length with hlt | hge
    · rw [List.getElem?_append_left hlt] at hj
      rw [List.getElem?_append_left (by omega)] at hk
      exact hmove _ _ (hrd j r2 k hj hk)
    · rw [List.getElem?_append_right hge] at hj
      rw [List.getElem?_append_right (by omega), ← hrl] at hk
      have h0 : j - rs.length = 0 := by
        obtain ⟨h1, _⟩ := List.getElem?_eq_some_iff.1 hj
        simpa using h1
      rw [h0] at hj hk
      obtain rfl : r = r2 := by simpa using hj
      obtain rfl : t = k := by simpa using hk
      exact hmove _ _ hA
theorem step_append_turn2 {ops : Array Oper} {o : Oper} {a : Act} {K : Act → World → Prop} {Q : Exit → Act → World → Prop} {E : Prop} {w1 : World} (W : World) (hgd : o.guard = none) (s x : Operand)
    (ho : o.op = .call { callee := .builtin .append, args := #[s, x], argTypes := #[22, 22] }) (base : Nat) (v : Value) (f : List TurnL) (r : TR) (t : TurnL)
    (hw1 : w1 = W.alloc (.cells #[.int .i64 r.k, .string r.s, .slice r.a r.n r.c] 51))
    (hs : a.eval s = v) (hx : a.eval x = .slice (some ⟨W.heap.size, 0, none⟩) 1 1) (hB : TOwn W base v f) (hA : TurnAt W base v r t) (hb : base ≤ W.heap.size) (hlen : f.length ≤ 1000000)
    (w0 : World) (hw : Below base w0 W)
    (h : ∀ v' w', TOwn w' base v' (f ++ [t]) → Below base w0 w' → W.heap.size + 1 ≤ w'.heap.size → (∀ b, b < W.heap.size → v.ownBlock ≠ some b → w'.heap[b]? = W.heap[b]?) → K (a.put o.dst v') w') : if Region.wanted o (yielded ops a.tmps) = true then Oper.wp Tryz.prog o a w1 K Q else E := by
  have hwant : Region.wanted o (yielded ops a.tmps) = true := by simp [Region.wanted, hgd]
  rw [if_pos hwant]
  subst hw1
  obtain ⟨v', w', hrun, hown, hbel, hsz, hblk⟩ := hB.add2 hA hb hlen o.type
  have hrun' : (Builtin.append_ #[22, 22] o.type #[v, .slice (some ⟨W.heap.size, 0, none⟩) 1 1]).run Tryz.prog (W.alloc (.cells #[.int .i64 r.k, .string r.s, .slice r.a r.n r.c] 51)) = .ok v' w' := hrun
  unfold Oper.wp execOp
  simp only [ho, resolve, invoke, builtin, Sem.run_bind, Sem.run_pure, Result.andThen_ok, List.map_toArray, List.map_cons, List.map_nil, hs, hx, hrun']
  exact h v' w' hown (hbel w0 hw) hsz hblk
set_option maxHeartbeats 16000000 in
set_option maxRecDepth 20000 in
theorem tuTrimO_any (nm : ByteArray) (a : Option Addr) (n c : Nat) (ts : List TurnL) (w : World) (bound : Nat) (hb : bound ≤ w.heap.size) (h : Turns w bound a n ts) :
    Calls Tryz.prog 39 #[.agg #[.string nm, .slice a n c]] w fun e w' => (∃ ra rn rc, e = .returned (.agg #[.string (trimName ts nm), .slice ra rn rc]) ∧ TOwn w' w.heap.size (.slice ra rn rc) (trimL ts)) ∧ Below w.heap.size w w' := by
  have HB0 := Lib.hid (below_on (tu1 w (.cells #[.string nm, .slice a n c] 24)) (tu1 (w.alloc (.cells #[.string nm, .slice a n c] 24)) (.cells #[.string ⟨#[]⟩, .slice none 0 0] 24)))
  have HL := Lib.hid ((LBox.new w nm a n c).on (tu1 (w.alloc (.cells #[.string nm, .slice a n c] 24)) (.cells #[.string ⟨#[]⟩, .slice none 0 0] 24)))
  have HX := Lib.hid (LBox.new (w.alloc (.cells #[.string nm, .slice a n c] 24)) ⟨#[]⟩ none 0 0)
  rw [World.size_alloc] at HX
  have CR := Lib.hid (fun (W : World) (hW : Below w.heap.size w W) => tuLReach_any nm a n c ts W bound (by have := hW.size; omega) (h.below (hW.mono hb)))
  obtain ⟨lc0, lc1⟩ := HL.out.cells
  obtain ⟨xc0, xc1⟩ := HX.out.cells
  have ff : ∀ j, ((w.alloc (.cells #[.string nm, .slice a n c] 24)).alloc (.cells #[.string ⟨#[]⟩, .slice none 0 0] 24)).frozen? ⟨w.heap.size + 1, j, none⟩ = false := by simp
  have HN := Lib.hid h
  have HLEN := Lib.hid h.1
  cases hv : locB ts
  · have e1 : reachL ts = [] := by unfold reachL; rw [hv]; rfl
    rw [e1] at CR
    have HZ := Lib.hid (show trimL ts = [] by unfold trimL; rw [hv]; rfl)
    have HY := Lib.hid (show trimName ts nm = ⟨#[]⟩ by unfold trimName; rw [hv]; rfl)
    clear h hv e1
    go_enter Tryz.func39, Tryz.ntmps39
    go_wp2_with (first
      | (go_at_call 71; (with_reducible refine (CR.out _ HB0.out).mono ?_)
         rintro e w1 ⟨⟨v, rfl, hiv⟩, hb1⟩
         have HB1 := Lib.hid (below_on HB0.out hb1)
         obtain ⟨ra, rc, rfl, _, _, _, hnu⟩ := hiv.sees
         have z0 : (rowI []).length = 0 := rfl
         obtain ⟨yc0, yc1⟩ := (HX.out.on hb1).cells
         have f0 := (hb1.frozen (p := ⟨w.heap.size + 1, 0, none⟩) (by simp)).trans (ff 0)
         have f1 := (hb1.frozen (p := ⟨w.heap.size + 1, 1, none⟩) (by simp)).trans (ff 1)
         rw [z0]
         clear hb1 hiv hnu)
      | fail)
    refine bodyPost_ret (v := .agg #[.string ⟨#[]⟩, .slice none 0 0]) (by simp [results, go_sem, yc0, yc1]) rfl ?_
    exact ⟨⟨none, 0, 0, by rw [HY.out], by rw [HZ.out]; exact TOwn.zero _ _⟩, (HB1.out.setCell (by simp) _).setCell (by simp) _⟩
  · have HZ := Lib.hid (show trimL ts = trimT ts by unfold trimL; rw [hv]; rfl)
    have HY := Lib.hid (show trimName ts nm = nm by unfold trimName; rw [hv]; rfl)
    have HRE := Lib.hid (show reachL ts = reachT ts by unfold reachL; rw [hv]; rfl)
    have HV := Lib.hid hv
    obtain ⟨r0, hr0⟩ := reach_zero ts
    have hlen0 : 0 < (reachT ts).length := by rw [hr0]; simp
    have hfew : (reachT ts).length ≤ 40 := by have := reach_few hv; have := (locB_one hv).2.1; omega
    rw [HRE.out] at CR
    clear h hv hr0
    go_enter Tryz.func39, Tryz.ntmps39
    go_wp2_with (first
      | (go_at_call 71; (with_reducible refine (CR.out _ HB0.out).mono ?_)
         rintro e w1 ⟨⟨v, rfl, hiv⟩, hb1⟩
         have HB1 := Lib.hid (below_on HB0.out hb1)
         obtain ⟨ra, rc, rfl, _, _, _, hnu⟩ := hiv.sees
         have HNU := Lib.hid hnu
         have HLM := Lib.hid (HL.out.on hb1)
         have f0 := (hb1.frozen (p := ⟨w.heap.size + 1, 0, none⟩) (by simp)).trans (ff 0)
         have f1 := (hb1.frozen (p := ⟨w.heap.size + 1, 1, none⟩) (by simp)).trans (ff 1)
         have HXM := Lib.hid (HX.out.on hb1)
         obtain ⟨mc0, mc1⟩ := HLM.out.cells
         obtain ⟨yc0, yc1⟩ := HXM.out.cells
         rw [rowI_len] at HNU ⊢
         obtain ⟨rn, hrn⟩ : ∃ rn, rn = (reachT ts).length := ⟨_, rfl⟩
         rw [← hrn] at HNU hlen0 hfew ⊢
         have HRN := Lib.hid hrn
         have hsz2 : w.heap.size + 2 ≤ w1.heap.size := by have := hb1.size; simpa using this
         have zn : ((rn : Int) == 0) = false := by rw [beq_eq_false_iff_ne]; omega
         clear hb1 hiv hnu hrn)
      | fail)
    have HLN := Lib.hid (LBox.new w1 nm none 0 0)
    go_loopw [5] (fun i wr => ∃ (k : Nat) (sa : Option Addr) (sn sc : Nat), k ≤ rn ∧ i = .int .i64 k ∧ Hid (TOwn wr (w1.heap.size + 1) (.slice sa sn sc) (((reachT ts).take k).map (trim1 ts))) ∧ Hid (LBox wr w1.heap.size nm sa sn sc) ∧ Hid (Below w1.heap.size w1 wr)) (fun i _ => rn - (intOf i).toNat)
    case atStart => exact ⟨0, none, 0, 0, Nat.zero_le _, rfl, Lib.hid (by rw [List.take_zero]; exact TOwn.zero _ _), HLN, Lib.hid (tu1 w1 _)⟩
    case round =>
      obtain ⟨k, sa, sn, sc, hk, rfl, HO, HLB, HBr⟩ := hrel
      have HBW := Lib.hid (below_on HB1.out HBr.out)
      obtain ⟨mc0, mc1⟩ := (HLM.out.on HBr.out).cells
      obtain ⟨oc0, oc1⟩ := HLB.out.cells
      have hzl := HLB.out.lt
      have hzr := HBr.out.size
      have hzw := HB1.out.size
      by_cases hlt : k < rn
      · obtain ⟨rb, ro, x, rfl, hrb, hx, hc⟩ := (HNU.out.below HBr.out).at_ hlt
        obtain ⟨p, rfl, hp⟩ := rowI_at hx
        have hmemp := List.mem_of_getElem? hp
        have hpn := reach_lt HV.out p hmemp
        rw [HLEN.out] at hpn
        obtain ⟨b, off, kd, s, aa, an, ac, l, rfl, hbb, ht, ⟨q0, q1, q2⟩, hs, hal⟩ := HN.out.at_ hpn
        have r0 := (HBW.out.cell (p := ⟨b, off + p * 3, none⟩) (by show b < _; omega)).trans q0
        have r1 := (HBW.out.cell (p := ⟨b, off + p * 3 + 1, none⟩) (by show b < _; omega)).trans q1
        have r2 := (HBW.out.cell (p := ⟨b, off + p * 3 + 2, none⟩) (by show b < _; omega)).trans q2
        have hto : turnOf ts p = ⟨kd, s.toList, l⟩ := by unfold turnOf; rw [ht]; rfl
        have hao : armsOf ts p = l := by unfold armsOf; rw [ht]; rfl
        have hcl := reach_closed HV.out p hmemp
        have hgd := (arms_ok HV.out p).1
        rw [hao] at hcl hgd
        have hl4 : an ≤ 1000 := by
          have h1 := arms_few HV.out l (List.mem_map.2 ⟨_, List.mem_of_getElem? ht, rfl⟩)
          have := hal.1
          omega
        obtain ⟨wo, hwo⟩ : ∃ wo : World, wo = wr := ⟨_, rfl⟩
        subst hwo
        have HBX := Lib.hid (show Below wo.heap.size wo (wo.alloc (.cells #[.int .i64 kd, .string s, .slice aa an ac] 51)).drew from bel_drew1 ((Below.refl _ _).alloc (Nat.le_refl _) _))
        have HTB := Lib.hid (show TBox (wo.alloc (.cells #[.int .i64 kd, .string s, .slice aa an ac] 51)).drew wo.heap.size kd s aa an ac from TBox.new wo kd s aa an ac)
        have HSS := Lib.hid hs
        have HML := Lib.hid (show (movedA (reachT ts) l).length ≤ 1000000 by unfold movedA; rw [List.length_map, sortA_len, hal.1]; omega)
        have HFL := Lib.hid (show (((reachT ts).take k).map (trim1 ts)).length ≤ 1000000 by rw [List.length_map, List.length_take]; omega)
        have HFL2 := Lib.hid (show (((reachT ts).take k).map (trim1 ts) ++ [(⟨kd, s.toList, movedA (reachT ts) l⟩ : TurnL)]).length ≤ 1000000 by rw [List.length_append, List.length_map, List.length_take, List.length_singleton]; omega)
        have CM := Lib.hid (fun (W : World) (hW0 : Below wo.heap.size wo W) => (tuMoved_any aa an ac l (some ⟨rb, ro, none⟩) rn rc (reachT ts) W W.heap.size (Nat.le_refl _) ((hal.below ((below_on HBW.out hW0).mono hb)).more (by have := (below_on HBW.out hW0).size; omega)) hl4 ((HNU.out.below (below_on HBr.out hW0)).more (below_on HBr.out hW0).size)
          (fun x hx => ⟨(armB_all (hgd x hx)).2.2.1, hcl x hx⟩)).mono fun e w3 h => (by obtain ⟨⟨v, hv1, hv2⟩, h2⟩ := h; exact ⟨⟨v, hv1, hv2.low hW0.size, h2⟩, below_on hW0 h2⟩ : (∃ v, e = .returned v ∧ AOwn w3 wo.heap.size v (movedA (reachT ts) l) ∧ Below W.heap.size W w3) ∧ Below wo.heap.size wo w3))
        have HST := Lib.hid (show ((reachT ts).take (k + 1)).map (trim1 ts) = ((reachT ts).take k).map (trim1 ts) ++ [(⟨kd, s.toList, movedA (reachT ts) l⟩ : TurnL)] by
          rw [take_snoc hp, List.map_append, List.map_cons, List.map_nil, show trim1 ts p = ⟨kd, s.toList, movedA (reachT ts) l⟩ by unfold trim1; rw [hto]])
        have hf0 : wo.frozen? ⟨w1.heap.size, 1, none⟩ = false := by
          have h := HLB.out
          unfold LBox at h
          unfold World.frozen?
          rw [h]
          rfl
        have z1 : b < wo.heap.size := by omega
        have z2 : rb < wo.heap.size := by omega
        have z3 : w.heap.size < wo.heap.size := by omega
        clear q0 q1 q2 hx hp ht hal hto hao hcl hgd hmemp
        have i1 : (p : Int) < (n : Int) := by omega
        go_upto_region 8 with fail
        go_region
        go_upto_region 9 with fail
        generalize hw8 : (wo.alloc (.cells #[.int .i64 kd, .string s, .slice aa an ac] 51)).drew = w8 at HBX HTB ⊢
        clear hw8
        have HB8 := Lib.hid (show Below wo.heap.size wo w8.drew from bel_drew1 HBX.out)
        have HT8 := Lib.hid (show TBox w8.drew wo.heap.size kd s aa an ac from HTB.out)
        have HL8 := Lib.hid (HLB.out.on HBX.out)
        obtain ⟨_, _, _⟩ := HTB.out.cells
        obtain ⟨_, _⟩ := HL8.out.cells
        have CM8 := Lib.hid (CM.out w8.drew HB8.out)
        clear CM CR ff lc0 lc1 xc0 xc1 f0 f1 mc0 mc1 yc0 yc1 zn HLM HXM HNU HN HB0 HL HX HLN HBW HBX HL8 HTB r0 r1 r2 hc hf0 oc0 oc1 i1 hrb hbb
        have HK := Lib.hid (fun (W : World) (hW : Below wo.heap.size wo W) (hT : TBox W wo.heap.size kd s aa an ac) => show W.cell? ⟨w1.heap.size, 0, none⟩ = some (.string nm) ∧ W.cell? ⟨w1.heap.size, 1, none⟩ = some (.slice sa sn sc) ∧ W.cell? ⟨wo.heap.size, 0, none⟩ = some (.int .i64 kd) ∧ W.cell? ⟨wo.heap.size, 1, none⟩ = some (.string s) ∧ W.cell? ⟨wo.heap.size, 2, none⟩ = some (.slice aa an ac) from
          ⟨((HLB.out.on hW).cells).1, ((HLB.out.on hW).cells).2, (hT.cells).1, (hT.cells).2.1, (hT.cells).2.2⟩)
        refine wp_region_last2 (S := fun W => W.cell? ⟨w1.heap.size, 0, none⟩ = some (.string nm) ∧ W.cell? ⟨w1.heap.size, 1, none⟩ = some (.slice sa sn sc) ∧ W.cell? ⟨wo.heap.size, 0, none⟩ = some (.int .i64 kd) ∧ W.cell? ⟨wo.heap.size, 1, none⟩ = some (.string s) ∧ W.cell? ⟨wo.heap.size, 2, none⟩ = some (.slice aa an ac)) rfl (by kernel_rfl) (by kernel_rfl) (HK.out _ HB8.out HT8.out) (fun hHeld => ?_)
        simp only [List.pop_toArray, List.dropLast_cons_cons, List.dropLast_singleton]
        refine' wpAnyH_take (i := 0) (v := _) rfl (by kernel_rfl) (by kernel_rfl) (by kernel_rfl) (fun _ _ _ h => h) (Or.inl ⟨by rfl, ?hy0⟩) (by assumption) ?rest0
        case hy0 =>
          intro W hSw
          (try dsimp only at hSw)
          first | (go_simp; done) | (go_simp; with_reducible rfl)
        try simp only [Act.put, List.setIfInBounds_toArray]
        refine' wpAnyH_take (i := 1) (v := _) rfl (by kernel_rfl) (by kernel_rfl) (by kernel_rfl) (fun _ _ _ h => h) (Or.inl ⟨by rfl, ?hy1⟩) (by assumption) ?rest1
        case hy1 =>
          intro W hSw
          (try dsimp only at hSw)
          first | (go_simp; done) | (go_simp; with_reducible rfl)
        try simp only [Act.put]
        refine' wpAnyH_take (i := 2) (v := _) rfl (by kernel_rfl) (by kernel_rfl) (by kernel_rfl) (fun _ _ _ h => h) (Or.inl ⟨by rfl, ?hy2⟩) (by assumption) ?rest2
        case hy2 =>
          intro W hSw
          (try dsimp only at hSw)
          first | (go_simp; done) | (go_simp; with_reducible rfl)
        try simp only [Act.put]
        refine' wpAnyH_take (i := 3) (v := _) rfl (by kernel_rfl) (by kernel_rfl) (by kernel_rfl) (fun _ _ _ h => h) (Or.inl ⟨by rfl, ?hy3⟩) (by assumption) ?rest3
        case hy3 =>
          intro W hSw
          (try dsimp only at hSw)
          first | (go_simp; done) | (go_simp; with_reducible rfl)
        try simp only [Act.put]
        refine' wpAnyH_take (i := 4) (v := _) rfl (by kernel_rfl) (by kernel_rfl) (by kernel_rfl) (fun _ _ _ h => h) (Or.inl ⟨by rfl, ?hy4⟩) (by assumption) ?rest4
        case hy4 =>
          intro W hSw
          (try dsimp only at hSw)
          first | (go_simp; done) | (go_simp; with_reducible rfl)
        try simp only [Act.put]
        refine' wpAnyH_take (i := 5) (v := _) rfl (by kernel_rfl) (by kernel_rfl) (by kernel_rfl) (fun _ _ _ h => h) (Or.inl ⟨by rfl, ?hy5⟩) (by assumption) ?rest5
        case hy5 =>
          intro W hSw
          (try dsimp only at hSw)
          first | (go_simp; done) | (go_simp; with_reducible rfl)
        try simp only [Act.put]
        refine' wpAnyH_take (i := 6) (v := _) rfl (by kernel_rfl) (by kernel_rfl) (by kernel_rfl) (fun _ _ _ h => h) (Or.inl ⟨by rfl, ?hy6⟩) (by assumption) ?rest6
        case hy6 =>
          intro W hSw
          (try dsimp only at hSw)
          first | (go_simp; done) | (go_simp; with_reducible rfl)
        try simp only [Act.put]
        refine' wpAnyH_take (i := 7) (v := _) rfl (by kernel_rfl) (by kernel_rfl) (by kernel_rfl) (fun _ _ _ h => h) (Or.inl ⟨by rfl, ?hy7⟩) (by assumption) ?rest7
        case hy7 =>
          intro W hSw
          (try dsimp only at hSw)
          first | (go_simp; done) | (go_simp; with_reducible rfl)
        try simp only [Act.put]
        refine' wpAnyH_take (i := 8) (v := _) rfl (by kernel_rfl) (by kernel_rfl) (by kernel_rfl) (fun _ _ _ h => h) (Or.inl ⟨by rfl, ?hy8⟩) (by assumption) ?rest8
        case hy8 =>
          intro W hSw
          (try dsimp only at hSw)
          first | (go_simp; done) | (go_simp; with_reducible rfl)
        try simp only [Act.put]
        refine wpAnyH_ready (rs := [9]) (by kernel_rfl) (by simp) ?_
        refine AllReadyH.cons (i := 9) (o := _) rfl (fun K hK => ?_) AllReadyH.nil
        go_simp
        go_at_call 73
        with_reducible refine CM8.out.mono ?_
        rintro e w3 ⟨⟨v3, he3, hv3, hlow3⟩, hb3⟩
        subst he3
        obtain ⟨a3, c3, hva3, har3, _, _⟩ := hv3.sees HML.out
        obtain ⟨n3, hn3⟩ : ∃ x, x = (movedA (reachT ts) l).length := ⟨_, rfl⟩
        rw [← hn3] at hva3 har3
        clear hn3
        subst hva3
        have HB3 := Lib.hid hb3
        have HO3 := Lib.hid (HO.out.kept HB3.out (by omega))
        have HLI3 := Lib.hid hv3.lies
        have HTA := Lib.hid (show TurnAt w3 (w1.heap.size + 1) (.slice sa sn sc) ⟨kd, s, a3, n3, c3⟩ ⟨kd, s.toList, movedA (reachT ts) l⟩ from ⟨rfl, rfl, HSS.out, har3, fun b off e => by
          have h1 := HLI3.out b off e
          refine ⟨by omega, h1.2, fun e2 => ?_⟩
          have h2 := HO.out.lies b e2
          omega⟩)
        have HT3 := Lib.hid (show TBox w3 wo.heap.size kd s aa an ac from HT8.out.on hlow3)
        have hz4 : wo.heap.size < w3.heap.size := HT3.out.lt
        clear hv3 har3 hb3
        refine hK.out _ _ (HK.out _ HB3.out HT3.out) (fun hHeld => ?_)
        clear hK K
        try simp only [Act.put, List.setIfInBounds_toArray, List.set_cons_zero, List.set_cons_succ]
        refine' wpAnyH_take (i := 10) (v := _) rfl (by kernel_rfl) (by kernel_rfl) (by kernel_rfl) (fun _ _ _ h => h) (Or.inl ⟨by rfl, ?hy10⟩) (by assumption) ?rest10
        case hy10 =>
          intro W hSw
          (try dsimp only at hSw)
          first | (go_simp; done) | (go_simp; with_reducible rfl)
        try simp only [Act.put, List.setIfInBounds_toArray]
        refine wpAnyH_ready (rs := [11]) (by kernel_rfl) (by simp) ?_
        refine AllReadyH.cons (i := 11) (o := _) rfl (fun K hK => ?_) AllReadyH.nil
        go_simp
        refine hK.out _ _ (HK.out _ (below_on HB3.out (tu1 _ _)) (HT3.out.on (tu1 _ _))) (fun hHeld => ?_)
        clear hK K
        try simp only [Act.put, List.setIfInBounds_toArray, List.set_cons_zero, List.set_cons_succ]
        refine wpAnyH_ready (rs := [12]) (by kernel_rfl) (by simp) ?_
        refine AllReadyH.cons (i := 12) (o := _) rfl (fun K hK => ?_) AllReadyH.nil
        refine step_append_turn2 w3 (by rfl) (.tmp 31) (.tmp 41) (by rfl) (w1.heap.size + 1) (.slice sa sn sc) (((reachT ts).take k).map (trim1 ts)) ⟨kd, s, a3, n3, c3⟩ ⟨kd, s.toList, movedA (reachT ts) l⟩ (by rfl) (by rfl) (by rfl) HO3.out HTA.out (by have := HB3.out.size; omega) HFL.out wo (HB3.out.mono (by omega)) ?_
        intro v4 w4 hown hbel hsz4 hblk
        obtain ⟨sa4, sc4, hv4, _⟩ := hown.sees HFL2.out
        obtain ⟨sn4, hn4⟩ : ∃ x, x = (((reachT ts).take k).map (trim1 ts) ++ [(⟨kd, s.toList, movedA (reachT ts) l⟩ : TurnL)]).length := ⟨_, rfl⟩
        rw [← hn4] at hv4
        clear hn4
        subst hv4
        have HO4 := Lib.hid hown
        have HB4 := Lib.hid hbel
        have HL4 := Lib.hid (show LBox w4 w1.heap.size nm sa sn sc from (hbel.block w1.heap.size (by omega)).trans HLB.out)
        have HT4 := Lib.hid (show TBox w4 wo.heap.size kd s aa an ac from (hblk wo.heap.size hz4 (fun e => by have := (HO.out.lies _ e).2; omega)).trans HT3.out)
        have vf1 := HL4.out.thaw 1
        clear hown hbel hblk
        refine hK.out _ _ ⟨HL4.out.cells.1, HL4.out.cells.2, HT4.out.cells.1, HT4.out.cells.2.1, HT4.out.cells.2.2⟩ (fun hHeld => ?_)
        clear hK K
        try simp only [Act.put, List.setIfInBounds_toArray]
        refine' wpAnyH_take (i := 13) (v := _) rfl (by kernel_rfl) (by kernel_rfl) (by kernel_rfl) (fun _ _ _ h => h) (Or.inl ⟨by rfl, ?hy13⟩) (by assumption) ?rest13
        case hy13 =>
          intro W hSw
          (try dsimp only at hSw)
          first | (go_simp; done) | (go_simp; with_reducible rfl)
        try simp only [Act.put]
        refine wpAnyH_done (by kernel_rfl) ?_ _
        obtain ⟨_, _⟩ := HL4.out.cells
        unfold LastPost
        go_simp
        go_wp2_with fail
        go_roundw
        case rel => exact ⟨k + 1, sa4, sn4, sc4, by omega, by go_num, Lib.hid (by rw [HST.out]; exact HO4.out.beside ((Beside.refl w1.heap.size w4).setCell 1 (.slice sa4 sn4 sc4)) (by omega)), Lib.hid (LBox.set HL4.out), Lib.hid ((HBr.out.trans (HB4.out.mono (by omega))).setCell (by simp) _)⟩
        case measure => simp [intOf]; omega
      · have hsn := HO.out
        rw [List.take_of_length_le (by have := HRN.out; omega)] at hsn
        have hend := hsn.beside (((Beside.refl (w.heap.size + 1) wr).setCell 0 (.string nm)).setCell 1 (.slice sa sn sc)) (by omega)
        have HT := Lib.hid (hend.low (base' := w.heap.size) (by omega))
        have zc0 := (HBr.out.cell (p := ⟨w.heap.size + 1, 0, none⟩) (by show w.heap.size + 1 < _; omega)).trans yc0
        have zc1 := (HBr.out.cell (p := ⟨w.heap.size + 1, 1, none⟩) (by show w.heap.size + 1 < _; omega)).trans yc1
        have zf0 := (HBr.out.frozen (p := ⟨w.heap.size + 1, 0, none⟩) (by show w.heap.size + 1 < _; omega)).trans f0
        have zf1 := (HBr.out.frozen (p := ⟨w.heap.size + 1, 1, none⟩) (by show w.heap.size + 1 < _; omega)).trans f1
        clear hsn hend
        go_wp2
        refine bodyPost_ret (v := .agg #[.string nm, .slice sa sn sc]) (by simp [results, go_sem, zc0, zc1]) rfl ?_
        exact ⟨⟨sa, _, sc, by rw [HY.out], by rw [HZ.out]; exact HT.out⟩, (HBW.out.setCell (by simp) _).setCell (by simp) _⟩
theorem tuTrim_any (nm : ByteArray) (a : Option Addr) (n c : Nat) (ts : List TurnL) (w : World) (bound : Nat) (hb : bound ≤ w.heap.size) (h : Turns w bound a n ts) :
    Calls Tryz.prog 39 #[.agg #[.string nm, .slice a n c]] w fun e w' => (∃ ra rn rc, e = .returned (.agg #[.string (trimName ts nm), .slice ra rn rc]) ∧ Turns w' w'.heap.size ra rn (trimL ts)) ∧ Below w.heap.size w w' :=
  (tuTrimO_any nm a n c ts w bound hb h).mono fun e w' ⟨⟨ra, rn, rc, e1, e2⟩, e3⟩ => by
    obtain ⟨a2, c2, hv, ht⟩ := e2.sees (by have := trimL_few ts; omega)
    obtain ⟨q1, q2, _⟩ := Value.slice.inj hv
    subst q1 q2
    exact ⟨⟨ra, _, rc, e1, ht⟩, e3⟩
end Go.Proofs.YtiofpeckcfdilaaGreatDoor

/- Contracts of the statements' own few and local. -/
namespace Go.Proofs.YtiofpeckcfdilaaGreatDoor
open Go.RowKit

def fewB (ts : List TurnL) : Bool := ts.all (fun t => decide (t.arms.length ≤ 20)) && decide (ts.length ≤ 60)
theorem few_no {ts : List TurnL} {k : Nat} {t : TurnL} (ht : ts[k]? = some t) (h : 20 < t.arms.length) : fewB ts = false := by
  unfold fewB
  have : ts.all (fun t => decide (t.arms.length ≤ 20)) = false := by
    rw [List.all_eq_false]
    exact ⟨t, List.mem_of_getElem? ht, by simp; omega⟩
  rw [this]
  rfl
theorem few_end {ts : List TurnL} {n : Nat} (hn : ts.length = n) (h : ∀ j t, j < n → ts[j]? = some t → t.arms.length ≤ 20) : fewB ts = decide (n ≤ 60) := by
  unfold fewB
  have : ts.all (fun t => decide (t.arms.length ≤ 20)) = true := by
    rw [List.all_eq_true]
    intro t ht
    obtain ⟨j, hj⟩ := List.mem_iff_getElem?.1 ht
    have := (List.getElem?_eq_some_iff.1 hj).1
    exact decide_eq_true (h j t (by omega) hj)
  rw [this, hn]
  rfl
/-- What local answers. -/
def ArgRet (e : Ending) (w' : World) : Prop := ∃ nm a n c ts, e = .returned (.agg #[.string nm, .slice a n c]) ∧ Turns w' w'.heap.size a n ts
end Go.Proofs.YtiofpeckcfdilaaGreatDoor

/- Contract of the reference's LocalSame. -/
namespace Go.Proofs.YtiofpeckcfdilaaGreatDoor
open Go.RowKit

end Go.Proofs.YtiofpeckcfdilaaGreatDoor

/- Law: TurnsTell. -/
namespace Go.Proofs.YtiofpeckcfdilaaGreatDoor
open Go.RowKit

theorem walkV_form (o : Option Nat) : ∃ (p : Int) (b : Bool), walkV o = .tuple #[.int .i64 p, .bool b] := by cases o <;> exact ⟨_, _, rfl⟩
end Go.Proofs.YtiofpeckcfdilaaGreatDoor
