/- Contracts of the statements' own few and local. -/
import Derived.Test.YtbbdmipfbnfpfaaGreatTuLawP
import Derived.Test.YtbbdmipfbnfpfaaGreatTuSameO
import Derived.Test.YtbbdmipfbnfpfaaGreatTuMoved
import Derived.Deep.RegionHeld3
import Derived.Deep.RegionLaw
import Derived.Test.YtbbdmipfbnfpfaaGreatTuLast
import Derived.Test.YtbbdmipfbnfpfaaGreatTuSameT
import Derived.Test.YtbbdmipfbnfpfaaGreatTuSameL
import Derived.Test.YtbbdmipfbnfpfaaGreatTuOwnRW
import Derived.Test.YtbbdmipfbnfpfaaGreatTuWalk
import Derived.Test.YtbbdmipfbnfpfaaGreatTuPeers
import Derived.BigQuiet
namespace Go.Proofs.YtbbdmipfbnfpfaaGreat
open Go.RowKit

def fewB (ts : List TurnL) : Bool := ts.all (fun t => decide (t.arms.length ≤ 20)) && decide (ts.length ≤ 60)
theorem few_no {ts : List TurnL} {k : Nat} {t : TurnL} (ht : ts[k]? = some t) (h : 20 < t.arms.length) : fewB ts = false := by
  unfold fewB
  have : ts.all (fun t => decide (t.arms.length ≤ 20)) = false := by
    rw [List.all_eq_false]
    exact ⟨t, List.mem_of_getElem? ht, by simp; omega⟩
  rw [this]
  rfl
theorem few_end {ts : List TurnL} {n : Nat} (hn : ts.length = n) (h : ∀ j t, j < n → ts[j]? = some t → t.arms.length ≤ 20) : fewB ts = decide (n ≤ 60) := by
  unfold fewB
  have : ts.all (fun t => decide (t.arms.length ≤ 20)) = true := by
    rw [List.all_eq_true]
    intro t ht
    obtain ⟨j, hj⟩ := List.mem_iff_getElem?.1 ht
    have := (List.getElem?_eq_some_iff.1 hj).1
    exact decide_eq_true (h j t (by omega) hj)
  rw [this, hn]
  rfl
set_option maxHeartbeats 8000000 in
theorem few_any (nm : ByteArray) (a : Option Addr) (n c : Nat) (ts : List TurnL) (w : World) (bound : Nat) (hb : bound ≤ w.heap.size) (h : Turns w bound a n ts) :
    Calls Tryz.prog 5 #[.agg #[.string nm, .slice a n c]] w fun e w' => e = .returned (.bool (fewB ts)) ∧ Below w.heap.size w w' := by
  have HB0 := Lib.hid (tu1 w (.cells #[.string nm, .slice a n c] 24))
  have HL := Lib.hid (LBox.new w nm a n c)
  have HN := Lib.hid (h.below (tu1 w (.cells #[.string nm, .slice a n c] 24) |>.mono hb))
  have HLEN := Lib.hid h.1
  have hsz := h.2.1
  obtain ⟨R, hR⟩ : ∃ R, R = fewB ts := ⟨_, rfl⟩
  rw [← hR]
  have HR := Lib.hid hR
  clear h hR
  go_enter Tryz.func5, Tryz.ntmps5
  go_wp2
  generalize hw1 : w.alloc (.cells #[.string nm, .slice a n c] 24) = w1 at HB0 HL HN ⊢
  clear hw1
  obtain ⟨lc0, lc1⟩ := HL.out.cells
  go_loop [3] (fun i => ∃ k : Nat, k ≤ n ∧ i = .int .i64 k ∧ Hid (∀ j t, j < k → ts[j]? = some t → t.arms.length ≤ 20)) (fun i => n - (intOf i).toNat)
  case atStart => exact ⟨0, Nat.zero_le _, rfl, Lib.hid (fun j t hj => by omega)⟩
  case round =>
    obtain ⟨k, hk, rfl, HK⟩ := hrel
    by_cases hlt : k < n
    · obtain ⟨b, off, kd, s, aa, an, ac, l, rfl, hbb, ht, ⟨q0, q1, q2⟩, hs, hal⟩ := HN.out.at_ hlt
      have i1 : (k : Int) < (n : Int) := by omega
      have i2 : (0 : Int) ≤ (k : Int) := by omega
      by_cases hm : 20 < an
      · have d2 : decide ((20 : Int) < (an : Int)) = true := decide_eq_true (by omega)
        have HZ := Lib.hid (show R = false by rw [HR.out]; exact few_no ht (by rw [hal.1]; exact hm))
        have d3 : (20 : Int) < (an : Int) := by omega
        clear ht q0 q1 hs hal
        go_wp2_with fail
        go_ret
        exact ⟨ret_bool HZ.out.symm, HB0.out⟩
      · have d2 : decide ((20 : Int) < (an : Int)) = false := decide_eq_false (by omega)
        have HK2 := Lib.hid (show ∀ j t, j < k + 1 → ts[j]? = some t → t.arms.length ≤ 20 from fun j t hj hjt => by
          by_cases hjk : j = k
          · subst hjk
            rw [ht] at hjt
            obtain rfl := Option.some.inj hjt
            rw [hal.1]
            omega
          · exact HK.out j t (by omega) hjt)
        clear ht q0 q1 hs hal
        go_wp2_with fail
        go_round
        case rel => exact ⟨k + 1, by omega, by go_num, HK2⟩
        case measure => simp [intOf]; omega
    · have d1 : decide ((k : Int) < (n : Int)) = false := decide_eq_false (by omega)
      have hend := few_end HLEN.out (fun j t hj => HK.out j t (by omega))
      by_cases h60 : n ≤ 60
      · have HZ := Lib.hid (show R = true by rw [HR.out, hend, decide_eq_true h60])
        have d2 : decide ((n : Int) ≤ 60) = true := decide_eq_true (by omega)
        have d3 : (n : Int) ≤ 60 := by omega
        clear hend
        go_wp2_with fail
        go_ret
        exact ⟨ret_bool HZ.out.symm, HB0.out⟩
      · have HZ := Lib.hid (show R = false by rw [HR.out, hend, decide_eq_false h60])
        have d2 : decide ((n : Int) ≤ 60) = false := decide_eq_false (by omega)
        clear hend
        go_wp2_with fail
        go_ret
        exact ⟨ret_bool HZ.out.symm, HB0.out⟩
/-- What local answers. -/
def ArgRet (e : Ending) (w' : World) : Prop := ∃ nm a n c ts, e = .returned (.agg #[.string nm, .slice a n c]) ∧ Turns w' w'.heap.size a n ts
set_option maxHeartbeats 8000000 in
theorem argLocal_any (nm : ByteArray) (a : Option Addr) (n c : Nat) (ts : List TurnL) (ma : Option Addr) (mn mc : Nat) (ml : List Int) (w : World) (bound : Nat) (hb : bound ≤ w.heap.size) (h : Turns w bound a n ts) (hm : Nums w bound ma mn ml) (hlim : mn * 8 ≤ 140737488351232) :
    Calls Tryz.prog 6 #[.agg #[.string nm, .slice a n c], .slice ma mn mc] w fun e w' => ArgRet e w' ∧ Below w.heap.size w w' := by
  have HB0 := Lib.hid (below_on (tu1 w (.cells #[.string nm, .slice a n c] 24)) (tu1 (w.alloc (.cells #[.string nm, .slice a n c] 24)) (.cells #[.string ⟨#[]⟩, .slice none 0 0] 24)))
  have HL := Lib.hid ((LBox.new w nm a n c).on (tu1 (w.alloc (.cells #[.string nm, .slice a n c] 24)) (.cells #[.string ⟨#[]⟩, .slice none 0 0] 24)))
  have HX := Lib.hid (LBox.new (w.alloc (.cells #[.string nm, .slice a n c] 24)) ⟨#[]⟩ none 0 0)
  rw [World.size_alloc] at HX
  have HN := Lib.hid (h.below (HB0.out.mono hb))
  have HM := Lib.hid (hm.below (HB0.out.mono hb))
  clear h hm
  go_enter Tryz.func6, Tryz.ntmps6
  go_upto_region 1 with fail
  generalize hw1 : (w.alloc (.cells #[.string nm, .slice a n c] 24)).alloc (.cells #[.string ⟨#[]⟩, .slice none 0 0] 24) = w1 at HB0 HL HX HN HM ⊢
  clear hw1
  obtain ⟨lc0, lc1⟩ := HL.out.cells
  obtain ⟨xc0, xc1⟩ := HX.out.cells
  have f0 := HX.out.thaw 0
  have f1 := HX.out.thaw 1
  have hz1 := HX.out.lt
  by_cases hn : 0 < mn
  · have d1 : decide ((0 : Int) < (mn : Int)) = true := decide_eq_true (by omega)
    have d2 : decide (0 < mn) = true := decide_eq_true hn
    go_wp2_with (first
      | (go_at_call 23; (with_reducible refine (new_any ma mn mc ml w1 bound HM.out hlim).mono ?_)
         rintro e w2 ⟨g, rfl, hd2, hg2, hb2⟩
         have HD2 := Lib.hid hd2
         have HB2 := Lib.hid hb2
         clear hd2 hb2)
      | (go_at_call 22; (with_reducible refine (made_local HD2.out).mono ?_)
         rintro e w3 ⟨⟨sa, sn, sc, us, rfl, hm3, hln, hloc, hfew⟩, hb3⟩
         have HT3 := Lib.hid hm3.towns
         have HFW := Lib.hid hfew
         have HZ2 := Lib.hid HB2.out.size
         have hb13 : Below w1.heap.size w1 w3 := HB2.out.trans (hb3.below hg2 HB2.out.size)
         have HB3 := Lib.hid hb13
         have HX3 := Lib.hid (HX.out.on hb13)
         obtain ⟨_, _⟩ := HX3.out.cells
         have f3 := HX3.out.thaw 0
         have f4 := HX3.out.thaw 1
         clear hm3 hloc hb3 hln hb13)
      | fail)
    have hend := HT3.out.beside (((Beside.refl (w.heap.size + 1) w3).setCell 0 (.string ⟨#[116]⟩)).setCell 1 (.slice sa sn sc)) (by have := HZ2.out; omega)
    obtain ⟨a2, c2, hv, ht⟩ := hend.sees (by have := HFW.out; omega)
    obtain ⟨e1, e2, e3⟩ := Value.slice.inj hv
    subst e1 e3
    rw [← e2] at ht
    have hbl := below_on HB0.out HB3.out
    refine bodyPost_ret (v := .agg #[.string ⟨#[116]⟩, .slice sa sn sc]) (by simp [results, go_sem, *]) rfl ?_
    exact ⟨⟨⟨#[116]⟩, sa, sn, sc, us, rfl, ht⟩, (hbl.setCell (by simp) _).setCell (by simp) _⟩
  · have d1 : decide ((0 : Int) < (mn : Int)) = false := decide_eq_false (by omega)
    have d2 : decide (0 < mn) = false := decide_eq_false hn
    go_wp2_with fail
    have ht := (HN.out.below (((Below.refl bound w1).setCell (p := ⟨w.heap.size + 1, 0, none⟩) (show bound ≤ w.heap.size + 1 by omega) (.string nm)).setCell (p := ⟨w.heap.size + 1, 1, none⟩) (show bound ≤ w.heap.size + 1 by omega) (.slice a n c))).more (bound' := ((w1.setCell ⟨w.heap.size + 1, 0, none⟩ (.string nm)).setCell ⟨w.heap.size + 1, 1, none⟩ (.slice a n c)).heap.size) (by have := HB0.out.size; simp; omega)
    refine bodyPost_ret (v := .agg #[.string nm, .slice a n c]) (by simp [results, go_sem, xc0, xc1]) rfl ?_
    exact ⟨⟨nm, a, n, c, ts, rfl, ht⟩, (HB0.out.setCell (by simp) _).setCell (by simp) _⟩
end Go.Proofs.YtbbdmipfbnfpfaaGreat

/- Contract of the reference's LocalTrim. -/
namespace Go.Proofs.YtbbdmipfbnfpfaaGreat
open Go.RowKit

theorem TBox.on {W W' : World} {g : Nat} {k : Int} {s : ByteArray} {a : Option Addr} {n c : Nat} (h : TBox W g k s a n c) (hb : Below W.heap.size W W') : TBox W' g k s a n c := (hb.block g h.lt).trans h
theorem TOwn.add2 {W : World} {base : Nat} {v : Value} {f : List TurnL} {r : TR} {t : TurnL} (hB : TOwn W base v f) (hA : TurnAt W base v r t) (hb : base ≤ W.heap.size) (hlen : f.length ≤ 1000000) (ty : Nat) :
    ∃ v' w', (Builtin.append_ #[22, 22] ty #[v, .slice (some ⟨W.heap.size, 0, none⟩) 1 1]).run Tryz.prog (W.alloc (.cells #[.int .i64 r.k, .string r.s, .slice r.a r.n r.c] 44)) = .ok v' w' ∧ TOwn w' base v' (f ++ [t]) ∧ (∀ w0, Below base w0 W → Below base w0 w') ∧ W.heap.size + 1 ≤ w'.heap.size ∧ ∀ b, b < W.heap.size → v.ownBlock ≠ some b → w'.heap[b]? = W.heap[b]? := by
  obtain ⟨i0, hi0, hzz⟩ := Option.map_eq_some_iff.1 info_turn
  simp only [Prod.mk.injEq] at hzz
  obtain ⟨hz, hs1, hb1⟩ := hzz
  obtain ⟨rs, hown, hrl, hrd⟩ := hB
  have hown1 : (W.alloc (.cells #[.int .i64 r.k, .string r.s, .slice r.a r.n r.c] 44)).ownsRow base 44 3 v f.length (rs.flatMap encTR) := World.ownsRow.alloc hown _
  obtain ⟨v', w', hrun, hown', hgr, _, hat⟩ := run_append_own_at (P := Tryz.prog) (W.alloc (.cells #[.int .i64 r.k, .string r.s, .slice r.a r.n r.c] 44)) base 22 ty 44 i0 _ 3 48 Tryz.underlying22 hi0 hz hs1 hb1 rfl (by omega) v f.length (rs.flatMap encTR) hown1
    ⟨W.heap.size, 0, none⟩ 1 1 (encTR r) rfl
    (fun j u hu => by
      rw [Go.WideShapes.add_plain, cell_of_row _ _ _ _ _ _ (heap_alloc_new W _), Nat.zero_add, ← hu]
      rw [← Array.getElem?_toList]
      rfl)
    (fun u hu => by
      unfold encTR at hu
      simp only [List.mem_cons, List.not_mem_nil, or_false] at hu
      rcases hu with rfl | rfl | rfl <;> rfl) (by unfold maxLen; omega) (by omega) (by simp; omega)
  have hbel : ∀ B, B ≤ base → ∀ w0, Below B w0 W → Below B w0 w' := fun B hB w0 hw0 => (hw0.alloc (by omega) _).grown hgr (by simp; omega) (fun k hk => by
    have := hown1.lt k hk
    omega)
  have hsz : W.heap.size + 1 ≤ w'.heap.size := by
    have := hgr.size
    simpa using this
  have hblk : ∀ b, b < W.heap.size → v.ownBlock ≠ some b → w'.heap[b]? = W.heap[b]? := fun b hbl hne => (hgr.block b (by simp; omega) (fun e => hne e.symm)).trans ((tu1 W _).block b hbl)
  have hnew : ∀ b, b < W.heap.size → v.ownBlock ≠ some b → v'.ownBlock ≠ some b := fun b hbl hne => by
    rcases hat with e | e
    · rw [e]; exact hne
    · rw [e]
      intro e2
      have := Option.some.inj e2
      simp at this
      omega
  have hmove : ∀ (r : TR) (t : TurnL), TurnAt W base v r t → TurnAt w' base v' r t := fun r t ⟨e1, e2, e3, e4, e5⟩ =>
    ⟨e1, e2, e3, e4.stay (by omega) (fun b off e => hblk b (e5 b off e).2.1 (e5 b off e).2.2), fun b off e => ⟨(e5 b off e).1, by have := (e5 b off e).2.1; omega, hnew b (e5 b off e).2.1 (e5 b off e).2.2⟩⟩
  refine ⟨v', w', hrun, ⟨rs ++ [r], ?_, by simp [hrl], fun j r2 k hj hk => ?_⟩, fun w0 hw0 => hbel base (Nat.le_refl _) w0 hw0, hsz, hblk⟩
  · rw [List.length_append, List.flatMap_append, List.flatMap_cons, List.flatMap_nil, List.append_nil]
    exact hown'
  · rcases Nat.lt_or_ge j rs.length with hlt | hge
    · rw [List.getElem?_append_left hlt] at hj
      rw [List.getElem?_append_left (by omega)] at hk
      exact hmove _ _ (hrd j r2 k hj hk)
    · rw [List.getElem?_append_right hge] at hj
      rw [List.getElem?_append_right (by omega), ← hrl] at hk
      have h0 : j - rs.length = 0 := by
        obtain ⟨h1, _⟩ := List.getElem?_eq_some_iff.1 hj
        simpa using h1
      rw [h0] at hj hk
      obtain rfl : r = r2 := by simpa using hj
      obtain rfl : t = k := by simpa using hk
      exact hmove _ _ hA
theorem step_append_turn2 {ops : Array Oper} {o : Oper} {a : Act} {K : Act → World → Prop} {Q : Exit → Act → World → Prop} {E : Prop} {w1 : World} (W : World) (hgd : o.guard = none) (s x : Operand)
    (ho : o.op = .call { callee := .builtin .append, args := #[s, x], argTypes := #[22, 22] }) (base : Nat) (v : Value) (f : List TurnL) (r : TR) (t : TurnL)
    (hw1 : w1 = W.alloc (.cells #[.int .i64 r.k, .string r.s, .slice r.a r.n r.c] 44))
    (hs : a.eval s = v) (hx : a.eval x = .slice (some ⟨W.heap.size, 0, none⟩) 1 1) (hB : TOwn W base v f) (hA : TurnAt W base v r t) (hb : base ≤ W.heap.size) (hlen : f.length ≤ 1000000)
    (w0 : World) (hw : Below base w0 W)
    (h : ∀ v' w', TOwn w' base v' (f ++ [t]) → Below base w0 w' → W.heap.size + 1 ≤ w'.heap.size → (∀ b, b < W.heap.size → v.ownBlock ≠ some b → w'.heap[b]? = W.heap[b]?) → K (a.put o.dst v') w') : if Region.wanted o (yielded ops a.tmps) = true then Oper.wp Tryz.prog o a w1 K Q else E := by
  have hwant : Region.wanted o (yielded ops a.tmps) = true := by simp [Region.wanted, hgd]
  rw [if_pos hwant]
  subst hw1
  obtain ⟨v', w', hrun, hown, hbel, hsz, hblk⟩ := hB.add2 hA hb hlen o.type
  have hrun' : (Builtin.append_ #[22, 22] o.type #[v, .slice (some ⟨W.heap.size, 0, none⟩) 1 1]).run Tryz.prog (W.alloc (.cells #[.int .i64 r.k, .string r.s, .slice r.a r.n r.c] 44)) = .ok v' w' := hrun
  unfold Oper.wp execOp
  simp only [ho, resolve, invoke, builtin, Sem.run_bind, Sem.run_pure, Result.andThen_ok, List.map_toArray, List.map_cons, List.map_nil, hs, hx, hrun']
  exact h v' w' hown (hbel w0 hw) hsz hblk
set_option maxHeartbeats 16000000 in
set_option maxRecDepth 20000 in
theorem tuTrim_any (nm : ByteArray) (a : Option Addr) (n c : Nat) (ts : List TurnL) (w : World) (bound : Nat) (hb : bound ≤ w.heap.size) (h : Turns w bound a n ts) :
    Calls Tryz.prog 15 #[.agg #[.string nm, .slice a n c]] w fun e w' => (∃ ra rn rc, e = .returned (.agg #[.string (trimName ts nm), .slice ra rn rc]) ∧ Turns w' w'.heap.size ra rn (trimL ts)) ∧ Below w.heap.size w w' := by
  have HB0 := Lib.hid (below_on (tu1 w (.cells #[.string nm, .slice a n c] 24)) (tu1 (w.alloc (.cells #[.string nm, .slice a n c] 24)) (.cells #[.string ⟨#[]⟩, .slice none 0 0] 24)))
  have HL := Lib.hid ((LBox.new w nm a n c).on (tu1 (w.alloc (.cells #[.string nm, .slice a n c] 24)) (.cells #[.string ⟨#[]⟩, .slice none 0 0] 24)))
  have HX := Lib.hid (LBox.new (w.alloc (.cells #[.string nm, .slice a n c] 24)) ⟨#[]⟩ none 0 0)
  rw [World.size_alloc] at HX
  have CR := Lib.hid (fun (W : World) (hW : Below w.heap.size w W) => tuLReach_any nm a n c ts W bound (by have := hW.size; omega) (h.below (hW.mono hb)))
  obtain ⟨lc0, lc1⟩ := HL.out.cells
  obtain ⟨xc0, xc1⟩ := HX.out.cells
  have ff : ∀ j, ((w.alloc (.cells #[.string nm, .slice a n c] 24)).alloc (.cells #[.string ⟨#[]⟩, .slice none 0 0] 24)).frozen? ⟨w.heap.size + 1, j, none⟩ = false := by simp
  have HN := Lib.hid h
  have HLEN := Lib.hid h.1
  cases hv : locB ts
  · have e1 : reachL ts = [] := by unfold reachL; rw [hv]; rfl
    rw [e1] at CR
    have HZ := Lib.hid (show trimL ts = [] by unfold trimL; rw [hv]; rfl)
    have HY := Lib.hid (show trimName ts nm = ⟨#[]⟩ by unfold trimName; rw [hv]; rfl)
    clear h hv e1
    go_enter Tryz.func15, Tryz.ntmps15
    go_wp2_with (first
      | (go_at_call 10; (with_reducible refine (CR.out _ HB0.out).mono ?_)
         rintro e w1 ⟨⟨v, rfl, hiv⟩, hb1⟩
         have HB1 := Lib.hid (below_on HB0.out hb1)
         obtain ⟨ra, rc, rfl, _, _, _, hnu⟩ := hiv.sees
         have z0 : (rowI []).length = 0 := rfl
         obtain ⟨yc0, yc1⟩ := (HX.out.on hb1).cells
         have f0 := (hb1.frozen (p := ⟨w.heap.size + 1, 0, none⟩) (by simp)).trans (ff 0)
         have f1 := (hb1.frozen (p := ⟨w.heap.size + 1, 1, none⟩) (by simp)).trans (ff 1)
         rw [z0]
         clear hb1 hiv hnu)
      | fail)
    refine bodyPost_ret (v := .agg #[.string ⟨#[]⟩, .slice none 0 0]) (by simp [results, go_sem, yc0, yc1]) rfl ?_
    exact ⟨⟨none, 0, 0, by rw [HY.out], by rw [HZ.out]; exact Turns.zero _ _ _⟩, (HB1.out.setCell (by simp) _).setCell (by simp) _⟩
  · have HZ := Lib.hid (show trimL ts = trimT ts by unfold trimL; rw [hv]; rfl)
    have HY := Lib.hid (show trimName ts nm = nm by unfold trimName; rw [hv]; rfl)
    have HRE := Lib.hid (show reachL ts = reachT ts by unfold reachL; rw [hv]; rfl)
    have HV := Lib.hid hv
    obtain ⟨r0, hr0⟩ := reach_zero ts
    have hlen0 : 0 < (reachT ts).length := by rw [hr0]; simp
    have hfew : (reachT ts).length ≤ 40 := by have := reach_few hv; have := (locB_one hv).2.1; omega
    rw [HRE.out] at CR
    clear h hv hr0
    go_enter Tryz.func15, Tryz.ntmps15
    go_wp2_with (first
      | (go_at_call 10; (with_reducible refine (CR.out _ HB0.out).mono ?_)
         rintro e w1 ⟨⟨v, rfl, hiv⟩, hb1⟩
         have HB1 := Lib.hid (below_on HB0.out hb1)
         obtain ⟨ra, rc, rfl, _, _, _, hnu⟩ := hiv.sees
         have HNU := Lib.hid hnu
         have HLM := Lib.hid (HL.out.on hb1)
         have f0 := (hb1.frozen (p := ⟨w.heap.size + 1, 0, none⟩) (by simp)).trans (ff 0)
         have f1 := (hb1.frozen (p := ⟨w.heap.size + 1, 1, none⟩) (by simp)).trans (ff 1)
         have HXM := Lib.hid (HX.out.on hb1)
         obtain ⟨mc0, mc1⟩ := HLM.out.cells
         obtain ⟨yc0, yc1⟩ := HXM.out.cells
         rw [rowI_len] at HNU ⊢
         obtain ⟨rn, hrn⟩ : ∃ rn, rn = (reachT ts).length := ⟨_, rfl⟩
         rw [← hrn] at HNU hlen0 hfew ⊢
         have HRN := Lib.hid hrn
         have hsz2 : w.heap.size + 2 ≤ w1.heap.size := by have := hb1.size; simpa using this
         have zn : ((rn : Int) == 0) = false := by rw [beq_eq_false_iff_ne]; omega
         clear hb1 hiv hnu hrn)
      | fail)
    have HLN := Lib.hid (LBox.new w1 nm none 0 0)
    go_loopw [5] (fun i wr => ∃ (k : Nat) (sa : Option Addr) (sn sc : Nat), k ≤ rn ∧ i = .int .i64 k ∧ Hid (TOwn wr (w1.heap.size + 1) (.slice sa sn sc) (((reachT ts).take k).map (trim1 ts))) ∧ Hid (LBox wr w1.heap.size nm sa sn sc) ∧ Hid (Below w1.heap.size w1 wr)) (fun i _ => rn - (intOf i).toNat)
    case atStart => exact ⟨0, none, 0, 0, Nat.zero_le _, rfl, Lib.hid (by rw [List.take_zero]; exact TOwn.zero _ _), HLN, Lib.hid (tu1 w1 _)⟩
    case round =>
      obtain ⟨k, sa, sn, sc, hk, rfl, HO, HLB, HBr⟩ := hrel
      have HBW := Lib.hid (below_on HB1.out HBr.out)
      obtain ⟨mc0, mc1⟩ := (HLM.out.on HBr.out).cells
      obtain ⟨oc0, oc1⟩ := HLB.out.cells
      have hzl := HLB.out.lt
      have hzr := HBr.out.size
      have hzw := HB1.out.size
      by_cases hlt : k < rn
      · obtain ⟨rb, ro, x, rfl, hrb, hx, hc⟩ := (HNU.out.below HBr.out).at_ hlt
        obtain ⟨p, rfl, hp⟩ := rowI_at hx
        have hmemp := List.mem_of_getElem? hp
        have hpn := reach_lt HV.out p hmemp
        rw [HLEN.out] at hpn
        obtain ⟨b, off, kd, s, aa, an, ac, l, rfl, hbb, ht, ⟨q0, q1, q2⟩, hs, hal⟩ := HN.out.at_ hpn
        have r0 := (HBW.out.cell (p := ⟨b, off + p * 3, none⟩) (by show b < _; omega)).trans q0
        have r1 := (HBW.out.cell (p := ⟨b, off + p * 3 + 1, none⟩) (by show b < _; omega)).trans q1
        have r2 := (HBW.out.cell (p := ⟨b, off + p * 3 + 2, none⟩) (by show b < _; omega)).trans q2
        have hto : turnOf ts p = ⟨kd, s.toList, l⟩ := by unfold turnOf; rw [ht]; rfl
        have hao : armsOf ts p = l := by unfold armsOf; rw [ht]; rfl
        have hcl := reach_closed HV.out p hmemp
        have hgd := (arms_ok HV.out p).1
        rw [hao] at hcl hgd
        have hl4 : an ≤ 1000 := by
          have h1 := arms_few HV.out l (List.mem_map.2 ⟨_, List.mem_of_getElem? ht, rfl⟩)
          have := hal.1
          omega
        obtain ⟨wo, hwo⟩ : ∃ wo : World, wo = wr := ⟨_, rfl⟩
        subst hwo
        have HBX := Lib.hid (show Below wo.heap.size wo (wo.alloc (.cells #[.int .i64 kd, .string s, .slice aa an ac] 44)).drew from bel_drew1 ((Below.refl _ _).alloc (Nat.le_refl _) _))
        have HTB := Lib.hid (show TBox (wo.alloc (.cells #[.int .i64 kd, .string s, .slice aa an ac] 44)).drew wo.heap.size kd s aa an ac from TBox.new wo kd s aa an ac)
        have HSS := Lib.hid hs
        have HML := Lib.hid (show (movedA (reachT ts) l).length ≤ 1000000 by unfold movedA; rw [List.length_map, sortA_len, hal.1]; omega)
        have HFL := Lib.hid (show (((reachT ts).take k).map (trim1 ts)).length ≤ 1000000 by rw [List.length_map, List.length_take]; omega)
        have HFL2 := Lib.hid (show (((reachT ts).take k).map (trim1 ts) ++ [(⟨kd, s.toList, movedA (reachT ts) l⟩ : TurnL)]).length ≤ 1000000 by rw [List.length_append, List.length_map, List.length_take, List.length_singleton]; omega)
        have CM := Lib.hid (fun (W : World) (hW0 : Below wo.heap.size wo W) => (tuMoved_any aa an ac l (some ⟨rb, ro, none⟩) rn rc (reachT ts) W W.heap.size (Nat.le_refl _) ((hal.below ((below_on HBW.out hW0).mono hb)).more (by have := (below_on HBW.out hW0).size; omega)) hl4 ((HNU.out.below (below_on HBr.out hW0)).more (below_on HBr.out hW0).size)
          (fun x hx => ⟨(armB_all (hgd x hx)).2.2.1, hcl x hx⟩)).mono fun e w3 h => (by obtain ⟨⟨v, hv1, hv2⟩, h2⟩ := h; exact ⟨⟨v, hv1, hv2.low hW0.size, h2⟩, below_on hW0 h2⟩ : (∃ v, e = .returned v ∧ AOwn w3 wo.heap.size v (movedA (reachT ts) l) ∧ Below W.heap.size W w3) ∧ Below wo.heap.size wo w3))
        have HST := Lib.hid (show ((reachT ts).take (k + 1)).map (trim1 ts) = ((reachT ts).take k).map (trim1 ts) ++ [(⟨kd, s.toList, movedA (reachT ts) l⟩ : TurnL)] by
          rw [take_snoc hp, List.map_append, List.map_cons, List.map_nil, show trim1 ts p = ⟨kd, s.toList, movedA (reachT ts) l⟩ by unfold trim1; rw [hto]])
        have hf0 : wo.frozen? ⟨w1.heap.size, 1, none⟩ = false := by
          have h := HLB.out
          unfold LBox at h
          unfold World.frozen?
          rw [h]
          rfl
        have z1 : b < wo.heap.size := by omega
        have z2 : rb < wo.heap.size := by omega
        have z3 : w.heap.size < wo.heap.size := by omega
        clear q0 q1 q2 hx hp ht hal hto hao hcl hgd hmemp
        have i1 : (p : Int) < (n : Int) := by omega
        go_upto_region 8 with fail
        go_region
        go_upto_region 9 with fail
        generalize hw8 : (wo.alloc (.cells #[.int .i64 kd, .string s, .slice aa an ac] 44)).drew = w8 at HBX HTB ⊢
        clear hw8
        have HB8 := Lib.hid (show Below wo.heap.size wo w8.drew from bel_drew1 HBX.out)
        have HT8 := Lib.hid (show TBox w8.drew wo.heap.size kd s aa an ac from HTB.out)
        have HL8 := Lib.hid (HLB.out.on HBX.out)
        obtain ⟨_, _, _⟩ := HTB.out.cells
        obtain ⟨_, _⟩ := HL8.out.cells
        have CM8 := Lib.hid (CM.out w8.drew HB8.out)
        clear CM CR ff lc0 lc1 xc0 xc1 f0 f1 mc0 mc1 yc0 yc1 zn HLM HXM HNU HN HB0 HL HX HLN HBW HBX HL8 HTB r0 r1 r2 hc hf0 oc0 oc1 i1 hrb hbb
        have HK := Lib.hid (fun (W : World) (hW : Below wo.heap.size wo W) (hT : TBox W wo.heap.size kd s aa an ac) => show W.cell? ⟨w1.heap.size, 0, none⟩ = some (.string nm) ∧ W.cell? ⟨w1.heap.size, 1, none⟩ = some (.slice sa sn sc) ∧ W.cell? ⟨wo.heap.size, 0, none⟩ = some (.int .i64 kd) ∧ W.cell? ⟨wo.heap.size, 1, none⟩ = some (.string s) ∧ W.cell? ⟨wo.heap.size, 2, none⟩ = some (.slice aa an ac) from
          ⟨((HLB.out.on hW).cells).1, ((HLB.out.on hW).cells).2, (hT.cells).1, (hT.cells).2.1, (hT.cells).2.2⟩)
        refine wp_region_last2 (S := fun W => W.cell? ⟨w1.heap.size, 0, none⟩ = some (.string nm) ∧ W.cell? ⟨w1.heap.size, 1, none⟩ = some (.slice sa sn sc) ∧ W.cell? ⟨wo.heap.size, 0, none⟩ = some (.int .i64 kd) ∧ W.cell? ⟨wo.heap.size, 1, none⟩ = some (.string s) ∧ W.cell? ⟨wo.heap.size, 2, none⟩ = some (.slice aa an ac)) rfl (by kernel_rfl) (by kernel_rfl) (HK.out _ HB8.out HT8.out) (fun hHeld => ?_)
        simp only [List.pop_toArray, List.dropLast_cons_cons, List.dropLast_singleton]
        refine' wpAnyH_take (i := 0) (v := _) rfl (by kernel_rfl) (by kernel_rfl) (by kernel_rfl) (fun _ _ _ h => h) (Or.inl ⟨by rfl, ?hy0⟩) (by assumption) ?rest0
        case hy0 =>
          intro W hSw
          (try dsimp only at hSw)
          first | (go_simp; done) | (go_simp; with_reducible rfl)
        try simp only [Act.put, List.setIfInBounds_toArray]
        refine' wpAnyH_take (i := 1) (v := _) rfl (by kernel_rfl) (by kernel_rfl) (by kernel_rfl) (fun _ _ _ h => h) (Or.inl ⟨by rfl, ?hy1⟩) (by assumption) ?rest1
        case hy1 =>
          intro W hSw
          (try dsimp only at hSw)
          first | (go_simp; done) | (go_simp; with_reducible rfl)
        try simp only [Act.put]
        refine' wpAnyH_take (i := 2) (v := _) rfl (by kernel_rfl) (by kernel_rfl) (by kernel_rfl) (fun _ _ _ h => h) (Or.inl ⟨by rfl, ?hy2⟩) (by assumption) ?rest2
        case hy2 =>
          intro W hSw
          (try dsimp only at hSw)
          first | (go_simp; done) | (go_simp; with_reducible rfl)
        try simp only [Act.put]
        refine' wpAnyH_take (i := 3) (v := _) rfl (by kernel_rfl) (by kernel_rfl) (by kernel_rfl) (fun _ _ _ h => h) (Or.inl ⟨by rfl, ?hy3⟩) (by assumption) ?rest3
        case hy3 =>
          intro W hSw
          (try dsimp only at hSw)
          first | (go_simp; done) | (go_simp; with_reducible rfl)
        try simp only [Act.put]
        refine' wpAnyH_take (i := 4) (v := _) rfl (by kernel_rfl) (by kernel_rfl) (by kernel_rfl) (fun _ _ _ h => h) (Or.inl ⟨by rfl, ?hy4⟩) (by assumption) ?rest4
        case hy4 =>
          intro W hSw
          (try dsimp only at hSw)
          first | (go_simp; done) | (go_simp; with_reducible rfl)
        try simp only [Act.put]
        refine' wpAnyH_take (i := 5) (v := _) rfl (by kernel_rfl) (by kernel_rfl) (by kernel_rfl) (fun _ _ _ h => h) (Or.inl ⟨by rfl, ?hy5⟩) (by assumption) ?rest5
        case hy5 =>
          intro W hSw
          (try dsimp only at hSw)
          first | (go_simp; done) | (go_simp; with_reducible rfl)
        try simp only [Act.put]
        refine' wpAnyH_take (i := 6) (v := _) rfl (by kernel_rfl) (by kernel_rfl) (by kernel_rfl) (fun _ _ _ h => h) (Or.inl ⟨by rfl, ?hy6⟩) (by assumption) ?rest6
        case hy6 =>
          intro W hSw
          (try dsimp only at hSw)
          first | (go_simp; done) | (go_simp; with_reducible rfl)
        try simp only [Act.put]
        refine' wpAnyH_take (i := 7) (v := _) rfl (by kernel_rfl) (by kernel_rfl) (by kernel_rfl) (fun _ _ _ h => h) (Or.inl ⟨by rfl, ?hy7⟩) (by assumption) ?rest7
        case hy7 =>
          intro W hSw
          (try dsimp only at hSw)
          first | (go_simp; done) | (go_simp; with_reducible rfl)
        try simp only [Act.put]
        refine' wpAnyH_take (i := 8) (v := _) rfl (by kernel_rfl) (by kernel_rfl) (by kernel_rfl) (fun _ _ _ h => h) (Or.inl ⟨by rfl, ?hy8⟩) (by assumption) ?rest8
        case hy8 =>
          intro W hSw
          (try dsimp only at hSw)
          first | (go_simp; done) | (go_simp; with_reducible rfl)
        try simp only [Act.put]
        refine wpAnyH_ready (rs := [9]) (by kernel_rfl) (by simp) ?_
        refine AllReadyH.cons (i := 9) (o := _) rfl (fun K hK => ?_) AllReadyH.nil
        go_simp
        go_at_call 35
        with_reducible refine CM8.out.mono ?_
        rintro e w3 ⟨⟨v3, he3, hv3, hlow3⟩, hb3⟩
        subst he3
        obtain ⟨a3, c3, hva3, har3, _, _⟩ := hv3.sees HML.out
        obtain ⟨n3, hn3⟩ : ∃ x, x = (movedA (reachT ts) l).length := ⟨_, rfl⟩
        rw [← hn3] at hva3 har3
        clear hn3
        subst hva3
        have HB3 := Lib.hid hb3
        have HO3 := Lib.hid (HO.out.kept HB3.out (by omega))
        have HLI3 := Lib.hid hv3.lies
        have HTA := Lib.hid (show TurnAt w3 (w1.heap.size + 1) (.slice sa sn sc) ⟨kd, s, a3, n3, c3⟩ ⟨kd, s.toList, movedA (reachT ts) l⟩ from ⟨rfl, rfl, HSS.out, har3, fun b off e => by
          have h1 := HLI3.out b off e
          refine ⟨by omega, h1.2, fun e2 => ?_⟩
          have h2 := HO.out.lies b e2
          omega⟩)
        have HT3 := Lib.hid (show TBox w3 wo.heap.size kd s aa an ac from HT8.out.on hlow3)
        have hz4 : wo.heap.size < w3.heap.size := HT3.out.lt
        clear hv3 har3 hb3
        refine hK.out _ _ (HK.out _ HB3.out HT3.out) (fun hHeld => ?_)
        clear hK K
        try simp only [Act.put, List.setIfInBounds_toArray, List.set_cons_zero, List.set_cons_succ]
        refine' wpAnyH_take (i := 10) (v := _) rfl (by kernel_rfl) (by kernel_rfl) (by kernel_rfl) (fun _ _ _ h => h) (Or.inl ⟨by rfl, ?hy10⟩) (by assumption) ?rest10
        case hy10 =>
          intro W hSw
          (try dsimp only at hSw)
          first | (go_simp; done) | (go_simp; with_reducible rfl)
        try simp only [Act.put, List.setIfInBounds_toArray]
        refine wpAnyH_ready (rs := [11]) (by kernel_rfl) (by simp) ?_
        refine AllReadyH.cons (i := 11) (o := _) rfl (fun K hK => ?_) AllReadyH.nil
        go_simp
        refine hK.out _ _ (HK.out _ (below_on HB3.out (tu1 _ _)) (HT3.out.on (tu1 _ _))) (fun hHeld => ?_)
        clear hK K
        try simp only [Act.put, List.setIfInBounds_toArray, List.set_cons_zero, List.set_cons_succ]
        refine wpAnyH_ready (rs := [12]) (by kernel_rfl) (by simp) ?_
        refine AllReadyH.cons (i := 12) (o := _) rfl (fun K hK => ?_) AllReadyH.nil
        refine step_append_turn2 w3 (by rfl) (.tmp 31) (.tmp 41) (by rfl) (w1.heap.size + 1) (.slice sa sn sc) (((reachT ts).take k).map (trim1 ts)) ⟨kd, s, a3, n3, c3⟩ ⟨kd, s.toList, movedA (reachT ts) l⟩ (by rfl) (by rfl) (by rfl) HO3.out HTA.out (by have := HB3.out.size; omega) HFL.out wo (HB3.out.mono (by omega)) ?_
        intro v4 w4 hown hbel hsz4 hblk
        obtain ⟨sa4, sc4, hv4, _⟩ := hown.sees HFL2.out
        obtain ⟨sn4, hn4⟩ : ∃ x, x = (((reachT ts).take k).map (trim1 ts) ++ [(⟨kd, s.toList, movedA (reachT ts) l⟩ : TurnL)]).length := ⟨_, rfl⟩
        rw [← hn4] at hv4
        clear hn4
        subst hv4
        have HO4 := Lib.hid hown
        have HB4 := Lib.hid hbel
        have HL4 := Lib.hid (show LBox w4 w1.heap.size nm sa sn sc from (hbel.block w1.heap.size (by omega)).trans HLB.out)
        have HT4 := Lib.hid (show TBox w4 wo.heap.size kd s aa an ac from (hblk wo.heap.size hz4 (fun e => by have := (HO.out.lies _ e).2; omega)).trans HT3.out)
        have vf1 := HL4.out.thaw 1
        clear hown hbel hblk
        refine hK.out _ _ ⟨HL4.out.cells.1, HL4.out.cells.2, HT4.out.cells.1, HT4.out.cells.2.1, HT4.out.cells.2.2⟩ (fun hHeld => ?_)
        clear hK K
        try simp only [Act.put, List.setIfInBounds_toArray]
        refine' wpAnyH_take (i := 13) (v := _) rfl (by kernel_rfl) (by kernel_rfl) (by kernel_rfl) (fun _ _ _ h => h) (Or.inl ⟨by rfl, ?hy13⟩) (by assumption) ?rest13
        case hy13 =>
          intro W hSw
          (try dsimp only at hSw)
          first | (go_simp; done) | (go_simp; with_reducible rfl)
        try simp only [Act.put]
        refine wpAnyH_done (by kernel_rfl) ?_ _
        obtain ⟨_, _⟩ := HL4.out.cells
        unfold LastPost
        go_simp
        go_wp2_with fail
        go_roundw
        case rel => exact ⟨k + 1, sa4, sn4, sc4, by omega, by go_num, Lib.hid (by rw [HST.out]; exact HO4.out.beside ((Beside.refl w1.heap.size w4).setCell 1 (.slice sa4 sn4 sc4)) (by omega)), Lib.hid (LBox.set HL4.out), Lib.hid ((HBr.out.trans (HB4.out.mono (by omega))).setCell (by simp) _)⟩
        case measure => simp [intOf]; omega
      · have hsn := HO.out
        rw [List.take_of_length_le (by have := HRN.out; omega)] at hsn
        have hend := hsn.beside (((Beside.refl (w.heap.size + 1) wr).setCell 0 (.string nm)).setCell 1 (.slice sa sn sc)) (by omega)
        obtain ⟨ea, ec, hee, het⟩ := hend.sees (by rw [List.length_map]; have := HRN.out; omega)
        obtain ⟨L, hL⟩ : ∃ L, L = ((reachT ts).map (trim1 ts)).length := ⟨_, rfl⟩
        rw [← hL] at hee het
        injection hee with g1 g2 g3
        subst g1 g2 g3
        have HT := Lib.hid het
        have zc0 := (HBr.out.cell (p := ⟨w.heap.size + 1, 0, none⟩) (by show w.heap.size + 1 < _; omega)).trans yc0
        have zc1 := (HBr.out.cell (p := ⟨w.heap.size + 1, 1, none⟩) (by show w.heap.size + 1 < _; omega)).trans yc1
        have zf0 := (HBr.out.frozen (p := ⟨w.heap.size + 1, 0, none⟩) (by show w.heap.size + 1 < _; omega)).trans f0
        have zf1 := (HBr.out.frozen (p := ⟨w.heap.size + 1, 1, none⟩) (by show w.heap.size + 1 < _; omega)).trans f1
        clear hsn hend het hL
        go_wp2
        refine bodyPost_ret (v := .agg #[.string nm, .slice sa sn sc]) (by simp [results, go_sem, zc0, zc1]) rfl ?_
        exact ⟨⟨sa, _, sc, by rw [HY.out], by rw [HZ.out]; exact HT.out⟩, (HBW.out.setCell (by simp) _).setCell (by simp) _⟩
end Go.Proofs.YtbbdmipfbnfpfaaGreat

/- Contract of the reference's LocalSame. -/
namespace Go.Proofs.YtbbdmipfbnfpfaaGreat
open Go.RowKit

set_option maxHeartbeats 16000000 in
set_option maxRecDepth 20000 in
theorem tuLSame_any (nm nm' : ByteArray) (a a' : Option Addr) (n c n' c' : Nat) (ts us : List TurnL) (w : World) (bound : Nat) (hb : bound ≤ w.heap.size) (h : Turns w bound a n ts) (h' : Turns w bound a' n' us) :
    Calls Tryz.prog 20 #[.agg #[.string nm, .slice a n c], .agg #[.string nm', .slice a' n' c']] w fun e w' => e = .returned (.bool (sameL ts us)) ∧ Below w.heap.size w w' := by
  have HB0 := Lib.hid (below_on (tu1 w (.cells #[.string nm, .slice a n c] 24)) (tu1 (w.alloc (.cells #[.string nm, .slice a n c] 24)) (.cells #[.string nm', .slice a' n' c'] 24)))
  have HL := Lib.hid ((LBox.new w nm a n c).on (tu1 (w.alloc (.cells #[.string nm, .slice a n c] 24)) (.cells #[.string nm', .slice a' n' c'] 24)))
  have HX := Lib.hid (LBox.new (w.alloc (.cells #[.string nm, .slice a n c] 24)) nm' a' n' c')
  rw [World.size_alloc] at HX
  have CM := Lib.hid (fun (W : World) (hW : Below w.heap.size w W) => tuLocal_any nm a n c ts W bound (by have := hW.size; omega) (h.below (hW.mono hb)))
  have CN := Lib.hid (fun (W : World) (hW : Below w.heap.size w W) => tuLocal_any nm' a' n' c' us W bound (by have := hW.size; omega) (h'.below (hW.mono hb)))
  have CT := Lib.hid (fun (W : World) (hW : Below w.heap.size w W) => tuTrim_any nm a n c ts W bound (by have := hW.size; omega) (h.below (hW.mono hb)))
  have CU := Lib.hid (fun (W : World) (hW : Below w.heap.size w W) => tuTrim_any nm' a' n' c' us W bound (by have := hW.size; omega) (h'.below (hW.mono hb)))
  have CE := Lib.hid (fun (xa ya : Option Addr) (xn xc yn yc : Nat) (W : World) (hx : Turns W W.heap.size xa xn (trimL ts)) (hy : Turns W W.heap.size ya yn (trimL us)) => (tuSameT_any xa ya xn yn xc yc _ _ W W.heap.size hx hy).mono fun e w2 h => (⟨h.1, by obtain ⟨q, hq⟩ := h.2; rw [hq]; exact bel_drewN (Below.refl _ _) q⟩ : e = .returned (.bool (sameTs (trimL ts) (trimL us))) ∧ Below W.heap.size W w2))
  obtain ⟨lc0, lc1⟩ := HL.out.cells
  obtain ⟨xc0, xc1⟩ := HX.out.cells
  obtain ⟨R, hR⟩ : ∃ R, R = sameL ts us := ⟨_, rfl⟩
  rw [← hR]
  unfold sameL at hR
  clear h h'
  cases hv : locB ts
  · rw [hv] at CM hR
    have HZ := Lib.hid hR
    clear hR hv
    go_enter Tryz.func20, Tryz.ntmps20
    go_wp2
    go_region_with (first
      | (go_at_call 12; (with_reducible refine (CM.out _ (bel_drew1 HB0.out)).mono ?_)
         rintro e w1 ⟨rfl, hb1⟩
         have HB1 := Lib.hid (below_on HB0.out (bel_undrew hb1))
         clear hb1)
      | fail)
    all_goals
      go_wp2_with fail
      go_ret
      exact ⟨ret_bool HZ.out.symm, HB1.out⟩
  rw [hv] at CM hR
  cases hu : locB us
  · rw [hu] at CN hR
    have HZ := Lib.hid hR
    clear hR hv hu
    go_enter Tryz.func20, Tryz.ntmps20
    go_wp2
    go_region_with (first
      | (go_at_call 12; (with_reducible refine (CM.out _ (bel_drew1 HB0.out)).mono ?_)
         rintro e w1 ⟨rfl, hb1⟩
         have HB1 := Lib.hid (below_on HB0.out (bel_undrew hb1))
         obtain ⟨_, _⟩ := (HL.out.on (bel_undrew hb1)).cells
         obtain ⟨_, _⟩ := (HX.out.on (bel_undrew hb1)).cells
         clear hb1)
      | (go_at_call 12; (with_reducible refine (CN.out _ HB1.out).mono ?_)
         rintro e w2 ⟨rfl, hb2⟩
         have HB2 := Lib.hid (below_on HB1.out hb2)
         clear hb2)
      | fail)
    all_goals
      go_wp2_with fail
      go_ret
      exact ⟨ret_bool (by rw [HZ.out]; rfl), HB2.out⟩
  rw [hu] at CN hR
  have HZ := Lib.hid (show R = sameTs (trimL ts) (trimL us) from hR)
  have hfa := fun xa xn xc W => field_turns (trimName ts nm) xa xn xc W
  have hfb := fun xa xn xc W => field_turns (trimName us nm') xa xn xc W
  clear hR hv hu
  go_enter Tryz.func20, Tryz.ntmps20
  go_wp2
  go_region_with (first
    | (go_at_call 12; (with_reducible refine (CM.out _ (bel_drew1 HB0.out)).mono ?_)
       rintro e w1 ⟨rfl, hb1⟩
       have HB1 := Lib.hid (below_on HB0.out (bel_undrew hb1))
       have HL1 := Lib.hid (HL.out.on (bel_undrew hb1))
       have HX1 := Lib.hid (HX.out.on (bel_undrew hb1))
       obtain ⟨_, _⟩ := HL1.out.cells
       obtain ⟨_, _⟩ := HX1.out.cells
       clear hb1)
    | (go_at_call 12; (with_reducible refine (CN.out _ HB1.out).mono ?_)
       rintro e w2 ⟨rfl, hb2⟩
       have HB2 := Lib.hid (below_on HB1.out hb2)
       have HL2 := Lib.hid (HL1.out.on hb2)
       have HX2 := Lib.hid (HX1.out.on hb2)
       obtain ⟨_, _⟩ := HL2.out.cells
       obtain ⟨_, _⟩ := HX2.out.cells
       clear hb2)
    | (go_at_call 15; (with_reducible refine (CT.out _ HB2.out).mono ?_)
       rintro e w3 ⟨⟨xa, xn, xc, rfl, ht3⟩, hb3⟩
       have HT3 := Lib.hid ht3
       have HB3 := Lib.hid (below_on HB2.out hb3)
       have HX3 := Lib.hid (HX2.out.on hb3)
       obtain ⟨_, _⟩ := HX3.out.cells
       clear hb3 ht3)
    | (go_at_call 15; (with_reducible refine (CU.out _ HB3.out).mono ?_)
       rintro e w4 ⟨⟨ya, yn, yc, rfl, hu4⟩, hb4⟩
       have HU4 := Lib.hid hu4
       have HT4 := Lib.hid (HT3.out.on hb4)
       have HB4 := Lib.hid (below_on HB3.out hb4)
       clear hb4 hu4)
    | (go_at_call 33; (with_reducible refine (CE.out xa ya xn xc yn yc _ HT4.out HU4.out).mono ?_)
       rintro e w5 ⟨rfl, hb5⟩
       have HB5 := Lib.hid (below_on HB4.out hb5)
       clear hb5)
    | fail)
  all_goals
    go_wp2_with fail
    go_ret
    exact ⟨ret_bool HZ.out.symm, HB5.out⟩
end Go.Proofs.YtbbdmipfbnfpfaaGreat

/- Law: TurnsTell. -/
namespace Go.Proofs.YtbbdmipfbnfpfaaGreat
open Go.RowKit

theorem walkV_form (o : Option Nat) : ∃ (p : Int) (b : Bool), walkV o = .tuple #[.int .i64 p, .bool b] := by cases o <;> exact ⟨_, _, rfl⟩
set_option maxHeartbeats 16000000 in
set_option maxRecDepth 20000 in
theorem turnsTell_walk (nm : ByteArray) (a : Option Addr) (n c : Nat) (ts : List TurnL) (nm' : ByteArray) (a' : Option Addr) (n' c' : Nat) (us : List TurnL) (ma : Option Addr) (mn mc : Nat) (ml : List Int) (la : Option Addr) (ln lc : Nat) (ls : List Str) (w : World)
    (h : Turns w w.heap.size a n ts) (h' : Turns w w.heap.size a' n' us) (hm : Nums w w.heap.size ma mn ml) (hlim : mn * 8 ≤ 140737488351232) (hl : Strs w w.heap.size la ln ls) (_hcap : ln ≤ lc) :
    Calls Tryz.prog 3 #[.agg #[.string nm, .slice a n c], .agg #[.string nm', .slice a' n' c'], .slice ma mn mc, .slice la ln lc] w fun e w' => e = .returned (.bool true) ∧ Below w.heap.size w w' := by
  have HB0 := Lib.hid (below_on (tu1 w (.cells #[.string nm, .slice a n c] 24)) (tu1 (w.alloc (.cells #[.string nm, .slice a n c] 24)) (.cells #[.string nm', .slice a' n' c'] 24)))
  have HA := Lib.hid ((LBox.new w nm a n c).on (tu1 (w.alloc (.cells #[.string nm, .slice a n c] 24)) (.cells #[.string nm', .slice a' n' c'] 24)))
  have HB := Lib.hid (LBox.new (w.alloc (.cells #[.string nm, .slice a n c] 24)) nm' a' n' c')
  rw [World.size_alloc] at HB
  have HT := Lib.hid (h.on HB0.out)
  have HU := Lib.hid (h'.on HB0.out)
  have HM := Lib.hid ((hm.below HB0.out).more HB0.out.size)
  have HS := Lib.hid ((hl.below HB0.out).more HB0.out.size)
  clear h h' hm hl
  go_enter Tryz.func3, Tryz.ntmps3
  go_upto_region 1 with fail
  obtain ⟨ga, hga⟩ : ∃ ga, ga = w.heap.size := ⟨_, rfl⟩
  obtain ⟨gb, hgb⟩ : ∃ gb, gb = w.heap.size + 1 := ⟨_, rfl⟩
  rw [← hgb] at HB ⊢
  rw [← hga] at HA ⊢
  generalize hw1 : (w.alloc (.cells #[.string nm, .slice a n c] 24)).alloc (.cells #[.string nm', .slice a' n' c'] 24) = w1 at HB0 HA HB HT HU HM HS ⊢
  clear hw1 hga hgb
  have HF := Lib.hid (tuFirst_any w1)
  have CFa := Lib.hid (fun (W : World) (hW : Below w1.heap.size w1 W) => (few_any nm a n c ts W W.heap.size (Nat.le_refl _) (HT.out.on hW)).mono fun e w2 h => (⟨h.1, below_on hW h.2⟩ : e = .returned (.bool (fewB ts)) ∧ Below w1.heap.size w1 w2))
  have CFb := Lib.hid (fun (W : World) (hW : Below w1.heap.size w1 W) => (few_any nm' a' n' c' us W W.heap.size (Nat.le_refl _) (HU.out.on hW)).mono fun e w2 h => (⟨h.1, below_on hW h.2⟩ : e = .returned (.bool (fewB us)) ∧ Below w1.heap.size w1 w2))
  have HKB := Lib.hid (fun (W : World) (hW : Below w1.heap.size w1 W) => show (W.cell? ⟨ga, 0, none⟩ = some (.string nm) ∧ W.cell? ⟨ga, 1, none⟩ = some (.slice a n c)) ∧ W.cell? ⟨gb, 0, none⟩ = some (.string nm') ∧ W.cell? ⟨gb, 1, none⟩ = some (.slice a' n' c') from
    ⟨(HA.out.on hW).cells, (HB.out.on hW).cells⟩)
  go_upto_region 3 with (first
    | (go_at_call 4; (with_reducible refine HF.out.mono ?_)
       rintro e w2 ⟨rfl, hb2⟩
       have HB2 := Lib.hid hb2
       obtain ⟨⟨_, _⟩, _, _⟩ := HKB.out _ hb2
       clear hb2)
    | fail)
  cases hfa : fewB ts
  · rw [hfa] at CFa
    clear hfa
    go_wp2_with (first
      | (go_at_call 5; (with_reducible refine (CFa.out _ HB2.out).mono ?_)
         rintro e w3 ⟨rfl, h3⟩
         have H3 := Lib.hid h3
         clear h3)
      | fail)
    go_ret
    exact ⟨rfl, below_on HB0.out H3.out⟩
  rw [hfa] at CFa
  clear hfa
  cases hfb : fewB us
  · rw [hfb] at CFb
    clear hfb
    go_wp2_with (first
      | (go_at_call 5; (with_reducible refine (CFa.out _ HB2.out).mono ?_)
         rintro e w3 ⟨rfl, h3⟩
         have H3 := Lib.hid h3
         obtain ⟨⟨_, _⟩, _, _⟩ := HKB.out _ h3
         clear h3)
      | (go_at_call 5; (with_reducible refine (CFb.out _ H3.out).mono ?_)
         rintro e w4 ⟨rfl, h4⟩
         have H4 := Lib.hid h4
         clear h4)
      | fail)
    go_ret
    exact ⟨rfl, below_on HB0.out H4.out⟩
  rw [hfb] at CFb
  clear hfb
  by_cases h40 : 40 < ln
  · have d1 : decide ((40 : Int) < (ln : Int)) = true := decide_eq_true (by omega)
    have d2 : (40 : Int) < (ln : Int) := by omega
    go_wp2_with (first
      | (go_at_call 5; (with_reducible refine (CFa.out _ HB2.out).mono ?_)
         rintro e w3 ⟨rfl, h3⟩
         have H3 := Lib.hid h3
         obtain ⟨⟨_, _⟩, _, _⟩ := HKB.out _ h3
         clear h3)
      | (go_at_call 5; (with_reducible refine (CFb.out _ H3.out).mono ?_)
         rintro e w4 ⟨rfl, h4⟩
         have H4 := Lib.hid h4
         clear h4)
      | fail)
    go_ret
    exact ⟨rfl, below_on HB0.out H4.out⟩
  have d1 : decide ((40 : Int) < (ln : Int)) = false := decide_eq_false (by omega)
  have CL := Lib.hid (fun (W : World) (hW : Below w1.heap.size w1 W) => (argLocal_any nm a n c ts ma mn mc ml W W.heap.size (Nat.le_refl _) (HT.out.on hW) ((HM.out.below hW).more hW.size) hlim).mono fun e w2 h => (⟨h.1, below_on hW h.2⟩ : ArgRet e w2 ∧ Below w1.heap.size w1 w2))
  clear h40
  go_upto_region 6 with (first
    | (go_at_call 5; (with_reducible refine (CFa.out _ HB2.out).mono ?_)
       rintro e w3 ⟨rfl, h3⟩
       have H3 := Lib.hid h3
       obtain ⟨⟨_, _⟩, _, _⟩ := HKB.out _ h3
       clear h3)
    | (go_at_call 5; (with_reducible refine (CFb.out _ H3.out).mono ?_)
       rintro e w4 ⟨rfl, h4⟩
       have H4 := Lib.hid h4
       obtain ⟨⟨_, _⟩, _, _⟩ := HKB.out _ h4
       clear h4)
    | (go_at_call 6; (with_reducible refine (CL.out _ H4.out).mono ?_)
       rintro e w5 ⟨⟨xm, xa, xn, xc, vs, rfl, hx⟩, h5⟩
       have H5 := Lib.hid h5
       have HX := Lib.hid hx
       clear h5 hx)
    | fail)
  have hbx := tu1 w5 (.cells #[.string xm, .slice xa xn xc] 24)
  have HL := Lib.hid (LBox.new w5 xm xa xn xc)
  obtain ⟨g9, hg9⟩ : ∃ g9, g9 = w5.heap.size := ⟨_, rfl⟩
  rw [← hg9] at HL ⊢
  generalize hw6 : w5.alloc (.cells #[.string xm, .slice xa xn xc] 24) = w6 at hbx HL ⊢
  have H6 := Lib.hid (below_on H5.out hbx)
  have HX6 := Lib.hid (HX.out.on hbx)
  have HU6 := Lib.hid (HU.out.on H6.out)
  have HS6 := Lib.hid ((HS.out.below H6.out).more H6.out.size)
  have HBb := Lib.hid (HB.out.on H6.out)
  clear hw6 hg9 hbx
  obtain ⟨pp, pb, hpv⟩ := walkV_form (walkL vs ls)
  have CW1 := Lib.hid (fun (W : World) (hW : Below w6.heap.size w6 W) => (ownWalk_any xm xa xn xc vs la ln lc ls W W.heap.size (Nat.le_refl _) (HX6.out.on hW) ((HS6.out.below hW).more hW.size)).mono fun e w2 h => (⟨by rw [h.1, hpv], below_on hW h.2⟩ : e = .returned (.tuple #[.int .i64 pp, .bool pb]) ∧ Below w6.heap.size w6 w2))
  have CW2 := Lib.hid (fun (W : World) (hW : Below w6.heap.size w6 W) => (tuLWalk_any xm xa xn xc vs la ln lc ls W W.heap.size (Nat.le_refl _) (HX6.out.on hW) ((HS6.out.below hW).more hW.size)).mono fun e w2 h => (⟨by rw [h.1, hpv], below_on hW h.2⟩ : e = .returned (.tuple #[.int .i64 pp, .bool pb]) ∧ Below w6.heap.size w6 w2))
  obtain ⟨rn, hrn⟩ : ∃ rn, rn = (reachL vs).length := ⟨_, rfl⟩
  have hrf : rn ≤ 40 := by rw [hrn]; exact reachL_few vs
  have CR1 := Lib.hid (fun (W : World) (hW : Below w6.heap.size w6 W) => (ownReach_any xm xa xn xc vs W W.heap.size (Nat.le_refl _) (HX6.out.on hW)).mono fun e w2 h => (⟨by
    obtain ⟨v, e1, e2⟩ := h.1
    obtain ⟨ya, yc, rfl, _, _, _, hnu⟩ := e2.sees
    rw [rowI_len, ← hrn] at e1 hnu
    exact ⟨ya, yc, e1, hnu⟩, below_on hW h.2⟩ : (∃ ya yc, e = .returned (.slice ya rn yc) ∧ Nums w2 w2.heap.size ya rn (rowI (reachL vs))) ∧ Below w6.heap.size w6 w2))
  have CR2 := Lib.hid (fun (W : World) (hW : Below w6.heap.size w6 W) => (tuLReach_any xm xa xn xc vs W W.heap.size (Nat.le_refl _) (HX6.out.on hW)).mono fun e w2 h => (⟨by
    obtain ⟨v, e1, e2⟩ := h.1
    obtain ⟨ya, yc, rfl, _, _, _, hnu⟩ := e2.sees
    rw [rowI_len, ← hrn] at e1 hnu
    exact ⟨ya, yc, e1, hnu⟩, below_on hW h.2, h.2⟩ : (∃ ya yc, e = .returned (.slice ya rn yc) ∧ Nums w2 w2.heap.size ya rn (rowI (reachL vs))) ∧ Below w6.heap.size w6 w2 ∧ Below W.heap.size W w2))
  have HK := Lib.hid (fun (W : World) (hW : Below w6.heap.size w6 W) => show W.cell? ⟨g9, 0, none⟩ = some (.string xm) ∧ W.cell? ⟨g9, 1, none⟩ = some (.slice xa xn xc) ∧ W.cell? ⟨gb, 0, none⟩ = some (.string nm') ∧ W.cell? ⟨gb, 1, none⟩ = some (.slice a' n' c') from
    ⟨((HL.out.on hW).cells).1, ((HL.out.on hW).cells).2, ((HBb.out.on hW).cells).1, ((HBb.out.on hW).cells).2⟩)
  obtain ⟨_, _, _, _⟩ := HK.out _ (Below.refl _ _)
  have R0 := Lib.hid (Below.refl w6.heap.size w6)
  clear hpv hrn
  go_upto_region 8 with (first
    | (go_at_call 7; (with_reducible refine (CW1.out _ R0.out).mono ?_)
       rintro e w7 ⟨rfl, h7⟩
       have R1 := Lib.hid h7
       obtain ⟨_, _, _, _⟩ := HK.out _ h7
       clear h7)
    | (go_at_call 8; (with_reducible refine (CW2.out _ R1.out).mono ?_)
       rintro e w8 ⟨rfl, h8⟩
       have R2 := Lib.hid h8
       have R2d := Lib.hid (bel_drew1 h8)
       obtain ⟨_, _, _, _⟩ := HK.out _ h8
       clear h8)
    | fail)
  go_region_held3 (fun W => W.cell? ⟨g9, 0, none⟩ = some (.string xm) ∧ W.cell? ⟨g9, 1, none⟩ = some (.slice xa xn xc))
    (first | exact ⟨(HK.out _ R2d.out).1, (HK.out _ R2d.out).2.1⟩ | exact ⟨(HK.out _ R3.out).1, (HK.out _ R3.out).2.1⟩ | exact ⟨(HK.out _ R4.out).1, (HK.out _ R4.out).2.1⟩)
    (first
    | (go_at_call 9; (with_reducible refine (CR1.out _ R2d.out).mono ?_)
       rintro e w9 ⟨⟨ya, yc, rfl, hy⟩, h9⟩
       have R3 := Lib.hid h9
       have HY := Lib.hid hy
       clear h9 hy)
    | (go_at_call 10; (with_reducible refine (CR2.out _ R3.out).mono ?_)
       rintro e w10 ⟨⟨za, zc, rfl, hz⟩, h10, h10b⟩
       have R4 := Lib.hid h10
       have HZ := Lib.hid hz
       have HYZ := Lib.hid ((HY.out.below h10b).more h10b.size)
       clear h10 hz h10b)
    | fail)
  have nn : ((rn : Int) != (rn : Int)) = false := by simp
  obtain ⟨M, hM⟩ : ∃ M, M = locB vs := ⟨_, rfl⟩
  obtain ⟨nx, hnx⟩ : ∃ nx, nx = trimName vs xm := ⟨_, rfl⟩
  obtain ⟨S, hS⟩ : ∃ S, S = sameL vs us := ⟨_, rfl⟩
  have C1 := Lib.hid (fun (W : World) (hW : Below w6.heap.size w6 W) => (ownMay_any xm xa xn xc vs W W.heap.size (Nat.le_refl _) (HX6.out.on hW)).mono fun e w2 h => (⟨by rw [h.1, hM], below_on hW h.2⟩ : e = .returned (.bool M) ∧ Below w6.heap.size w6 w2))
  have C2 := Lib.hid (fun (W : World) (hW : Below w6.heap.size w6 W) => (tuLocal_any xm xa xn xc vs W W.heap.size (Nat.le_refl _) (HX6.out.on hW)).mono fun e w2 h => (⟨by rw [h.1, hM], below_on hW h.2⟩ : e = .returned (.bool M) ∧ Below w6.heap.size w6 w2))
  have C3 := Lib.hid (fun (W : World) (hW : Below w6.heap.size w6 W) => (ownTrim_any xm xa xn xc vs W W.heap.size (Nat.le_refl _) (HX6.out.on hW)).mono fun e w2 h => (⟨by rw [hnx]; exact h.1, below_on hW h.2⟩ : (∃ ta tn tc, e = .returned (.agg #[.string nx, .slice ta tn tc]) ∧ Turns w2 w2.heap.size ta tn (trimL vs)) ∧ Below w6.heap.size w6 w2))
  have C4 := Lib.hid (fun (W : World) (hW : Below w6.heap.size w6 W) => (tuTrim_any xm xa xn xc vs W W.heap.size (Nat.le_refl _) (HX6.out.on hW)).mono fun e w2 h => (⟨by rw [hnx]; exact h.1, below_on hW h.2, h.2⟩ : (∃ ta tn tc, e = .returned (.agg #[.string nx, .slice ta tn tc]) ∧ Turns w2 w2.heap.size ta tn (trimL vs)) ∧ Below w6.heap.size w6 w2 ∧ Below W.heap.size W w2))
  have C5 := Lib.hid (fun (ta za : Option Addr) (tn tc zn zc : Nat) (W : World) (hx : Turns W W.heap.size ta tn (trimL vs)) (hz : Turns W W.heap.size za zn (trimL vs)) (hW : Below w6.heap.size w6 W) => (lawSame_any nx nx ta za tn tc zn zc _ _ W W.heap.size (Nat.le_refl _) hx hz).mono fun e w2 h => (⟨by rw [h.1, sameTs_iff.2 rfl, beq_self_eq_true]; rfl, below_on hW h.2⟩ : e = .returned (.bool true) ∧ Below w6.heap.size w6 w2))
  have C6 := Lib.hid (fun (W : World) (hW : Below w6.heap.size w6 W) => (ownPeers_any xm xa xn xc vs W W.heap.size (Nat.le_refl _) (HX6.out.on hW)).mono fun e w2 h => (⟨h.1, below_on hW h.2⟩ : (∃ ra sn rc, e = .returned (.slice ra sn rc) ∧ Strs w2 w2.heap.size ra sn (peersT vs)) ∧ Below w6.heap.size w6 w2))
  have C7 := Lib.hid (fun (W : World) (hW : Below w6.heap.size w6 W) => (tuPeers_any xm xa xn xc vs W W.heap.size (Nat.le_refl _) (HX6.out.on hW)).mono fun e w2 h => (⟨h.1, below_on hW h.2, h.2⟩ : (∃ ra sn rc, e = .returned (.slice ra sn rc) ∧ Strs w2 w2.heap.size ra sn (peersT vs)) ∧ Below w6.heap.size w6 w2 ∧ Below W.heap.size W w2))
  have C8 := Lib.hid (fun (pa qa : Option Addr) (pn pc qn qc : Nat) (W : World) (hx : Strs W W.heap.size pa pn (peersT vs)) (hz : Strs W W.heap.size qa qn (peersT vs)) (hW : Below w6.heap.size w6 W) => (same_any pa qa pn qn pc qc _ _ W W.heap.size hx hz).mono fun e w2 h => (⟨by rw [h.1, decide_eq_true rfl], by obtain ⟨q, hq⟩ := h.2; rw [hq]; exact bel_drewN hW q⟩ : e = .returned (.bool true) ∧ Below w6.heap.size w6 w2))
  have C9 := Lib.hid (fun (W : World) (hW : Below w6.heap.size w6 W) => (ownSame_any xm nm' xa a' xn xc n' c' vs us W W.heap.size (Nat.le_refl _) (HX6.out.on hW) (HU6.out.on hW)).mono fun e w2 h => (⟨by rw [h.1, hS], below_on hW h.2⟩ : e = .returned (.bool S) ∧ Below w6.heap.size w6 w2))
  have C10 := Lib.hid (fun (W : World) (hW : Below w6.heap.size w6 W) => (tuLSame_any xm nm' xa a' xn xc n' c' vs us W W.heap.size (Nat.le_refl _) (HX6.out.on hW) (HU6.out.on hW)).mono fun e w2 h => (⟨by rw [h.1, hS], below_on hW h.2⟩ : e = .returned (.bool S) ∧ Below w6.heap.size w6 w2))
  have m1 : (M == M) = true := by simp
  have m2 : (pp == pp) = true := by simp
  have m3 : (pb == pb) = true := by simp
  have m4 : (S == S) = true := by simp
  clear hM hnx hS
  go_wp2_with fail
  go_loopw [16] (fun i wr => ∃ k : Nat, k ≤ rn ∧ i = .int .i64 k ∧ Hid (Below w10.heap.size w10 wr)) (fun i _ => rn - (intOf i).toNat)
  case atStart => exact ⟨0, Nat.zero_le _, rfl, Lib.hid (Below.refl _ _)⟩
  case round =>
    obtain ⟨k, hk, rfl, HBr⟩ := hrel
    by_cases hlt : k < rn
    · obtain ⟨b1, o1, x1, rfl, _, hx1, y1⟩ := (HYZ.out.below HBr.out).at_ hlt
      obtain ⟨b2, o2, x2, rfl, _, hx2, y2⟩ := (HZ.out.below HBr.out).at_ hlt
      obtain rfl : x1 = x2 := Option.some.inj (hx1.symm.trans hx2)
      have n1 : (x1 != x1) = false := by simp
      have i1 : (k : Int) < (rn : Int) := by omega
      have i2 : (0 : Int) ≤ (k : Int) := by omega
      clear hx1 hx2
      go_wp2_with fail
      go_quiet (fail)
      go_wp2_with fail
      go_roundw
      case rel => exact ⟨k + 1, by omega, by go_num, Lib.hid (bel_drewN HBr.out nq)⟩
      case measure => simp [intOf]; omega
    · have d2 : decide ((k : Int) < (rn : Int)) = false := decide_eq_false (by omega)
      have H0b := Lib.hid (below_on R4.out HBr.out)
      obtain ⟨_, _, _, _⟩ := HK.out _ H0b.out
      have H0 := Lib.hid (bel_drew1 H0b.out)
      go_upto_region 16 with fail
      go_region_held3 (fun W => W.cell? ⟨g9, 0, none⟩ = some (.string xm) ∧ W.cell? ⟨g9, 1, none⟩ = some (.slice xa xn xc) ∧ W.cell? ⟨gb, 0, none⟩ = some (.string nm') ∧ W.cell? ⟨gb, 1, none⟩ = some (.slice a' n' c'))
        (first | exact HK.out _ H0.out | exact HK.out _ Q1.out | exact HK.out _ Q2.out | exact HK.out _ Q3.out | exact HK.out _ Q4.out | exact HK.out _ Q5.out | exact HK.out _ Q6.out | exact HK.out _ Q7.out | exact HK.out _ Q8.out | exact HK.out _ Q9.out | exact HK.out _ Q10.out)
        (first
        | (go_at_call 11; (with_reducible refine (C1.out _ H0.out).mono ?_)
           rintro e v1 ⟨rfl, h1⟩
           have Q1 := Lib.hid h1
           clear h1)
        | (go_at_call 12; (with_reducible refine (C2.out _ Q1.out).mono ?_)
           rintro e v2 ⟨rfl, h2⟩
           have Q2 := Lib.hid h2
           clear h2)
        | (go_at_call 14; (with_reducible refine (C3.out _ Q2.out).mono ?_)
           rintro e v3 ⟨⟨ta, tn, tc, rfl, ht3⟩, h3⟩
           have Q3 := Lib.hid h3
           have T3 := Lib.hid ht3
           clear h3 ht3)
        | (go_at_call 15; (with_reducible refine (C4.out _ Q3.out).mono ?_)
           rintro e v4 ⟨⟨sa, sn, sc, rfl, ht4⟩, h4, h4b⟩
           have Q4 := Lib.hid h4
           have T4 := Lib.hid ht4
           have T34 := Lib.hid (T3.out.on h4b)
           clear h4 ht4 h4b)
        | (go_at_call 13; (with_reducible refine (C5.out _ _ _ _ _ _ _ T34.out T4.out Q4.out).mono ?_)
           rintro e v5 ⟨rfl, h5⟩
           have Q5 := Lib.hid h5
           clear h5)
        | (go_at_call 17; (with_reducible refine (C6.out _ Q5.out).mono ?_)
           rintro e v6 ⟨⟨pa, pn, pc, rfl, hp6⟩, h6⟩
           have Q6 := Lib.hid h6
           have P6 := Lib.hid hp6
           clear h6 hp6)
        | (go_at_call 18; (with_reducible refine (C7.out _ Q6.out).mono ?_)
           rintro e v7 ⟨⟨qa, qn, qc, rfl, hp7⟩, h7, h7b⟩
           have Q7 := Lib.hid h7
           have P7 := Lib.hid hp7
           have P67 := Lib.hid ((P6.out.below h7b).more h7b.size)
           clear h7 hp7 h7b)
        | (go_at_call 16; (with_reducible refine (C8.out _ _ _ _ _ _ _ P67.out P7.out Q7.out).mono ?_)
           rintro e v8 ⟨rfl, h8⟩
           have Q8 := Lib.hid h8
           clear h8)
        | (go_at_call 19; (with_reducible refine (C9.out _ Q8.out).mono ?_)
           rintro e v9 ⟨rfl, h9⟩
           have Q9 := Lib.hid h9
           clear h9)
        | (go_at_call 20; (with_reducible refine (C10.out _ Q9.out).mono ?_)
           rintro e v10 ⟨rfl, h10⟩
           have Q10 := Lib.hid h10
           clear h10)
        | fail)
      go_wp2_with fail
      go_ret
      exact ⟨rfl, below_on HB0.out (below_on H6.out Q10.out)⟩
end Go.Proofs.YtbbdmipfbnfpfaaGreat
