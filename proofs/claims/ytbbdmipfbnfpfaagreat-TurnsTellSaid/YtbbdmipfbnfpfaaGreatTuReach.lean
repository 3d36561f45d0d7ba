/- Contract of the reference's reach: the places in the order in which they are first met. -/
import Derived.Test.YtbbdmipfbnfpfaaGreatTuArr
namespace Go.Proofs.YtbbdmipfbnfpfaaGreat
open Go.RowKit

def nextsF (f : List (List ArmL)) (p : Nat) : List Nat := (sortA ((f[p]?).getD [])).map fun a => a.next.toNat
theorem nextsOf_arms (ts : List TurnL) : nextsOf ts = nextsF (ts.map TurnL.arms) := by
  funext p
  unfold nextsOf nextsF armsOf
  rw [List.getElem?_map]
theorem addN_snoc (x : Nat) : ∀ (l o : List Nat), addN o (l ++ [x]) = if x ∈ addN o l then addN o l else addN o l ++ [x]
  | [], o => by by_cases h : x ∈ o <;> simp [addN, h]
  | y :: l, o => by
    rw [List.cons_append, addN, addN]
    split
    · exact addN_snoc x l o
    · exact addN_snoc x l _
def rowI (row : List Nat) : List Int := row.map fun n : Nat => (n : Int)
theorem rowI_len (row : List Nat) : (rowI row).length = row.length := List.length_map _
theorem IInts.one {W : World} {cs : Array Value} {base : Nat} {g : Nat} (x : Int) (hg : g = W.heap.size) (hc : cs = #[.int .i64 x]) (hb : base ≤ W.heap.size) : IInts (W.alloc (.cells cs 3)) base (.slice (some ⟨g, 0, none⟩) 1 1) [x] := by
  subst hg hc
  exact ⟨by simp [encI64], .inr ⟨W.heap.size, 1, _, rfl, hb, heap_alloc_new W _, Nat.le_refl _, by unfold maxLen; omega, by simp, by simp [encI64]⟩⟩
/-- One number more; what lies in other blocks stays, even where the slice's own block is written. -/
theorem IInts.moreB {w : World} {base : Nat} {v : Value} {l : List Int} (h : IInts w base v l) (hb : base ≤ w.heap.size) (n : Int) (hlen : l.length ≤ 1000000) (ty : Nat) :
    ∃ v' w', (Builtin.append_ #[25, 25] ty #[v, .slice (some ⟨w.heap.size, 0, none⟩) 1 1]).run Tryz.prog (w.alloc (.cells #[.int .i64 n] 3)) = .ok v' w' ∧ IInts w' base v' (l ++ [n]) ∧ (∀ B, B ≤ base → ∀ w0, Below B w0 w → Below B w0 w') ∧
      ∀ g0 w3, Beside g0 w3 w → (∀ g, v.ownBlock = some g → g = g0 ∨ w3.heap.size ≤ g) → Beside g0 w3 w' ∧ ∀ g, v'.ownBlock = some g → g = g0 ∨ w3.heap.size ≤ g := by
  obtain ⟨i0, hi0, hzz⟩ := Option.map_eq_some_iff.1 info_int1
  simp only [Prod.mk.injEq] at hzz
  obtain ⟨hz, hs1, hb1⟩ := hzz
  obtain ⟨v', w', hrun, hown, hgr, _, hat⟩ := run_append_own_at (P := Tryz.prog) (w.alloc (.cells #[.int .i64 n] 3)) base 25 ty 3 i0 _ 1 8 Tryz.underlying25 hi0 hz hs1 hb1 rfl (by omega) v l.length (l.map encI64) (h.alloc _)
    ⟨w.heap.size, 0, none⟩ 1 1 [.int .i64 n] rfl
    (fun j u hu => by
      have hj : j = 0 := by
        rcases Nat.eq_zero_or_pos j with h | h
        · exact h
        · rw [List.getElem?_eq_none (by simp; omega)] at hu; cases hu
      subst hj
      obtain rfl : (Value.int .i64 n) = u := by simpa using hu
      rw [Go.WideShapes.add_plain, cell_of_row _ _ _ _ _ _ (heap_alloc_new w _)]
      rfl)
    (fun u hu => by rw [List.mem_singleton.1 hu]; rfl) (by unfold maxLen; omega) (by omega) (by simp; omega)
  refine ⟨v', w', hrun, ?_, fun B hB w0 hw0 => ?_, fun g0 w3 hbs hv => ⟨?_, fun g hg => ?_⟩⟩
  · unfold IInts
    rw [List.length_append, List.map_append]
    exact hown
  · exact (hw0.alloc (by omega) _).grown hgr (by simp; omega) (fun k hk => by
      have := (h.alloc (.cells #[.int .i64 n] 3)).lt k hk
      omega)
  · have h1 : Beside g0 w3 (w.alloc (.cells #[.int .i64 n] 3)) := hbs.trans (Beside.of_below (tu1 w _))
    have hs := h1.size
    exact ⟨hgr.os.trans h1.os, hgr.tape.trans h1.tape, hgr.output.trans h1.output, Nat.le_trans hs hgr.size, fun k hk hne => (hgr.block k (by omega) (fun e => by
      rcases hv k e.symm with e2 | e2
      · exact hne e2
      · omega)).trans (h1.block k hk hne)⟩
  · rcases hat with e | e
    · exact hv g (e.symm.trans hg)
    · rw [e] at hg
      obtain rfl := Option.some.inj hg
      right
      have := hbs.size
      simp
      omega
theorem wpList_append_iintsB {ops : Array Oper} {rest : List Oper} {o : Oper} {a : Act} {Q : Exit → Act → World → Prop} {W : World} {cells : Array Value} (hgd : o.guard = none) (s x : Operand)
    (ho : o.op = .call { callee := .builtin .append, args := #[s, x], argTypes := #[25, 25] }) (base : Nat) (v : Value) (l : List Int) (n : Int) (hc : cells = #[.int .i64 n])
    (hs : a.eval s = v) {g : Nat} (hx : a.eval x = .slice (some ⟨g, 0, none⟩) 1 1) (hg : g = W.heap.size) (hB : IInts W base v l) (hb : base ≤ W.heap.size) (hlen : l.length ≤ 1000000)
    (w0 : World) (hw : Below base w0 W) (g0 : Nat) (w3 : World) (hbs : Beside g0 w3 W) (hv : ∀ g, v.ownBlock = some g → g = g0 ∨ w3.heap.size ≤ g)
    (h : ∀ v' w', IInts w' base v' (l ++ [n]) → Below base w0 w' → Beside g0 w3 w' → (∀ g, v'.ownBlock = some g → g = g0 ∨ w3.heap.size ≤ g) → wpList Tryz.prog ops Q rest (a.put o.dst v') w') : wpList Tryz.prog ops Q (o :: rest) a (W.alloc (.cells cells 3)) := by
  subst hc hg
  obtain ⟨v', w', hrun, hown, hbel, hbes⟩ := hB.moreB hb n hlen o.type
  obtain ⟨h1, h2⟩ := hbes g0 w3 hbs hv
  exact wpList_append_lx hgd s x _ ho _ _ _ hs hx hrun (h v' w' hown (hbel base (Nat.le_refl _) w0 hw) h1 h2)
theorem AOwn.from {w : World} {base : Nat} {v : Value} {l : List ArmL} (h : AOwn w base v l) {b off n c : Nat} (hv : v = .slice (some ⟨b, off, none⟩) n c) : base ≤ b ∧ b < w.heap.size := by
  obtain ⟨ts, h, _⟩ := h
  have hlt := h.lt b (by rw [hv]; rfl)
  exact hlt
theorem Arms.besides {w w' : World} {g0 : Nat} {b off n : Nat} {l : List ArmL} (h : Arms w w.heap.size (some ⟨b, off, none⟩) n l) (hb : Beside g0 w w') (hne : b ≠ g0) : Arms w' w'.heap.size (some ⟨b, off, none⟩) n l :=
  ⟨h.1, h.2.1, fun hn => by
    obtain ⟨b', off', e, hlt, hc⟩ := h.2.2 hn
    injection e with e
    injection e with e1 e2 _
    subst e1 e2
    refine ⟨b, off, rfl, Nat.lt_of_lt_of_le hlt hb.size, fun j x hj => ?_⟩
    obtain ⟨s, u, ⟨c0, c1, c2, c3⟩, h1⟩ := hc j x hj
    exact ⟨s, u, ⟨(hb.cell hlt hne).trans c0, (hb.cell hlt hne).trans c1, (hb.cell hlt hne).trans c2, (hb.cell hlt hne).trans c3⟩, h1⟩⟩

set_option maxHeartbeats 16000000 in
set_option maxRecDepth 20000 in
theorem tuReach_any (a : Option Addr) (n c : Nat) (f : List (List ArmL)) (w : World) (bound : Nat) (hb : bound ≤ w.heap.size) (h : ArmsR w bound a n f) (hn1 : 1 ≤ n) (hn : n ≤ 1000) (hv : ∀ p < n, ∀ x ∈ nextsF f p, x < n)
    (hnx : ∀ l ∈ f, ∀ x ∈ l, 0 ≤ x.next) (hln : ∀ l ∈ f, l.length ≤ 1000) :
    Calls Tryz.prog 29 #[.slice a n c] w fun e w' => (∃ v, e = .returned v ∧ IInts w' w.heap.size v (rowI (bfs (nextsF f) n 0 [0]))) ∧ Below w.heap.size w w' := by
  have HN := Lib.hid h
  have HV := Lib.hid hv
  have HNX := Lib.hid hnx
  have HLN := Lib.hid hln
  obtain ⟨R, hR⟩ : ∃ R, bfs (nextsF f) n 0 [0] = R := ⟨_, rfl⟩
  rw [hR]
  have HR := Lib.hid hR
  clear h hv hnx hln hR
  go_enter Tryz.func29, Tryz.ntmps29
  go_wp2
  go_loopw [3, 4] (fun s i wr => ∃ (j : Nat) (row : List Nat) (v : Value), i = .int .i64 j ∧ v = s ∧ j ≤ n ∧ Hid (row.Nodup ∧ (∀ x ∈ row, x < n) ∧ 1 ≤ row.length) ∧ Hid (bfs (nextsF f) (n - j) j row = R) ∧ Hid (IInts wr w.heap.size v (rowI row)) ∧ Hid (Below w.heap.size w wr)) (fun _ i _ => n - (intOf i).toNat)
  case atStart => exact ⟨0, [0], _, rfl, rfl, Nat.zero_le _, Lib.hid ⟨by simp, by simp; omega, by simp⟩, Lib.hid HR.out, Lib.hid (IInts.one 0 rfl rfl (Nat.le_refl _)), Lib.hid (tu1 w _)⟩
  case round =>
    obtain ⟨j, row, v, rfl, hvs, hjn, HRO, HF, HO, HBr⟩ := hrel
    subst hvs
    obtain ⟨wo, hwo⟩ : ∃ wo : World, wo = wr := ⟨_, rfl⟩
    subst hwo
    have hzr := HBr.out.size
    have hfew := nodup_few HRO.out.1 HRO.out.2.1
    have hrow1 := HRO.out.2.2
    obtain ⟨oa, oc, hva, _, _, hof, hon⟩ := HO.out.sees
    rw [rowI_len] at hva hof hon
    subst hva
    obtain ⟨ob, oo, rfl, hob1⟩ := hof (by omega)
    have HON := Lib.hid hon
    have hob2 : ob < wo.heap.size := (HO.out.lt ob rfl).2
    clear hon hof
    by_cases hlt : j < row.length
    · have hp := List.getElem?_eq_getElem hlt
      obtain ⟨p, hpe⟩ : ∃ p, row[j] = p := ⟨_, rfl⟩
      rw [hpe] at hp
      have hpn := HRO.out.2.1 p (List.mem_of_getElem? hp)
      obtain ⟨b1, o1, y1, e1, _, hy1, k0⟩ := HON.out.at_ hlt
      injection e1 with e1
      injection e1 with e2 e3 _
      subst e2 e3
      have hy2 : y1 = (p : Int) := by
        unfold rowI at hy1
        rw [List.getElem?_map, hp] at hy1
        exact (Option.some.inj hy1).symm
      subst hy2
      obtain ⟨b, off, aa, an, ac, l, rfl, hbb, hfl, c0, hal⟩ := HN.out.at_ hpn
      have r0 := (HBr.out.cell (p := ⟨b, off + p, none⟩) (by show b < _; omega)).trans c0
      have HAL := Lib.hid (hal.below (HBr.out.mono hb))
      have han : an ≤ 1000 := by have h1 := HLN.out l (List.mem_of_getElem? hfl); have h2 := hal.1; omega
      have hng : nextsF f p = (sortA l).map fun a => a.next.toNat := by unfold nextsF; rw [hfl]; rfl
      have hsl : (sortA l).length = an := by rw [sortA_len]; exact hal.1
      have HFL := Lib.hid hfl
      have hstep : bfs (nextsF f) (n - (j + 1)) (j + 1) (addN row (nextsF f p)) = R := by
        have h1 := HF.out
        rw [show n - j = (n - (j + 1)) + 1 by omega, bfs_some _ hp] at h1
        exact h1
      have hnd := addN_nodup (nextsF f p) row HRO.out.1
      have hlt2 : ∀ x ∈ addN row (nextsF f p), x < n := fun x hx => by
        rcases (addN_mem x _ _).1 hx with hx | hx
        · exact HRO.out.2.1 x hx
        · exact HV.out p hpn x hx
      have HNEW := Lib.hid (And.intro hnd (And.intro hlt2 hstep))
      have HNG := Lib.hid hng
      have HSL := Lib.hid hsl
      clear hp hpe hy1 c0 hal hfl hng hstep hnd hlt2 hsl
      go_wp2_with (first
        | (go_at_call 43; (with_reducible refine (tuSorted_any aa an ac l _ bound (by omega) HAL.out han).mono ?_)
           rintro e w3 ⟨⟨vl, he, hvl⟩, hb3⟩
           subst he
           have hfrom : ∀ bb oo nn cc, vl = .slice (some ⟨bb, oo, none⟩) nn cc → wo.heap.size ≤ bb := fun bb oo nn cc e => (hvl.from e).1
           obtain ⟨la, lc, hva, hla, _, _⟩ := hvl.sees (by rw [HSL.out]; omega)
           rw [HSL.out] at hva hla
           subst hva
           have HLA := Lib.hid hla
           have HFR := Lib.hid (fun (bb oo : Nat) (e : la = some ⟨bb, oo, none⟩) => hfrom bb oo an lc (by rw [e]))
           have HO3 := Lib.hid (HO.out.below hb3 (Nat.le_refl _))
           have HB3 := Lib.hid (HBr.out.trans (hb3.mono hzr))
           have hz3 := hb3.size
           clear hvl hfrom hla hb3)
        | fail)
      go_loopw [3, 6] (fun s i wr => ∃ (k : Nat) (v2 : Value), k ≤ an ∧ i = .int .i64 k ∧ v2 = s ∧ Hid (IInts wr w.heap.size v2 (rowI (addN row (((sortA l).take k).map fun a => a.next.toNat)))) ∧ Hid (Beside ob w3 wr) ∧ Hid (∀ g, v2.ownBlock = some g → g = ob ∨ w3.heap.size ≤ g) ∧ Hid (Below w.heap.size w wr)) (fun _ i _ => an - (intOf i).toNat)
      case atStart => exact ⟨0, _, Nat.zero_le _, rfl, rfl, Lib.hid (by rw [List.take_zero]; exact HO3.out), Lib.hid (Beside.refl _ _), Lib.hid (fun g hg => .inl (Option.some.inj hg).symm), HB3⟩
      case round =>
        obtain ⟨k, v2, hk, rfl, hv2, HI, HBe, HOW, HBt⟩ := hrel
        subst hv2
        have hzt := HBt.out.size
        by_cases hki : k < an
        · obtain ⟨lb, lo, s, u, ck, nx, hlae, hlb, hx, ⟨q0, q1, q2, q3⟩, _, _⟩ := HLA.out.at_ hki
          have hlbo : wo.heap.size ≤ lb := HFR.out lb lo hlae
          subst hlae
          have r3 := (HBe.out.cell (p := ⟨lb, lo + k * 4 + 3, none⟩) hlb (by show lb ≠ ob; omega)).trans q3
          have hnx0 : 0 ≤ nx := HNX.out l (List.mem_of_getElem? HFL.out) _ (mem_sortA.1 (List.mem_of_getElem? hx))
          obtain ⟨y, rfl⟩ : ∃ y : Nat, nx = (y : Int) := ⟨nx.toNat, by omega⟩
          have hst : addN row (((sortA l).take (k + 1)).map fun a => a.next.toNat) = if y ∈ addN row (((sortA l).take k).map fun a => a.next.toNat) then addN row (((sortA l).take k).map fun a => a.next.toNat) else addN row (((sortA l).take k).map fun a => a.next.toNat) ++ [y] := by
            rw [tuTake_at hx, List.map_append]
            show addN row (_ ++ [((y : Nat) : Int).toNat]) = _
            rw [Int.toNat_natCast, addN_snoc]
          obtain ⟨rw2, hrw2⟩ : ∃ rw2, addN row (((sortA l).take k).map fun a => a.next.toNat) = rw2 := ⟨_, rfl⟩
          rw [hrw2] at hst HI
          obtain ⟨oa2, oc2, hva2, _, _, _, hon2⟩ := HI.out.sees
          rw [rowI_len] at hva2 hon2
          obtain ⟨m2, hm2⟩ : ∃ m2, rw2.length = m2 := ⟨_, rfl⟩
          have hm2s : m2 ≤ 100000 := by
            have h1 : (addN row (((sortA l).take k).map fun a => a.next.toNat)).length ≤ n := nodup_few (addN_nodup _ _ HRO.out.1) (fun z hz => by
              rcases (addN_mem z _ _).1 hz with hz | hz
              · exact HRO.out.2.1 z hz
              · refine HV.out p hpn z ?_
                rw [HNG.out]
                obtain ⟨q, hq, rfl⟩ := List.mem_map.1 hz
                exact List.mem_map.2 ⟨q, List.mem_of_mem_take hq, rfl⟩)
            rw [hrw2, hm2] at h1
            omega
          rw [hm2] at hva2 hon2
          subst hva2
          have CH := Lib.hid (fun W (h : Nums W wr.heap.size oa2 m2 (rowI rw2)) => tuHas_any oa2 m2 oc2 rw2 y W _ h)
          have HON2 := Lib.hid hon2
          have HM2 := Lib.hid hm2
          clear q0 q1 q2 q3 hx hnx0 hrw2 hon2 hm2
          by_cases hy : y ∈ rw2
          · rw [if_pos hy] at hst
            rw [decide_eq_true hy] at CH
            have HST := Lib.hid hst
            clear hst hy
            go_wp2_with (first
              | (go_at_call 44; (with_reducible refine (CH.out _ HON2.out).mono ?_); rintro e w4 ⟨rfl, rfl⟩)
              | fail)
            go_roundw
            case rel => exact ⟨k + 1, _, by omega, by go_num, rfl, Lib.hid (by rw [HST.out]; exact HI.out), HBe, HOW, HBt⟩
            case measure => simp [intOf]; omega
          · rw [if_neg hy] at hst
            rw [decide_eq_false hy] at CH
            have HST := Lib.hid (show rowI (addN row (((sortA l).take (k + 1)).map fun a => a.next.toNat)) = rowI rw2 ++ [(y : Int)] by rw [hst]; unfold rowI; rw [List.map_append]; rfl)
            clear hst hy
            go_wp2_with (first
              | (go_at_call 44; (with_reducible refine (CH.out _ HON2.out).mono ?_); rintro e w4 ⟨rfl, rfl⟩)
              | (at_builtin
                 refine wpList_append_iintsB rfl (.tmp 36) (.tmp 42) rfl w.heap.size (.slice oa2 m2 oc2) (rowI rw2) (y : Int) rfl rfl rfl rfl HI.out hzt (by rw [rowI_len, HM2.out]; omega) w HBt.out ob w3 HBe.out HOW.out ?_
                 intro v5 w5 ho5 hb5 hbe5 how5
                 have HO5 := Lib.hid ho5
                 have HB5 := Lib.hid hb5
                 have HBe5 := Lib.hid hbe5
                 have HOW5 := Lib.hid how5
                 clear ho5 hb5 hbe5 how5)
              | fail)
            go_roundw
            case rel => exact ⟨k + 1, v5, by omega, by go_num, rfl, Lib.hid (by rw [HST.out]; exact HO5.out), HBe5, HOW5, HB5⟩
            case measure => simp [intOf]; omega
        · have HI2 := Lib.hid (show IInts wr w.heap.size v2 (rowI (addN row (nextsF f p))) by
            have h1 := HI.out
            rw [List.take_of_length_le (by rw [HSL.out]; omega), ← HNG.out] at h1
            exact h1)
          have hlen2 : 1 ≤ (addN row (nextsF f p)).length := Nat.le_trans hrow1 (addN_prefix _ _).length_le
          go_wp2
          go_roundw
          case rel => exact ⟨j + 1, addN row (nextsF f p), v2, by go_num, rfl, by omega, Lib.hid ⟨HNEW.out.1, HNEW.out.2.1, hlen2⟩, Lib.hid HNEW.out.2.2, HI2, HBt⟩
          case measure => simp [intOf]; omega
    · have HZ := Lib.hid (show row = R by have h1 := HF.out; rw [bfs_none _ (by omega)] at h1; exact h1)
      go_wp2
      go_ret
      exact ⟨⟨_, rfl, by rw [← HZ.out]; exact HO.out⟩, HBr.out⟩
end Go.Proofs.YtbbdmipfbnfpfaaGreat
