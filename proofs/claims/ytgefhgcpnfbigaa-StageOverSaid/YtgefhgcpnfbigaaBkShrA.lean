/- Contracts of equal's renumber and moved. -/
import Derived.Test.YtgefhgcpnfbigaaBkSame
import Derived.Test.YtgefhgcpnfbigaaBkShr
import Derived.Deep.RegionLaw
import Derived.Test.YtgefhgcpnfbigaaTuLast
namespace Go.Proofs.Ytgefhgcpnfbigaa
open Go.RowKit Go.Sort

/-- Classes, each a node of its own class that stands no later. -/
def ClsOk (n : Nat) (cl : List Nat) : Prop := cl.length = n ∧ ∀ i, i < n → cl.getD i 0 ≤ i ∧ cl.getD (cl.getD i 0) 0 = cl.getD i 0
theorem IsCl.ok {ns : List NodeL} {cl : List Nat} (h : IsCl ns cl) (hc : Closed ns) : ClsOk ns.length cl := ⟨h.1, fun _ hi => ⟨h.le hc hi, h.idem hi⟩⟩
def idxL (cl : List Nat) (n : Nat) : List Nat := (List.range n).map (idxC cl)
theorem idxL_len (cl : List Nat) (n : Nat) : (idxL cl n).length = n := by unfold idxL; simp
theorem idxL_at (cl : List Nat) {n i : Nat} (h : i < n) : (idxL cl n).getD i 0 = idxC cl i := by
  unfold idxL
  rw [List.getD_eq_getElem?_getD, List.getElem?_map, List.getElem?_range h]
  rfl
theorem set_getD {l : List Nat} {k x i : Nat} (hk : k < l.length) : (l.set k x).getD i 0 = if i = k then x else l.getD i 0 := by
  by_cases e : i = k
  · subst e; rw [if_pos rfl, List.getD_eq_getElem?_getD, List.getElem?_set_self hk]; rfl
  · rw [if_neg e, List.getD_eq_getElem?_getD, List.getElem?_set_ne (fun c => e c.symm), ← List.getD_eq_getElem?_getD]
set_option maxHeartbeats 8000000 in
set_option maxRecDepth 20000 in
theorem renumber_any (ca : Option Addr) (n cc : Nat) (cl : List Nat) (w : World) (bound : Nat) (hb : bound ≤ w.heap.size) (hn : n ≤ 400) (h : Nums w bound ca n (rowI cl)) (hcl : ClsOk n cl) :
    Calls Try.prog 54 #[.slice ca n cc] w fun e w' => (∃ a c, e = .returned (.slice a n c) ∧ Nums w' w'.heap.size a n (rowI (idxL cl n))) ∧ Below w.heap.size w w' := by
  have HN := Lib.hid h
  have HCL := Lib.hid hcl
  have hms := made_ints10 n (by omega)
  clear h hcl
  go_enter Try.func54, Try.ntmps54
  go_wp2_with fail
  clear hms
  have HI0 := Lib.hid (IInts.made10 w n (by omega) rfl)
  go_loopw [4, 12] (fun o i wr => ∃ (k : Nat) (l : List Nat), k ≤ n ∧ i = .int .i64 k ∧ o = .int .i64 (rankP cl k : Nat) ∧ Hid (IInts wr w.heap.size (.slice (some ⟨w.heap.size, 0, none⟩) n n) (rowI l)) ∧ Hid (∀ i, i < k → l.getD i 0 = idxC cl i) ∧ Hid (Below w.heap.size w wr)) (fun _ i _ => n - (intOf i).toNat)
  case atStart => exact ⟨0, List.replicate n 0, Nat.zero_le _, rfl, rfl, Lib.hid (by unfold rowI; rw [List.map_replicate]; exact HI0.out), Lib.hid (fun i hi => absurd hi (Nat.not_lt_zero i)), Lib.hid (tu1 w _)⟩
  case round =>
    obtain ⟨k, l, hk, rfl, rfl, HI, HL, HBr⟩ := hrel
    clear HI0
    have hll : l.length = n := by have := HI.out.len10; rwa [rowI_len] at this
    by_cases hlt : k < n
    · obtain ⟨b, off, rfl, hbb, hc⟩ := cls_at (HN.out.below (HBr.out.mono hb)) hlt
      obtain ⟨x, hx⟩ : ∃ x, x = cl.getD k 0 := ⟨_, rfl⟩
      rw [← hx] at hc
      obtain ⟨h1, h2⟩ := HCL.out.2 k hlt
      rw [← hx] at h1 h2
      have i1 : (k : Int) < (n : Int) := by omega
      have i2 : (0 : Int) ≤ (k : Int) := by omega
      obtain ⟨y, hy⟩ : ∃ y, l[k]? = some y := ⟨_, List.getElem?_eq_getElem (by omega)⟩
      have hfz := HI.out.thaw10 k
      have hcc := HI.out.cell10 (rowI_get10 hy)
      obtain ⟨rk, hrk⟩ : ∃ rk, rk = rankP cl k := ⟨_, rfl⟩
      have hrl : rk ≤ k := by rw [hrk]; exact rankP_le cl k
      have hnb : b ≠ w.heap.size := by omega
      rw [← hrk]
      by_cases hxk : x = k
      · have HXK := Lib.hid hxk
        have d1 : ((x : Int) == (k : Int)) = true := by rw [beq_iff_eq, hxk]
        have d2 : (x == k) = true := by rw [beq_iff_eq, hxk]
        have HR := Lib.hid (show rankP cl (k + 1) = rk + 1 by rw [rankP_succ, ← hrk, show isRep cl k = true from isRep_iff.2 (hx.symm.trans hxk)]; rfl)
        have HX := Lib.hid (show idxC cl k = rk by unfold idxC; rw [← hx, hxk, hrk])
        clear hxk hx hy hrk h2
        go_wp2_with fail
        go_roundw
        case rel =>
          refine ⟨k + 1, l.set k rk, by omega, by go_num, by rw [HR.out]; go_num, Lib.hid ?_, Lib.hid (fun i hi => ?_), Lib.hid (HBr.out.setCell (Nat.le_refl _) _)⟩
          · rw [← rowI_set10]; exact HI.out.put10 k _
          · rw [set_getD (by omega)]
            by_cases e : i = k
            · rw [if_pos e, e, HX.out]
            · rw [if_neg e]; exact HL.out i (by omega)
        case measure => simp [intOf]; omega
      · have d1 : ((x : Int) == (k : Int)) = false := by rw [beq_eq_false_iff_ne]; omega
        have d2 : (x == k) = false := by rw [beq_eq_false_iff_ne]; exact hxk
        have hxl : x < k := by omega
        have HR := Lib.hid (show rankP cl (k + 1) = rk by rw [rankP_succ, ← hrk, show isRep cl k = false from by
          cases hr : isRep cl k with
          | false => rfl
          | true => exact absurd (hx.trans (isRep_iff.1 hr)) hxk]; rfl)
        have hxx := HL.out x hxl
        obtain ⟨z, hz⟩ : ∃ z, l[x]? = some z := ⟨_, List.getElem?_eq_getElem (by omega)⟩
        have hzx : z = idxC cl k := by
          rw [List.getD_eq_getElem?_getD, hz] at hxx
          have h3 : z = idxC cl x := hxx
          rw [h3]
          unfold idxC
          rw [h2, ← hx]
        have HX := Lib.hid hzx
        have hcz := HI.out.cell10 (rowI_get10 hz)
        have i3 : (x : Int) < (n : Int) := by omega
        have i4 : (0 : Int) ≤ (x : Int) := by omega
        clear hxk hx hy hrk h2 hxx hz hzx
        go_wp2_with fail
        go_roundw
        case rel =>
          refine ⟨k + 1, l.set k z, by omega, by go_num, by rw [HR.out], Lib.hid ?_, Lib.hid (fun i hi => ?_), Lib.hid (HBr.out.setCell (Nat.le_refl _) _)⟩
          · rw [← rowI_set10]; exact HI.out.put10 k _
          · rw [set_getD (by omega)]
            by_cases e : i = k
            · rw [if_pos e, e, HX.out]
            · rw [if_neg e]; exact HL.out i (by omega)
        case measure => simp [intOf]; omega
    · obtain rfl : k = n := by omega
      have d1 : decide ((k : Int) < (k : Int)) = false := decide_eq_false (by omega)
      have HEQ := Lib.hid (show l = idxL cl k from getD_ext (by rw [idxL_len]; exact hll) (fun i hi => by rw [idxL_at cl (by omega)]; exact HL.out i (by omega)))
      go_wp2_with fail
      go_ret
      obtain ⟨a, c, e, _, _, _, hnu⟩ := HI.out.sees
      obtain ⟨e1, e2, e3⟩ := Value.slice.inj e
      refine ⟨⟨_, _, rfl, ?_⟩, HBr.out⟩
      rw [e1, ← HEQ.out]
      have e4 : (rowI l).length = k := e2.symm
      rw [e4] at hnu
      exact hnu
theorem step_append_edge {ops : Array Oper} {o : Oper} {a : Act} {K : Act → World → Prop} {Q : Exit → Act → World → Prop} {E : Prop} {w1 : World} (W : World) (hgd : o.guard = none) (s x : Operand)
    (ho : o.op = .call { callee := .builtin .append, args := #[s, x], argTypes := #[60, 60] }) (base : Nat) (v : Value) (l : List EdgeL) (t : ER)
    (hw1 : w1 = W.alloc (.cells #[.string t.s, .int .i64 t.k, .int .i64 t.u, .int .i64 t.x] 82)) (hs : a.eval s = v) (hx : a.eval x = .slice (some ⟨W.heap.size, 0, none⟩) 1 1)
    (hB : EdOwn W base v l) (ht : okER t) (hb : base ≤ W.heap.size) (hlen : l.length + 1 ≤ 1000000) (w0 : World) (hw : Below base w0 W)
    (h : ∀ v' w', EdOwn w' base v' (l ++ [edgeR t]) → Below base w0 w' → Keeps v W w' → K (a.put o.dst v') w') : if Region.wanted o (yielded ops a.tmps) = true then Oper.wp Try.prog o a w1 K Q else E := by
  have hwant : Region.wanted o (yielded ops a.tmps) = true := by simp [Region.wanted, hgd]
  rw [if_pos hwant]
  subst hw1
  obtain ⟨v', w', hrun, hown, hbel, hkp⟩ := (hB.alloc (.cells #[.string t.s, .int .i64 t.k, .int .i64 t.u, .int .i64 t.x] 82)).add (by simp; omega) 1 (EdRow.one (W := W) t rfl rfl ht) hlen o.type
  unfold Oper.wp execOp
  simp only [ho, resolve, invoke, builtin, Sem.run_bind, Sem.run_pure, Result.andThen_ok, List.map_toArray, List.map_cons, List.map_nil, hs, hx, hrun]
  exact h v' w' hown (hbel base (Nat.le_refl _) w0 (hw.alloc hb _)) ⟨by have := hkp.1; simp at this; omega, fun b hb hne => (hkp.2 b (by simp; omega) hne).trans ((tu1 W _).block b hb)⟩
theorem setBox10 {W : World} {g : Nat} {kd : Int} {s : ByteArray} {va va3 : Option Addr} {k k3 vc vc3 : Nat} (h : NBox W g kd s va k vc) : NBox (W.setCell ⟨g, 2, none⟩ (.slice va3 k3 vc3)) g kd s va3 k3 vc3 := by
  unfold NBox
  rw [heap_setCell_same W g 2 _ _ _ h]
  rfl
/-- What moved answers: a node whose edges lie in memory that the call made. -/
def MovedRet (w : World) (kd : Int) (s : ByteArray) (l : List EdgeL) (e : Ending) (w' : World) : Prop :=
  ∃ a m c, e = .returned (.agg #[.int .i64 kd, .string s, .slice a m c]) ∧ Edges w' w'.heap.size a m l ∧ (∀ b off, a = some ⟨b, off, none⟩ → w.heap.size ≤ b ∧ b < w'.heap.size) ∧ m ≤ c
/-- An edge with new indices. -/
def movedI (ix : List Nat) (e : EdgeL) : EdgeL := ⟨e.label, e.sk, (ix.getD e.at_.toNat 0 : Nat), (ix.getD e.next.toNat 0 : Nat)⟩
set_option maxHeartbeats 8000000 in
set_option maxRecDepth 20000 in
theorem moved10_any (kd : Int) (s : ByteArray) (aa : Option Addr) (an ac : Nat) (es : List EdgeL) (ia : Option Addr) (n ic : Nat) (ix : List Nat) (w : World) (bound : Nat) (hb : bound ≤ w.heap.size) (han : an ≤ 6) (hE : Edges w bound aa an es) (hI : Nums w bound ia n (rowI ix)) (he : ∀ e ∈ es, (0 ≤ e.at_ ∧ e.at_.toNat < n) ∧ 0 ≤ e.next ∧ e.next.toNat < n) :
    Calls Try.prog 56 #[.agg #[.int .i64 kd, .string s, .slice aa an ac], .slice ia n ic] w fun e w' => MovedRet w kd s (es.map (movedI ix)) e w' ∧ Below w.heap.size w w' := by
  have HE := Lib.hid hE
  have HI := Lib.hid hI
  have HES := Lib.hid he
  have HLEN := Lib.hid hE.1
  clear hE hI he
  go_enter Try.func56, Try.ntmps56
  go_wp2_with fail
  obtain ⟨W0, hW0⟩ : ∃ W0, W0 = ((w.alloc (.cells #[.int .i64 kd, .string s, .slice aa an ac] 62)).alloc (.cells #[.int .i64 0, .string ⟨#[]⟩, .slice none 0 0] 62)).alloc (.cells #[.int .i64 kd, .string s, .slice none 0 0] 62) := ⟨_, rfl⟩
  have HB0 := Lib.hid (show Below w.heap.size w W0 by rw [hW0]; exact (((Below.refl w.heap.size w).alloc (Nat.le_refl _) _).alloc (by simp) _).alloc (by simp; omega) _)
  have HM0 := Lib.hid (show NBox W0 (w.heap.size + 1 + 1) kd s none 0 0 by
    have := heap_alloc_new ((w.alloc (.cells #[.int .i64 kd, .string s, .slice aa an ac] 62)).alloc (.cells #[.int .i64 0, .string ⟨#[]⟩, .slice none 0 0] 62)) (.cells #[.int .i64 kd, .string s, .slice none 0 0] 62)
    rw [World.size_alloc, World.size_alloc, ← hW0] at this
    exact this)
  have HR0 := Lib.hid (show NBox W0 (w.heap.size + 1) 0 ⟨#[]⟩ none 0 0 by
    have := heap_alloc_new (w.alloc (.cells #[.int .i64 kd, .string s, .slice aa an ac] 62)) (.cells #[.int .i64 0, .string ⟨#[]⟩, .slice none 0 0] 62)
    rw [World.size_alloc] at this
    rw [hW0]
    exact ((tu1 _ _).block _ (by simp)).trans this)
  have HZ0 := Lib.hid (show w.heap.size + 1 + 1 + 1 ≤ W0.heap.size by rw [hW0]; simp)
  rw [← hW0]
  clear hW0
  go_loopw [17] (fun i wr => ∃ (k : Nat) (va : Option Addr) (vc : Nat), k ≤ an ∧ i = .int .i64 k ∧ Hid (EdOwn wr (w.heap.size + 1 + 1 + 1) (.slice va k vc) ((es.take k).map (movedI ix))) ∧ Hid (NBox wr (w.heap.size + 1 + 1) kd s va k vc) ∧ Hid (NBox wr (w.heap.size + 1) 0 ⟨#[]⟩ none 0 0) ∧ Hid (Below w.heap.size w wr) ∧ w.heap.size + 1 + 1 + 1 ≤ wr.heap.size) (fun i _ => an - (intOf i).toNat)
  case atStart => exact ⟨0, none, 0, Nat.zero_le _, rfl, Lib.hid (EdOwn.zero _ _), HM0, HR0, HB0, HZ0.out⟩
  case round =>
    clear HB0 HM0 HR0 HZ0
    obtain ⟨k, va, vc, hk, rfl, HO, HM, HRB, HBr, hzr⟩ := hrel
    by_cases hlt : k < an
    · obtain ⟨b, off, u, sk, ta, nx, rfl, hbb, hx, ⟨q0, q1, q2, q3⟩, hu⟩ := (HE.out.below (HBr.out.mono hb)).at_ hlt
      have i1 : (k : Int) < (an : Int) := by omega
      have i2 : (0 : Int) ≤ (k : Int) := by omega
      obtain ⟨⟨f1, f2⟩, f3, f4⟩ := HES.out _ (List.mem_of_getElem? hx)
      obtain ⟨ta', rfl⟩ : ∃ m : Nat, ta = (m : Int) := ⟨ta.toNat, (Int.toNat_of_nonneg f1).symm⟩
      obtain ⟨nx', rfl⟩ : ∃ m : Nat, nx = (m : Int) := ⟨nx.toNat, (Int.toNat_of_nonneg f3).symm⟩
      have f2' : ta' < n := by simpa using f2
      have f4' : nx' < n := by simpa using f4
      obtain ⟨ib, io, rfl, hib, ct⟩ := cls_at (HI.out.below (HBr.out.mono hb)) f2'
      obtain ⟨ib', io', e, _, cx⟩ := cls_at (HI.out.below (HBr.out.mono hb)) f4'
      obtain ⟨e1, e2, _⟩ := Addr.mk.inj (Option.some.inj e)
      subst e1 e2
      obtain ⟨x1, hx1⟩ : ∃ x, x = ix.getD ta' 0 := ⟨_, rfl⟩
      obtain ⟨x2, hx2⟩ : ∃ x, x = ix.getD nx' 0 := ⟨_, rfl⟩
      rw [← hx1] at ct
      rw [← hx2] at cx
      have j1 : (ta' : Int) < (n : Int) := by omega
      have j2 : (0 : Int) ≤ (ta' : Int) := by omega
      have j3 : (nx' : Int) < (n : Int) := by omega
      have j4 : (0 : Int) ≤ (nx' : Int) := by omega
      have hbz : b < wr.heap.size := by omega
      have hiz : ib < wr.heap.size := by omega
      have hmz : w.heap.size + 1 + 1 < wr.heap.size := by omega
      obtain ⟨m0, m1, m2⟩ := HM.out.cells
      have HX := Lib.hid hx
      have HU := Lib.hid hu
      have HX1 := Lib.hid hx1
      have HX2 := Lib.hid hx2
      have hel : ((es.take k).map (movedI ix)).length = k := by rw [List.length_map, List.length_take, HLEN.out]; omega
      have HEL := Lib.hid hel
      clear hx hu f1 f2 f3 f4 e hx1 hx2 hel
      go_upto_region 5 with fail
      go_region
      obtain ⟨we, hwe⟩ : ∃ we, we = ((wr.alloc (.cells #[.string u, .int .i64 sk, .int .i64 (ta' : Int), .int .i64 (nx' : Int)] 82)).alloc (.cells #[.int .i64 sk, .int .i64 (x1 : Int)] 80)).drew := ⟨_, rfl⟩
      have hbw : Below wr.heap.size wr we := by rw [hwe]; exact bel_drewN ((tu1 wr _).trans ((tu1 _ _).mono (by simp))) 1
      have heb : EBox we wr.heap.size u sk (ta' : Int) (nx' : Int) := by rw [hwe]; exact ((tu1 _ _).block wr.heap.size (by simp)).trans (heap_alloc_new wr _)
      have hsb : we.heap[wr.heap.size + 1]? = some (.cells #[.int .i64 sk, .int .i64 (x1 : Int)] 80 (0, 0)) := by
        have := heap_alloc_new (wr.alloc (.cells #[.string u, .int .i64 sk, .int .i64 (ta' : Int), .int .i64 (nx' : Int)] 82)) (.cells #[.int .i64 sk, .int .i64 (x1 : Int)] 80)
        rw [World.size_alloc] at this
        rw [hwe]
        exact this
      rw [← hwe]
      clear hwe
      have HBW := Lib.hid hbw
      have HMW := Lib.hid (show NBox we (w.heap.size + 1 + 1) kd s va k vc from (hbw.block _ hmz).trans HM.out)
      obtain ⟨g0, g1, g2⟩ := HMW.out.cells
      obtain ⟨h0, h1, h2, h3⟩ := heb.cells
      have s0 : we.cell? ⟨wr.heap.size + 1, 0, none⟩ = some (.int .i64 sk) := by rw [cell_of_row _ _ _ _ _ _ hsb]; rfl
      have s1 : we.cell? ⟨wr.heap.size + 1, 1, none⟩ = some (.int .i64 (x1 : Int)) := by rw [cell_of_row _ _ _ _ _ _ hsb]; rfl
      have cxw := (hbw.cell (p := ⟨ib, io + nx', none⟩) hiz).trans cx
      have fzw : we.frozen? ⟨w.heap.size + 1 + 1, 2, none⟩ = false := by unfold World.frozen?; rw [HMW.out]; simp
      have HOW := Lib.hid (show EdOwn we.drew (w.heap.size + 1 + 1 + 1) (.slice va k vc) ((es.take k).map (movedI ix)) from HO.out.kept (bel_drewN hbw 1))
      have hzw : wr.heap.size + 2 ≤ we.heap.size := by have := (Array.getElem?_eq_some_iff.1 hsb).1; omega
      have hmw : w.heap.size + 1 + 1 < we.heap.size := by omega
      clear hbw heb hsb m0 m1 m2 q0 q1 q2 q3 ct cx
      have hvb : ∀ g, g < wr.heap.size + 2 → (Value.slice va k vc).ownBlock = some g → w.heap.size + 1 + 1 + 1 ≤ g ∧ g < wr.heap.size := fun g _ e => by
        obtain ⟨ts, h1, _⟩ := HO.out
        exact h1.lt g e
      have HS := Lib.hid (fun (W : World) (h : ∀ g, g < we.heap.size → (Value.slice va k vc).ownBlock ≠ some g → W.heap[g]? = we.heap[g]?) => show W.cell? ⟨w.heap.size + 1 + 1, 2, none⟩ = some (.slice va k vc) ∧ W.cell? ⟨wr.heap.size, 0, none⟩ = some (.string u) ∧ W.cell? ⟨wr.heap.size, 3, none⟩ = some (.int .i64 (nx' : Int)) ∧ W.cell? ⟨wr.heap.size + 1, 0, none⟩ = some (.int .i64 sk) ∧ W.cell? ⟨wr.heap.size + 1, 1, none⟩ = some (.int .i64 (x1 : Int)) ∧ W.cell? ⟨ib, io + nx', none⟩ = some (.int .i64 (x2 : Int)) from by
        have hh : ∀ (g : Nat), g < wr.heap.size + 2 → (g < w.heap.size + 1 + 1 + 1 ∨ wr.heap.size ≤ g) → ∀ o, W.cell? ⟨g, o, none⟩ = we.cell? ⟨g, o, none⟩ := fun g hg hg2 o => World.cell?_of_block (h g (by omega) (fun e => by have := hvb g hg e; omega))
        exact ⟨(hh _ (by omega) (.inl (by omega)) _).trans g2, (hh _ (by omega) (.inr (by omega)) _).trans h0, (hh _ (by omega) (.inr (by omega)) _).trans h3, (hh _ (by omega) (.inr (by omega)) _).trans s0, (hh _ (by omega) (.inr (by omega)) _).trans s1, (hh _ (by omega) (.inl (by omega)) _).trans cxw⟩)
      clear hvb
      go_wp2_with fail
      refine wp_region_last2 (S := fun W => W.cell? ⟨w.heap.size + 1 + 1, 2, none⟩ = some (.slice va k vc) ∧ W.cell? ⟨wr.heap.size, 0, none⟩ = some (.string u) ∧ W.cell? ⟨wr.heap.size, 3, none⟩ = some (.int .i64 (nx' : Int)) ∧ W.cell? ⟨wr.heap.size + 1, 0, none⟩ = some (.int .i64 sk) ∧ W.cell? ⟨wr.heap.size + 1, 1, none⟩ = some (.int .i64 (x1 : Int)) ∧ W.cell? ⟨ib, io + nx', none⟩ = some (.int .i64 (x2 : Int))) rfl (by kernel_rfl) (by kernel_rfl) (⟨g2, h0, h3, s0, s1, cxw⟩) (fun hHeld => ?_)
      simp only [List.pop_toArray, List.dropLast_cons_cons, List.dropLast_singleton]
      try simp only [Act.put, List.setIfInBounds_toArray]
      refine' wpAnyH_take (i := 0) (v := _) rfl (by kernel_rfl) (by kernel_rfl) (by kernel_rfl) (fun _ _ _ h => h) (Or.inl ⟨by rfl, ?hy0⟩) (by assumption) ?rest0
      case hy0 =>
        intro W hSw
        (try dsimp only at hSw)
        first | (go_simp; done) | (go_simp; with_reducible rfl)
      try simp only [Act.put, List.setIfInBounds_toArray]
      refine' wpAnyH_take (i := 1) (v := _) rfl (by kernel_rfl) (by kernel_rfl) (by kernel_rfl) (fun _ _ _ h => h) (Or.inl ⟨by rfl, ?hy1⟩) (by assumption) ?rest1
      case hy1 =>
        intro W hSw
        (try dsimp only at hSw)
        first | (go_simp; done) | (go_simp; with_reducible rfl)
      try simp only [Act.put]
      refine' wpAnyH_take (i := 2) (v := _) rfl (by kernel_rfl) (by kernel_rfl) (by kernel_rfl) (fun _ _ _ h => h) (Or.inl ⟨by rfl, ?hy2⟩) (by assumption) ?rest2
      case hy2 =>
        intro W hSw
        (try dsimp only at hSw)
        first | (go_simp; done) | (go_simp; with_reducible rfl)
      try simp only [Act.put]
      refine' wpAnyH_take (i := 3) (v := _) rfl (by kernel_rfl) (by kernel_rfl) (by kernel_rfl) (fun _ _ _ h => h) (Or.inl ⟨by rfl, ?hy3⟩) (by assumption) ?rest3
      case hy3 =>
        intro W hSw
        (try dsimp only at hSw)
        first | (go_simp; done) | (go_simp; with_reducible rfl)
      try simp only [Act.put]
      refine' wpAnyH_take (i := 4) (v := _) rfl (by kernel_rfl) (by kernel_rfl) (by kernel_rfl) (fun _ _ _ h => h) (Or.inl ⟨by rfl, ?hy4⟩) (by assumption) ?rest4
      case hy4 =>
        intro W hSw
        (try dsimp only at hSw)
        first | (go_simp; done) | (go_simp; with_reducible rfl)
      try simp only [Act.put]
      refine' wpAnyH_take (i := 5) (v := _) rfl (by kernel_rfl) (by kernel_rfl) (by kernel_rfl) (fun _ _ _ h => h) (Or.inl ⟨by rfl, ?hy5⟩) (by assumption) ?rest5
      case hy5 =>
        intro W hSw
        (try dsimp only at hSw)
        first | (go_simp; done) | (go_simp; with_reducible rfl)
      try simp only [Act.put]
      refine' wpAnyH_take (i := 6) (v := _) rfl (by kernel_rfl) (by kernel_rfl) (by kernel_rfl) (fun _ _ _ h => h) (Or.inl ⟨by rfl, ?hy6⟩) (by assumption) ?rest6
      case hy6 =>
        intro W hSw
        (try dsimp only at hSw)
        first | (go_simp; done) | (go_simp; with_reducible rfl)
      try simp only [Act.put]
      refine' wpAnyH_take (i := 7) (v := _) rfl (by kernel_rfl) (by kernel_rfl) (by kernel_rfl) (fun _ _ _ h => h) (Or.inl ⟨by rfl, ?hy7⟩) (by assumption) ?rest7
      case hy7 =>
        intro W hSw
        (try dsimp only at hSw)
        first | (go_simp; done) | (go_simp; with_reducible rfl)
      try simp only [Act.put]
      refine' wpAnyH_take (i := 8) (v := _) rfl (by kernel_rfl) (by kernel_rfl) (by kernel_rfl) (fun _ _ _ h => h) (Or.inl ⟨by rfl, ?hy8⟩) (by assumption) ?rest8
      case hy8 =>
        intro W hSw
        (try dsimp only at hSw)
        first | (go_simp; done) | (go_simp; with_reducible rfl)
      try simp only [Act.put]
      refine' wpAnyH_take (i := 9) (v := _) rfl (by kernel_rfl) (by kernel_rfl) (by kernel_rfl) (fun _ _ _ h => h) (Or.inl ⟨by rfl, ?hy9⟩) (by assumption) ?rest9
      case hy9 =>
        intro W hSw
        (try dsimp only at hSw)
        first | (go_simp; done) | (go_simp; with_reducible rfl)
      try simp only [Act.put]
      refine' wpAnyH_take (i := 10) (v := _) rfl (by kernel_rfl) (by kernel_rfl) (by kernel_rfl) (fun _ _ _ h => h) (Or.inl ⟨by rfl, ?hy10⟩) (by assumption) ?rest10
      case hy10 =>
        intro W hSw
        (try dsimp only at hSw)
        first | (go_simp; done) | (go_simp; with_reducible rfl)
      try simp only [Act.put]
      refine wpAnyH_ready (rs := [11]) (by kernel_rfl) (by simp) ?_
      refine AllReadyH.cons (i := 11) (o := _) rfl (fun K hK => ?_) AllReadyH.nil
      go_simp
      refine hK.out _ _ (HS.out _ (fun g hg _ => (tu1 we _).block g hg)) (fun hHeld => ?_)
      clear hK K
      try simp only [Act.put, List.setIfInBounds_toArray]
      refine wpAnyH_ready (rs := [12]) (by kernel_rfl) (by simp) ?_
      refine AllReadyH.cons (i := 12) (o := _) rfl (fun K hK => ?_) AllReadyH.nil
      refine step_append_edge (W := we.drew) (by rfl) (.tmp 32) (.tmp 42) (by rfl) (w.heap.size + 1 + 1 + 1) (.slice va k vc) ((es.take k).map (movedI ix)) ⟨u, sk, (x1 : Int), (x2 : Int)⟩ (by rfl) (by rfl) (by rfl) HOW.out HU.out (by show _ ≤ we.heap.size; omega) (by rw [HEL.out]; omega) we (bel_drewN (Below.refl _ _) 1) ?_
      intro v3 w3 ho hb hkp
      obtain ⟨va3, vc3, hv3, _, _, _⟩ := ho.sees (by rw [List.length_append, HEL.out, List.length_singleton]; omega)
      rw [List.length_append, HEL.out, List.length_singleton] at hv3
      subst hv3
      have HO3 := Lib.hid ho
      have HB3 := Lib.hid hb
      have HM3 := Lib.hid (show NBox w3 (w.heap.size + 1 + 1) kd s va k vc from (hb.block _ (by omega)).trans HMW.out)
      obtain ⟨k0, k1, k2⟩ := HM3.out.cells
      have fz3 : w3.frozen? ⟨w.heap.size + 1 + 1, 2, none⟩ = false := by unfold World.frozen?; rw [HM3.out]; simp
      clear ho hb
      refine hK.out _ _ (HS.out _ (fun g hg hne => hkp.2 g hg hne)) (fun hHeld => ?_)
      clear hkp
      clear hK K
      try simp only [Act.put, List.setIfInBounds_toArray]
      refine' wpAnyH_take (i := 13) (v := _) rfl (by kernel_rfl) (by kernel_rfl) (by kernel_rfl) (fun _ _ _ h => h) (Or.inl ⟨by rfl, ?hy13⟩) (by assumption) ?rest13
      case hy13 =>
        intro W hSw
        (try dsimp only at hSw)
        first | (go_simp; done) | (go_simp; with_reducible rfl)
      try simp only [Act.put]
      refine wpAnyH_done (by kernel_rfl) ?_ _
      unfold LastPost
      go_simp
      all_goals
        go_wp2_with fail
        go_roundw
      case rel =>
        refine ⟨k + 1, va3, vc3, by omega, by go_num, Lib.hid ?_, Lib.hid ?_, Lib.hid ?_, Lib.hid ?_, ?_⟩
        · have e : (es.take (k + 1)).map (movedI ix) = (es.take k).map (movedI ix) ++ [edgeR ⟨u, sk, (x1 : Int), (x2 : Int)⟩] := by
            rw [tuTake_at HX.out, List.map_append]
            congr 1
            show [movedI ix ⟨u.toList, sk, (ta' : Int), (nx' : Int)⟩] = _
            unfold movedI edgeR
            rw [Int.toNat_natCast, Int.toNat_natCast, ← HX1.out, ← HX2.out]
          rw [e]
          obtain ⟨ts, h1, h2⟩ := HO3.out
          exact ⟨ts, ownsRow_setCell_below h1 (show w.heap.size + 1 + 1 < _ by omega) _, h2⟩
        · exact setBox10 HM3.out
        · exact (Below.heap_setCell _ _ _ _ (by simp)).trans ((HB3.out.block _ (by omega)).trans ((HBW.out.block _ (by omega)).trans HRB.out))
        · exact ((HBr.out.trans (HBW.out.mono (by omega))).trans (HB3.out.mono (by omega))).setCell (show w.heap.size ≤ w.heap.size + 1 + 1 by omega) _
        · have := HB3.out.size
          simp
          omega
      case measure => simp [intOf]; omega
    · obtain rfl : k = an := by omega
      have d1 : decide ((k : Int) < (k : Int)) = false := decide_eq_false (by omega)
      have hall : es.take k = es := List.take_of_length_le (by have := HLEN.out; omega)
      rw [hall] at HO
      obtain ⟨m0, m1, m2⟩ := HM.out.cells
      obtain ⟨r0, r1, r2⟩ := HRB.out.cells
      have fr : ∀ j, wr.frozen? ⟨w.heap.size + 1, j, none⟩ = false := fun j => by unfold World.frozen?; rw [HRB.out]; simp
      have fr0 := fr 0
      have fr1 := fr 1
      have fr2 := fr 2
      obtain ⟨va', vc', hva, hed, hcp, _⟩ := HO.out.sees (by rw [List.length_map, HLEN.out]; omega)
      rw [List.length_map, HLEN.out] at hva hed hcp
      obtain ⟨e1, _, e3⟩ := Value.slice.inj hva
      subst e1 e3
      have HED := Lib.hid hed
      have HCP := Lib.hid hcp
      have hvb : ∀ b off, va = some ⟨b, off, none⟩ → w.heap.size + 1 + 1 + 1 ≤ b ∧ b < wr.heap.size := fun b off e => by
        obtain ⟨ts, h1, _⟩ := HO.out
        subst e
        exact h1.lt b rfl
      have HVB := Lib.hid hvb
      clear hall fr hva hed hvb hcp
      go_wp2_with fail
      refine bodyPost_ret (v := .agg #[.int .i64 kd, .string s, .slice va k vc]) (by simp [results, go_sem, r0, r1, r2]) rfl ?_
      have hset : ∀ (x y z : Value), Beside (w.heap.size + 1) wr (((wr.setCell ⟨w.heap.size + 1, 0, none⟩ x).setCell ⟨w.heap.size + 1, 1, none⟩ y).setCell ⟨w.heap.size + 1, 2, none⟩ z) := fun x y z => (((Beside.refl _ wr).setCell 0 x).setCell 1 y).setCell 2 z
      refine ⟨⟨va, k, vc, rfl, ?_, fun b off e => by have := HVB.out b off e; have := (hset (.int .i64 kd) (.string s) (.slice va k vc)).size; omega, HCP.out⟩, HBr.out.trans ((hset _ _ _).below (by omega) (by omega))⟩
      exact HED.out.stay (hset _ _ _).size (fun b off e => (hset _ _ _).block b (HVB.out b off e).2 (by have := HVB.out b off e; omega))
end Go.Proofs.Ytgefhgcpnfbigaa
