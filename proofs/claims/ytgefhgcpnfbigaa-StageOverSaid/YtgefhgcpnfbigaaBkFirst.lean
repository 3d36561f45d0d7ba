/- Contracts of the statements' loop and first (layer 10). -/
import Derived.Test.YtgefhgcpnfbigaaBkShrB
import Derived.Deep.RegionWith
namespace Go.Proofs.Ytgefhgcpnfbigaa
open Go.RowKit Go.Sort

section
variable {W W' : World} {g bound : Nat}
theorem Edges.aside {a : Option Addr} {n : Nat} {l : List EdgeL} (h : Edges W bound a n l) (hb : Beside g W W') (hB : bound ≤ W.heap.size) (hs : ∀ o v, W.cell? ⟨g, o, none⟩ = some v → ∃ a n c, v = .slice a n c) : Edges W' W'.heap.size a n l :=
  ⟨h.1, h.2.1, fun hn => by
    obtain ⟨b, off, e, hlt, hc⟩ := h.2.2 hn
    have hz := hb.size
    refine ⟨b, off, e, by omega, fun j x hj => ?_⟩
    obtain ⟨s, ⟨c0, c1, c2, c3⟩, h1⟩ := hc j x hj
    have hbg : b ≠ g := fun e => by
      subst e
      obtain ⟨_, _, _, h2⟩ := hs _ _ c0
      cases h2
    have hq : ∀ o, W'.cell? ⟨b, o, none⟩ = W.cell? ⟨b, o, none⟩ := fun o => hb.cell (p := ⟨b, o, none⟩) (by show b < _; omega) hbg
    exact ⟨s, ⟨(hq _).trans c0, (hq _).trans c1, (hq _).trans c2, (hq _).trans c3⟩, h1⟩⟩
theorem Nodes.aside {a : Option Addr} {n : Nat} {l : List NodeL} (h : Nodes W bound a n l) (hb : Beside g W W') (hB : bound ≤ W.heap.size) (hs : ∀ o v, W.cell? ⟨g, o, none⟩ = some v → ∃ a n c, v = .slice a n c) : Nodes W' W'.heap.size a n l :=
  ⟨h.1, h.2.1, fun hn => by
    obtain ⟨b, off, e, hlt, hc⟩ := h.2.2 hn
    have hz := hb.size
    refine ⟨b, off, e, by omega, fun j x hj => ?_⟩
    obtain ⟨s, aa, an, ac, ⟨c0, c1, c2⟩, h1, h2, h3⟩ := hc j x hj
    have hbg : b ≠ g := fun e => by
      subst e
      obtain ⟨_, _, _, h2⟩ := hs _ _ c0
      cases h2
    have hq : ∀ o, W'.cell? ⟨b, o, none⟩ = W.cell? ⟨b, o, none⟩ := fun o => hb.cell (p := ⟨b, o, none⟩) (by show b < _; omega) hbg
    exact ⟨s, aa, an, ac, ⟨(hq _).trans c0, (hq _).trans c1, (hq _).trans c2⟩, h1, h2, h3.aside hb hB hs⟩⟩
theorem Strs.aside10 {a : Option Addr} {n : Nat} {l : List Str} (h : Strs W bound a n l) (hb : Beside g W W') (hB : bound ≤ W.heap.size) (hs : ∀ o v, W.cell? ⟨g, o, none⟩ = some v → ∃ a n c, v = .slice a n c) : Strs W' W'.heap.size a n l :=
  ⟨h.1, h.2.1, h.2.2.1, fun hn => by
    obtain ⟨b, off, e, hlt, hc⟩ := h.2.2.2 hn
    have hz := hb.size
    refine ⟨b, off, e, by omega, fun j x hj => ?_⟩
    have c0 := hc j x hj
    have hbg : b ≠ g := fun e => by
      subst e
      obtain ⟨_, _, _, h2⟩ := hs _ _ c0
      cases h2
    exact (hb.cell (p := ⟨b, off + j, none⟩) (by show b < _; omega) hbg).trans c0⟩
theorem Nums.aside10 {a : Option Addr} {n : Nat} {l : List Int} (h : Nums W bound a n l) (hb : Beside g W W') (hB : bound ≤ W.heap.size) (hs : ∀ o v, W.cell? ⟨g, o, none⟩ = some v → ∃ a n c, v = .slice a n c) : Nums W' W'.heap.size a n l :=
  ⟨h.1, h.2.1, fun hn => by
    obtain ⟨b, off, e, hlt, hc⟩ := h.2.2 hn
    have hz := hb.size
    refine ⟨b, off, e, by omega, fun j x hj => ?_⟩
    have c0 := hc j x hj
    have hbg : b ≠ g := fun e => by
      subst e
      obtain ⟨_, _, _, h2⟩ := hs _ _ c0
      cases h2
    exact (hb.cell (p := ⟨b, off + j, none⟩) (by show b < _; omega) hbg).trans c0⟩
/-- A book stays where only a block of slices has changed. -/
theorem BkIn.aside {na sa ra : Option Addr} {nn sn rn : Nat} {b : BookL} (h : BkIn W bound na nn sa sn ra rn b) (hb : Beside g W W') (hB : bound ≤ W.heap.size) (hs : ∀ o v, W.cell? ⟨g, o, none⟩ = some v → ∃ a n c, v = .slice a n c) : BkIn W' W'.heap.size na nn sa sn ra rn b :=
  ⟨h.nodes.aside hb hB hs, h.names.aside10 hb hB hs, h.roots.aside10 hb hB hs⟩
theorem BBox.slices {na sa ra : Option Addr} {nn nc sn sc rn rc : Nat} (h : BBox W g na nn nc sa sn sc ra rn rc) : ∀ o v, W.cell? ⟨g, o, none⟩ = some v → ∃ a n c, v = .slice a n c := fun o v hv => by
  rw [cell_of_row _ _ _ _ _ _ h] at hv
  match o, hv with
  | 0, hv => exact ⟨_, _, _, (Option.some.inj hv).symm⟩
  | 1, hv => exact ⟨_, _, _, (Option.some.inj hv).symm⟩
  | 2, hv => exact ⟨_, _, _, (Option.some.inj hv).symm⟩
  | o + 3, hv => simp at hv
theorem BkIn.on {na sa ra : Option Addr} {nn sn rn : Nat} {b : BookL} (h : BkIn W W.heap.size na nn sa sn ra rn b) (hb : Below W.heap.size W W') : BkIn W' W'.heap.size na nn sa sn ra rn b := (h.below hb).more hb.size
end
def loopB : BookL := ⟨[⟨1, [98], [⟨[120], 1, 0, 1⟩]⟩, ⟨1, [98], [⟨[120], 1, 0, 0⟩]⟩], [], []⟩
theorem loopB_ok : bookB loopB = true := by decide
theorem loopB_eqv : Eqv loopB.nodes 0 1 := by
  refine ⟨fun x y => x < 2 ∧ y < 2, ?_, by omega, by omega⟩
  intro x y ⟨hx, hy⟩
  have hall : ∀ x, x < 2 → ∃ e : Int, loopB.nodes[x]? = some ⟨1, [98], [⟨[120], 1, 0, e⟩]⟩ ∧ e.toNat < 2 := fun x hx => by
    have : x = 0 ∨ x = 1 := by omega
    rcases this with rfl | rfl
    · exact ⟨1, rfl, by decide⟩
    · exact ⟨0, rfl, by decide⟩
  obtain ⟨e, he, he2⟩ := hall x hx
  obtain ⟨f, hf, hf2⟩ := hall y hy
  refine ⟨_, _, he, hf, ⟨rfl, rfl, rfl⟩, fun j a c ha hc => ?_⟩
  match j, ha, hc with
  | 0, ha, hc =>
    obtain rfl := Option.some.inj ha
    obtain rfl := Option.some.inj hc
    exact ⟨⟨he2, hf2⟩, fun h => absurd h (by show ¬ (1 : Int) = 5; omega)⟩
  | j + 1, ha, _ => simp at ha
theorem loopB_cl {cl : List Nat} (h : ClsP loopB cl) : cl = [0, 0] := by
  have hc := h.1 loopB_ok
  have hn := (bookB_ok loopB_ok).1
  have h0 := hc.le hn.closed (i := 0) (by decide)
  have h1 := (hc.iff (i := 0) (j := 1) (by decide) (by decide)).2 loopB_eqv
  refine getD_ext (by rw [hc.1]; rfl) fun i hi => ?_
  have h2 : cl.length = 2 := hc.1
  have : i = 0 ∨ i = 1 := by omega
  rcases this with rfl | rfl
  · show cl.getD 0 0 = 0; omega
  · show cl.getD 1 0 = 0; omega
theorem loopB_shr : (shrQ loopB [0, 0]).nodes.length = 1 := by
  unfold shrQ
  rw [if_pos loopB_ok]
  rfl
abbrev lpE (n : Int) : Obj := .cells #[.string ⟨#[120]⟩, .int .i64 1, .int .i64 0, .int .i64 n] 82
abbrev lpN (a b : Nat) : Obj := .cells #[.int .i64 1, .string ⟨#[98]⟩, .slice (some ⟨a, 0, none⟩) 1 1, .int .i64 1, .string ⟨#[98]⟩, .slice (some ⟨b, 0, none⟩) 1 1] 62
abbrev lpB (a : Nat) : Obj := .cells #[.slice (some ⟨a, 0, none⟩) 2 2, .slice none 0 0, .slice none 0 0] 26
theorem lpE_in {W : World} {a : Nat} {n : Int} (h : W.heap[a]? = some (.cells #[.string ⟨#[120]⟩, .int .i64 1, .int .i64 0, .int .i64 n] 82 (0, 0))) : Edges W W.heap.size (some ⟨a, 0, none⟩) 1 [⟨[120], 1, 0, n⟩] := by
  refine ⟨rfl, by omega, fun _ => ⟨a, 0, rfl, (Array.getElem?_eq_some_iff.1 h).1, fun j x hj => ?_⟩⟩
  match j, hj with
  | 0, hj =>
    obtain rfl := Option.some.inj hj
    refine ⟨⟨#[120]⟩, ⟨?_, ?_, ?_, ?_⟩, by rw [ByteArray.toList_eq], by unfold maxLen; decide⟩ <;> (rw [cell_of_row _ _ _ _ _ _ h]; rfl)
  | j + 1, hj => simp at hj
theorem lp_in {W : World} {a b c : Nat} (ha : W.heap[a]? = some (.cells #[.string ⟨#[120]⟩, .int .i64 1, .int .i64 0, .int .i64 1] 82 (0, 0))) (hb : W.heap[b]? = some (.cells #[.string ⟨#[120]⟩, .int .i64 1, .int .i64 0, .int .i64 0] 82 (0, 0)))
    (hc : W.heap[c]? = some (.cells #[.int .i64 1, .string ⟨#[98]⟩, .slice (some ⟨a, 0, none⟩) 1 1, .int .i64 1, .string ⟨#[98]⟩, .slice (some ⟨b, 0, none⟩) 1 1] 62 (0, 0))) : BkIn W W.heap.size (some ⟨c, 0, none⟩) 2 none 0 none 0 loopB := by
  refine ⟨⟨rfl, by omega, fun _ => ⟨c, 0, rfl, (Array.getElem?_eq_some_iff.1 hc).1, fun j x hj => ?_⟩⟩, Strs.zero _ _ _, Nums.zero _ _ _⟩
  match j, hj with
  | 0, hj =>
    obtain rfl := Option.some.inj hj
    refine ⟨⟨#[98]⟩, some ⟨a, 0, none⟩, 1, 1, ⟨?_, ?_, ?_⟩, by rw [ByteArray.toList_eq], by simp [maxLen, ByteArray.size], lpE_in ha⟩ <;> (rw [cell_of_row _ _ _ _ _ _ hc]; rfl)
  | 1, hj =>
    obtain rfl := Option.some.inj hj
    refine ⟨⟨#[98]⟩, some ⟨b, 0, none⟩, 1, 1, ⟨?_, ?_, ?_⟩, by rw [ByteArray.toList_eq], by simp [maxLen, ByteArray.size], lpE_in hb⟩ <;> (rw [cell_of_row _ _ _ _ _ _ hc]; rfl)
  | j + 2, hj => simp [loopB] at hj
theorem lp_world (w : World) : ∀ S, S = w.heap.size → BkIn ((((((w.alloc (lpB (S + 1 + 1 + 1 + 1 + 1))).alloc (lpE 1)).alloc (lpE 0)).alloc (lpE 1)).alloc (lpE 0)).alloc (lpN (S + 1 + 1 + 1) (S + 1 + 1 + 1 + 1)))
    ((((((w.alloc (lpB (S + 1 + 1 + 1 + 1 + 1))).alloc (lpE 1)).alloc (lpE 0)).alloc (lpE 1)).alloc (lpE 0)).alloc (lpN (S + 1 + 1 + 1) (S + 1 + 1 + 1 + 1))).heap.size (some ⟨S + 1 + 1 + 1 + 1 + 1, 0, none⟩) 2 none 0 none 0 loopB := by
  intro S hS
  have z1 : (w.alloc (lpB (S + 1 + 1 + 1 + 1 + 1))).heap.size = S + 1 := by rw [World.size_alloc, hS]
  generalize w.alloc (lpB (S + 1 + 1 + 1 + 1 + 1)) = W1 at z1 ⊢
  have z2 : (W1.alloc (lpE 1)).heap.size = S + 1 + 1 := by rw [World.size_alloc, z1]
  generalize W1.alloc (lpE 1) = W2 at z2 ⊢
  have z3 : (W2.alloc (lpE 0)).heap.size = S + 1 + 1 + 1 := by rw [World.size_alloc, z2]
  generalize W2.alloc (lpE 0) = W3 at z3 ⊢
  have z4 : (W3.alloc (lpE 1)).heap.size = S + 1 + 1 + 1 + 1 := by rw [World.size_alloc, z3]
  have h3 : (W3.alloc (lpE 1)).heap[S + 1 + 1 + 1]? = some (.cells #[.string ⟨#[120]⟩, .int .i64 1, .int .i64 0, .int .i64 1] 82 (0, 0)) := by rw [← z3]; exact heap_alloc_new W3 _
  generalize W3.alloc (lpE 1) = W4 at z4 h3 ⊢
  have z5 : (W4.alloc (lpE 0)).heap.size = S + 1 + 1 + 1 + 1 + 1 := by rw [World.size_alloc, z4]
  have h4 : (W4.alloc (lpE 0)).heap[S + 1 + 1 + 1 + 1]? = some (.cells #[.string ⟨#[120]⟩, .int .i64 1, .int .i64 0, .int .i64 0] 82 (0, 0)) := by rw [← z4]; exact heap_alloc_new W4 _
  have h3b := ((tu1 W4 (lpE 0)).block (S + 1 + 1 + 1) (by omega)).trans h3
  generalize W4.alloc (lpE 0) = W5 at z5 h4 h3b ⊢
  have h5 : (W5.alloc (lpN (S + 1 + 1 + 1) (S + 1 + 1 + 1 + 1))).heap[S + 1 + 1 + 1 + 1 + 1]? = some (.cells #[.int .i64 1, .string ⟨#[98]⟩, .slice (some ⟨S + 1 + 1 + 1, 0, none⟩) 1 1, .int .i64 1, .string ⟨#[98]⟩, .slice (some ⟨S + 1 + 1 + 1 + 1, 0, none⟩) 1 1] 62 (0, 0)) := by rw [← z5]; exact heap_alloc_new W5 _
  exact lp_in (((tu1 W5 _).block _ (by omega)).trans h3b) (((tu1 W5 _).block _ (by omega)).trans h4) h5
set_option maxHeartbeats 4000000 in
theorem loop10_any (w : World) : Calls Try.prog 40 #[] w fun e w' => BkRet loopB e w' ∧ Below w.heap.size w w' := by
  have HL := Lib.hid (lp_world w _ rfl)
  have HB := Lib.hid (((((tu1 w (lpB (w.heap.size + 1 + 1 + 1 + 1 + 1))).alloc (by simp) (lpE 1)).alloc (by simp; omega) (lpE 0)).alloc (by simp; omega) (lpE 1)).alloc (by simp; omega) (lpE 0) |>.alloc (by simp; omega) (lpN (w.heap.size + 1 + 1 + 1) (w.heap.size + 1 + 1 + 1 + 1)))
  go_enter Try.func40, Try.ntmps40
  go_wp2_with fail
  refine bodyPost_ret (v := bkV (some ⟨w.heap.size + 1 + 1 + 1 + 1 + 1, 0, none⟩) 2 2 none 0 0 none 0 0) (by simp [results, go_sem]) rfl ?_
  exact ⟨⟨_, 2, 2, none, 0, 0, none, 0, 0, rfl, HL.out⟩, HB.out⟩
set_option maxHeartbeats 16000000 in
set_option maxRecDepth 20000 in
theorem first10_any (w : World) : Calls Try.prog 9 #[] w fun e w' => e = .returned (.bool true) ∧ Below w.heap.size w w' := by
  have CL := Lib.hid loop10_any
  have hfld : ∀ (a : Option Addr) (n c : Nat) (sa : Option Addr) (sn sc : Nat) (ra : Option Addr) (rn rc : Nat) (W : World), (Instr.field 26 (bkV a n c sa sn sc ra rn rc) 0).run Try.prog W = .ok (.slice a n c) W := fun _ _ _ _ _ _ _ _ _ W => by kernel_rfl
  have HS1 := Lib.hid (show sameC [0, 0] 0 1 = true by decide)
  have HS2 := Lib.hid (show sameC [0, 0] 0 2 = false by decide)
  go_enter Try.func9, Try.ntmps9
  go_wp2_with (first
    | (go_at_call 40; (with_reducible refine (CL.out w).mono ?_)
       rintro e w1 ⟨⟨na, nn, nc, sa, sn, sc, ra, rn, rc, rfl, hin⟩, hb1⟩
       have HB1 := Lib.hid hb1
       have CC := Lib.hid (classes_any na nn nc sa sn sc ra rn rc loopB w1 w1.heap.size (Nat.le_refl _) hin)
       clear hin hb1)
    | (go_at_call 15; (with_reducible refine CC.out.mono ?_)
       rintro e w2 ⟨⟨ca, cn, cc, cl, rfl, hn2, hc2⟩, hb2⟩
       obtain rfl := loopB_cl hc2
       have hcn : cn = 2 := by have := hn2.1; rw [rowI_len] at this; exact this.symm
       subst hcn
       obtain ⟨cb, co, rfl, _, hc0⟩ := cls_at hn2 (k := 0) (by omega)
       obtain ⟨cb', co', e, _, hc1⟩ := cls_at hn2 (k := 1) (by omega)
       obtain ⟨e1, e2, _⟩ := Addr.mk.inj (Option.some.inj e)
       subst e1 e2
       rw [Nat.add_zero] at hc0
       have HCL := Lib.hid hc2
       have HB2 := Lib.hid (below_on HB1.out hb2)
       clear hn2 hb2 e hc2)
    | (go_at_call 40; (with_reducible refine (CL.out w2).mono ?_)
       rintro e w3 ⟨⟨na3, nn3, nc3, sa3, sn3, sc3, ra3, rn3, rc3, rfl, hin⟩, hb3⟩
       have HB3 := Lib.hid (below_on HB2.out hb3)
       have CS := Lib.hid (same10_any na3 nn3 nc3 sa3 sn3 sc3 ra3 rn3 rc3 loopB [0, 0] 0 1 w3 w3.heap.size (Nat.le_refl _) hin HCL.out)
       rw [HS1.out] at CS
       clear hin hb3)
    | (go_at_call 12; (with_reducible refine CS.out.mono ?_)
       rintro e w4 ⟨rfl, hb4⟩
       have HB4 := Lib.hid (below_on HB3.out hb4)
       clear hb4)
    | (go_at_call 40; (with_reducible refine (CL.out w4).mono ?_)
       rintro e w5 ⟨⟨na5, nn5, nc5, sa5, sn5, sc5, ra5, rn5, rc5, rfl, hin⟩, hb5⟩
       have HB5 := Lib.hid (below_on HB4.out hb5)
       have CS5 := Lib.hid (same10_any na5 nn5 nc5 sa5 sn5 sc5 ra5 rn5 rc5 loopB [0, 0] 0 2 w5 w5.heap.size (Nat.le_refl _) hin HCL.out)
       rw [HS2.out] at CS5
       clear hin hb5)
    | (go_at_call 12; (with_reducible refine CS5.out.mono ?_)
       rintro e w6 ⟨rfl, hb6⟩
       have HB6 := Lib.hid (below_on HB5.out hb6)
       clear hb6)
    | (go_at_call 40; (with_reducible refine (CL.out w6).mono ?_)
       rintro e w7 ⟨⟨na7, nn7, nc7, sa7, sn7, sc7, ra7, rn7, rc7, rfl, hin⟩, hb7⟩
       have HB7 := Lib.hid (below_on HB6.out hb7)
       have CH := Lib.hid (shrink_any na7 nn7 nc7 sa7 sn7 sc7 ra7 rn7 rc7 loopB [0, 0] w7 w7.heap.size (Nat.le_refl _) (by have h1 : ([] : List Str).length = sn7 := hin.names.1; rw [← h1]; exact Nat.zero_le _) hin HCL.out)
       clear hin hb7)
    | (go_at_call 18; (with_reducible refine CH.out.mono ?_)
       rintro e w8 ⟨⟨na8, nn8, nc8, sa8, sn8, sc8, ra8, rn8, rc8, rfl, hin⟩, hb8⟩
       have hnn : nn8 = 1 := by have h1 := hin.nodes.1; rw [loopB_shr] at h1; exact h1.symm
       subst hnn
       have HB8 := Lib.hid (below_on HB7.out hb8)
       clear hin hb8)
    | fail)
  go_ret
  exact ⟨rfl, HB8.out⟩
end Go.Proofs.Ytgefhgcpnfbigaa
