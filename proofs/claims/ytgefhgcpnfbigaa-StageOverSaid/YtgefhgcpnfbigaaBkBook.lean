/- Contract of reparteemake's Book (printed by gen/genBkBook.py). -/
import Derived.Test.YtgefhgcpnfbigaaBkSorted
import Derived.Test.YtgefhgcpnfbigaaBkShrB
import Derived.Test.YtgefhgcpnfbigaaTuMakes
namespace Go.Proofs.Ytgefhgcpnfbigaa
open Go.RowKit Go.Sort

/-- What is held in a region may be made more. -/
theorem wpAnyH_more {P : Program} {md : Region.Mode} {ops : Array Oper} {Q : Exit → Act → World → Prop} {S S' : World → Prop} (hS : ∀ w, S' w → S w) : ∀ (fuel : Nat) (listed : Array Bool) (a : Act) (w : World), wpAnyH P md ops Q S' fuel listed a w → wpAnyH P md ops Q S fuel listed a w
  | 0, _, _, _, h => h
  | fuel + 1, _, _, _, h => ⟨h.1, fun i hi => wpOp_mono (fun a' w' h' => ⟨hS _ h'.1, wpAnyH_more hS fuel _ a' w' h'.2⟩) (h.2 i hi)⟩
def zeroEdge : Obj := .cells #[.string ⟨#[]⟩, .int .i64 0, .int .i64 0, .int .i64 0] 82
def threeInts : Obj := .cells #[.int .i64 1, .int .i64 0, .int .i64 3] 3
theorem EBox.fill {W : World} {g : Nat} {s s' : ByteArray} {a b c a' b' c' : Int} (h : EBox W g s a b c) : EBox ((((W.setCell ⟨g, 0, none⟩ (.string s')).setCell ⟨g, 1, none⟩ (.int .i64 a')).setCell ⟨g, 2, none⟩ (.int .i64 b')).setCell ⟨g, 3, none⟩ (.int .i64 c')) g s' a' b' c' := by
  have h1 := heap_setCell_same W g 0 _ _ (.string s') h
  have h2 := heap_setCell_same _ g 1 _ _ (.int .i64 a') h1
  have h3 := heap_setCell_same _ g 2 _ _ (.int .i64 b') h2
  have h4 := heap_setCell_same _ g 3 _ _ (.int .i64 c') h3
  exact h4
theorem EBox.sort {W : World} {g : Nat} {s : ByteArray} {a b c a' b' : Int} (h : EBox W g s a b c) : EBox ((W.setCell ⟨g, 1, none⟩ (.int .i64 a')).setCell ⟨g, 2, none⟩ (.int .i64 b')) g s a' b' c := by
  have h1 := heap_setCell_same W g 1 _ _ (.int .i64 a') h
  have h2 := heap_setCell_same _ g 2 _ _ (.int .i64 b') h1
  exact h2
theorem EBox.lt {W : World} {g : Nat} {s : ByteArray} {a b c : Int} (h : EBox W g s a b c) : g < W.heap.size := (Array.getElem?_eq_some_iff.1 h).1
theorem EBox.thaw {W : World} {g : Nat} {s : ByteArray} {a b c : Int} (h : EBox W g s a b c) (j : Nat) : W.frozen? ⟨g, j, none⟩ = false := by unfold World.frozen?; rw [show W.heap[g]? = _ from h]; simp
theorem NBox.lt {W : World} {g : Nat} {kd : Int} {s : ByteArray} {aa : Option Addr} {an ac : Nat} (h : NBox W g kd s aa an ac) : g < W.heap.size := (Array.getElem?_eq_some_iff.1 h).1
theorem NBox.thaw {W : World} {g : Nat} {kd : Int} {s : ByteArray} {aa : Option Addr} {an ac : Nat} (h : NBox W g kd s aa an ac) (j : Nat) : W.frozen? ⟨g, j, none⟩ = false := by unfold World.frozen?; rw [show W.heap[g]? = _ from h]; simp
theorem EdOwn.beside {w w' : World} {base g : Nat} {v : Value} {l : List EdgeL} (h : EdOwn w base v l) (hb : Beside g w w') (hg : g < base) : EdOwn w' base v l := by
  obtain ⟨ts, h, h2⟩ := h
  exact ⟨ts, ownsRow_keep10 h fun b hb2 => hb.block b hb2.2 (by omega), h2⟩
/-- What Book answers: a valid book of one to eight nodes and two names. -/
def BkMade (e : Ending) (w' : World) : Prop := ∃ (na : Option Addr) (nn nc : Nat) (sa : Option Addr) (sc : Nat) (ra : Option Addr) (rc : Nat) (b : BookL), e = .returned (bkV na nn nc sa 2 sc ra 2 rc) ∧ BkIn w' w'.heap.size na nn sa 2 ra 2 b ∧ bookB b = true ∧ 1 ≤ nn ∧ nn ≤ 8
/-- The same, with what the nodes' edges have room for. -/
def BkMadeC (e : Ending) (w' : World) : Prop := ∃ (na : Option Addr) (nn nc : Nat) (sa : Option Addr) (sc : Nat) (ra : Option Addr) (rc : Nat) (b : BookL), e = .returned (bkV na nn nc sa 2 sc ra 2 rc) ∧ BkIn w' w'.heap.size na nn sa 2 ra 2 b ∧ bookB b = true ∧ 1 ≤ nn ∧ nn ≤ 8 ∧ NCaps w' na nn
theorem BkMadeC.plain {e : Ending} {w' : World} (h : BkMadeC e w') : BkMade e w' := by
  obtain ⟨na, nn, nc, sa, sc, ra, rc, b, h1, h2, h3, h4, h5, _⟩ := h
  exact ⟨na, nn, nc, sa, sc, ra, rc, b, h1, h2, h3, h4, h5⟩
/-- What stands between two nodes. -/
structure MBk (w W : World) (g S G : Nat) (va : Option Addr) (k vc n : Nat) (f : List NodeL) : Prop where
  own : NdOwn W (G + 1) (.slice va k vc) f
  box : BBox W G va k vc none 0 0 none 0 0
  res : BBox W S none 0 0 none 0 0 none 0 0
  dice : Dice W g
  bes : Beside g w W
  good : ∀ t ∈ f, nodeB n t = true
  len : f.length = k
  low : g < S ∧ S < G ∧ G < W.heap.size
section
variable {w W W' : World} {g S G k vc n : Nat} {va : Option Addr} {f : List NodeL}
theorem MBk.beside (h : MBk w W g S G va k vc n f) (hb : Beside g W W') (hd : Dice W' g) : MBk w W' g S G va k vc n f :=
  ⟨h.own.beside hb (by have := h.low; omega), h.box.stay (hb.block G h.low.2.2 (by have := h.low; omega)), h.res.stay (hb.block S (by have := h.low; omega) (by have := h.low; omega)), hd, h.bes.trans hb, h.good, h.len, h.low.1, h.low.2.1, by have := h.low; have := hb.size; omega⟩
theorem MBk.on (h : MBk w W g S G va k vc n f) (hb : Below W.heap.size W W') : MBk w W' g S G va k vc n f := h.beside (Beside.of_below hb) (h.dice.on hb)
end
theorem ints_cells (W : World) : ((W.alloc (.cells #[.int .i64 1, .int .i64 0, .int .i64 3] 3)).cell? ⟨W.heap.size, 0, none⟩ = some (.int .i64 1) ∧ (W.alloc (.cells #[.int .i64 1, .int .i64 0, .int .i64 3] 3)).cell? ⟨W.heap.size, 1, none⟩ = some (.int .i64 0) ∧ (W.alloc (.cells #[.int .i64 1, .int .i64 0, .int .i64 3] 3)).cell? ⟨W.heap.size, 2, none⟩ = some (.int .i64 3)) := by
  refine ⟨?_, ?_, ?_⟩ <;> (rw [cell_of_row _ _ _ _ _ _ (heap_alloc_new W _)]; rfl)
theorem ints_on {W W' : World} {g b : Nat} (hb : Beside g W W') (h1 : b < W.heap.size) (h2 : b ≠ g) (h : W.cell? ⟨b, 0, none⟩ = some (.int .i64 1) ∧ W.cell? ⟨b, 1, none⟩ = some (.int .i64 0) ∧ W.cell? ⟨b, 2, none⟩ = some (.int .i64 3)) : W'.cell? ⟨b, 0, none⟩ = some (.int .i64 1) ∧ W'.cell? ⟨b, 1, none⟩ = some (.int .i64 0) ∧ W'.cell? ⟨b, 2, none⟩ = some (.int .i64 3) :=
  ⟨(hb.cell (p := ⟨b, 0, none⟩) h1 h2).trans h.1, (hb.cell (p := ⟨b, 1, none⟩) h1 h2).trans h.2.1, (hb.cell (p := ⟨b, 2, none⟩) h1 h2).trans h.2.2⟩
theorem ints_at {W : World} {b ki : Nat} (h : W.cell? ⟨b, 0, none⟩ = some (.int .i64 1) ∧ W.cell? ⟨b, 1, none⟩ = some (.int .i64 0) ∧ W.cell? ⟨b, 2, none⟩ = some (.int .i64 3)) (hk : ki < 3) : ∃ sk : Int, (sk = 1 ∨ sk = 0 ∨ sk = 3) ∧ W.cell? ⟨b, ki, none⟩ = some (.int .i64 sk) := by
  have : ki = 0 ∨ ki = 1 ∨ ki = 2 := by omega
  rcases this with rfl | rfl | rfl
  · exact ⟨1, .inl rfl, h.1⟩
  · exact ⟨0, .inr (.inl rfl), h.2.1⟩
  · exact ⟨3, .inr (.inr rfl), h.2.2⟩
theorem edge_end {wr W W' : World} {g eb : Nat} (hl : eb < W.heap.size) (hB : Beside g wr W) (hd : Dice W g) (hs : Beside eb W W') (h1 : wr.heap.size ≤ eb) (h2 : g < wr.heap.size) : Dice W' g ∧ Beside g wr W' :=
  ⟨hd.below (hs.below (Nat.le_refl _) (by omega)) (by omega), hs.os.trans hB.os, hs.tape.trans hB.tape, hs.output.trans hB.output, Nat.le_trans hB.size hs.size, fun b hb hne => (hs.block b (by have := hB.size; omega) (by omega)).trans (hB.block b hb hne)⟩
theorem BBox.set1 {W : World} {g : Nat} {na sa ra : Option Addr} {nn nc sn sc rn rc : Nat} (h : BBox W g na nn nc sa sn sc ra rn rc) (sa' : Option Addr) (sn' sc' : Nat) : BBox (W.setCell ⟨g, 1, none⟩ (.slice sa' sn' sc')) g na nn nc sa' sn' sc' ra rn rc := by
  unfold BBox
  rw [heap_setCell_same W g 1 _ _ _ h]
  rfl
theorem book_end {W : World} {base m x A B : Nat} {va : Option Addr} {vc : Nat} {f : List NodeL} (hO : NdOwn W base (.slice va (m + 1) vc) f) (hg : ∀ t ∈ f, nodeB (m + 1) t = true) (hl : f.length = m + 1) (hm : m < 8) (hx : x < m + 1)
    (hA : W.heap[A]? = some (.cells #[.string ⟨#[111, 110, 101]⟩, .string ⟨#[116, 119, 111]⟩] 9 (0, 0))) (hB : W.heap[B]? = some (.cells #[.int .i64 0, .int .i64 (x : Int)] 3 (0, 0))) :
    BkIn W W.heap.size va (m + 1) (some ⟨A, 0, none⟩) 2 (some ⟨B, 0, none⟩) 2 ⟨f, [[111, 110, 101], [116, 119, 111]], [0, (x : Int)]⟩ ∧ bookB ⟨f, [[111, 110, 101], [116, 119, 111]], [0, (x : Int)]⟩ = true := by
  obtain ⟨va', vc', hv, hnd⟩ := hO.sees (by omega)
  obtain ⟨e1, e2, _⟩ := Value.slice.inj hv
  rw [← e1, ← e2] at hnd
  refine ⟨⟨hnd, ⟨rfl, by omega, fun s hs => (by
    have h2 : s = [111, 110, 101] ∨ s = [116, 119, 111] := by simpa using hs
    rcases h2 with rfl | rfl <;> simp [maxLen]), fun _ => ⟨A, 0, rfl, (Array.getElem?_eq_some_iff.1 hA).1, fun j s hj => ?_⟩⟩, ⟨rfl, by omega, fun _ => ⟨B, 0, rfl, (Array.getElem?_eq_some_iff.1 hB).1, fun j y hj => ?_⟩⟩⟩, ?_⟩
  · rw [cell_of_row _ _ _ _ _ _ hA]
    match j, hj with
    | 0, hj => obtain rfl := Option.some.inj hj; rfl
    | 1, hj => obtain rfl := Option.some.inj hj; rfl
    | j + 2, hj => simp at hj
  · rw [cell_of_row _ _ _ _ _ _ hB]
    match j, hj with
    | 0, hj => obtain rfl := Option.some.inj hj; rfl
    | 1, hj => obtain rfl := Option.some.inj hj; rfl
    | j + 2, hj => simp at hj
  · unfold bookB
    show (decide (f.length ≤ 400) && decide (2 = 2) && upB [[111, 110, 101], [116, 119, 111]] && [0, (x : Int)].all (inBk f.length) && f.all (nodeB f.length)) = true
    rw [hl, decide_eq_true (show m + 1 ≤ 400 by omega), List.all_eq_true.2 hg, show upB [[111, 110, 101], [116, 119, 111]] = true from rfl]
    have h0 : inBk (m + 1) 0 = true := inBk_nat (n := m + 1) (k := 0) (by omega)
    simp [h0, inBk_nat hx]
theorem nat_mod {a b : Nat} (n : Nat) (h : b = a % n) : ((a : Int)).tmod (n : Int) = (b : Int) := by
  subst h
  rw [Int.tmod_eq_emod_of_nonneg (by omega)]
  exact (Int.natCast_emod a n).symm
set_option maxHeartbeats 32000000 in
set_option maxRecDepth 40000 in
theorem book10C_any (g : Nat) (w : World) (hD : Dice w g) :
    Calls Try.prog 22 #[.pointer (some ⟨g, 0, none⟩)] w fun e w' => BkMadeC e w' ∧ Beside g w w' := by
  have hgl := hD.lt
  have HB0 := Lib.hid (tu1 w (.cells #[.slice none 0 0, .slice none 0 0, .slice none 0 0] 26))
  have HR0 := Lib.hid (show BBox (w.alloc (.cells #[.slice none 0 0, .slice none 0 0, .slice none 0 0] 26)) w.heap.size none 0 0 none 0 0 none 0 0 from heap_alloc_new w _)
  have CP8 := Lib.hid (pick_at g 8 8 (w.alloc (.cells #[.slice none 0 0, .slice none 0 0, .slice none 0 0] 26)) rfl (hD.on HB0.out) (by omega) (by omega))
  clear hD
  go_enter Try.func22, Try.ntmps22
  go_wp2_with (first
    | (go_at_call 59; (with_reducible refine CP8.out.mono ?_)
       rintro e w1 ⟨⟨m, hm, rfl⟩, hd1, hb1⟩
       have HD1 := Lib.hid hd1
       have HB1 := Lib.hid (hb1.cut HB0.out)
       have HR1 := Lib.hid (HR0.out.stay (hb1.block w.heap.size (by simp) (by omega)))
       have hz1 : w.heap.size < w1.heap.size := by have := hb1.size; simp at this; omega
       clear hd1 hb1)
    | fail)
  have HM1 := Lib.hid (show MBk w (w1.alloc (.cells #[.slice none 0 0, .slice none 0 0, .slice none 0 0] 26)) g w.heap.size w1.heap.size none 0 0 (m + 1) [] from
    ⟨NdOwn.zero _ _, heap_alloc_new w1 _, HR1.out.stay ((tu1 w1 _).block _ hz1), HD1.out.on (tu1 w1 _), HB1.out.alloc _, by simp, rfl, hgl, hz1, by simp⟩)
  have CP5 := Lib.hid (fun (W : World) (h : Dice W g) => pick_at g 5 5 W rfl h (by omega) (by omega))
  have CP2 := Lib.hid (fun (W : World) (h : Dice W g) => pick_at g 2 2 W rfl h (by omega) (by omega))
  have CP3 := Lib.hid (fun (W : World) (h : Dice W g) => pick_at g 3 3 W rfl h (by omega) (by omega))
  have CP4 := Lib.hid (fun (W : World) (h : Dice W g) => pick_at g 4 4 W rfl h (by omega) (by omega))
  have CPn := Lib.hid (fun (W : World) (h : Dice W g) => pick_at g (1 + (m : Int)) (m + 1) W (by omega) h (by omega) (by omega))
  clear HB0 HR0 CP8 HD1 HB1 HR1
  go_loopw [5] (fun i wr => ∃ (k : Nat) (va : Option Addr) (vc : Nat) (f : List NodeL), k ≤ m + 1 ∧ i = .int .i64 k ∧ Hid (MBk w wr g w.heap.size w1.heap.size va k vc (m + 1) f)) (fun i _ => m + 1 - (intOf i).toNat)
  case atStart => exact ⟨0, none, 0, [], by omega, rfl, HM1⟩
  case round =>
    clear HM1
    obtain ⟨k, va, vc, f, hk, rfl, HM⟩ := hrel
    obtain ⟨hlow1, hlow2, hlow3⟩ := HM.out.low
    by_cases hlt : k < m + 1
    · have d1 : decide ((k : Int) < 1 + (m : Int)) = true := decide_eq_true (by omega)
      have hfl := HM.out.len
      have HFL := Lib.hid hfl
      clear hfl
      go_upto_region 7 with (first
        | (go_at_call 59; (with_reducible refine (CP5.out _ HM.out.dice).mono ?_)
           rintro e w4 ⟨⟨kk, hkk, rfl⟩, hd4, hb4⟩
           have HM4 := Lib.hid (HM.out.beside hb4 hd4)
           obtain ⟨_, _, hz4⟩ := HM4.out.low
           obtain ⟨v40, v41, v42⟩ := HM4.out.box.cells
           have vf4 := HM4.out.box.thaw 0
           clear hd4 hb4)
        | fail)
      by_cases hk0 : kk = 0
      · subst hk0
        go_wp2_with (first
          | (at_builtin
             refine wpList_append_node rfl (.tmp 26) (.tmp 28) rfl (w1.heap.size + 1) (.slice va k vc) f ⟨0, ⟨#[]⟩, none, 0, 0⟩ ⟨0, [], []⟩ rfl rfl rfl rfl HM4.out.own ⟨rfl, by rw [ByteArray.toList_eq], by simp [maxLen, ByteArray.size], Edges.zero _ _ _, by simp, Nat.le_refl _⟩ (by omega) (by have := HFL.out; omega) w4 (Below.refl _ _) ?_
             intro v5 w5 hown hbel
             obtain ⟨sa5, sc5, hv5, _⟩ := hown.sees (by rw [List.length_append, List.length_singleton, HFL.out]; omega)
             rw [List.length_append, List.length_singleton, HFL.out] at hv5
             subst hv5
             have HO5 := Lib.hid hown
             have HX5 := Lib.hid (HM4.out.box.stay (hbel.block w1.heap.size (by omega)))
             have HB5 := Lib.hid hbel
             obtain ⟨u50, u51, u52⟩ := HX5.out.cells
             have uf5 := HX5.out.thaw 0
             clear hown hbel)
          | fail)
        go_roundw
        case rel =>
          have hbs := (Beside.refl w1.heap.size w5).setCell 0 (.slice sa5 (k + 1) sc5)
          have hbl0 : Below w1.heap.size w4 w5 := HB5.out.mono (by omega)
          have hbl : Below w1.heap.size w4 (w5.setCell ⟨w1.heap.size, 0, none⟩ (.slice sa5 (k + 1) sc5)) := hbl0.setCell (Nat.le_refl _) _
          exact ⟨k + 1, sa5, sc5, f ++ [⟨0, [], []⟩], by omega, by go_num, Lib.hid ⟨HO5.out.beside hbs (by omega), HX5.out.set0 _ _ _, HM4.out.res.stay (hbl.block _ (by omega)), HM4.out.dice.below hbl (by omega), ⟨hbl.os.trans HM4.out.bes.os, hbl.tape.trans HM4.out.bes.tape, hbl.output.trans HM4.out.bes.output, Nat.le_trans HM4.out.bes.size hbl.size, fun b hb hne => (hbl.block b (by omega)).trans (HM4.out.bes.block b hb hne)⟩,
            fun t ht => by
              rcases List.mem_append.1 ht with ht | ht
              · exact HM4.out.good t ht
              · rw [List.mem_singleton.1 ht]; rfl, by rw [List.length_append, HFL.out]; rfl, hlow1, hlow2, by have := hbl.size; omega⟩⟩
        case measure => simp [intOf]; omega
      · have e0 : ((kk : Int) == 0) = false := by rw [beq_eq_false_iff_ne]; omega
        obtain ⟨r, hr⟩ : ∃ r, r = kk % 2 := ⟨_, rfl⟩
        have hmod : (kk : Int).tmod 2 = (r : Int) := nat_mod 2 hr
        have hr2 : r < 2 := by omega
        have hwr : IntKind.i64.wrap (1 + (r : Int)) = 1 + (r : Int) := by simp [IntKind.wrap, IntKind.bits, IntKind.signed]; omega
        have CR := Lib.hid (roles_any w4)
        have HRO := Lib.hid (fun (i : Nat) (hi : i < 5) => rolObj_at w4 i hi)
        have HML := Lib.hid (HM4.out.on (tu1 w4 rolObj))
        have hsd : (w4.alloc rolObj).heap.size = w4.heap.size + 1 := by simp
        clear hr v40 v41 v42 vf4
        go_upto_region 10 with (first
          | (go_at_call 60; (with_reducible refine CR.out.mono ?_)
             rintro e wl ⟨rfl, hwl⟩
             have HCL := Lib.hid (show ∀ i, i < 5 → wl.cell? ⟨w4.heap.size, i, none⟩ = some (.string (rolS i)) by rw [hwl]; exact HRO.out)
             have HMl := Lib.hid (show MBk w wl g w.heap.size w1.heap.size va k vc (m + 1) f by rw [hwl]; exact HML.out)
             have hsl : wl.heap.size = w4.heap.size + 1 := by rw [hwl]; exact hsd
             clear hwl)
          | (go_at_call 59; (with_reducible refine (CP2.out _ HMl.out.dice).mono ?_)
             rintro e w6 ⟨⟨pi, hpi, rfl⟩, hd6, hb6⟩
             have hc6 := (hb6.cell (p := ⟨w4.heap.size, pi, none⟩) (by show w4.heap.size < _; omega) (by show w4.heap.size ≠ g; omega)).trans (HCL.out pi (by omega))
             have j1 : (pi : Int) < 5 := by omega
             have j2 : (0 : Int) ≤ (pi : Int) := by omega
             have HM6 := Lib.hid (HMl.out.beside hb6 hd6)
             obtain ⟨_, _, hz6⟩ := HM6.out.low
             clear hd6 hb6)
          | fail)
        have HN6 := Lib.hid (show NBox (w6.alloc (.cells #[.int .i64 (1 + (r : Int)), .string (rolS pi), .slice none 0 0] 62)) w6.heap.size (1 + (r : Int)) (rolS pi) none 0 0 from heap_alloc_new w6 _)
        have HD6 := Lib.hid (HM6.out.dice.on (tu1 w6 (.cells #[.int .i64 (1 + (r : Int)), .string (rolS pi), .slice none 0 0] 62)))
        have HS6 := Lib.hid (show Beside g w6 (w6.alloc (.cells #[.int .i64 (1 + (r : Int)), .string (rolS pi), .slice none 0 0] 62)) from Beside.of_below (tu1 w6 _))
        clear CR HRO HML hc6
        go_upto_region 12 with (first
          | (go_at_call 59; (with_reducible refine (CP3.out _ HD6.out).mono ?_)
             rintro e w7 ⟨⟨q, hq, rfl⟩, hd7, hb7⟩
             have HD7 := Lib.hid hd7
             have HS7 := Lib.hid (HS6.out.trans hb7)
             have HN7 := Lib.hid (show NBox w7 w6.heap.size (1 + (r : Int)) (rolS pi) none 0 0 from (hb7.block w6.heap.size (by simp) (by omega)).trans HN6.out)
             clear hd7 hb7)
          | (go_at_call 59; (with_reducible refine (CP4.out _ HD7.out).mono ?_)
             rintro e wi ⟨⟨fr, hfr, rfl⟩, hd8, hb8⟩
             have HDi := Lib.hid hd8
             have HSi := Lib.hid (HS7.out.trans hb8)
             have HNi := Lib.hid (show NBox wi w6.heap.size (1 + (r : Int)) (rolS pi) none 0 0 from (hb8.block w6.heap.size HN7.out.lt (by omega)).trans HN7.out)
             clear hd8 hb8)
          | fail)
        have hzi := HNi.out.lt
        clear HN6 HD6 HS6 HD7 HS7 HN7
        go_wp2_with fail
        go_loopw [8, 11] (fun o i wr => ∃ (j : Nat) (v : Value) (l : List EdgeL), j ≤ q + 1 ∧ i = .int .i64 j ∧ v = o ∧ Hid (EdOwn wr wi.heap.size v l) ∧ Hid (l.map EdgeL.label = (List.range j).map fun i => labS (fr + i)) ∧ Hid (∀ a ∈ l, edgeB (m + 1) a = true) ∧ Hid (Dice wr g) ∧ Hid (Beside g wi wr)) (fun _ i _ => q + 1 - (intOf i).toNat)
        case atStart => exact ⟨0, _, [], by omega, rfl, rfl, Lib.hid (EdOwn.zero _ _), Lib.hid rfl, Lib.hid (by simp), HDi, Lib.hid (Beside.refl _ _)⟩
        case round =>
          clear HDi
          obtain ⟨j, v, l, hj, rfl, hvo, HO, HLB, HG, HD, HBr⟩ := hrel
          subst hvo
          have hll : l.length = j := by have := congrArg List.length HLB.out; simpa using this
          have HLL := Lib.hid hll
          clear hll
          have hzr := HBr.out.size
          by_cases hlj : j < q + 1
          · have d2 : decide ((j : Int) < 1 + (q : Int)) = true := decide_eq_true (by omega)
            obtain ⟨x, hx⟩ : ∃ x, x = (fr + j) % 4 := ⟨_, rfl⟩
            have hmod2 : ((fr : Int) + (j : Int)).tmod 4 = (x : Int) := by have := nat_mod (a := fr + j) 4 hx; rwa [Int.natCast_add] at this
            have hx4 : x < 4 := by omega
            have i1 : (x : Int) < 4 := by omega
            have i2 : (0 : Int) ≤ (x : Int) := by omega
            have hwr2 : IntKind.i64.wrap ((fr : Int) + (j : Int)) = (fr : Int) + (j : Int) := by simp [IntKind.wrap, IntKind.bits, IntKind.signed]; omega
            have HLC := Lib.hid (fun (W : World) => show (W.alloc labObj).cell? ⟨W.heap.size, x, none⟩ = some (.string (labB (fr + j))) by rw [hx]; exact labObj_at W (fr + j))
            have HDd := Lib.hid HD.out.drew
            have HBd := Lib.hid (show Beside g wr wr.drew from ⟨rfl, rfl, rfl, Nat.le_refl _, fun _ _ _ => rfl⟩)
            have hwg : g < wr.heap.size := by omega
            clear hx
            go_wp2_with fail
            go_cut [12] (fun s wx => ∃ (eb nx : Nat) (sk : Int), s = .pointer (some ⟨eb, 0, none⟩) ∧ Hid (EBox wx eb (labB (fr + j)) sk 0 (nx : Int)) ∧ nx < m + 1 ∧ (sk = 1 ∨ sk = 0 ∨ sk = 3) ∧ Hid (Dice wx g) ∧ Hid (Beside g wr wx) ∧ wr.heap.size ≤ eb)
            case first =>
              refine wp_region_held_drew (S := fun _ => True) (by kernel_rfl) trivial (fun hHeld => ?_)
              obtain ⟨wd, hwd⟩ : ∃ wd, wd = wr.drew := ⟨_, rfl⟩
              rw [← hwd]
              rw [← hwd] at HDd HBd
              have hzd : wr.heap.size ≤ wd.heap.size := by rw [hwd]; exact Nat.le_refl _
              have HD := HDd
              have HB := HBd
              clear hwd
              try simp only [Act.put, List.setIfInBounds_toArray]
              refine' wpAnyH_take (i := 1) (v := _) rfl (by kernel_rfl) (by kernel_rfl) (by kernel_rfl) (fun _ _ _ h => h) (Or.inl ⟨by rfl, ?hyz1⟩) (by assumption) ?restz1
              case hyz1 =>
                intro W hSw
                (try dsimp only at hSw)
                first | (go_simp; done) | (go_simp; with_reducible rfl)
              try simp only [Act.put]
              refine' wpAnyH_take (i := 2) (v := _) rfl (by kernel_rfl) (by kernel_rfl) (by kernel_rfl) (fun _ _ _ h => h) (Or.inl ⟨by rfl, ?hyz2⟩) (by assumption) ?restz2
              case hyz2 =>
                intro W hSw
                (try dsimp only at hSw)
                first | (go_simp; done) | (go_simp; with_reducible rfl)
              try simp only [Act.put]
              refine' wpAnyH_take (i := 3) (v := _) rfl (by kernel_rfl) (by kernel_rfl) (by kernel_rfl) (fun _ _ _ h => h) (Or.inl ⟨by rfl, ?hyz3⟩) (by assumption) ?restz3
              case hyz3 =>
                intro W hSw
                (try dsimp only at hSw)
                first | (go_simp; done) | (go_simp; with_reducible rfl)
              try simp only [Act.put]
              refine' wpAnyH_take (i := 4) (v := _) rfl (by kernel_rfl) (by kernel_rfl) (by kernel_rfl) (fun _ _ _ h => h) (Or.inl ⟨by rfl, ?hyz4⟩) (by assumption) ?restz4
              case hyz4 =>
                intro W hSw
                (try dsimp only at hSw)
                first | (go_simp; done) | (go_simp; with_reducible rfl)
              try simp only [Act.put]
              refine' wpAnyH_take (i := 7) (v := _) rfl (by kernel_rfl) (by kernel_rfl) (by kernel_rfl) (fun _ _ _ h => h) (Or.inl ⟨by rfl, ?hyz7⟩) (by assumption) ?restz7
              case hyz7 =>
                intro W hSw
                (try dsimp only at hSw)
                first | (go_simp; done) | (go_simp; with_reducible rfl)
              try simp only [Act.put]
              refine' wpAnyH_take (i := 8) (v := _) rfl (by kernel_rfl) (by kernel_rfl) (by kernel_rfl) (fun _ _ _ h => h) (Or.inl ⟨by rfl, ?hyz8⟩) (by assumption) ?restz8
              case hyz8 =>
                intro W hSw
                (try dsimp only at hSw)
                first | (go_simp; done) | (go_simp; with_reducible rfl)
              try simp only [Act.put]
              refine' wpAnyH_take (i := 11) (v := _) rfl (by kernel_rfl) (by kernel_rfl) (by kernel_rfl) (fun _ _ _ h => h) (Or.inl ⟨by rfl, ?hyz11⟩) (by assumption) ?restz11
              case hyz11 =>
                intro W hSw
                (try dsimp only at hSw)
                first | (go_simp; done) | (go_simp; with_reducible rfl)
              try simp only [Act.put, List.setIfInBounds_toArray]
              refine wpAnyH_ready (rs := [0, 10, 17]) (by kernel_rfl) (by simp) ?_
              refine AllReadyH.cons (i := 0) (o := _) rfl (fun K hK => ?gL) (AllReadyH.cons (i := 10) (o := _) rfl (fun K hK => ?gB) (AllReadyH.cons (i := 17) (o := _) rfl (fun K hK => ?gA) (AllReadyH.nil)))
              case gL =>
                go_simp
                go_at_call 61
                with_reducible refine (labels_any wd).mono ?_
                rintro e wL ⟨rfl, hw⟩
                have hb : Beside g wd wL := by rw [hw]; exact Beside.of_below (tu1 wd _)
                have hzL : wd.heap.size + 1 ≤ wL.heap.size := by rw [hw]; simp
                have HDL := Lib.hid (show Dice wL g by rw [hw]; exact HD.out.on (tu1 wd _))
                have HBL := Lib.hid (HB.out.trans hb)
                have HLL := Lib.hid (show wL.cell? ⟨wd.heap.size, x, none⟩ = some (.string (labB (fr + j))) by rw [hw]; exact HLC.out wd)
                clear hw hb
                refine hK.out _ _ trivial (fun hHeld => ?_)
                clear hK K
                refine wpAnyH_more (S' := fun W => (True ∧ W.cell? ⟨wd.heap.size, x, none⟩ = some (.string (labB (fr + j))))) (fun _ h => h.1) _ _ _ _ ?_
                replace hHeld := And.intro hHeld HLL.out
                try simp only [Act.put, List.setIfInBounds_toArray]
                refine' wpAnyH_take (i := 5) (v := _) rfl (by kernel_rfl) (by kernel_rfl) (by kernel_rfl) (fun _ _ _ h => h) (Or.inl ⟨by rfl, ?hyL5⟩) (by assumption) ?restL5
                case hyL5 =>
                  intro W hSw
                  (try dsimp only at hSw)
                  first | (go_simp; done) | (go_simp; with_reducible rfl)
                try simp only [Act.put]
                refine' wpAnyH_take (i := 6) (v := _) rfl (by kernel_rfl) (by kernel_rfl) (by kernel_rfl) (fun _ _ _ h => h) (Or.inl ⟨by rfl, ?hyL6⟩) (by assumption) ?restL6
                case hyL6 =>
                  intro W hSw
                  (try dsimp only at hSw)
                  first | (go_simp; done) | (go_simp; with_reducible rfl)
                try simp only [Act.put, List.setIfInBounds_toArray]
                refine wpAnyH_ready (rs := [9, 10, 17]) (by kernel_rfl) (by simp) ?_
                refine AllReadyH.cons (i := 9) (o := _) rfl (fun K hK => ?gLP) (AllReadyH.cons (i := 10) (o := _) rfl (fun K hK => ?gLB) (AllReadyH.cons (i := 17) (o := _) rfl (fun K hK => ?gLA) (AllReadyH.nil)))
                case gLP =>
                  go_simp
                  go_at_call 59
                  with_reducible refine (CPn.out _ HDL.out).mono ?_
                  rintro e wLP ⟨⟨nx, hnx, rfl⟩, hd, hb⟩
                  have hzLP : wL.heap.size ≤ wLP.heap.size := hb.size
                  have HDLP := Lib.hid hd
                  have HBLP := Lib.hid (HBL.out.trans hb)
                  have HLLP := Lib.hid (show wLP.cell? ⟨wd.heap.size, x, none⟩ = some (.string (labB (fr + j))) from (hb.cell (p := ⟨wd.heap.size, x, none⟩) (by show wd.heap.size < _; omega) (by show wd.heap.size ≠ g; omega)).trans HLL.out)
                  clear hd hb
                  refine hK.out _ _ ⟨trivial, HLLP.out⟩ (fun hHeld => ?_)
                  clear hK K
                  try simp only [Act.put, List.setIfInBounds_toArray]
                  refine wpAnyH_ready (rs := [10, 12, 17]) (by kernel_rfl) (by simp) ?_
                  refine AllReadyH.cons (i := 10) (o := _) rfl (fun K hK => ?gLPB) (AllReadyH.cons (i := 12) (o := _) rfl (fun K hK => ?gLPQ) (AllReadyH.cons (i := 17) (o := _) rfl (fun K hK => ?gLPA) (AllReadyH.nil)))
                  case gLPB =>
                    go_simp
                    generalize hw : World.alloc wLP _ = wLPB
                    have hb : Beside g wLP wLPB := by rw [← hw]; exact Beside.of_below (tu1 wLP _)
                    have hzLPB : wLP.heap.size + 1 ≤ wLPB.heap.size := by rw [← hw]; simp
                    have HDLPB := Lib.hid (show Dice wLPB g by rw [← hw]; exact HDLP.out.on (tu1 wLP _))
                    have HBLPB := Lib.hid (HBLP.out.trans hb)
                    have HLLPB := Lib.hid (show wLPB.cell? ⟨wd.heap.size, x, none⟩ = some (.string (labB (fr + j))) from (hb.cell (p := ⟨wd.heap.size, x, none⟩) (by show wd.heap.size < _; omega) (by show wd.heap.size ≠ g; omega)).trans HLLP.out)
                    have HILPB := Lib.hid (show (wLPB.cell? ⟨wLP.heap.size, 0, none⟩ = some (.int .i64 1) ∧ wLPB.cell? ⟨wLP.heap.size, 1, none⟩ = some (.int .i64 0) ∧ wLPB.cell? ⟨wLP.heap.size, 2, none⟩ = some (.int .i64 3)) by rw [← hw]; exact ints_cells wLP)
                    clear hw hb
                    refine hK.out _ _ ⟨trivial, HLLPB.out⟩ (fun hHeld => ?_)
                    clear hK K
                    refine wpAnyH_more (S' := fun W => ((True ∧ W.cell? ⟨wd.heap.size, x, none⟩ = some (.string (labB (fr + j)))) ∧ (W.cell? ⟨wLP.heap.size, 0, none⟩ = some (.int .i64 1) ∧ W.cell? ⟨wLP.heap.size, 1, none⟩ = some (.int .i64 0) ∧ W.cell? ⟨wLP.heap.size, 2, none⟩ = some (.int .i64 3)))) (fun _ h => h.1) _ _ _ _ ?_
                    replace hHeld := And.intro hHeld HILPB.out
                    try simp only [Act.put, List.setIfInBounds_toArray]
                    refine wpAnyH_ready (rs := [12, 17]) (by kernel_rfl) (by simp) ?_
                    refine AllReadyH.cons (i := 12) (o := _) rfl (fun K hK => ?gLPBQ) (AllReadyH.cons (i := 17) (o := _) rfl (fun K hK => ?gLPBA) (AllReadyH.nil))
                    case gLPBQ =>
                      go_simp
                      go_at_call 59
                      with_reducible refine (CP3.out _ HDLPB.out).mono ?_
                      rintro e wLPBQ ⟨⟨ki, hki, rfl⟩, hd, hb⟩
                      have hzLPBQ : wLPB.heap.size ≤ wLPBQ.heap.size := hb.size
                      have HDLPBQ := Lib.hid hd
                      have HBLPBQ := Lib.hid (HBLPB.out.trans hb)
                      have HLLPBQ := Lib.hid (show wLPBQ.cell? ⟨wd.heap.size, x, none⟩ = some (.string (labB (fr + j))) from (hb.cell (p := ⟨wd.heap.size, x, none⟩) (by show wd.heap.size < _; omega) (by show wd.heap.size ≠ g; omega)).trans HLLPB.out)
                      have HILPBQ := Lib.hid (show (wLPBQ.cell? ⟨wLP.heap.size, 0, none⟩ = some (.int .i64 1) ∧ wLPBQ.cell? ⟨wLP.heap.size, 1, none⟩ = some (.int .i64 0) ∧ wLPBQ.cell? ⟨wLP.heap.size, 2, none⟩ = some (.int .i64 3)) from ints_on hb (by omega) (by omega) HILPB.out)
                      clear hd hb
                      refine hK.out _ _ ⟨⟨trivial, HLLPBQ.out⟩, HILPBQ.out⟩ (fun hHeld => ?_)
                      clear hK K
                      obtain ⟨sk, hsk, hci⟩ := ints_at HILPBQ.out hki
                      have HKLPBQ := Lib.hid (show wLPBQ.cell? ⟨wLP.heap.size, ki, none⟩ = some (.int .i64 sk) from hci)
                      have j3 : (ki : Int) < 3 := by omega
                      have j4 : (0 : Int) ≤ (ki : Int) := by omega
                      clear hci
                      refine wpAnyH_more (S' := fun W => (((True ∧ W.cell? ⟨wd.heap.size, x, none⟩ = some (.string (labB (fr + j)))) ∧ (W.cell? ⟨wLP.heap.size, 0, none⟩ = some (.int .i64 1) ∧ W.cell? ⟨wLP.heap.size, 1, none⟩ = some (.int .i64 0) ∧ W.cell? ⟨wLP.heap.size, 2, none⟩ = some (.int .i64 3))) ∧ W.cell? ⟨wLP.heap.size, ki, none⟩ = some (.int .i64 sk))) (fun _ h => h.1) _ _ _ _ ?_
                      replace hHeld := And.intro hHeld HKLPBQ.out
                      try simp only [Act.put, List.setIfInBounds_toArray]
                      refine' wpAnyH_take (i := 13) (v := _) rfl (by kernel_rfl) (by kernel_rfl) (by kernel_rfl) (fun _ _ _ h => h) (Or.inl ⟨by rfl, ?hyLPBQ13⟩) (by assumption) ?restLPBQ13
                      case hyLPBQ13 =>
                        intro W hSw
                        (try dsimp only at hSw)
                        first | (go_simp; done) | (go_simp; with_reducible rfl)
                      try simp only [Act.put]
                      refine' wpAnyH_take (i := 14) (v := _) rfl (by kernel_rfl) (by kernel_rfl) (by kernel_rfl) (fun _ _ _ h => h) (Or.inl ⟨by rfl, ?hyLPBQ14⟩) (by assumption) ?restLPBQ14
                      case hyLPBQ14 =>
                        intro W hSw
                        (try dsimp only at hSw)
                        first | (go_simp; done) | (go_simp; with_reducible rfl)
                      try simp only [Act.put]
                      refine' wpAnyH_take (i := 15) (v := _) rfl (by kernel_rfl) (by kernel_rfl) (by kernel_rfl) (fun _ _ _ h => h) (Or.inl ⟨by rfl, ?hyLPBQ15⟩) (by assumption) ?restLPBQ15
                      case hyLPBQ15 =>
                        intro W hSw
                        (try dsimp only at hSw)
                        first | (go_simp; done) | (go_simp; with_reducible rfl)
                      try simp only [Act.put]
                      refine' wpAnyH_take (i := 16) (v := _) rfl (by kernel_rfl) (by kernel_rfl) (by kernel_rfl) (fun _ _ _ h => h) (Or.inl ⟨by rfl, ?hyLPBQ16⟩) (by assumption) ?restLPBQ16
                      case hyLPBQ16 =>
                        intro W hSw
                        (try dsimp only at hSw)
                        first | (go_simp; done) | (go_simp; with_reducible rfl)
                      try simp only [Act.put, List.setIfInBounds_toArray]
                      refine wpAnyH_ready (rs := [17]) (by kernel_rfl) (by simp) ?_
                      refine AllReadyH.cons (i := 17) (o := _) rfl (fun K hK => ?gLPBQA) (AllReadyH.nil)
                      case gLPBQA =>
                        go_simp
                        generalize hw : World.alloc wLPBQ _ = wLPBQA
                        have hb : Beside g wLPBQ wLPBQA := by rw [← hw]; exact Beside.of_below (tu1 wLPBQ _)
                        have hzLPBQA : wLPBQ.heap.size + 1 ≤ wLPBQA.heap.size := by rw [← hw]; simp
                        have HDLPBQA := Lib.hid (show Dice wLPBQA g by rw [← hw]; exact HDLPBQ.out.on (tu1 wLPBQ _))
                        have HBLPBQA := Lib.hid (HBLPBQ.out.trans hb)
                        have HLLPBQA := Lib.hid (show wLPBQA.cell? ⟨wd.heap.size, x, none⟩ = some (.string (labB (fr + j))) from (hb.cell (p := ⟨wd.heap.size, x, none⟩) (by show wd.heap.size < _; omega) (by show wd.heap.size ≠ g; omega)).trans HLLPBQ.out)
                        have HILPBQA := Lib.hid (show (wLPBQA.cell? ⟨wLP.heap.size, 0, none⟩ = some (.int .i64 1) ∧ wLPBQA.cell? ⟨wLP.heap.size, 1, none⟩ = some (.int .i64 0) ∧ wLPBQA.cell? ⟨wLP.heap.size, 2, none⟩ = some (.int .i64 3)) from ints_on hb (by omega) (by omega) HILPBQ.out)
                        have HKLPBQA := Lib.hid (show wLPBQA.cell? ⟨wLP.heap.size, ki, none⟩ = some (.int .i64 sk) from (hb.cell (p := ⟨wLP.heap.size, ki, none⟩) (by show wLP.heap.size < _; omega) (by show wLP.heap.size ≠ g; omega)).trans HKLPBQ.out)
                        have HELPBQA := Lib.hid (show EBox wLPBQA wLPBQ.heap.size ⟨#[]⟩ 0 0 0 by rw [← hw]; exact heap_alloc_new wLPBQ _)
                        clear hw hb
                        refine hK.out _ _ ⟨⟨⟨trivial, HLLPBQA.out⟩, HILPBQA.out⟩, HKLPBQA.out⟩ (fun hHeld => ?_)
                        clear hK K
                        obtain ⟨ec0, ec1, ec2, ec3⟩ := HELPBQA.out.cells
                        have ef0 := HELPBQA.out.thaw 0
                        have ef1 := HELPBQA.out.thaw 1
                        have ef2 := HELPBQA.out.thaw 2
                        have ef3 := HELPBQA.out.thaw 3
                        have HFILL := Lib.hid (HELPBQA.out.fill (s' := labB (fr + j)) (a' := sk) (b' := 0) (c' := (nx : Int)))
                        have HBES := Lib.hid (show Beside wLPBQ.heap.size wLPBQA ((((wLPBQA.setCell ⟨wLPBQ.heap.size, 0, none⟩ (.string (labB (fr + j)))).setCell ⟨wLPBQ.heap.size, 1, none⟩ (.int .i64 sk)).setCell ⟨wLPBQ.heap.size, 2, none⟩ (.int .i64 0)).setCell ⟨wLPBQ.heap.size, 3, none⟩ (.int .i64 (nx : Int))) from ((((Beside.refl _ wLPBQA).setCell 0 _).setCell 1 _).setCell 2 _).setCell 3 _)
                        have HEND := Lib.hid (edge_end HELPBQA.out.lt HBLPBQA.out HDLPBQA.out HBES.out (by omega) hwg)
                        try simp only [Act.put, List.setIfInBounds_toArray]
                        refine wpAnyH_ready (rs := [18]) (by kernel_rfl) (by simp) ?_
                        refine AllReadyH.cons (i := 18) (o := _) rfl (fun K hK => ?_) AllReadyH.nil
                        go_simp
                        refine hK.out _ _ ⟨⟨⟨trivial, (HBES.out.cell (p := ⟨wd.heap.size, x, none⟩) (by show wd.heap.size < _; omega) (by show wd.heap.size ≠ wLPBQ.heap.size; omega)).trans HLLPBQA.out⟩, ints_on HBES.out (by omega) (by omega) HILPBQA.out⟩, (HBES.out.cell (p := ⟨wLP.heap.size, ki, none⟩) (by show wLP.heap.size < _; omega) (by show wLP.heap.size ≠ wLPBQ.heap.size; omega)).trans HKLPBQA.out⟩ (fun hHeld => ?_)
                        clear hK K
                        try simp only [Act.put, List.setIfInBounds_toArray]
                        refine wpAnyH_done (by kernel_rfl) ?_ _
                        go_wp2_with fail
                        go_meet
                        case rel => exact ⟨wLPBQ.heap.size, nx, sk, rfl, HFILL, hnx, hsk, Lib.hid HEND.out.1, Lib.hid HEND.out.2, by omega⟩
                    case gLPBA =>
                      go_simp
                      generalize hw : World.alloc wLPB _ = wLPBA
                      have hb : Beside g wLPB wLPBA := by rw [← hw]; exact Beside.of_below (tu1 wLPB _)
                      have hzLPBA : wLPB.heap.size + 1 ≤ wLPBA.heap.size := by rw [← hw]; simp
                      have HDLPBA := Lib.hid (show Dice wLPBA g by rw [← hw]; exact HDLPB.out.on (tu1 wLPB _))
                      have HBLPBA := Lib.hid (HBLPB.out.trans hb)
                      have HLLPBA := Lib.hid (show wLPBA.cell? ⟨wd.heap.size, x, none⟩ = some (.string (labB (fr + j))) from (hb.cell (p := ⟨wd.heap.size, x, none⟩) (by show wd.heap.size < _; omega) (by show wd.heap.size ≠ g; omega)).trans HLLPB.out)
                      have HILPBA := Lib.hid (show (wLPBA.cell? ⟨wLP.heap.size, 0, none⟩ = some (.int .i64 1) ∧ wLPBA.cell? ⟨wLP.heap.size, 1, none⟩ = some (.int .i64 0) ∧ wLPBA.cell? ⟨wLP.heap.size, 2, none⟩ = some (.int .i64 3)) from ints_on hb (by omega) (by omega) HILPB.out)
                      have HELPBA := Lib.hid (show EBox wLPBA wLPB.heap.size ⟨#[]⟩ 0 0 0 by rw [← hw]; exact heap_alloc_new wLPB _)
                      clear hw hb
                      refine hK.out _ _ ⟨⟨trivial, HLLPBA.out⟩, HILPBA.out⟩ (fun hHeld => ?_)
                      clear hK K
                      try simp only [Act.put, List.setIfInBounds_toArray]
                      refine wpAnyH_ready (rs := [12]) (by kernel_rfl) (by simp) ?_
                      refine AllReadyH.cons (i := 12) (o := _) rfl (fun K hK => ?gLPBAQ) (AllReadyH.nil)
                      case gLPBAQ =>
                        go_simp
                        go_at_call 59
                        with_reducible refine (CP3.out _ HDLPBA.out).mono ?_
                        rintro e wLPBAQ ⟨⟨ki, hki, rfl⟩, hd, hb⟩
                        have hzLPBAQ : wLPBA.heap.size ≤ wLPBAQ.heap.size := hb.size
                        have HDLPBAQ := Lib.hid hd
                        have HBLPBAQ := Lib.hid (HBLPBA.out.trans hb)
                        have HLLPBAQ := Lib.hid (show wLPBAQ.cell? ⟨wd.heap.size, x, none⟩ = some (.string (labB (fr + j))) from (hb.cell (p := ⟨wd.heap.size, x, none⟩) (by show wd.heap.size < _; omega) (by show wd.heap.size ≠ g; omega)).trans HLLPBA.out)
                        have HILPBAQ := Lib.hid (show (wLPBAQ.cell? ⟨wLP.heap.size, 0, none⟩ = some (.int .i64 1) ∧ wLPBAQ.cell? ⟨wLP.heap.size, 1, none⟩ = some (.int .i64 0) ∧ wLPBAQ.cell? ⟨wLP.heap.size, 2, none⟩ = some (.int .i64 3)) from ints_on hb (by omega) (by omega) HILPBA.out)
                        have HELPBAQ := Lib.hid (show EBox wLPBAQ wLPB.heap.size ⟨#[]⟩ 0 0 0 from (hb.block wLPB.heap.size (by omega) (by omega)).trans HELPBA.out)
                        clear hd hb
                        refine hK.out _ _ ⟨⟨trivial, HLLPBAQ.out⟩, HILPBAQ.out⟩ (fun hHeld => ?_)
                        clear hK K
                        obtain ⟨sk, hsk, hci⟩ := ints_at HILPBAQ.out hki
                        have HKLPBAQ := Lib.hid (show wLPBAQ.cell? ⟨wLP.heap.size, ki, none⟩ = some (.int .i64 sk) from hci)
                        have j3 : (ki : Int) < 3 := by omega
                        have j4 : (0 : Int) ≤ (ki : Int) := by omega
                        clear hci
                        refine wpAnyH_more (S' := fun W => (((True ∧ W.cell? ⟨wd.heap.size, x, none⟩ = some (.string (labB (fr + j)))) ∧ (W.cell? ⟨wLP.heap.size, 0, none⟩ = some (.int .i64 1) ∧ W.cell? ⟨wLP.heap.size, 1, none⟩ = some (.int .i64 0) ∧ W.cell? ⟨wLP.heap.size, 2, none⟩ = some (.int .i64 3))) ∧ W.cell? ⟨wLP.heap.size, ki, none⟩ = some (.int .i64 sk))) (fun _ h => h.1) _ _ _ _ ?_
                        replace hHeld := And.intro hHeld HKLPBAQ.out
                        try simp only [Act.put, List.setIfInBounds_toArray]
                        refine' wpAnyH_take (i := 13) (v := _) rfl (by kernel_rfl) (by kernel_rfl) (by kernel_rfl) (fun _ _ _ h => h) (Or.inl ⟨by rfl, ?hyLPBAQ13⟩) (by assumption) ?restLPBAQ13
                        case hyLPBAQ13 =>
                          intro W hSw
                          (try dsimp only at hSw)
                          first | (go_simp; done) | (go_simp; with_reducible rfl)
                        try simp only [Act.put]
                        refine' wpAnyH_take (i := 14) (v := _) rfl (by kernel_rfl) (by kernel_rfl) (by kernel_rfl) (fun _ _ _ h => h) (Or.inl ⟨by rfl, ?hyLPBAQ14⟩) (by assumption) ?restLPBAQ14
                        case hyLPBAQ14 =>
                          intro W hSw
                          (try dsimp only at hSw)
                          first | (go_simp; done) | (go_simp; with_reducible rfl)
                        try simp only [Act.put]
                        refine' wpAnyH_take (i := 15) (v := _) rfl (by kernel_rfl) (by kernel_rfl) (by kernel_rfl) (fun _ _ _ h => h) (Or.inl ⟨by rfl, ?hyLPBAQ15⟩) (by assumption) ?restLPBAQ15
                        case hyLPBAQ15 =>
                          intro W hSw
                          (try dsimp only at hSw)
                          first | (go_simp; done) | (go_simp; with_reducible rfl)
                        try simp only [Act.put]
                        refine' wpAnyH_take (i := 16) (v := _) rfl (by kernel_rfl) (by kernel_rfl) (by kernel_rfl) (fun _ _ _ h => h) (Or.inl ⟨by rfl, ?hyLPBAQ16⟩) (by assumption) ?restLPBAQ16
                        case hyLPBAQ16 =>
                          intro W hSw
                          (try dsimp only at hSw)
                          first | (go_simp; done) | (go_simp; with_reducible rfl)
                        obtain ⟨ec0, ec1, ec2, ec3⟩ := HELPBAQ.out.cells
                        have ef0 := HELPBAQ.out.thaw 0
                        have ef1 := HELPBAQ.out.thaw 1
                        have ef2 := HELPBAQ.out.thaw 2
                        have ef3 := HELPBAQ.out.thaw 3
                        have HFILL := Lib.hid (HELPBAQ.out.fill (s' := labB (fr + j)) (a' := sk) (b' := 0) (c' := (nx : Int)))
                        have HBES := Lib.hid (show Beside wLPB.heap.size wLPBAQ ((((wLPBAQ.setCell ⟨wLPB.heap.size, 0, none⟩ (.string (labB (fr + j)))).setCell ⟨wLPB.heap.size, 1, none⟩ (.int .i64 sk)).setCell ⟨wLPB.heap.size, 2, none⟩ (.int .i64 0)).setCell ⟨wLPB.heap.size, 3, none⟩ (.int .i64 (nx : Int))) from ((((Beside.refl _ wLPBAQ).setCell 0 _).setCell 1 _).setCell 2 _).setCell 3 _)
                        have HEND := Lib.hid (edge_end HELPBAQ.out.lt HBLPBAQ.out HDLPBAQ.out HBES.out (by omega) hwg)
                        try simp only [Act.put, List.setIfInBounds_toArray]
                        refine wpAnyH_ready (rs := [18]) (by kernel_rfl) (by simp) ?_
                        refine AllReadyH.cons (i := 18) (o := _) rfl (fun K hK => ?_) AllReadyH.nil
                        go_simp
                        refine hK.out _ _ ⟨⟨⟨trivial, (HBES.out.cell (p := ⟨wd.heap.size, x, none⟩) (by show wd.heap.size < _; omega) (by show wd.heap.size ≠ wLPB.heap.size; omega)).trans HLLPBAQ.out⟩, ints_on HBES.out (by omega) (by omega) HILPBAQ.out⟩, (HBES.out.cell (p := ⟨wLP.heap.size, ki, none⟩) (by show wLP.heap.size < _; omega) (by show wLP.heap.size ≠ wLPB.heap.size; omega)).trans HKLPBAQ.out⟩ (fun hHeld => ?_)
                        clear hK K
                        try simp only [Act.put, List.setIfInBounds_toArray]
                        refine wpAnyH_done (by kernel_rfl) ?_ _
                        go_wp2_with fail
                        go_meet
                        case rel => exact ⟨wLPB.heap.size, nx, sk, rfl, HFILL, hnx, hsk, Lib.hid HEND.out.1, Lib.hid HEND.out.2, by omega⟩
                  case gLPQ =>
                    go_simp
                    go_at_call 59
                    with_reducible refine (CP3.out _ HDLP.out).mono ?_
                    rintro e wLPQ ⟨⟨ki, hki, rfl⟩, hd, hb⟩
                    have hzLPQ : wLP.heap.size ≤ wLPQ.heap.size := hb.size
                    have HDLPQ := Lib.hid hd
                    have HBLPQ := Lib.hid (HBLP.out.trans hb)
                    have HLLPQ := Lib.hid (show wLPQ.cell? ⟨wd.heap.size, x, none⟩ = some (.string (labB (fr + j))) from (hb.cell (p := ⟨wd.heap.size, x, none⟩) (by show wd.heap.size < _; omega) (by show wd.heap.size ≠ g; omega)).trans HLLP.out)
                    clear hd hb
                    refine hK.out _ _ ⟨trivial, HLLPQ.out⟩ (fun hHeld => ?_)
                    clear hK K
                    try simp only [Act.put, List.setIfInBounds_toArray]
                    refine wpAnyH_ready (rs := [10, 17]) (by kernel_rfl) (by simp) ?_
                    refine AllReadyH.cons (i := 10) (o := _) rfl (fun K hK => ?gLPQB) (AllReadyH.cons (i := 17) (o := _) rfl (fun K hK => ?gLPQA) (AllReadyH.nil))
                    case gLPQB =>
                      go_simp
                      generalize hw : World.alloc wLPQ _ = wLPQB
                      have hb : Beside g wLPQ wLPQB := by rw [← hw]; exact Beside.of_below (tu1 wLPQ _)
                      have hzLPQB : wLPQ.heap.size + 1 ≤ wLPQB.heap.size := by rw [← hw]; simp
                      have HDLPQB := Lib.hid (show Dice wLPQB g by rw [← hw]; exact HDLPQ.out.on (tu1 wLPQ _))
                      have HBLPQB := Lib.hid (HBLPQ.out.trans hb)
                      have HLLPQB := Lib.hid (show wLPQB.cell? ⟨wd.heap.size, x, none⟩ = some (.string (labB (fr + j))) from (hb.cell (p := ⟨wd.heap.size, x, none⟩) (by show wd.heap.size < _; omega) (by show wd.heap.size ≠ g; omega)).trans HLLPQ.out)
                      have HILPQB := Lib.hid (show (wLPQB.cell? ⟨wLPQ.heap.size, 0, none⟩ = some (.int .i64 1) ∧ wLPQB.cell? ⟨wLPQ.heap.size, 1, none⟩ = some (.int .i64 0) ∧ wLPQB.cell? ⟨wLPQ.heap.size, 2, none⟩ = some (.int .i64 3)) by rw [← hw]; exact ints_cells wLPQ)
                      clear hw hb
                      refine hK.out _ _ ⟨trivial, HLLPQB.out⟩ (fun hHeld => ?_)
                      clear hK K
                      refine wpAnyH_more (S' := fun W => ((True ∧ W.cell? ⟨wd.heap.size, x, none⟩ = some (.string (labB (fr + j)))) ∧ (W.cell? ⟨wLPQ.heap.size, 0, none⟩ = some (.int .i64 1) ∧ W.cell? ⟨wLPQ.heap.size, 1, none⟩ = some (.int .i64 0) ∧ W.cell? ⟨wLPQ.heap.size, 2, none⟩ = some (.int .i64 3)))) (fun _ h => h.1) _ _ _ _ ?_
                      replace hHeld := And.intro hHeld HILPQB.out
                      obtain ⟨sk, hsk, hci⟩ := ints_at HILPQB.out hki
                      have HKLPQB := Lib.hid (show wLPQB.cell? ⟨wLPQ.heap.size, ki, none⟩ = some (.int .i64 sk) from hci)
                      have j3 : (ki : Int) < 3 := by omega
                      have j4 : (0 : Int) ≤ (ki : Int) := by omega
                      clear hci
                      refine wpAnyH_more (S' := fun W => (((True ∧ W.cell? ⟨wd.heap.size, x, none⟩ = some (.string (labB (fr + j)))) ∧ (W.cell? ⟨wLPQ.heap.size, 0, none⟩ = some (.int .i64 1) ∧ W.cell? ⟨wLPQ.heap.size, 1, none⟩ = some (.int .i64 0) ∧ W.cell? ⟨wLPQ.heap.size, 2, none⟩ = some (.int .i64 3))) ∧ W.cell? ⟨wLPQ.heap.size, ki, none⟩ = some (.int .i64 sk))) (fun _ h => h.1) _ _ _ _ ?_
                      replace hHeld := And.intro hHeld HKLPQB.out
                      try simp only [Act.put, List.setIfInBounds_toArray]
                      refine' wpAnyH_take (i := 13) (v := _) rfl (by kernel_rfl) (by kernel_rfl) (by kernel_rfl) (fun _ _ _ h => h) (Or.inl ⟨by rfl, ?hyLPQB13⟩) (by assumption) ?restLPQB13
                      case hyLPQB13 =>
                        intro W hSw
                        (try dsimp only at hSw)
                        first | (go_simp; done) | (go_simp; with_reducible rfl)
                      try simp only [Act.put]
                      refine' wpAnyH_take (i := 14) (v := _) rfl (by kernel_rfl) (by kernel_rfl) (by kernel_rfl) (fun _ _ _ h => h) (Or.inl ⟨by rfl, ?hyLPQB14⟩) (by assumption) ?restLPQB14
                      case hyLPQB14 =>
                        intro W hSw
                        (try dsimp only at hSw)
                        first | (go_simp; done) | (go_simp; with_reducible rfl)
                      try simp only [Act.put]
                      refine' wpAnyH_take (i := 15) (v := _) rfl (by kernel_rfl) (by kernel_rfl) (by kernel_rfl) (fun _ _ _ h => h) (Or.inl ⟨by rfl, ?hyLPQB15⟩) (by assumption) ?restLPQB15
                      case hyLPQB15 =>
                        intro W hSw
                        (try dsimp only at hSw)
                        first | (go_simp; done) | (go_simp; with_reducible rfl)
                      try simp only [Act.put]
                      refine' wpAnyH_take (i := 16) (v := _) rfl (by kernel_rfl) (by kernel_rfl) (by kernel_rfl) (fun _ _ _ h => h) (Or.inl ⟨by rfl, ?hyLPQB16⟩) (by assumption) ?restLPQB16
                      case hyLPQB16 =>
                        intro W hSw
                        (try dsimp only at hSw)
                        first | (go_simp; done) | (go_simp; with_reducible rfl)
                      try simp only [Act.put, List.setIfInBounds_toArray]
                      refine wpAnyH_ready (rs := [17]) (by kernel_rfl) (by simp) ?_
                      refine AllReadyH.cons (i := 17) (o := _) rfl (fun K hK => ?gLPQBA) (AllReadyH.nil)
                      case gLPQBA =>
                        go_simp
                        generalize hw : World.alloc wLPQB _ = wLPQBA
                        have hb : Beside g wLPQB wLPQBA := by rw [← hw]; exact Beside.of_below (tu1 wLPQB _)
                        have hzLPQBA : wLPQB.heap.size + 1 ≤ wLPQBA.heap.size := by rw [← hw]; simp
                        have HDLPQBA := Lib.hid (show Dice wLPQBA g by rw [← hw]; exact HDLPQB.out.on (tu1 wLPQB _))
                        have HBLPQBA := Lib.hid (HBLPQB.out.trans hb)
                        have HLLPQBA := Lib.hid (show wLPQBA.cell? ⟨wd.heap.size, x, none⟩ = some (.string (labB (fr + j))) from (hb.cell (p := ⟨wd.heap.size, x, none⟩) (by show wd.heap.size < _; omega) (by show wd.heap.size ≠ g; omega)).trans HLLPQB.out)
                        have HILPQBA := Lib.hid (show (wLPQBA.cell? ⟨wLPQ.heap.size, 0, none⟩ = some (.int .i64 1) ∧ wLPQBA.cell? ⟨wLPQ.heap.size, 1, none⟩ = some (.int .i64 0) ∧ wLPQBA.cell? ⟨wLPQ.heap.size, 2, none⟩ = some (.int .i64 3)) from ints_on hb (by omega) (by omega) HILPQB.out)
                        have HKLPQBA := Lib.hid (show wLPQBA.cell? ⟨wLPQ.heap.size, ki, none⟩ = some (.int .i64 sk) from (hb.cell (p := ⟨wLPQ.heap.size, ki, none⟩) (by show wLPQ.heap.size < _; omega) (by show wLPQ.heap.size ≠ g; omega)).trans HKLPQB.out)
                        have HELPQBA := Lib.hid (show EBox wLPQBA wLPQB.heap.size ⟨#[]⟩ 0 0 0 by rw [← hw]; exact heap_alloc_new wLPQB _)
                        clear hw hb
                        refine hK.out _ _ ⟨⟨⟨trivial, HLLPQBA.out⟩, HILPQBA.out⟩, HKLPQBA.out⟩ (fun hHeld => ?_)
                        clear hK K
                        obtain ⟨ec0, ec1, ec2, ec3⟩ := HELPQBA.out.cells
                        have ef0 := HELPQBA.out.thaw 0
                        have ef1 := HELPQBA.out.thaw 1
                        have ef2 := HELPQBA.out.thaw 2
                        have ef3 := HELPQBA.out.thaw 3
                        have HFILL := Lib.hid (HELPQBA.out.fill (s' := labB (fr + j)) (a' := sk) (b' := 0) (c' := (nx : Int)))
                        have HBES := Lib.hid (show Beside wLPQB.heap.size wLPQBA ((((wLPQBA.setCell ⟨wLPQB.heap.size, 0, none⟩ (.string (labB (fr + j)))).setCell ⟨wLPQB.heap.size, 1, none⟩ (.int .i64 sk)).setCell ⟨wLPQB.heap.size, 2, none⟩ (.int .i64 0)).setCell ⟨wLPQB.heap.size, 3, none⟩ (.int .i64 (nx : Int))) from ((((Beside.refl _ wLPQBA).setCell 0 _).setCell 1 _).setCell 2 _).setCell 3 _)
                        have HEND := Lib.hid (edge_end HELPQBA.out.lt HBLPQBA.out HDLPQBA.out HBES.out (by omega) hwg)
                        try simp only [Act.put, List.setIfInBounds_toArray]
                        refine wpAnyH_ready (rs := [18]) (by kernel_rfl) (by simp) ?_
                        refine AllReadyH.cons (i := 18) (o := _) rfl (fun K hK => ?_) AllReadyH.nil
                        go_simp
                        refine hK.out _ _ ⟨⟨⟨trivial, (HBES.out.cell (p := ⟨wd.heap.size, x, none⟩) (by show wd.heap.size < _; omega) (by show wd.heap.size ≠ wLPQB.heap.size; omega)).trans HLLPQBA.out⟩, ints_on HBES.out (by omega) (by omega) HILPQBA.out⟩, (HBES.out.cell (p := ⟨wLPQ.heap.size, ki, none⟩) (by show wLPQ.heap.size < _; omega) (by show wLPQ.heap.size ≠ wLPQB.heap.size; omega)).trans HKLPQBA.out⟩ (fun hHeld => ?_)
                        clear hK K
                        try simp only [Act.put, List.setIfInBounds_toArray]
                        refine wpAnyH_done (by kernel_rfl) ?_ _
                        go_wp2_with fail
                        go_meet
                        case rel => exact ⟨wLPQB.heap.size, nx, sk, rfl, HFILL, hnx, hsk, Lib.hid HEND.out.1, Lib.hid HEND.out.2, by omega⟩
                    case gLPQA =>
                      go_simp
                      generalize hw : World.alloc wLPQ _ = wLPQA
                      have hb : Beside g wLPQ wLPQA := by rw [← hw]; exact Beside.of_below (tu1 wLPQ _)
                      have hzLPQA : wLPQ.heap.size + 1 ≤ wLPQA.heap.size := by rw [← hw]; simp
                      have HDLPQA := Lib.hid (show Dice wLPQA g by rw [← hw]; exact HDLPQ.out.on (tu1 wLPQ _))
                      have HBLPQA := Lib.hid (HBLPQ.out.trans hb)
                      have HLLPQA := Lib.hid (show wLPQA.cell? ⟨wd.heap.size, x, none⟩ = some (.string (labB (fr + j))) from (hb.cell (p := ⟨wd.heap.size, x, none⟩) (by show wd.heap.size < _; omega) (by show wd.heap.size ≠ g; omega)).trans HLLPQ.out)
                      have HELPQA := Lib.hid (show EBox wLPQA wLPQ.heap.size ⟨#[]⟩ 0 0 0 by rw [← hw]; exact heap_alloc_new wLPQ _)
                      clear hw hb
                      refine hK.out _ _ ⟨trivial, HLLPQA.out⟩ (fun hHeld => ?_)
                      clear hK K
                      try simp only [Act.put, List.setIfInBounds_toArray]
                      refine wpAnyH_ready (rs := [10]) (by kernel_rfl) (by simp) ?_
                      refine AllReadyH.cons (i := 10) (o := _) rfl (fun K hK => ?gLPQAB) (AllReadyH.nil)
                      case gLPQAB =>
                        go_simp
                        generalize hw : World.alloc wLPQA _ = wLPQAB
                        have hb : Beside g wLPQA wLPQAB := by rw [← hw]; exact Beside.of_below (tu1 wLPQA _)
                        have hzLPQAB : wLPQA.heap.size + 1 ≤ wLPQAB.heap.size := by rw [← hw]; simp
                        have HDLPQAB := Lib.hid (show Dice wLPQAB g by rw [← hw]; exact HDLPQA.out.on (tu1 wLPQA _))
                        have HBLPQAB := Lib.hid (HBLPQA.out.trans hb)
                        have HLLPQAB := Lib.hid (show wLPQAB.cell? ⟨wd.heap.size, x, none⟩ = some (.string (labB (fr + j))) from (hb.cell (p := ⟨wd.heap.size, x, none⟩) (by show wd.heap.size < _; omega) (by show wd.heap.size ≠ g; omega)).trans HLLPQA.out)
                        have HELPQAB := Lib.hid (show EBox wLPQAB wLPQ.heap.size ⟨#[]⟩ 0 0 0 from (hb.block wLPQ.heap.size (by omega) (by omega)).trans HELPQA.out)
                        have HILPQAB := Lib.hid (show (wLPQAB.cell? ⟨wLPQA.heap.size, 0, none⟩ = some (.int .i64 1) ∧ wLPQAB.cell? ⟨wLPQA.heap.size, 1, none⟩ = some (.int .i64 0) ∧ wLPQAB.cell? ⟨wLPQA.heap.size, 2, none⟩ = some (.int .i64 3)) by rw [← hw]; exact ints_cells wLPQA)
                        clear hw hb
                        refine hK.out _ _ ⟨trivial, HLLPQAB.out⟩ (fun hHeld => ?_)
                        clear hK K
                        refine wpAnyH_more (S' := fun W => ((True ∧ W.cell? ⟨wd.heap.size, x, none⟩ = some (.string (labB (fr + j)))) ∧ (W.cell? ⟨wLPQA.heap.size, 0, none⟩ = some (.int .i64 1) ∧ W.cell? ⟨wLPQA.heap.size, 1, none⟩ = some (.int .i64 0) ∧ W.cell? ⟨wLPQA.heap.size, 2, none⟩ = some (.int .i64 3)))) (fun _ h => h.1) _ _ _ _ ?_
                        replace hHeld := And.intro hHeld HILPQAB.out
                        obtain ⟨sk, hsk, hci⟩ := ints_at HILPQAB.out hki
                        have HKLPQAB := Lib.hid (show wLPQAB.cell? ⟨wLPQA.heap.size, ki, none⟩ = some (.int .i64 sk) from hci)
                        have j3 : (ki : Int) < 3 := by omega
                        have j4 : (0 : Int) ≤ (ki : Int) := by omega
                        clear hci
                        refine wpAnyH_more (S' := fun W => (((True ∧ W.cell? ⟨wd.heap.size, x, none⟩ = some (.string (labB (fr + j)))) ∧ (W.cell? ⟨wLPQA.heap.size, 0, none⟩ = some (.int .i64 1) ∧ W.cell? ⟨wLPQA.heap.size, 1, none⟩ = some (.int .i64 0) ∧ W.cell? ⟨wLPQA.heap.size, 2, none⟩ = some (.int .i64 3))) ∧ W.cell? ⟨wLPQA.heap.size, ki, none⟩ = some (.int .i64 sk))) (fun _ h => h.1) _ _ _ _ ?_
                        replace hHeld := And.intro hHeld HKLPQAB.out
                        try simp only [Act.put, List.setIfInBounds_toArray]
                        refine' wpAnyH_take (i := 13) (v := _) rfl (by kernel_rfl) (by kernel_rfl) (by kernel_rfl) (fun _ _ _ h => h) (Or.inl ⟨by rfl, ?hyLPQAB13⟩) (by assumption) ?restLPQAB13
                        case hyLPQAB13 =>
                          intro W hSw
                          (try dsimp only at hSw)
                          first | (go_simp; done) | (go_simp; with_reducible rfl)
                        try simp only [Act.put]
                        refine' wpAnyH_take (i := 14) (v := _) rfl (by kernel_rfl) (by kernel_rfl) (by kernel_rfl) (fun _ _ _ h => h) (Or.inl ⟨by rfl, ?hyLPQAB14⟩) (by assumption) ?restLPQAB14
                        case hyLPQAB14 =>
                          intro W hSw
                          (try dsimp only at hSw)
                          first | (go_simp; done) | (go_simp; with_reducible rfl)
                        try simp only [Act.put]
                        refine' wpAnyH_take (i := 15) (v := _) rfl (by kernel_rfl) (by kernel_rfl) (by kernel_rfl) (fun _ _ _ h => h) (Or.inl ⟨by rfl, ?hyLPQAB15⟩) (by assumption) ?restLPQAB15
                        case hyLPQAB15 =>
                          intro W hSw
                          (try dsimp only at hSw)
                          first | (go_simp; done) | (go_simp; with_reducible rfl)
                        try simp only [Act.put]
                        refine' wpAnyH_take (i := 16) (v := _) rfl (by kernel_rfl) (by kernel_rfl) (by kernel_rfl) (fun _ _ _ h => h) (Or.inl ⟨by rfl, ?hyLPQAB16⟩) (by assumption) ?restLPQAB16
                        case hyLPQAB16 =>
                          intro W hSw
                          (try dsimp only at hSw)
                          first | (go_simp; done) | (go_simp; with_reducible rfl)
                        obtain ⟨ec0, ec1, ec2, ec3⟩ := HELPQAB.out.cells
                        have ef0 := HELPQAB.out.thaw 0
                        have ef1 := HELPQAB.out.thaw 1
                        have ef2 := HELPQAB.out.thaw 2
                        have ef3 := HELPQAB.out.thaw 3
                        have HFILL := Lib.hid (HELPQAB.out.fill (s' := labB (fr + j)) (a' := sk) (b' := 0) (c' := (nx : Int)))
                        have HBES := Lib.hid (show Beside wLPQ.heap.size wLPQAB ((((wLPQAB.setCell ⟨wLPQ.heap.size, 0, none⟩ (.string (labB (fr + j)))).setCell ⟨wLPQ.heap.size, 1, none⟩ (.int .i64 sk)).setCell ⟨wLPQ.heap.size, 2, none⟩ (.int .i64 0)).setCell ⟨wLPQ.heap.size, 3, none⟩ (.int .i64 (nx : Int))) from ((((Beside.refl _ wLPQAB).setCell 0 _).setCell 1 _).setCell 2 _).setCell 3 _)
                        have HEND := Lib.hid (edge_end HELPQAB.out.lt HBLPQAB.out HDLPQAB.out HBES.out (by omega) hwg)
                        try simp only [Act.put, List.setIfInBounds_toArray]
                        refine wpAnyH_ready (rs := [18]) (by kernel_rfl) (by simp) ?_
                        refine AllReadyH.cons (i := 18) (o := _) rfl (fun K hK => ?_) AllReadyH.nil
                        go_simp
                        refine hK.out _ _ ⟨⟨⟨trivial, (HBES.out.cell (p := ⟨wd.heap.size, x, none⟩) (by show wd.heap.size < _; omega) (by show wd.heap.size ≠ wLPQ.heap.size; omega)).trans HLLPQAB.out⟩, ints_on HBES.out (by omega) (by omega) HILPQAB.out⟩, (HBES.out.cell (p := ⟨wLPQA.heap.size, ki, none⟩) (by show wLPQA.heap.size < _; omega) (by show wLPQA.heap.size ≠ wLPQ.heap.size; omega)).trans HKLPQAB.out⟩ (fun hHeld => ?_)
                        clear hK K
                        try simp only [Act.put, List.setIfInBounds_toArray]
                        refine wpAnyH_done (by kernel_rfl) ?_ _
                        go_wp2_with fail
                        go_meet
                        case rel => exact ⟨wLPQ.heap.size, nx, sk, rfl, HFILL, hnx, hsk, Lib.hid HEND.out.1, Lib.hid HEND.out.2, by omega⟩
                  case gLPA =>
                    go_simp
                    generalize hw : World.alloc wLP _ = wLPA
                    have hb : Beside g wLP wLPA := by rw [← hw]; exact Beside.of_below (tu1 wLP _)
                    have hzLPA : wLP.heap.size + 1 ≤ wLPA.heap.size := by rw [← hw]; simp
                    have HDLPA := Lib.hid (show Dice wLPA g by rw [← hw]; exact HDLP.out.on (tu1 wLP _))
                    have HBLPA := Lib.hid (HBLP.out.trans hb)
                    have HLLPA := Lib.hid (show wLPA.cell? ⟨wd.heap.size, x, none⟩ = some (.string (labB (fr + j))) from (hb.cell (p := ⟨wd.heap.size, x, none⟩) (by show wd.heap.size < _; omega) (by show wd.heap.size ≠ g; omega)).trans HLLP.out)
                    have HELPA := Lib.hid (show EBox wLPA wLP.heap.size ⟨#[]⟩ 0 0 0 by rw [← hw]; exact heap_alloc_new wLP _)
                    clear hw hb
                    refine hK.out _ _ ⟨trivial, HLLPA.out⟩ (fun hHeld => ?_)
                    clear hK K
                    try simp only [Act.put, List.setIfInBounds_toArray]
                    refine wpAnyH_ready (rs := [10, 12]) (by kernel_rfl) (by simp) ?_
                    refine AllReadyH.cons (i := 10) (o := _) rfl (fun K hK => ?gLPAB) (AllReadyH.cons (i := 12) (o := _) rfl (fun K hK => ?gLPAQ) (AllReadyH.nil))
                    case gLPAB =>
                      go_simp
                      generalize hw : World.alloc wLPA _ = wLPAB
                      have hb : Beside g wLPA wLPAB := by rw [← hw]; exact Beside.of_below (tu1 wLPA _)
                      have hzLPAB : wLPA.heap.size + 1 ≤ wLPAB.heap.size := by rw [← hw]; simp
                      have HDLPAB := Lib.hid (show Dice wLPAB g by rw [← hw]; exact HDLPA.out.on (tu1 wLPA _))
                      have HBLPAB := Lib.hid (HBLPA.out.trans hb)
                      have HLLPAB := Lib.hid (show wLPAB.cell? ⟨wd.heap.size, x, none⟩ = some (.string (labB (fr + j))) from (hb.cell (p := ⟨wd.heap.size, x, none⟩) (by show wd.heap.size < _; omega) (by show wd.heap.size ≠ g; omega)).trans HLLPA.out)
                      have HELPAB := Lib.hid (show EBox wLPAB wLP.heap.size ⟨#[]⟩ 0 0 0 from (hb.block wLP.heap.size (by omega) (by omega)).trans HELPA.out)
                      have HILPAB := Lib.hid (show (wLPAB.cell? ⟨wLPA.heap.size, 0, none⟩ = some (.int .i64 1) ∧ wLPAB.cell? ⟨wLPA.heap.size, 1, none⟩ = some (.int .i64 0) ∧ wLPAB.cell? ⟨wLPA.heap.size, 2, none⟩ = some (.int .i64 3)) by rw [← hw]; exact ints_cells wLPA)
                      clear hw hb
                      refine hK.out _ _ ⟨trivial, HLLPAB.out⟩ (fun hHeld => ?_)
                      clear hK K
                      refine wpAnyH_more (S' := fun W => ((True ∧ W.cell? ⟨wd.heap.size, x, none⟩ = some (.string (labB (fr + j)))) ∧ (W.cell? ⟨wLPA.heap.size, 0, none⟩ = some (.int .i64 1) ∧ W.cell? ⟨wLPA.heap.size, 1, none⟩ = some (.int .i64 0) ∧ W.cell? ⟨wLPA.heap.size, 2, none⟩ = some (.int .i64 3)))) (fun _ h => h.1) _ _ _ _ ?_
                      replace hHeld := And.intro hHeld HILPAB.out
                      try simp only [Act.put, List.setIfInBounds_toArray]
                      refine wpAnyH_ready (rs := [12]) (by kernel_rfl) (by simp) ?_
                      refine AllReadyH.cons (i := 12) (o := _) rfl (fun K hK => ?gLPABQ) (AllReadyH.nil)
                      case gLPABQ =>
                        go_simp
                        go_at_call 59
                        with_reducible refine (CP3.out _ HDLPAB.out).mono ?_
                        rintro e wLPABQ ⟨⟨ki, hki, rfl⟩, hd, hb⟩
                        have hzLPABQ : wLPAB.heap.size ≤ wLPABQ.heap.size := hb.size
                        have HDLPABQ := Lib.hid hd
                        have HBLPABQ := Lib.hid (HBLPAB.out.trans hb)
                        have HLLPABQ := Lib.hid (show wLPABQ.cell? ⟨wd.heap.size, x, none⟩ = some (.string (labB (fr + j))) from (hb.cell (p := ⟨wd.heap.size, x, none⟩) (by show wd.heap.size < _; omega) (by show wd.heap.size ≠ g; omega)).trans HLLPAB.out)
                        have HILPABQ := Lib.hid (show (wLPABQ.cell? ⟨wLPA.heap.size, 0, none⟩ = some (.int .i64 1) ∧ wLPABQ.cell? ⟨wLPA.heap.size, 1, none⟩ = some (.int .i64 0) ∧ wLPABQ.cell? ⟨wLPA.heap.size, 2, none⟩ = some (.int .i64 3)) from ints_on hb (by omega) (by omega) HILPAB.out)
                        have HELPABQ := Lib.hid (show EBox wLPABQ wLP.heap.size ⟨#[]⟩ 0 0 0 from (hb.block wLP.heap.size (by omega) (by omega)).trans HELPAB.out)
                        clear hd hb
                        refine hK.out _ _ ⟨⟨trivial, HLLPABQ.out⟩, HILPABQ.out⟩ (fun hHeld => ?_)
                        clear hK K
                        obtain ⟨sk, hsk, hci⟩ := ints_at HILPABQ.out hki
                        have HKLPABQ := Lib.hid (show wLPABQ.cell? ⟨wLPA.heap.size, ki, none⟩ = some (.int .i64 sk) from hci)
                        have j3 : (ki : Int) < 3 := by omega
                        have j4 : (0 : Int) ≤ (ki : Int) := by omega
                        clear hci
                        refine wpAnyH_more (S' := fun W => (((True ∧ W.cell? ⟨wd.heap.size, x, none⟩ = some (.string (labB (fr + j)))) ∧ (W.cell? ⟨wLPA.heap.size, 0, none⟩ = some (.int .i64 1) ∧ W.cell? ⟨wLPA.heap.size, 1, none⟩ = some (.int .i64 0) ∧ W.cell? ⟨wLPA.heap.size, 2, none⟩ = some (.int .i64 3))) ∧ W.cell? ⟨wLPA.heap.size, ki, none⟩ = some (.int .i64 sk))) (fun _ h => h.1) _ _ _ _ ?_
                        replace hHeld := And.intro hHeld HKLPABQ.out
                        try simp only [Act.put, List.setIfInBounds_toArray]
                        refine' wpAnyH_take (i := 13) (v := _) rfl (by kernel_rfl) (by kernel_rfl) (by kernel_rfl) (fun _ _ _ h => h) (Or.inl ⟨by rfl, ?hyLPABQ13⟩) (by assumption) ?restLPABQ13
                        case hyLPABQ13 =>
                          intro W hSw
                          (try dsimp only at hSw)
                          first | (go_simp; done) | (go_simp; with_reducible rfl)
                        try simp only [Act.put]
                        refine' wpAnyH_take (i := 14) (v := _) rfl (by kernel_rfl) (by kernel_rfl) (by kernel_rfl) (fun _ _ _ h => h) (Or.inl ⟨by rfl, ?hyLPABQ14⟩) (by assumption) ?restLPABQ14
                        case hyLPABQ14 =>
                          intro W hSw
                          (try dsimp only at hSw)
                          first | (go_simp; done) | (go_simp; with_reducible rfl)
                        try simp only [Act.put]
                        refine' wpAnyH_take (i := 15) (v := _) rfl (by kernel_rfl) (by kernel_rfl) (by kernel_rfl) (fun _ _ _ h => h) (Or.inl ⟨by rfl, ?hyLPABQ15⟩) (by assumption) ?restLPABQ15
                        case hyLPABQ15 =>
                          intro W hSw
                          (try dsimp only at hSw)
                          first | (go_simp; done) | (go_simp; with_reducible rfl)
                        try simp only [Act.put]
                        refine' wpAnyH_take (i := 16) (v := _) rfl (by kernel_rfl) (by kernel_rfl) (by kernel_rfl) (fun _ _ _ h => h) (Or.inl ⟨by rfl, ?hyLPABQ16⟩) (by assumption) ?restLPABQ16
                        case hyLPABQ16 =>
                          intro W hSw
                          (try dsimp only at hSw)
                          first | (go_simp; done) | (go_simp; with_reducible rfl)
                        obtain ⟨ec0, ec1, ec2, ec3⟩ := HELPABQ.out.cells
                        have ef0 := HELPABQ.out.thaw 0
                        have ef1 := HELPABQ.out.thaw 1
                        have ef2 := HELPABQ.out.thaw 2
                        have ef3 := HELPABQ.out.thaw 3
                        have HFILL := Lib.hid (HELPABQ.out.fill (s' := labB (fr + j)) (a' := sk) (b' := 0) (c' := (nx : Int)))
                        have HBES := Lib.hid (show Beside wLP.heap.size wLPABQ ((((wLPABQ.setCell ⟨wLP.heap.size, 0, none⟩ (.string (labB (fr + j)))).setCell ⟨wLP.heap.size, 1, none⟩ (.int .i64 sk)).setCell ⟨wLP.heap.size, 2, none⟩ (.int .i64 0)).setCell ⟨wLP.heap.size, 3, none⟩ (.int .i64 (nx : Int))) from ((((Beside.refl _ wLPABQ).setCell 0 _).setCell 1 _).setCell 2 _).setCell 3 _)
                        have HEND := Lib.hid (edge_end HELPABQ.out.lt HBLPABQ.out HDLPABQ.out HBES.out (by omega) hwg)
                        try simp only [Act.put, List.setIfInBounds_toArray]
                        refine wpAnyH_ready (rs := [18]) (by kernel_rfl) (by simp) ?_
                        refine AllReadyH.cons (i := 18) (o := _) rfl (fun K hK => ?_) AllReadyH.nil
                        go_simp
                        refine hK.out _ _ ⟨⟨⟨trivial, (HBES.out.cell (p := ⟨wd.heap.size, x, none⟩) (by show wd.heap.size < _; omega) (by show wd.heap.size ≠ wLP.heap.size; omega)).trans HLLPABQ.out⟩, ints_on HBES.out (by omega) (by omega) HILPABQ.out⟩, (HBES.out.cell (p := ⟨wLPA.heap.size, ki, none⟩) (by show wLPA.heap.size < _; omega) (by show wLPA.heap.size ≠ wLP.heap.size; omega)).trans HKLPABQ.out⟩ (fun hHeld => ?_)
                        clear hK K
                        try simp only [Act.put, List.setIfInBounds_toArray]
                        refine wpAnyH_done (by kernel_rfl) ?_ _
                        go_wp2_with fail
                        go_meet
                        case rel => exact ⟨wLP.heap.size, nx, sk, rfl, HFILL, hnx, hsk, Lib.hid HEND.out.1, Lib.hid HEND.out.2, by omega⟩
                    case gLPAQ =>
                      go_simp
                      go_at_call 59
                      with_reducible refine (CP3.out _ HDLPA.out).mono ?_
                      rintro e wLPAQ ⟨⟨ki, hki, rfl⟩, hd, hb⟩
                      have hzLPAQ : wLPA.heap.size ≤ wLPAQ.heap.size := hb.size
                      have HDLPAQ := Lib.hid hd
                      have HBLPAQ := Lib.hid (HBLPA.out.trans hb)
                      have HLLPAQ := Lib.hid (show wLPAQ.cell? ⟨wd.heap.size, x, none⟩ = some (.string (labB (fr + j))) from (hb.cell (p := ⟨wd.heap.size, x, none⟩) (by show wd.heap.size < _; omega) (by show wd.heap.size ≠ g; omega)).trans HLLPA.out)
                      have HELPAQ := Lib.hid (show EBox wLPAQ wLP.heap.size ⟨#[]⟩ 0 0 0 from (hb.block wLP.heap.size (by omega) (by omega)).trans HELPA.out)
                      clear hd hb
                      refine hK.out _ _ ⟨trivial, HLLPAQ.out⟩ (fun hHeld => ?_)
                      clear hK K
                      try simp only [Act.put, List.setIfInBounds_toArray]
                      refine wpAnyH_ready (rs := [10]) (by kernel_rfl) (by simp) ?_
                      refine AllReadyH.cons (i := 10) (o := _) rfl (fun K hK => ?gLPAQB) (AllReadyH.nil)
                      case gLPAQB =>
                        go_simp
                        generalize hw : World.alloc wLPAQ _ = wLPAQB
                        have hb : Beside g wLPAQ wLPAQB := by rw [← hw]; exact Beside.of_below (tu1 wLPAQ _)
                        have hzLPAQB : wLPAQ.heap.size + 1 ≤ wLPAQB.heap.size := by rw [← hw]; simp
                        have HDLPAQB := Lib.hid (show Dice wLPAQB g by rw [← hw]; exact HDLPAQ.out.on (tu1 wLPAQ _))
                        have HBLPAQB := Lib.hid (HBLPAQ.out.trans hb)
                        have HLLPAQB := Lib.hid (show wLPAQB.cell? ⟨wd.heap.size, x, none⟩ = some (.string (labB (fr + j))) from (hb.cell (p := ⟨wd.heap.size, x, none⟩) (by show wd.heap.size < _; omega) (by show wd.heap.size ≠ g; omega)).trans HLLPAQ.out)
                        have HELPAQB := Lib.hid (show EBox wLPAQB wLP.heap.size ⟨#[]⟩ 0 0 0 from (hb.block wLP.heap.size (by omega) (by omega)).trans HELPAQ.out)
                        have HILPAQB := Lib.hid (show (wLPAQB.cell? ⟨wLPAQ.heap.size, 0, none⟩ = some (.int .i64 1) ∧ wLPAQB.cell? ⟨wLPAQ.heap.size, 1, none⟩ = some (.int .i64 0) ∧ wLPAQB.cell? ⟨wLPAQ.heap.size, 2, none⟩ = some (.int .i64 3)) by rw [← hw]; exact ints_cells wLPAQ)
                        clear hw hb
                        refine hK.out _ _ ⟨trivial, HLLPAQB.out⟩ (fun hHeld => ?_)
                        clear hK K
                        refine wpAnyH_more (S' := fun W => ((True ∧ W.cell? ⟨wd.heap.size, x, none⟩ = some (.string (labB (fr + j)))) ∧ (W.cell? ⟨wLPAQ.heap.size, 0, none⟩ = some (.int .i64 1) ∧ W.cell? ⟨wLPAQ.heap.size, 1, none⟩ = some (.int .i64 0) ∧ W.cell? ⟨wLPAQ.heap.size, 2, none⟩ = some (.int .i64 3)))) (fun _ h => h.1) _ _ _ _ ?_
                        replace hHeld := And.intro hHeld HILPAQB.out
                        obtain ⟨sk, hsk, hci⟩ := ints_at HILPAQB.out hki
                        have HKLPAQB := Lib.hid (show wLPAQB.cell? ⟨wLPAQ.heap.size, ki, none⟩ = some (.int .i64 sk) from hci)
                        have j3 : (ki : Int) < 3 := by omega
                        have j4 : (0 : Int) ≤ (ki : Int) := by omega
                        clear hci
                        refine wpAnyH_more (S' := fun W => (((True ∧ W.cell? ⟨wd.heap.size, x, none⟩ = some (.string (labB (fr + j)))) ∧ (W.cell? ⟨wLPAQ.heap.size, 0, none⟩ = some (.int .i64 1) ∧ W.cell? ⟨wLPAQ.heap.size, 1, none⟩ = some (.int .i64 0) ∧ W.cell? ⟨wLPAQ.heap.size, 2, none⟩ = some (.int .i64 3))) ∧ W.cell? ⟨wLPAQ.heap.size, ki, none⟩ = some (.int .i64 sk))) (fun _ h => h.1) _ _ _ _ ?_
                        replace hHeld := And.intro hHeld HKLPAQB.out
                        try simp only [Act.put, List.setIfInBounds_toArray]
                        refine' wpAnyH_take (i := 13) (v := _) rfl (by kernel_rfl) (by kernel_rfl) (by kernel_rfl) (fun _ _ _ h => h) (Or.inl ⟨by rfl, ?hyLPAQB13⟩) (by assumption) ?restLPAQB13
                        case hyLPAQB13 =>
                          intro W hSw
                          (try dsimp only at hSw)
                          first | (go_simp; done) | (go_simp; with_reducible rfl)
                        try simp only [Act.put]
                        refine' wpAnyH_take (i := 14) (v := _) rfl (by kernel_rfl) (by kernel_rfl) (by kernel_rfl) (fun _ _ _ h => h) (Or.inl ⟨by rfl, ?hyLPAQB14⟩) (by assumption) ?restLPAQB14
                        case hyLPAQB14 =>
                          intro W hSw
                          (try dsimp only at hSw)
                          first | (go_simp; done) | (go_simp; with_reducible rfl)
                        try simp only [Act.put]
                        refine' wpAnyH_take (i := 15) (v := _) rfl (by kernel_rfl) (by kernel_rfl) (by kernel_rfl) (fun _ _ _ h => h) (Or.inl ⟨by rfl, ?hyLPAQB15⟩) (by assumption) ?restLPAQB15
                        case hyLPAQB15 =>
                          intro W hSw
                          (try dsimp only at hSw)
                          first | (go_simp; done) | (go_simp; with_reducible rfl)
                        try simp only [Act.put]
                        refine' wpAnyH_take (i := 16) (v := _) rfl (by kernel_rfl) (by kernel_rfl) (by kernel_rfl) (fun _ _ _ h => h) (Or.inl ⟨by rfl, ?hyLPAQB16⟩) (by assumption) ?restLPAQB16
                        case hyLPAQB16 =>
                          intro W hSw
                          (try dsimp only at hSw)
                          first | (go_simp; done) | (go_simp; with_reducible rfl)
                        obtain ⟨ec0, ec1, ec2, ec3⟩ := HELPAQB.out.cells
                        have ef0 := HELPAQB.out.thaw 0
                        have ef1 := HELPAQB.out.thaw 1
                        have ef2 := HELPAQB.out.thaw 2
                        have ef3 := HELPAQB.out.thaw 3
                        have HFILL := Lib.hid (HELPAQB.out.fill (s' := labB (fr + j)) (a' := sk) (b' := 0) (c' := (nx : Int)))
                        have HBES := Lib.hid (show Beside wLP.heap.size wLPAQB ((((wLPAQB.setCell ⟨wLP.heap.size, 0, none⟩ (.string (labB (fr + j)))).setCell ⟨wLP.heap.size, 1, none⟩ (.int .i64 sk)).setCell ⟨wLP.heap.size, 2, none⟩ (.int .i64 0)).setCell ⟨wLP.heap.size, 3, none⟩ (.int .i64 (nx : Int))) from ((((Beside.refl _ wLPAQB).setCell 0 _).setCell 1 _).setCell 2 _).setCell 3 _)
                        have HEND := Lib.hid (edge_end HELPAQB.out.lt HBLPAQB.out HDLPAQB.out HBES.out (by omega) hwg)
                        try simp only [Act.put, List.setIfInBounds_toArray]
                        refine wpAnyH_ready (rs := [18]) (by kernel_rfl) (by simp) ?_
                        refine AllReadyH.cons (i := 18) (o := _) rfl (fun K hK => ?_) AllReadyH.nil
                        go_simp
                        refine hK.out _ _ ⟨⟨⟨trivial, (HBES.out.cell (p := ⟨wd.heap.size, x, none⟩) (by show wd.heap.size < _; omega) (by show wd.heap.size ≠ wLP.heap.size; omega)).trans HLLPAQB.out⟩, ints_on HBES.out (by omega) (by omega) HILPAQB.out⟩, (HBES.out.cell (p := ⟨wLPAQ.heap.size, ki, none⟩) (by show wLPAQ.heap.size < _; omega) (by show wLPAQ.heap.size ≠ wLP.heap.size; omega)).trans HKLPAQB.out⟩ (fun hHeld => ?_)
                        clear hK K
                        try simp only [Act.put, List.setIfInBounds_toArray]
                        refine wpAnyH_done (by kernel_rfl) ?_ _
                        go_wp2_with fail
                        go_meet
                        case rel => exact ⟨wLP.heap.size, nx, sk, rfl, HFILL, hnx, hsk, Lib.hid HEND.out.1, Lib.hid HEND.out.2, by omega⟩
                case gLB =>
                  go_simp
                  generalize hw : World.alloc wL _ = wLB
                  have hb : Beside g wL wLB := by rw [← hw]; exact Beside.of_below (tu1 wL _)
                  have hzLB : wL.heap.size + 1 ≤ wLB.heap.size := by rw [← hw]; simp
                  have HDLB := Lib.hid (show Dice wLB g by rw [← hw]; exact HDL.out.on (tu1 wL _))
                  have HBLB := Lib.hid (HBL.out.trans hb)
                  have HLLB := Lib.hid (show wLB.cell? ⟨wd.heap.size, x, none⟩ = some (.string (labB (fr + j))) from (hb.cell (p := ⟨wd.heap.size, x, none⟩) (by show wd.heap.size < _; omega) (by show wd.heap.size ≠ g; omega)).trans HLL.out)
                  have HILB := Lib.hid (show (wLB.cell? ⟨wL.heap.size, 0, none⟩ = some (.int .i64 1) ∧ wLB.cell? ⟨wL.heap.size, 1, none⟩ = some (.int .i64 0) ∧ wLB.cell? ⟨wL.heap.size, 2, none⟩ = some (.int .i64 3)) by rw [← hw]; exact ints_cells wL)
                  clear hw hb
                  refine hK.out _ _ ⟨trivial, HLLB.out⟩ (fun hHeld => ?_)
                  clear hK K
                  refine wpAnyH_more (S' := fun W => ((True ∧ W.cell? ⟨wd.heap.size, x, none⟩ = some (.string (labB (fr + j)))) ∧ (W.cell? ⟨wL.heap.size, 0, none⟩ = some (.int .i64 1) ∧ W.cell? ⟨wL.heap.size, 1, none⟩ = some (.int .i64 0) ∧ W.cell? ⟨wL.heap.size, 2, none⟩ = some (.int .i64 3)))) (fun _ h => h.1) _ _ _ _ ?_
                  replace hHeld := And.intro hHeld HILB.out
                  try simp only [Act.put, List.setIfInBounds_toArray]
                  refine wpAnyH_ready (rs := [9, 17]) (by kernel_rfl) (by simp) ?_
                  refine AllReadyH.cons (i := 9) (o := _) rfl (fun K hK => ?gLBP) (AllReadyH.cons (i := 17) (o := _) rfl (fun K hK => ?gLBA) (AllReadyH.nil))
                  case gLBP =>
                    go_simp
                    go_at_call 59
                    with_reducible refine (CPn.out _ HDLB.out).mono ?_
                    rintro e wLBP ⟨⟨nx, hnx, rfl⟩, hd, hb⟩
                    have hzLBP : wLB.heap.size ≤ wLBP.heap.size := hb.size
                    have HDLBP := Lib.hid hd
                    have HBLBP := Lib.hid (HBLB.out.trans hb)
                    have HLLBP := Lib.hid (show wLBP.cell? ⟨wd.heap.size, x, none⟩ = some (.string (labB (fr + j))) from (hb.cell (p := ⟨wd.heap.size, x, none⟩) (by show wd.heap.size < _; omega) (by show wd.heap.size ≠ g; omega)).trans HLLB.out)
                    have HILBP := Lib.hid (show (wLBP.cell? ⟨wL.heap.size, 0, none⟩ = some (.int .i64 1) ∧ wLBP.cell? ⟨wL.heap.size, 1, none⟩ = some (.int .i64 0) ∧ wLBP.cell? ⟨wL.heap.size, 2, none⟩ = some (.int .i64 3)) from ints_on hb (by omega) (by omega) HILB.out)
                    clear hd hb
                    refine hK.out _ _ ⟨⟨trivial, HLLBP.out⟩, HILBP.out⟩ (fun hHeld => ?_)
                    clear hK K
                    try simp only [Act.put, List.setIfInBounds_toArray]
                    refine wpAnyH_ready (rs := [12, 17]) (by kernel_rfl) (by simp) ?_
                    refine AllReadyH.cons (i := 12) (o := _) rfl (fun K hK => ?gLBPQ) (AllReadyH.cons (i := 17) (o := _) rfl (fun K hK => ?gLBPA) (AllReadyH.nil))
                    case gLBPQ =>
                      go_simp
                      go_at_call 59
                      with_reducible refine (CP3.out _ HDLBP.out).mono ?_
                      rintro e wLBPQ ⟨⟨ki, hki, rfl⟩, hd, hb⟩
                      have hzLBPQ : wLBP.heap.size ≤ wLBPQ.heap.size := hb.size
                      have HDLBPQ := Lib.hid hd
                      have HBLBPQ := Lib.hid (HBLBP.out.trans hb)
                      have HLLBPQ := Lib.hid (show wLBPQ.cell? ⟨wd.heap.size, x, none⟩ = some (.string (labB (fr + j))) from (hb.cell (p := ⟨wd.heap.size, x, none⟩) (by show wd.heap.size < _; omega) (by show wd.heap.size ≠ g; omega)).trans HLLBP.out)
                      have HILBPQ := Lib.hid (show (wLBPQ.cell? ⟨wL.heap.size, 0, none⟩ = some (.int .i64 1) ∧ wLBPQ.cell? ⟨wL.heap.size, 1, none⟩ = some (.int .i64 0) ∧ wLBPQ.cell? ⟨wL.heap.size, 2, none⟩ = some (.int .i64 3)) from ints_on hb (by omega) (by omega) HILBP.out)
                      clear hd hb
                      refine hK.out _ _ ⟨⟨trivial, HLLBPQ.out⟩, HILBPQ.out⟩ (fun hHeld => ?_)
                      clear hK K
                      obtain ⟨sk, hsk, hci⟩ := ints_at HILBPQ.out hki
                      have HKLBPQ := Lib.hid (show wLBPQ.cell? ⟨wL.heap.size, ki, none⟩ = some (.int .i64 sk) from hci)
                      have j3 : (ki : Int) < 3 := by omega
                      have j4 : (0 : Int) ≤ (ki : Int) := by omega
                      clear hci
                      refine wpAnyH_more (S' := fun W => (((True ∧ W.cell? ⟨wd.heap.size, x, none⟩ = some (.string (labB (fr + j)))) ∧ (W.cell? ⟨wL.heap.size, 0, none⟩ = some (.int .i64 1) ∧ W.cell? ⟨wL.heap.size, 1, none⟩ = some (.int .i64 0) ∧ W.cell? ⟨wL.heap.size, 2, none⟩ = some (.int .i64 3))) ∧ W.cell? ⟨wL.heap.size, ki, none⟩ = some (.int .i64 sk))) (fun _ h => h.1) _ _ _ _ ?_
                      replace hHeld := And.intro hHeld HKLBPQ.out
                      try simp only [Act.put, List.setIfInBounds_toArray]
                      refine' wpAnyH_take (i := 13) (v := _) rfl (by kernel_rfl) (by kernel_rfl) (by kernel_rfl) (fun _ _ _ h => h) (Or.inl ⟨by rfl, ?hyLBPQ13⟩) (by assumption) ?restLBPQ13
                      case hyLBPQ13 =>
                        intro W hSw
                        (try dsimp only at hSw)
                        first | (go_simp; done) | (go_simp; with_reducible rfl)
                      try simp only [Act.put]
                      refine' wpAnyH_take (i := 14) (v := _) rfl (by kernel_rfl) (by kernel_rfl) (by kernel_rfl) (fun _ _ _ h => h) (Or.inl ⟨by rfl, ?hyLBPQ14⟩) (by assumption) ?restLBPQ14
                      case hyLBPQ14 =>
                        intro W hSw
                        (try dsimp only at hSw)
                        first | (go_simp; done) | (go_simp; with_reducible rfl)
                      try simp only [Act.put]
                      refine' wpAnyH_take (i := 15) (v := _) rfl (by kernel_rfl) (by kernel_rfl) (by kernel_rfl) (fun _ _ _ h => h) (Or.inl ⟨by rfl, ?hyLBPQ15⟩) (by assumption) ?restLBPQ15
                      case hyLBPQ15 =>
                        intro W hSw
                        (try dsimp only at hSw)
                        first | (go_simp; done) | (go_simp; with_reducible rfl)
                      try simp only [Act.put]
                      refine' wpAnyH_take (i := 16) (v := _) rfl (by kernel_rfl) (by kernel_rfl) (by kernel_rfl) (fun _ _ _ h => h) (Or.inl ⟨by rfl, ?hyLBPQ16⟩) (by assumption) ?restLBPQ16
                      case hyLBPQ16 =>
                        intro W hSw
                        (try dsimp only at hSw)
                        first | (go_simp; done) | (go_simp; with_reducible rfl)
                      try simp only [Act.put, List.setIfInBounds_toArray]
                      refine wpAnyH_ready (rs := [17]) (by kernel_rfl) (by simp) ?_
                      refine AllReadyH.cons (i := 17) (o := _) rfl (fun K hK => ?gLBPQA) (AllReadyH.nil)
                      case gLBPQA =>
                        go_simp
                        generalize hw : World.alloc wLBPQ _ = wLBPQA
                        have hb : Beside g wLBPQ wLBPQA := by rw [← hw]; exact Beside.of_below (tu1 wLBPQ _)
                        have hzLBPQA : wLBPQ.heap.size + 1 ≤ wLBPQA.heap.size := by rw [← hw]; simp
                        have HDLBPQA := Lib.hid (show Dice wLBPQA g by rw [← hw]; exact HDLBPQ.out.on (tu1 wLBPQ _))
                        have HBLBPQA := Lib.hid (HBLBPQ.out.trans hb)
                        have HLLBPQA := Lib.hid (show wLBPQA.cell? ⟨wd.heap.size, x, none⟩ = some (.string (labB (fr + j))) from (hb.cell (p := ⟨wd.heap.size, x, none⟩) (by show wd.heap.size < _; omega) (by show wd.heap.size ≠ g; omega)).trans HLLBPQ.out)
                        have HILBPQA := Lib.hid (show (wLBPQA.cell? ⟨wL.heap.size, 0, none⟩ = some (.int .i64 1) ∧ wLBPQA.cell? ⟨wL.heap.size, 1, none⟩ = some (.int .i64 0) ∧ wLBPQA.cell? ⟨wL.heap.size, 2, none⟩ = some (.int .i64 3)) from ints_on hb (by omega) (by omega) HILBPQ.out)
                        have HKLBPQA := Lib.hid (show wLBPQA.cell? ⟨wL.heap.size, ki, none⟩ = some (.int .i64 sk) from (hb.cell (p := ⟨wL.heap.size, ki, none⟩) (by show wL.heap.size < _; omega) (by show wL.heap.size ≠ g; omega)).trans HKLBPQ.out)
                        have HELBPQA := Lib.hid (show EBox wLBPQA wLBPQ.heap.size ⟨#[]⟩ 0 0 0 by rw [← hw]; exact heap_alloc_new wLBPQ _)
                        clear hw hb
                        refine hK.out _ _ ⟨⟨⟨trivial, HLLBPQA.out⟩, HILBPQA.out⟩, HKLBPQA.out⟩ (fun hHeld => ?_)
                        clear hK K
                        obtain ⟨ec0, ec1, ec2, ec3⟩ := HELBPQA.out.cells
                        have ef0 := HELBPQA.out.thaw 0
                        have ef1 := HELBPQA.out.thaw 1
                        have ef2 := HELBPQA.out.thaw 2
                        have ef3 := HELBPQA.out.thaw 3
                        have HFILL := Lib.hid (HELBPQA.out.fill (s' := labB (fr + j)) (a' := sk) (b' := 0) (c' := (nx : Int)))
                        have HBES := Lib.hid (show Beside wLBPQ.heap.size wLBPQA ((((wLBPQA.setCell ⟨wLBPQ.heap.size, 0, none⟩ (.string (labB (fr + j)))).setCell ⟨wLBPQ.heap.size, 1, none⟩ (.int .i64 sk)).setCell ⟨wLBPQ.heap.size, 2, none⟩ (.int .i64 0)).setCell ⟨wLBPQ.heap.size, 3, none⟩ (.int .i64 (nx : Int))) from ((((Beside.refl _ wLBPQA).setCell 0 _).setCell 1 _).setCell 2 _).setCell 3 _)
                        have HEND := Lib.hid (edge_end HELBPQA.out.lt HBLBPQA.out HDLBPQA.out HBES.out (by omega) hwg)
                        try simp only [Act.put, List.setIfInBounds_toArray]
                        refine wpAnyH_ready (rs := [18]) (by kernel_rfl) (by simp) ?_
                        refine AllReadyH.cons (i := 18) (o := _) rfl (fun K hK => ?_) AllReadyH.nil
                        go_simp
                        refine hK.out _ _ ⟨⟨⟨trivial, (HBES.out.cell (p := ⟨wd.heap.size, x, none⟩) (by show wd.heap.size < _; omega) (by show wd.heap.size ≠ wLBPQ.heap.size; omega)).trans HLLBPQA.out⟩, ints_on HBES.out (by omega) (by omega) HILBPQA.out⟩, (HBES.out.cell (p := ⟨wL.heap.size, ki, none⟩) (by show wL.heap.size < _; omega) (by show wL.heap.size ≠ wLBPQ.heap.size; omega)).trans HKLBPQA.out⟩ (fun hHeld => ?_)
                        clear hK K
                        try simp only [Act.put, List.setIfInBounds_toArray]
                        refine wpAnyH_done (by kernel_rfl) ?_ _
                        go_wp2_with fail
                        go_meet
                        case rel => exact ⟨wLBPQ.heap.size, nx, sk, rfl, HFILL, hnx, hsk, Lib.hid HEND.out.1, Lib.hid HEND.out.2, by omega⟩
                    case gLBPA =>
                      go_simp
                      generalize hw : World.alloc wLBP _ = wLBPA
                      have hb : Beside g wLBP wLBPA := by rw [← hw]; exact Beside.of_below (tu1 wLBP _)
                      have hzLBPA : wLBP.heap.size + 1 ≤ wLBPA.heap.size := by rw [← hw]; simp
                      have HDLBPA := Lib.hid (show Dice wLBPA g by rw [← hw]; exact HDLBP.out.on (tu1 wLBP _))
                      have HBLBPA := Lib.hid (HBLBP.out.trans hb)
                      have HLLBPA := Lib.hid (show wLBPA.cell? ⟨wd.heap.size, x, none⟩ = some (.string (labB (fr + j))) from (hb.cell (p := ⟨wd.heap.size, x, none⟩) (by show wd.heap.size < _; omega) (by show wd.heap.size ≠ g; omega)).trans HLLBP.out)
                      have HILBPA := Lib.hid (show (wLBPA.cell? ⟨wL.heap.size, 0, none⟩ = some (.int .i64 1) ∧ wLBPA.cell? ⟨wL.heap.size, 1, none⟩ = some (.int .i64 0) ∧ wLBPA.cell? ⟨wL.heap.size, 2, none⟩ = some (.int .i64 3)) from ints_on hb (by omega) (by omega) HILBP.out)
                      have HELBPA := Lib.hid (show EBox wLBPA wLBP.heap.size ⟨#[]⟩ 0 0 0 by rw [← hw]; exact heap_alloc_new wLBP _)
                      clear hw hb
                      refine hK.out _ _ ⟨⟨trivial, HLLBPA.out⟩, HILBPA.out⟩ (fun hHeld => ?_)
                      clear hK K
                      try simp only [Act.put, List.setIfInBounds_toArray]
                      refine wpAnyH_ready (rs := [12]) (by kernel_rfl) (by simp) ?_
                      refine AllReadyH.cons (i := 12) (o := _) rfl (fun K hK => ?gLBPAQ) (AllReadyH.nil)
                      case gLBPAQ =>
                        go_simp
                        go_at_call 59
                        with_reducible refine (CP3.out _ HDLBPA.out).mono ?_
                        rintro e wLBPAQ ⟨⟨ki, hki, rfl⟩, hd, hb⟩
                        have hzLBPAQ : wLBPA.heap.size ≤ wLBPAQ.heap.size := hb.size
                        have HDLBPAQ := Lib.hid hd
                        have HBLBPAQ := Lib.hid (HBLBPA.out.trans hb)
                        have HLLBPAQ := Lib.hid (show wLBPAQ.cell? ⟨wd.heap.size, x, none⟩ = some (.string (labB (fr + j))) from (hb.cell (p := ⟨wd.heap.size, x, none⟩) (by show wd.heap.size < _; omega) (by show wd.heap.size ≠ g; omega)).trans HLLBPA.out)
                        have HILBPAQ := Lib.hid (show (wLBPAQ.cell? ⟨wL.heap.size, 0, none⟩ = some (.int .i64 1) ∧ wLBPAQ.cell? ⟨wL.heap.size, 1, none⟩ = some (.int .i64 0) ∧ wLBPAQ.cell? ⟨wL.heap.size, 2, none⟩ = some (.int .i64 3)) from ints_on hb (by omega) (by omega) HILBPA.out)
                        have HELBPAQ := Lib.hid (show EBox wLBPAQ wLBP.heap.size ⟨#[]⟩ 0 0 0 from (hb.block wLBP.heap.size (by omega) (by omega)).trans HELBPA.out)
                        clear hd hb
                        refine hK.out _ _ ⟨⟨trivial, HLLBPAQ.out⟩, HILBPAQ.out⟩ (fun hHeld => ?_)
                        clear hK K
                        obtain ⟨sk, hsk, hci⟩ := ints_at HILBPAQ.out hki
                        have HKLBPAQ := Lib.hid (show wLBPAQ.cell? ⟨wL.heap.size, ki, none⟩ = some (.int .i64 sk) from hci)
                        have j3 : (ki : Int) < 3 := by omega
                        have j4 : (0 : Int) ≤ (ki : Int) := by omega
                        clear hci
                        refine wpAnyH_more (S' := fun W => (((True ∧ W.cell? ⟨wd.heap.size, x, none⟩ = some (.string (labB (fr + j)))) ∧ (W.cell? ⟨wL.heap.size, 0, none⟩ = some (.int .i64 1) ∧ W.cell? ⟨wL.heap.size, 1, none⟩ = some (.int .i64 0) ∧ W.cell? ⟨wL.heap.size, 2, none⟩ = some (.int .i64 3))) ∧ W.cell? ⟨wL.heap.size, ki, none⟩ = some (.int .i64 sk))) (fun _ h => h.1) _ _ _ _ ?_
                        replace hHeld := And.intro hHeld HKLBPAQ.out
                        try simp only [Act.put, List.setIfInBounds_toArray]
                        refine' wpAnyH_take (i := 13) (v := _) rfl (by kernel_rfl) (by kernel_rfl) (by kernel_rfl) (fun _ _ _ h => h) (Or.inl ⟨by rfl, ?hyLBPAQ13⟩) (by assumption) ?restLBPAQ13
                        case hyLBPAQ13 =>
                          intro W hSw
                          (try dsimp only at hSw)
                          first | (go_simp; done) | (go_simp; with_reducible rfl)
                        try simp only [Act.put]
                        refine' wpAnyH_take (i := 14) (v := _) rfl (by kernel_rfl) (by kernel_rfl) (by kernel_rfl) (fun _ _ _ h => h) (Or.inl ⟨by rfl, ?hyLBPAQ14⟩) (by assumption) ?restLBPAQ14
                        case hyLBPAQ14 =>
                          intro W hSw
                          (try dsimp only at hSw)
                          first | (go_simp; done) | (go_simp; with_reducible rfl)
                        try simp only [Act.put]
                        refine' wpAnyH_take (i := 15) (v := _) rfl (by kernel_rfl) (by kernel_rfl) (by kernel_rfl) (fun _ _ _ h => h) (Or.inl ⟨by rfl, ?hyLBPAQ15⟩) (by assumption) ?restLBPAQ15
                        case hyLBPAQ15 =>
                          intro W hSw
                          (try dsimp only at hSw)
                          first | (go_simp; done) | (go_simp; with_reducible rfl)
                        try simp only [Act.put]
                        refine' wpAnyH_take (i := 16) (v := _) rfl (by kernel_rfl) (by kernel_rfl) (by kernel_rfl) (fun _ _ _ h => h) (Or.inl ⟨by rfl, ?hyLBPAQ16⟩) (by assumption) ?restLBPAQ16
                        case hyLBPAQ16 =>
                          intro W hSw
                          (try dsimp only at hSw)
                          first | (go_simp; done) | (go_simp; with_reducible rfl)
                        obtain ⟨ec0, ec1, ec2, ec3⟩ := HELBPAQ.out.cells
                        have ef0 := HELBPAQ.out.thaw 0
                        have ef1 := HELBPAQ.out.thaw 1
                        have ef2 := HELBPAQ.out.thaw 2
                        have ef3 := HELBPAQ.out.thaw 3
                        have HFILL := Lib.hid (HELBPAQ.out.fill (s' := labB (fr + j)) (a' := sk) (b' := 0) (c' := (nx : Int)))
                        have HBES := Lib.hid (show Beside wLBP.heap.size wLBPAQ ((((wLBPAQ.setCell ⟨wLBP.heap.size, 0, none⟩ (.string (labB (fr + j)))).setCell ⟨wLBP.heap.size, 1, none⟩ (.int .i64 sk)).setCell ⟨wLBP.heap.size, 2, none⟩ (.int .i64 0)).setCell ⟨wLBP.heap.size, 3, none⟩ (.int .i64 (nx : Int))) from ((((Beside.refl _ wLBPAQ).setCell 0 _).setCell 1 _).setCell 2 _).setCell 3 _)
                        have HEND := Lib.hid (edge_end HELBPAQ.out.lt HBLBPAQ.out HDLBPAQ.out HBES.out (by omega) hwg)
                        try simp only [Act.put, List.setIfInBounds_toArray]
                        refine wpAnyH_ready (rs := [18]) (by kernel_rfl) (by simp) ?_
                        refine AllReadyH.cons (i := 18) (o := _) rfl (fun K hK => ?_) AllReadyH.nil
                        go_simp
                        refine hK.out _ _ ⟨⟨⟨trivial, (HBES.out.cell (p := ⟨wd.heap.size, x, none⟩) (by show wd.heap.size < _; omega) (by show wd.heap.size ≠ wLBP.heap.size; omega)).trans HLLBPAQ.out⟩, ints_on HBES.out (by omega) (by omega) HILBPAQ.out⟩, (HBES.out.cell (p := ⟨wL.heap.size, ki, none⟩) (by show wL.heap.size < _; omega) (by show wL.heap.size ≠ wLBP.heap.size; omega)).trans HKLBPAQ.out⟩ (fun hHeld => ?_)
                        clear hK K
                        try simp only [Act.put, List.setIfInBounds_toArray]
                        refine wpAnyH_done (by kernel_rfl) ?_ _
                        go_wp2_with fail
                        go_meet
                        case rel => exact ⟨wLBP.heap.size, nx, sk, rfl, HFILL, hnx, hsk, Lib.hid HEND.out.1, Lib.hid HEND.out.2, by omega⟩
                  case gLBA =>
                    go_simp
                    generalize hw : World.alloc wLB _ = wLBA
                    have hb : Beside g wLB wLBA := by rw [← hw]; exact Beside.of_below (tu1 wLB _)
                    have hzLBA : wLB.heap.size + 1 ≤ wLBA.heap.size := by rw [← hw]; simp
                    have HDLBA := Lib.hid (show Dice wLBA g by rw [← hw]; exact HDLB.out.on (tu1 wLB _))
                    have HBLBA := Lib.hid (HBLB.out.trans hb)
                    have HLLBA := Lib.hid (show wLBA.cell? ⟨wd.heap.size, x, none⟩ = some (.string (labB (fr + j))) from (hb.cell (p := ⟨wd.heap.size, x, none⟩) (by show wd.heap.size < _; omega) (by show wd.heap.size ≠ g; omega)).trans HLLB.out)
                    have HILBA := Lib.hid (show (wLBA.cell? ⟨wL.heap.size, 0, none⟩ = some (.int .i64 1) ∧ wLBA.cell? ⟨wL.heap.size, 1, none⟩ = some (.int .i64 0) ∧ wLBA.cell? ⟨wL.heap.size, 2, none⟩ = some (.int .i64 3)) from ints_on hb (by omega) (by omega) HILB.out)
                    have HELBA := Lib.hid (show EBox wLBA wLB.heap.size ⟨#[]⟩ 0 0 0 by rw [← hw]; exact heap_alloc_new wLB _)
                    clear hw hb
                    refine hK.out _ _ ⟨⟨trivial, HLLBA.out⟩, HILBA.out⟩ (fun hHeld => ?_)
                    clear hK K
                    try simp only [Act.put, List.setIfInBounds_toArray]
                    refine wpAnyH_ready (rs := [9]) (by kernel_rfl) (by simp) ?_
                    refine AllReadyH.cons (i := 9) (o := _) rfl (fun K hK => ?gLBAP) (AllReadyH.nil)
                    case gLBAP =>
                      go_simp
                      go_at_call 59
                      with_reducible refine (CPn.out _ HDLBA.out).mono ?_
                      rintro e wLBAP ⟨⟨nx, hnx, rfl⟩, hd, hb⟩
                      have hzLBAP : wLBA.heap.size ≤ wLBAP.heap.size := hb.size
                      have HDLBAP := Lib.hid hd
                      have HBLBAP := Lib.hid (HBLBA.out.trans hb)
                      have HLLBAP := Lib.hid (show wLBAP.cell? ⟨wd.heap.size, x, none⟩ = some (.string (labB (fr + j))) from (hb.cell (p := ⟨wd.heap.size, x, none⟩) (by show wd.heap.size < _; omega) (by show wd.heap.size ≠ g; omega)).trans HLLBA.out)
                      have HILBAP := Lib.hid (show (wLBAP.cell? ⟨wL.heap.size, 0, none⟩ = some (.int .i64 1) ∧ wLBAP.cell? ⟨wL.heap.size, 1, none⟩ = some (.int .i64 0) ∧ wLBAP.cell? ⟨wL.heap.size, 2, none⟩ = some (.int .i64 3)) from ints_on hb (by omega) (by omega) HILBA.out)
                      have HELBAP := Lib.hid (show EBox wLBAP wLB.heap.size ⟨#[]⟩ 0 0 0 from (hb.block wLB.heap.size (by omega) (by omega)).trans HELBA.out)
                      clear hd hb
                      refine hK.out _ _ ⟨⟨trivial, HLLBAP.out⟩, HILBAP.out⟩ (fun hHeld => ?_)
                      clear hK K
                      try simp only [Act.put, List.setIfInBounds_toArray]
                      refine wpAnyH_ready (rs := [12]) (by kernel_rfl) (by simp) ?_
                      refine AllReadyH.cons (i := 12) (o := _) rfl (fun K hK => ?gLBAPQ) (AllReadyH.nil)
                      case gLBAPQ =>
                        go_simp
                        go_at_call 59
                        with_reducible refine (CP3.out _ HDLBAP.out).mono ?_
                        rintro e wLBAPQ ⟨⟨ki, hki, rfl⟩, hd, hb⟩
                        have hzLBAPQ : wLBAP.heap.size ≤ wLBAPQ.heap.size := hb.size
                        have HDLBAPQ := Lib.hid hd
                        have HBLBAPQ := Lib.hid (HBLBAP.out.trans hb)
                        have HLLBAPQ := Lib.hid (show wLBAPQ.cell? ⟨wd.heap.size, x, none⟩ = some (.string (labB (fr + j))) from (hb.cell (p := ⟨wd.heap.size, x, none⟩) (by show wd.heap.size < _; omega) (by show wd.heap.size ≠ g; omega)).trans HLLBAP.out)
                        have HILBAPQ := Lib.hid (show (wLBAPQ.cell? ⟨wL.heap.size, 0, none⟩ = some (.int .i64 1) ∧ wLBAPQ.cell? ⟨wL.heap.size, 1, none⟩ = some (.int .i64 0) ∧ wLBAPQ.cell? ⟨wL.heap.size, 2, none⟩ = some (.int .i64 3)) from ints_on hb (by omega) (by omega) HILBAP.out)
                        have HELBAPQ := Lib.hid (show EBox wLBAPQ wLB.heap.size ⟨#[]⟩ 0 0 0 from (hb.block wLB.heap.size (by omega) (by omega)).trans HELBAP.out)
                        clear hd hb
                        refine hK.out _ _ ⟨⟨trivial, HLLBAPQ.out⟩, HILBAPQ.out⟩ (fun hHeld => ?_)
                        clear hK K
                        obtain ⟨sk, hsk, hci⟩ := ints_at HILBAPQ.out hki
                        have HKLBAPQ := Lib.hid (show wLBAPQ.cell? ⟨wL.heap.size, ki, none⟩ = some (.int .i64 sk) from hci)
                        have j3 : (ki : Int) < 3 := by omega
                        have j4 : (0 : Int) ≤ (ki : Int) := by omega
                        clear hci
                        refine wpAnyH_more (S' := fun W => (((True ∧ W.cell? ⟨wd.heap.size, x, none⟩ = some (.string (labB (fr + j)))) ∧ (W.cell? ⟨wL.heap.size, 0, none⟩ = some (.int .i64 1) ∧ W.cell? ⟨wL.heap.size, 1, none⟩ = some (.int .i64 0) ∧ W.cell? ⟨wL.heap.size, 2, none⟩ = some (.int .i64 3))) ∧ W.cell? ⟨wL.heap.size, ki, none⟩ = some (.int .i64 sk))) (fun _ h => h.1) _ _ _ _ ?_
                        replace hHeld := And.intro hHeld HKLBAPQ.out
                        try simp only [Act.put, List.setIfInBounds_toArray]
                        refine' wpAnyH_take (i := 13) (v := _) rfl (by kernel_rfl) (by kernel_rfl) (by kernel_rfl) (fun _ _ _ h => h) (Or.inl ⟨by rfl, ?hyLBAPQ13⟩) (by assumption) ?restLBAPQ13
                        case hyLBAPQ13 =>
                          intro W hSw
                          (try dsimp only at hSw)
                          first | (go_simp; done) | (go_simp; with_reducible rfl)
                        try simp only [Act.put]
                        refine' wpAnyH_take (i := 14) (v := _) rfl (by kernel_rfl) (by kernel_rfl) (by kernel_rfl) (fun _ _ _ h => h) (Or.inl ⟨by rfl, ?hyLBAPQ14⟩) (by assumption) ?restLBAPQ14
                        case hyLBAPQ14 =>
                          intro W hSw
                          (try dsimp only at hSw)
                          first | (go_simp; done) | (go_simp; with_reducible rfl)
                        try simp only [Act.put]
                        refine' wpAnyH_take (i := 15) (v := _) rfl (by kernel_rfl) (by kernel_rfl) (by kernel_rfl) (fun _ _ _ h => h) (Or.inl ⟨by rfl, ?hyLBAPQ15⟩) (by assumption) ?restLBAPQ15
                        case hyLBAPQ15 =>
                          intro W hSw
                          (try dsimp only at hSw)
                          first | (go_simp; done) | (go_simp; with_reducible rfl)
                        try simp only [Act.put]
                        refine' wpAnyH_take (i := 16) (v := _) rfl (by kernel_rfl) (by kernel_rfl) (by kernel_rfl) (fun _ _ _ h => h) (Or.inl ⟨by rfl, ?hyLBAPQ16⟩) (by assumption) ?restLBAPQ16
                        case hyLBAPQ16 =>
                          intro W hSw
                          (try dsimp only at hSw)
                          first | (go_simp; done) | (go_simp; with_reducible rfl)
                        obtain ⟨ec0, ec1, ec2, ec3⟩ := HELBAPQ.out.cells
                        have ef0 := HELBAPQ.out.thaw 0
                        have ef1 := HELBAPQ.out.thaw 1
                        have ef2 := HELBAPQ.out.thaw 2
                        have ef3 := HELBAPQ.out.thaw 3
                        have HFILL := Lib.hid (HELBAPQ.out.fill (s' := labB (fr + j)) (a' := sk) (b' := 0) (c' := (nx : Int)))
                        have HBES := Lib.hid (show Beside wLB.heap.size wLBAPQ ((((wLBAPQ.setCell ⟨wLB.heap.size, 0, none⟩ (.string (labB (fr + j)))).setCell ⟨wLB.heap.size, 1, none⟩ (.int .i64 sk)).setCell ⟨wLB.heap.size, 2, none⟩ (.int .i64 0)).setCell ⟨wLB.heap.size, 3, none⟩ (.int .i64 (nx : Int))) from ((((Beside.refl _ wLBAPQ).setCell 0 _).setCell 1 _).setCell 2 _).setCell 3 _)
                        have HEND := Lib.hid (edge_end HELBAPQ.out.lt HBLBAPQ.out HDLBAPQ.out HBES.out (by omega) hwg)
                        try simp only [Act.put, List.setIfInBounds_toArray]
                        refine wpAnyH_ready (rs := [18]) (by kernel_rfl) (by simp) ?_
                        refine AllReadyH.cons (i := 18) (o := _) rfl (fun K hK => ?_) AllReadyH.nil
                        go_simp
                        refine hK.out _ _ ⟨⟨⟨trivial, (HBES.out.cell (p := ⟨wd.heap.size, x, none⟩) (by show wd.heap.size < _; omega) (by show wd.heap.size ≠ wLB.heap.size; omega)).trans HLLBAPQ.out⟩, ints_on HBES.out (by omega) (by omega) HILBAPQ.out⟩, (HBES.out.cell (p := ⟨wL.heap.size, ki, none⟩) (by show wL.heap.size < _; omega) (by show wL.heap.size ≠ wLB.heap.size; omega)).trans HKLBAPQ.out⟩ (fun hHeld => ?_)
                        clear hK K
                        try simp only [Act.put, List.setIfInBounds_toArray]
                        refine wpAnyH_done (by kernel_rfl) ?_ _
                        go_wp2_with fail
                        go_meet
                        case rel => exact ⟨wLB.heap.size, nx, sk, rfl, HFILL, hnx, hsk, Lib.hid HEND.out.1, Lib.hid HEND.out.2, by omega⟩
                case gLA =>
                  go_simp
                  generalize hw : World.alloc wL _ = wLA
                  have hb : Beside g wL wLA := by rw [← hw]; exact Beside.of_below (tu1 wL _)
                  have hzLA : wL.heap.size + 1 ≤ wLA.heap.size := by rw [← hw]; simp
                  have HDLA := Lib.hid (show Dice wLA g by rw [← hw]; exact HDL.out.on (tu1 wL _))
                  have HBLA := Lib.hid (HBL.out.trans hb)
                  have HLLA := Lib.hid (show wLA.cell? ⟨wd.heap.size, x, none⟩ = some (.string (labB (fr + j))) from (hb.cell (p := ⟨wd.heap.size, x, none⟩) (by show wd.heap.size < _; omega) (by show wd.heap.size ≠ g; omega)).trans HLL.out)
                  have HELA := Lib.hid (show EBox wLA wL.heap.size ⟨#[]⟩ 0 0 0 by rw [← hw]; exact heap_alloc_new wL _)
                  clear hw hb
                  refine hK.out _ _ ⟨trivial, HLLA.out⟩ (fun hHeld => ?_)
                  clear hK K
                  try simp only [Act.put, List.setIfInBounds_toArray]
                  refine wpAnyH_ready (rs := [9, 10]) (by kernel_rfl) (by simp) ?_
                  refine AllReadyH.cons (i := 9) (o := _) rfl (fun K hK => ?gLAP) (AllReadyH.cons (i := 10) (o := _) rfl (fun K hK => ?gLAB) (AllReadyH.nil))
                  case gLAP =>
                    go_simp
                    go_at_call 59
                    with_reducible refine (CPn.out _ HDLA.out).mono ?_
                    rintro e wLAP ⟨⟨nx, hnx, rfl⟩, hd, hb⟩
                    have hzLAP : wLA.heap.size ≤ wLAP.heap.size := hb.size
                    have HDLAP := Lib.hid hd
                    have HBLAP := Lib.hid (HBLA.out.trans hb)
                    have HLLAP := Lib.hid (show wLAP.cell? ⟨wd.heap.size, x, none⟩ = some (.string (labB (fr + j))) from (hb.cell (p := ⟨wd.heap.size, x, none⟩) (by show wd.heap.size < _; omega) (by show wd.heap.size ≠ g; omega)).trans HLLA.out)
                    have HELAP := Lib.hid (show EBox wLAP wL.heap.size ⟨#[]⟩ 0 0 0 from (hb.block wL.heap.size (by omega) (by omega)).trans HELA.out)
                    clear hd hb
                    refine hK.out _ _ ⟨trivial, HLLAP.out⟩ (fun hHeld => ?_)
                    clear hK K
                    try simp only [Act.put, List.setIfInBounds_toArray]
                    refine wpAnyH_ready (rs := [10, 12]) (by kernel_rfl) (by simp) ?_
                    refine AllReadyH.cons (i := 10) (o := _) rfl (fun K hK => ?gLAPB) (AllReadyH.cons (i := 12) (o := _) rfl (fun K hK => ?gLAPQ) (AllReadyH.nil))
                    case gLAPB =>
                      go_simp
                      generalize hw : World.alloc wLAP _ = wLAPB
                      have hb : Beside g wLAP wLAPB := by rw [← hw]; exact Beside.of_below (tu1 wLAP _)
                      have hzLAPB : wLAP.heap.size + 1 ≤ wLAPB.heap.size := by rw [← hw]; simp
                      have HDLAPB := Lib.hid (show Dice wLAPB g by rw [← hw]; exact HDLAP.out.on (tu1 wLAP _))
                      have HBLAPB := Lib.hid (HBLAP.out.trans hb)
                      have HLLAPB := Lib.hid (show wLAPB.cell? ⟨wd.heap.size, x, none⟩ = some (.string (labB (fr + j))) from (hb.cell (p := ⟨wd.heap.size, x, none⟩) (by show wd.heap.size < _; omega) (by show wd.heap.size ≠ g; omega)).trans HLLAP.out)
                      have HELAPB := Lib.hid (show EBox wLAPB wL.heap.size ⟨#[]⟩ 0 0 0 from (hb.block wL.heap.size (by omega) (by omega)).trans HELAP.out)
                      have HILAPB := Lib.hid (show (wLAPB.cell? ⟨wLAP.heap.size, 0, none⟩ = some (.int .i64 1) ∧ wLAPB.cell? ⟨wLAP.heap.size, 1, none⟩ = some (.int .i64 0) ∧ wLAPB.cell? ⟨wLAP.heap.size, 2, none⟩ = some (.int .i64 3)) by rw [← hw]; exact ints_cells wLAP)
                      clear hw hb
                      refine hK.out _ _ ⟨trivial, HLLAPB.out⟩ (fun hHeld => ?_)
                      clear hK K
                      refine wpAnyH_more (S' := fun W => ((True ∧ W.cell? ⟨wd.heap.size, x, none⟩ = some (.string (labB (fr + j)))) ∧ (W.cell? ⟨wLAP.heap.size, 0, none⟩ = some (.int .i64 1) ∧ W.cell? ⟨wLAP.heap.size, 1, none⟩ = some (.int .i64 0) ∧ W.cell? ⟨wLAP.heap.size, 2, none⟩ = some (.int .i64 3)))) (fun _ h => h.1) _ _ _ _ ?_
                      replace hHeld := And.intro hHeld HILAPB.out
                      try simp only [Act.put, List.setIfInBounds_toArray]
                      refine wpAnyH_ready (rs := [12]) (by kernel_rfl) (by simp) ?_
                      refine AllReadyH.cons (i := 12) (o := _) rfl (fun K hK => ?gLAPBQ) (AllReadyH.nil)
                      case gLAPBQ =>
                        go_simp
                        go_at_call 59
                        with_reducible refine (CP3.out _ HDLAPB.out).mono ?_
                        rintro e wLAPBQ ⟨⟨ki, hki, rfl⟩, hd, hb⟩
                        have hzLAPBQ : wLAPB.heap.size ≤ wLAPBQ.heap.size := hb.size
                        have HDLAPBQ := Lib.hid hd
                        have HBLAPBQ := Lib.hid (HBLAPB.out.trans hb)
                        have HLLAPBQ := Lib.hid (show wLAPBQ.cell? ⟨wd.heap.size, x, none⟩ = some (.string (labB (fr + j))) from (hb.cell (p := ⟨wd.heap.size, x, none⟩) (by show wd.heap.size < _; omega) (by show wd.heap.size ≠ g; omega)).trans HLLAPB.out)
                        have HILAPBQ := Lib.hid (show (wLAPBQ.cell? ⟨wLAP.heap.size, 0, none⟩ = some (.int .i64 1) ∧ wLAPBQ.cell? ⟨wLAP.heap.size, 1, none⟩ = some (.int .i64 0) ∧ wLAPBQ.cell? ⟨wLAP.heap.size, 2, none⟩ = some (.int .i64 3)) from ints_on hb (by omega) (by omega) HILAPB.out)
                        have HELAPBQ := Lib.hid (show EBox wLAPBQ wL.heap.size ⟨#[]⟩ 0 0 0 from (hb.block wL.heap.size (by omega) (by omega)).trans HELAPB.out)
                        clear hd hb
                        refine hK.out _ _ ⟨⟨trivial, HLLAPBQ.out⟩, HILAPBQ.out⟩ (fun hHeld => ?_)
                        clear hK K
                        obtain ⟨sk, hsk, hci⟩ := ints_at HILAPBQ.out hki
                        have HKLAPBQ := Lib.hid (show wLAPBQ.cell? ⟨wLAP.heap.size, ki, none⟩ = some (.int .i64 sk) from hci)
                        have j3 : (ki : Int) < 3 := by omega
                        have j4 : (0 : Int) ≤ (ki : Int) := by omega
                        clear hci
                        refine wpAnyH_more (S' := fun W => (((True ∧ W.cell? ⟨wd.heap.size, x, none⟩ = some (.string (labB (fr + j)))) ∧ (W.cell? ⟨wLAP.heap.size, 0, none⟩ = some (.int .i64 1) ∧ W.cell? ⟨wLAP.heap.size, 1, none⟩ = some (.int .i64 0) ∧ W.cell? ⟨wLAP.heap.size, 2, none⟩ = some (.int .i64 3))) ∧ W.cell? ⟨wLAP.heap.size, ki, none⟩ = some (.int .i64 sk))) (fun _ h => h.1) _ _ _ _ ?_
                        replace hHeld := And.intro hHeld HKLAPBQ.out
                        try simp only [Act.put, List.setIfInBounds_toArray]
                        refine' wpAnyH_take (i := 13) (v := _) rfl (by kernel_rfl) (by kernel_rfl) (by kernel_rfl) (fun _ _ _ h => h) (Or.inl ⟨by rfl, ?hyLAPBQ13⟩) (by assumption) ?restLAPBQ13
                        case hyLAPBQ13 =>
                          intro W hSw
                          (try dsimp only at hSw)
                          first | (go_simp; done) | (go_simp; with_reducible rfl)
                        try simp only [Act.put]
                        refine' wpAnyH_take (i := 14) (v := _) rfl (by kernel_rfl) (by kernel_rfl) (by kernel_rfl) (fun _ _ _ h => h) (Or.inl ⟨by rfl, ?hyLAPBQ14⟩) (by assumption) ?restLAPBQ14
                        case hyLAPBQ14 =>
                          intro W hSw
                          (try dsimp only at hSw)
                          first | (go_simp; done) | (go_simp; with_reducible rfl)
                        try simp only [Act.put]
                        refine' wpAnyH_take (i := 15) (v := _) rfl (by kernel_rfl) (by kernel_rfl) (by kernel_rfl) (fun _ _ _ h => h) (Or.inl ⟨by rfl, ?hyLAPBQ15⟩) (by assumption) ?restLAPBQ15
                        case hyLAPBQ15 =>
                          intro W hSw
                          (try dsimp only at hSw)
                          first | (go_simp; done) | (go_simp; with_reducible rfl)
                        try simp only [Act.put]
                        refine' wpAnyH_take (i := 16) (v := _) rfl (by kernel_rfl) (by kernel_rfl) (by kernel_rfl) (fun _ _ _ h => h) (Or.inl ⟨by rfl, ?hyLAPBQ16⟩) (by assumption) ?restLAPBQ16
                        case hyLAPBQ16 =>
                          intro W hSw
                          (try dsimp only at hSw)
                          first | (go_simp; done) | (go_simp; with_reducible rfl)
                        obtain ⟨ec0, ec1, ec2, ec3⟩ := HELAPBQ.out.cells
                        have ef0 := HELAPBQ.out.thaw 0
                        have ef1 := HELAPBQ.out.thaw 1
                        have ef2 := HELAPBQ.out.thaw 2
                        have ef3 := HELAPBQ.out.thaw 3
                        have HFILL := Lib.hid (HELAPBQ.out.fill (s' := labB (fr + j)) (a' := sk) (b' := 0) (c' := (nx : Int)))
                        have HBES := Lib.hid (show Beside wL.heap.size wLAPBQ ((((wLAPBQ.setCell ⟨wL.heap.size, 0, none⟩ (.string (labB (fr + j)))).setCell ⟨wL.heap.size, 1, none⟩ (.int .i64 sk)).setCell ⟨wL.heap.size, 2, none⟩ (.int .i64 0)).setCell ⟨wL.heap.size, 3, none⟩ (.int .i64 (nx : Int))) from ((((Beside.refl _ wLAPBQ).setCell 0 _).setCell 1 _).setCell 2 _).setCell 3 _)
                        have HEND := Lib.hid (edge_end HELAPBQ.out.lt HBLAPBQ.out HDLAPBQ.out HBES.out (by omega) hwg)
                        try simp only [Act.put, List.setIfInBounds_toArray]
                        refine wpAnyH_ready (rs := [18]) (by kernel_rfl) (by simp) ?_
                        refine AllReadyH.cons (i := 18) (o := _) rfl (fun K hK => ?_) AllReadyH.nil
                        go_simp
                        refine hK.out _ _ ⟨⟨⟨trivial, (HBES.out.cell (p := ⟨wd.heap.size, x, none⟩) (by show wd.heap.size < _; omega) (by show wd.heap.size ≠ wL.heap.size; omega)).trans HLLAPBQ.out⟩, ints_on HBES.out (by omega) (by omega) HILAPBQ.out⟩, (HBES.out.cell (p := ⟨wLAP.heap.size, ki, none⟩) (by show wLAP.heap.size < _; omega) (by show wLAP.heap.size ≠ wL.heap.size; omega)).trans HKLAPBQ.out⟩ (fun hHeld => ?_)
                        clear hK K
                        try simp only [Act.put, List.setIfInBounds_toArray]
                        refine wpAnyH_done (by kernel_rfl) ?_ _
                        go_wp2_with fail
                        go_meet
                        case rel => exact ⟨wL.heap.size, nx, sk, rfl, HFILL, hnx, hsk, Lib.hid HEND.out.1, Lib.hid HEND.out.2, by omega⟩
                    case gLAPQ =>
                      go_simp
                      go_at_call 59
                      with_reducible refine (CP3.out _ HDLAP.out).mono ?_
                      rintro e wLAPQ ⟨⟨ki, hki, rfl⟩, hd, hb⟩
                      have hzLAPQ : wLAP.heap.size ≤ wLAPQ.heap.size := hb.size
                      have HDLAPQ := Lib.hid hd
                      have HBLAPQ := Lib.hid (HBLAP.out.trans hb)
                      have HLLAPQ := Lib.hid (show wLAPQ.cell? ⟨wd.heap.size, x, none⟩ = some (.string (labB (fr + j))) from (hb.cell (p := ⟨wd.heap.size, x, none⟩) (by show wd.heap.size < _; omega) (by show wd.heap.size ≠ g; omega)).trans HLLAP.out)
                      have HELAPQ := Lib.hid (show EBox wLAPQ wL.heap.size ⟨#[]⟩ 0 0 0 from (hb.block wL.heap.size (by omega) (by omega)).trans HELAP.out)
                      clear hd hb
                      refine hK.out _ _ ⟨trivial, HLLAPQ.out⟩ (fun hHeld => ?_)
                      clear hK K
                      try simp only [Act.put, List.setIfInBounds_toArray]
                      refine wpAnyH_ready (rs := [10]) (by kernel_rfl) (by simp) ?_
                      refine AllReadyH.cons (i := 10) (o := _) rfl (fun K hK => ?gLAPQB) (AllReadyH.nil)
                      case gLAPQB =>
                        go_simp
                        generalize hw : World.alloc wLAPQ _ = wLAPQB
                        have hb : Beside g wLAPQ wLAPQB := by rw [← hw]; exact Beside.of_below (tu1 wLAPQ _)
                        have hzLAPQB : wLAPQ.heap.size + 1 ≤ wLAPQB.heap.size := by rw [← hw]; simp
                        have HDLAPQB := Lib.hid (show Dice wLAPQB g by rw [← hw]; exact HDLAPQ.out.on (tu1 wLAPQ _))
                        have HBLAPQB := Lib.hid (HBLAPQ.out.trans hb)
                        have HLLAPQB := Lib.hid (show wLAPQB.cell? ⟨wd.heap.size, x, none⟩ = some (.string (labB (fr + j))) from (hb.cell (p := ⟨wd.heap.size, x, none⟩) (by show wd.heap.size < _; omega) (by show wd.heap.size ≠ g; omega)).trans HLLAPQ.out)
                        have HELAPQB := Lib.hid (show EBox wLAPQB wL.heap.size ⟨#[]⟩ 0 0 0 from (hb.block wL.heap.size (by omega) (by omega)).trans HELAPQ.out)
                        have HILAPQB := Lib.hid (show (wLAPQB.cell? ⟨wLAPQ.heap.size, 0, none⟩ = some (.int .i64 1) ∧ wLAPQB.cell? ⟨wLAPQ.heap.size, 1, none⟩ = some (.int .i64 0) ∧ wLAPQB.cell? ⟨wLAPQ.heap.size, 2, none⟩ = some (.int .i64 3)) by rw [← hw]; exact ints_cells wLAPQ)
                        clear hw hb
                        refine hK.out _ _ ⟨trivial, HLLAPQB.out⟩ (fun hHeld => ?_)
                        clear hK K
                        refine wpAnyH_more (S' := fun W => ((True ∧ W.cell? ⟨wd.heap.size, x, none⟩ = some (.string (labB (fr + j)))) ∧ (W.cell? ⟨wLAPQ.heap.size, 0, none⟩ = some (.int .i64 1) ∧ W.cell? ⟨wLAPQ.heap.size, 1, none⟩ = some (.int .i64 0) ∧ W.cell? ⟨wLAPQ.heap.size, 2, none⟩ = some (.int .i64 3)))) (fun _ h => h.1) _ _ _ _ ?_
                        replace hHeld := And.intro hHeld HILAPQB.out
                        obtain ⟨sk, hsk, hci⟩ := ints_at HILAPQB.out hki
                        have HKLAPQB := Lib.hid (show wLAPQB.cell? ⟨wLAPQ.heap.size, ki, none⟩ = some (.int .i64 sk) from hci)
                        have j3 : (ki : Int) < 3 := by omega
                        have j4 : (0 : Int) ≤ (ki : Int) := by omega
                        clear hci
                        refine wpAnyH_more (S' := fun W => (((True ∧ W.cell? ⟨wd.heap.size, x, none⟩ = some (.string (labB (fr + j)))) ∧ (W.cell? ⟨wLAPQ.heap.size, 0, none⟩ = some (.int .i64 1) ∧ W.cell? ⟨wLAPQ.heap.size, 1, none⟩ = some (.int .i64 0) ∧ W.cell? ⟨wLAPQ.heap.size, 2, none⟩ = some (.int .i64 3))) ∧ W.cell? ⟨wLAPQ.heap.size, ki, none⟩ = some (.int .i64 sk))) (fun _ h => h.1) _ _ _ _ ?_
                        replace hHeld := And.intro hHeld HKLAPQB.out
                        try simp only [Act.put, List.setIfInBounds_toArray]
                        refine' wpAnyH_take (i := 13) (v := _) rfl (by kernel_rfl) (by kernel_rfl) (by kernel_rfl) (fun _ _ _ h => h) (Or.inl ⟨by rfl, ?hyLAPQB13⟩) (by assumption) ?restLAPQB13
                        case hyLAPQB13 =>
                          intro W hSw
                          (try dsimp only at hSw)
                          first | (go_simp; done) | (go_simp; with_reducible rfl)
                        try simp only [Act.put]
                        refine' wpAnyH_take (i := 14) (v := _) rfl (by kernel_rfl) (by kernel_rfl) (by kernel_rfl) (fun _ _ _ h => h) (Or.inl ⟨by rfl, ?hyLAPQB14⟩) (by assumption) ?restLAPQB14
                        case hyLAPQB14 =>
                          intro W hSw
                          (try dsimp only at hSw)
                          first | (go_simp; done) | (go_simp; with_reducible rfl)
                        try simp only [Act.put]
                        refine' wpAnyH_take (i := 15) (v := _) rfl (by kernel_rfl) (by kernel_rfl) (by kernel_rfl) (fun _ _ _ h => h) (Or.inl ⟨by rfl, ?hyLAPQB15⟩) (by assumption) ?restLAPQB15
                        case hyLAPQB15 =>
                          intro W hSw
                          (try dsimp only at hSw)
                          first | (go_simp; done) | (go_simp; with_reducible rfl)
                        try simp only [Act.put]
                        refine' wpAnyH_take (i := 16) (v := _) rfl (by kernel_rfl) (by kernel_rfl) (by kernel_rfl) (fun _ _ _ h => h) (Or.inl ⟨by rfl, ?hyLAPQB16⟩) (by assumption) ?restLAPQB16
                        case hyLAPQB16 =>
                          intro W hSw
                          (try dsimp only at hSw)
                          first | (go_simp; done) | (go_simp; with_reducible rfl)
                        obtain ⟨ec0, ec1, ec2, ec3⟩ := HELAPQB.out.cells
                        have ef0 := HELAPQB.out.thaw 0
                        have ef1 := HELAPQB.out.thaw 1
                        have ef2 := HELAPQB.out.thaw 2
                        have ef3 := HELAPQB.out.thaw 3
                        have HFILL := Lib.hid (HELAPQB.out.fill (s' := labB (fr + j)) (a' := sk) (b' := 0) (c' := (nx : Int)))
                        have HBES := Lib.hid (show Beside wL.heap.size wLAPQB ((((wLAPQB.setCell ⟨wL.heap.size, 0, none⟩ (.string (labB (fr + j)))).setCell ⟨wL.heap.size, 1, none⟩ (.int .i64 sk)).setCell ⟨wL.heap.size, 2, none⟩ (.int .i64 0)).setCell ⟨wL.heap.size, 3, none⟩ (.int .i64 (nx : Int))) from ((((Beside.refl _ wLAPQB).setCell 0 _).setCell 1 _).setCell 2 _).setCell 3 _)
                        have HEND := Lib.hid (edge_end HELAPQB.out.lt HBLAPQB.out HDLAPQB.out HBES.out (by omega) hwg)
                        try simp only [Act.put, List.setIfInBounds_toArray]
                        refine wpAnyH_ready (rs := [18]) (by kernel_rfl) (by simp) ?_
                        refine AllReadyH.cons (i := 18) (o := _) rfl (fun K hK => ?_) AllReadyH.nil
                        go_simp
                        refine hK.out _ _ ⟨⟨⟨trivial, (HBES.out.cell (p := ⟨wd.heap.size, x, none⟩) (by show wd.heap.size < _; omega) (by show wd.heap.size ≠ wL.heap.size; omega)).trans HLLAPQB.out⟩, ints_on HBES.out (by omega) (by omega) HILAPQB.out⟩, (HBES.out.cell (p := ⟨wLAPQ.heap.size, ki, none⟩) (by show wLAPQ.heap.size < _; omega) (by show wLAPQ.heap.size ≠ wL.heap.size; omega)).trans HKLAPQB.out⟩ (fun hHeld => ?_)
                        clear hK K
                        try simp only [Act.put, List.setIfInBounds_toArray]
                        refine wpAnyH_done (by kernel_rfl) ?_ _
                        go_wp2_with fail
                        go_meet
                        case rel => exact ⟨wL.heap.size, nx, sk, rfl, HFILL, hnx, hsk, Lib.hid HEND.out.1, Lib.hid HEND.out.2, by omega⟩
                  case gLAB =>
                    go_simp
                    generalize hw : World.alloc wLA _ = wLAB
                    have hb : Beside g wLA wLAB := by rw [← hw]; exact Beside.of_below (tu1 wLA _)
                    have hzLAB : wLA.heap.size + 1 ≤ wLAB.heap.size := by rw [← hw]; simp
                    have HDLAB := Lib.hid (show Dice wLAB g by rw [← hw]; exact HDLA.out.on (tu1 wLA _))
                    have HBLAB := Lib.hid (HBLA.out.trans hb)
                    have HLLAB := Lib.hid (show wLAB.cell? ⟨wd.heap.size, x, none⟩ = some (.string (labB (fr + j))) from (hb.cell (p := ⟨wd.heap.size, x, none⟩) (by show wd.heap.size < _; omega) (by show wd.heap.size ≠ g; omega)).trans HLLA.out)
                    have HELAB := Lib.hid (show EBox wLAB wL.heap.size ⟨#[]⟩ 0 0 0 from (hb.block wL.heap.size (by omega) (by omega)).trans HELA.out)
                    have HILAB := Lib.hid (show (wLAB.cell? ⟨wLA.heap.size, 0, none⟩ = some (.int .i64 1) ∧ wLAB.cell? ⟨wLA.heap.size, 1, none⟩ = some (.int .i64 0) ∧ wLAB.cell? ⟨wLA.heap.size, 2, none⟩ = some (.int .i64 3)) by rw [← hw]; exact ints_cells wLA)
                    clear hw hb
                    refine hK.out _ _ ⟨trivial, HLLAB.out⟩ (fun hHeld => ?_)
                    clear hK K
                    refine wpAnyH_more (S' := fun W => ((True ∧ W.cell? ⟨wd.heap.size, x, none⟩ = some (.string (labB (fr + j)))) ∧ (W.cell? ⟨wLA.heap.size, 0, none⟩ = some (.int .i64 1) ∧ W.cell? ⟨wLA.heap.size, 1, none⟩ = some (.int .i64 0) ∧ W.cell? ⟨wLA.heap.size, 2, none⟩ = some (.int .i64 3)))) (fun _ h => h.1) _ _ _ _ ?_
                    replace hHeld := And.intro hHeld HILAB.out
                    try simp only [Act.put, List.setIfInBounds_toArray]
                    refine wpAnyH_ready (rs := [9]) (by kernel_rfl) (by simp) ?_
                    refine AllReadyH.cons (i := 9) (o := _) rfl (fun K hK => ?gLABP) (AllReadyH.nil)
                    case gLABP =>
                      go_simp
                      go_at_call 59
                      with_reducible refine (CPn.out _ HDLAB.out).mono ?_
                      rintro e wLABP ⟨⟨nx, hnx, rfl⟩, hd, hb⟩
                      have hzLABP : wLAB.heap.size ≤ wLABP.heap.size := hb.size
                      have HDLABP := Lib.hid hd
                      have HBLABP := Lib.hid (HBLAB.out.trans hb)
                      have HLLABP := Lib.hid (show wLABP.cell? ⟨wd.heap.size, x, none⟩ = some (.string (labB (fr + j))) from (hb.cell (p := ⟨wd.heap.size, x, none⟩) (by show wd.heap.size < _; omega) (by show wd.heap.size ≠ g; omega)).trans HLLAB.out)
                      have HILABP := Lib.hid (show (wLABP.cell? ⟨wLA.heap.size, 0, none⟩ = some (.int .i64 1) ∧ wLABP.cell? ⟨wLA.heap.size, 1, none⟩ = some (.int .i64 0) ∧ wLABP.cell? ⟨wLA.heap.size, 2, none⟩ = some (.int .i64 3)) from ints_on hb (by omega) (by omega) HILAB.out)
                      have HELABP := Lib.hid (show EBox wLABP wL.heap.size ⟨#[]⟩ 0 0 0 from (hb.block wL.heap.size (by omega) (by omega)).trans HELAB.out)
                      clear hd hb
                      refine hK.out _ _ ⟨⟨trivial, HLLABP.out⟩, HILABP.out⟩ (fun hHeld => ?_)
                      clear hK K
                      try simp only [Act.put, List.setIfInBounds_toArray]
                      refine wpAnyH_ready (rs := [12]) (by kernel_rfl) (by simp) ?_
                      refine AllReadyH.cons (i := 12) (o := _) rfl (fun K hK => ?gLABPQ) (AllReadyH.nil)
                      case gLABPQ =>
                        go_simp
                        go_at_call 59
                        with_reducible refine (CP3.out _ HDLABP.out).mono ?_
                        rintro e wLABPQ ⟨⟨ki, hki, rfl⟩, hd, hb⟩
                        have hzLABPQ : wLABP.heap.size ≤ wLABPQ.heap.size := hb.size
                        have HDLABPQ := Lib.hid hd
                        have HBLABPQ := Lib.hid (HBLABP.out.trans hb)
                        have HLLABPQ := Lib.hid (show wLABPQ.cell? ⟨wd.heap.size, x, none⟩ = some (.string (labB (fr + j))) from (hb.cell (p := ⟨wd.heap.size, x, none⟩) (by show wd.heap.size < _; omega) (by show wd.heap.size ≠ g; omega)).trans HLLABP.out)
                        have HILABPQ := Lib.hid (show (wLABPQ.cell? ⟨wLA.heap.size, 0, none⟩ = some (.int .i64 1) ∧ wLABPQ.cell? ⟨wLA.heap.size, 1, none⟩ = some (.int .i64 0) ∧ wLABPQ.cell? ⟨wLA.heap.size, 2, none⟩ = some (.int .i64 3)) from ints_on hb (by omega) (by omega) HILABP.out)
                        have HELABPQ := Lib.hid (show EBox wLABPQ wL.heap.size ⟨#[]⟩ 0 0 0 from (hb.block wL.heap.size (by omega) (by omega)).trans HELABP.out)
                        clear hd hb
                        refine hK.out _ _ ⟨⟨trivial, HLLABPQ.out⟩, HILABPQ.out⟩ (fun hHeld => ?_)
                        clear hK K
                        obtain ⟨sk, hsk, hci⟩ := ints_at HILABPQ.out hki
                        have HKLABPQ := Lib.hid (show wLABPQ.cell? ⟨wLA.heap.size, ki, none⟩ = some (.int .i64 sk) from hci)
                        have j3 : (ki : Int) < 3 := by omega
                        have j4 : (0 : Int) ≤ (ki : Int) := by omega
                        clear hci
                        refine wpAnyH_more (S' := fun W => (((True ∧ W.cell? ⟨wd.heap.size, x, none⟩ = some (.string (labB (fr + j)))) ∧ (W.cell? ⟨wLA.heap.size, 0, none⟩ = some (.int .i64 1) ∧ W.cell? ⟨wLA.heap.size, 1, none⟩ = some (.int .i64 0) ∧ W.cell? ⟨wLA.heap.size, 2, none⟩ = some (.int .i64 3))) ∧ W.cell? ⟨wLA.heap.size, ki, none⟩ = some (.int .i64 sk))) (fun _ h => h.1) _ _ _ _ ?_
                        replace hHeld := And.intro hHeld HKLABPQ.out
                        try simp only [Act.put, List.setIfInBounds_toArray]
                        refine' wpAnyH_take (i := 13) (v := _) rfl (by kernel_rfl) (by kernel_rfl) (by kernel_rfl) (fun _ _ _ h => h) (Or.inl ⟨by rfl, ?hyLABPQ13⟩) (by assumption) ?restLABPQ13
                        case hyLABPQ13 =>
                          intro W hSw
                          (try dsimp only at hSw)
                          first | (go_simp; done) | (go_simp; with_reducible rfl)
                        try simp only [Act.put]
                        refine' wpAnyH_take (i := 14) (v := _) rfl (by kernel_rfl) (by kernel_rfl) (by kernel_rfl) (fun _ _ _ h => h) (Or.inl ⟨by rfl, ?hyLABPQ14⟩) (by assumption) ?restLABPQ14
                        case hyLABPQ14 =>
                          intro W hSw
                          (try dsimp only at hSw)
                          first | (go_simp; done) | (go_simp; with_reducible rfl)
                        try simp only [Act.put]
                        refine' wpAnyH_take (i := 15) (v := _) rfl (by kernel_rfl) (by kernel_rfl) (by kernel_rfl) (fun _ _ _ h => h) (Or.inl ⟨by rfl, ?hyLABPQ15⟩) (by assumption) ?restLABPQ15
                        case hyLABPQ15 =>
                          intro W hSw
                          (try dsimp only at hSw)
                          first | (go_simp; done) | (go_simp; with_reducible rfl)
                        try simp only [Act.put]
                        refine' wpAnyH_take (i := 16) (v := _) rfl (by kernel_rfl) (by kernel_rfl) (by kernel_rfl) (fun _ _ _ h => h) (Or.inl ⟨by rfl, ?hyLABPQ16⟩) (by assumption) ?restLABPQ16
                        case hyLABPQ16 =>
                          intro W hSw
                          (try dsimp only at hSw)
                          first | (go_simp; done) | (go_simp; with_reducible rfl)
                        obtain ⟨ec0, ec1, ec2, ec3⟩ := HELABPQ.out.cells
                        have ef0 := HELABPQ.out.thaw 0
                        have ef1 := HELABPQ.out.thaw 1
                        have ef2 := HELABPQ.out.thaw 2
                        have ef3 := HELABPQ.out.thaw 3
                        have HFILL := Lib.hid (HELABPQ.out.fill (s' := labB (fr + j)) (a' := sk) (b' := 0) (c' := (nx : Int)))
                        have HBES := Lib.hid (show Beside wL.heap.size wLABPQ ((((wLABPQ.setCell ⟨wL.heap.size, 0, none⟩ (.string (labB (fr + j)))).setCell ⟨wL.heap.size, 1, none⟩ (.int .i64 sk)).setCell ⟨wL.heap.size, 2, none⟩ (.int .i64 0)).setCell ⟨wL.heap.size, 3, none⟩ (.int .i64 (nx : Int))) from ((((Beside.refl _ wLABPQ).setCell 0 _).setCell 1 _).setCell 2 _).setCell 3 _)
                        have HEND := Lib.hid (edge_end HELABPQ.out.lt HBLABPQ.out HDLABPQ.out HBES.out (by omega) hwg)
                        try simp only [Act.put, List.setIfInBounds_toArray]
                        refine wpAnyH_ready (rs := [18]) (by kernel_rfl) (by simp) ?_
                        refine AllReadyH.cons (i := 18) (o := _) rfl (fun K hK => ?_) AllReadyH.nil
                        go_simp
                        refine hK.out _ _ ⟨⟨⟨trivial, (HBES.out.cell (p := ⟨wd.heap.size, x, none⟩) (by show wd.heap.size < _; omega) (by show wd.heap.size ≠ wL.heap.size; omega)).trans HLLABPQ.out⟩, ints_on HBES.out (by omega) (by omega) HILABPQ.out⟩, (HBES.out.cell (p := ⟨wLA.heap.size, ki, none⟩) (by show wLA.heap.size < _; omega) (by show wLA.heap.size ≠ wL.heap.size; omega)).trans HKLABPQ.out⟩ (fun hHeld => ?_)
                        clear hK K
                        try simp only [Act.put, List.setIfInBounds_toArray]
                        refine wpAnyH_done (by kernel_rfl) ?_ _
                        go_wp2_with fail
                        go_meet
                        case rel => exact ⟨wL.heap.size, nx, sk, rfl, HFILL, hnx, hsk, Lib.hid HEND.out.1, Lib.hid HEND.out.2, by omega⟩
              case gB =>
                go_simp
                generalize hw : World.alloc wd _ = wB
                have hb : Beside g wd wB := by rw [← hw]; exact Beside.of_below (tu1 wd _)
                have hzB : wd.heap.size + 1 ≤ wB.heap.size := by rw [← hw]; simp
                have HDB := Lib.hid (show Dice wB g by rw [← hw]; exact HD.out.on (tu1 wd _))
                have HBB := Lib.hid (HB.out.trans hb)
                have HIB := Lib.hid (show (wB.cell? ⟨wd.heap.size, 0, none⟩ = some (.int .i64 1) ∧ wB.cell? ⟨wd.heap.size, 1, none⟩ = some (.int .i64 0) ∧ wB.cell? ⟨wd.heap.size, 2, none⟩ = some (.int .i64 3)) by rw [← hw]; exact ints_cells wd)
                clear hw hb
                refine hK.out _ _ trivial (fun hHeld => ?_)
                clear hK K
                refine wpAnyH_more (S' := fun W => (True ∧ (W.cell? ⟨wd.heap.size, 0, none⟩ = some (.int .i64 1) ∧ W.cell? ⟨wd.heap.size, 1, none⟩ = some (.int .i64 0) ∧ W.cell? ⟨wd.heap.size, 2, none⟩ = some (.int .i64 3)))) (fun _ h => h.1) _ _ _ _ ?_
                replace hHeld := And.intro hHeld HIB.out
                try simp only [Act.put, List.setIfInBounds_toArray]
                refine wpAnyH_ready (rs := [0, 17]) (by kernel_rfl) (by simp) ?_
                refine AllReadyH.cons (i := 0) (o := _) rfl (fun K hK => ?gBL) (AllReadyH.cons (i := 17) (o := _) rfl (fun K hK => ?gBA) (AllReadyH.nil))
                case gBL =>
                  go_simp
                  go_at_call 61
                  with_reducible refine (labels_any wB).mono ?_
                  rintro e wBL ⟨rfl, hw⟩
                  have hb : Beside g wB wBL := by rw [hw]; exact Beside.of_below (tu1 wB _)
                  have hzBL : wB.heap.size + 1 ≤ wBL.heap.size := by rw [hw]; simp
                  have HDBL := Lib.hid (show Dice wBL g by rw [hw]; exact HDB.out.on (tu1 wB _))
                  have HBBL := Lib.hid (HBB.out.trans hb)
                  have HIBL := Lib.hid (show (wBL.cell? ⟨wd.heap.size, 0, none⟩ = some (.int .i64 1) ∧ wBL.cell? ⟨wd.heap.size, 1, none⟩ = some (.int .i64 0) ∧ wBL.cell? ⟨wd.heap.size, 2, none⟩ = some (.int .i64 3)) from ints_on hb (by omega) (by omega) HIB.out)
                  have HLBL := Lib.hid (show wBL.cell? ⟨wB.heap.size, x, none⟩ = some (.string (labB (fr + j))) by rw [hw]; exact HLC.out wB)
                  clear hw hb
                  refine hK.out _ _ ⟨trivial, HIBL.out⟩ (fun hHeld => ?_)
                  clear hK K
                  refine wpAnyH_more (S' := fun W => ((True ∧ (W.cell? ⟨wd.heap.size, 0, none⟩ = some (.int .i64 1) ∧ W.cell? ⟨wd.heap.size, 1, none⟩ = some (.int .i64 0) ∧ W.cell? ⟨wd.heap.size, 2, none⟩ = some (.int .i64 3))) ∧ W.cell? ⟨wB.heap.size, x, none⟩ = some (.string (labB (fr + j))))) (fun _ h => h.1) _ _ _ _ ?_
                  replace hHeld := And.intro hHeld HLBL.out
                  try simp only [Act.put, List.setIfInBounds_toArray]
                  refine' wpAnyH_take (i := 5) (v := _) rfl (by kernel_rfl) (by kernel_rfl) (by kernel_rfl) (fun _ _ _ h => h) (Or.inl ⟨by rfl, ?hyBL5⟩) (by assumption) ?restBL5
                  case hyBL5 =>
                    intro W hSw
                    (try dsimp only at hSw)
                    first | (go_simp; done) | (go_simp; with_reducible rfl)
                  try simp only [Act.put]
                  refine' wpAnyH_take (i := 6) (v := _) rfl (by kernel_rfl) (by kernel_rfl) (by kernel_rfl) (fun _ _ _ h => h) (Or.inl ⟨by rfl, ?hyBL6⟩) (by assumption) ?restBL6
                  case hyBL6 =>
                    intro W hSw
                    (try dsimp only at hSw)
                    first | (go_simp; done) | (go_simp; with_reducible rfl)
                  try simp only [Act.put, List.setIfInBounds_toArray]
                  refine wpAnyH_ready (rs := [9, 17]) (by kernel_rfl) (by simp) ?_
                  refine AllReadyH.cons (i := 9) (o := _) rfl (fun K hK => ?gBLP) (AllReadyH.cons (i := 17) (o := _) rfl (fun K hK => ?gBLA) (AllReadyH.nil))
                  case gBLP =>
                    go_simp
                    go_at_call 59
                    with_reducible refine (CPn.out _ HDBL.out).mono ?_
                    rintro e wBLP ⟨⟨nx, hnx, rfl⟩, hd, hb⟩
                    have hzBLP : wBL.heap.size ≤ wBLP.heap.size := hb.size
                    have HDBLP := Lib.hid hd
                    have HBBLP := Lib.hid (HBBL.out.trans hb)
                    have HIBLP := Lib.hid (show (wBLP.cell? ⟨wd.heap.size, 0, none⟩ = some (.int .i64 1) ∧ wBLP.cell? ⟨wd.heap.size, 1, none⟩ = some (.int .i64 0) ∧ wBLP.cell? ⟨wd.heap.size, 2, none⟩ = some (.int .i64 3)) from ints_on hb (by omega) (by omega) HIBL.out)
                    have HLBLP := Lib.hid (show wBLP.cell? ⟨wB.heap.size, x, none⟩ = some (.string (labB (fr + j))) from (hb.cell (p := ⟨wB.heap.size, x, none⟩) (by show wB.heap.size < _; omega) (by show wB.heap.size ≠ g; omega)).trans HLBL.out)
                    clear hd hb
                    refine hK.out _ _ ⟨⟨trivial, HIBLP.out⟩, HLBLP.out⟩ (fun hHeld => ?_)
                    clear hK K
                    try simp only [Act.put, List.setIfInBounds_toArray]
                    refine wpAnyH_ready (rs := [12, 17]) (by kernel_rfl) (by simp) ?_
                    refine AllReadyH.cons (i := 12) (o := _) rfl (fun K hK => ?gBLPQ) (AllReadyH.cons (i := 17) (o := _) rfl (fun K hK => ?gBLPA) (AllReadyH.nil))
                    case gBLPQ =>
                      go_simp
                      go_at_call 59
                      with_reducible refine (CP3.out _ HDBLP.out).mono ?_
                      rintro e wBLPQ ⟨⟨ki, hki, rfl⟩, hd, hb⟩
                      have hzBLPQ : wBLP.heap.size ≤ wBLPQ.heap.size := hb.size
                      have HDBLPQ := Lib.hid hd
                      have HBBLPQ := Lib.hid (HBBLP.out.trans hb)
                      have HIBLPQ := Lib.hid (show (wBLPQ.cell? ⟨wd.heap.size, 0, none⟩ = some (.int .i64 1) ∧ wBLPQ.cell? ⟨wd.heap.size, 1, none⟩ = some (.int .i64 0) ∧ wBLPQ.cell? ⟨wd.heap.size, 2, none⟩ = some (.int .i64 3)) from ints_on hb (by omega) (by omega) HIBLP.out)
                      have HLBLPQ := Lib.hid (show wBLPQ.cell? ⟨wB.heap.size, x, none⟩ = some (.string (labB (fr + j))) from (hb.cell (p := ⟨wB.heap.size, x, none⟩) (by show wB.heap.size < _; omega) (by show wB.heap.size ≠ g; omega)).trans HLBLP.out)
                      clear hd hb
                      refine hK.out _ _ ⟨⟨trivial, HIBLPQ.out⟩, HLBLPQ.out⟩ (fun hHeld => ?_)
                      clear hK K
                      obtain ⟨sk, hsk, hci⟩ := ints_at HIBLPQ.out hki
                      have HKBLPQ := Lib.hid (show wBLPQ.cell? ⟨wd.heap.size, ki, none⟩ = some (.int .i64 sk) from hci)
                      have j3 : (ki : Int) < 3 := by omega
                      have j4 : (0 : Int) ≤ (ki : Int) := by omega
                      clear hci
                      refine wpAnyH_more (S' := fun W => (((True ∧ (W.cell? ⟨wd.heap.size, 0, none⟩ = some (.int .i64 1) ∧ W.cell? ⟨wd.heap.size, 1, none⟩ = some (.int .i64 0) ∧ W.cell? ⟨wd.heap.size, 2, none⟩ = some (.int .i64 3))) ∧ W.cell? ⟨wB.heap.size, x, none⟩ = some (.string (labB (fr + j)))) ∧ W.cell? ⟨wd.heap.size, ki, none⟩ = some (.int .i64 sk))) (fun _ h => h.1) _ _ _ _ ?_
                      replace hHeld := And.intro hHeld HKBLPQ.out
                      try simp only [Act.put, List.setIfInBounds_toArray]
                      refine' wpAnyH_take (i := 13) (v := _) rfl (by kernel_rfl) (by kernel_rfl) (by kernel_rfl) (fun _ _ _ h => h) (Or.inl ⟨by rfl, ?hyBLPQ13⟩) (by assumption) ?restBLPQ13
                      case hyBLPQ13 =>
                        intro W hSw
                        (try dsimp only at hSw)
                        first | (go_simp; done) | (go_simp; with_reducible rfl)
                      try simp only [Act.put]
                      refine' wpAnyH_take (i := 14) (v := _) rfl (by kernel_rfl) (by kernel_rfl) (by kernel_rfl) (fun _ _ _ h => h) (Or.inl ⟨by rfl, ?hyBLPQ14⟩) (by assumption) ?restBLPQ14
                      case hyBLPQ14 =>
                        intro W hSw
                        (try dsimp only at hSw)
                        first | (go_simp; done) | (go_simp; with_reducible rfl)
                      try simp only [Act.put]
                      refine' wpAnyH_take (i := 15) (v := _) rfl (by kernel_rfl) (by kernel_rfl) (by kernel_rfl) (fun _ _ _ h => h) (Or.inl ⟨by rfl, ?hyBLPQ15⟩) (by assumption) ?restBLPQ15
                      case hyBLPQ15 =>
                        intro W hSw
                        (try dsimp only at hSw)
                        first | (go_simp; done) | (go_simp; with_reducible rfl)
                      try simp only [Act.put]
                      refine' wpAnyH_take (i := 16) (v := _) rfl (by kernel_rfl) (by kernel_rfl) (by kernel_rfl) (fun _ _ _ h => h) (Or.inl ⟨by rfl, ?hyBLPQ16⟩) (by assumption) ?restBLPQ16
                      case hyBLPQ16 =>
                        intro W hSw
                        (try dsimp only at hSw)
                        first | (go_simp; done) | (go_simp; with_reducible rfl)
                      try simp only [Act.put, List.setIfInBounds_toArray]
                      refine wpAnyH_ready (rs := [17]) (by kernel_rfl) (by simp) ?_
                      refine AllReadyH.cons (i := 17) (o := _) rfl (fun K hK => ?gBLPQA) (AllReadyH.nil)
                      case gBLPQA =>
                        go_simp
                        generalize hw : World.alloc wBLPQ _ = wBLPQA
                        have hb : Beside g wBLPQ wBLPQA := by rw [← hw]; exact Beside.of_below (tu1 wBLPQ _)
                        have hzBLPQA : wBLPQ.heap.size + 1 ≤ wBLPQA.heap.size := by rw [← hw]; simp
                        have HDBLPQA := Lib.hid (show Dice wBLPQA g by rw [← hw]; exact HDBLPQ.out.on (tu1 wBLPQ _))
                        have HBBLPQA := Lib.hid (HBBLPQ.out.trans hb)
                        have HIBLPQA := Lib.hid (show (wBLPQA.cell? ⟨wd.heap.size, 0, none⟩ = some (.int .i64 1) ∧ wBLPQA.cell? ⟨wd.heap.size, 1, none⟩ = some (.int .i64 0) ∧ wBLPQA.cell? ⟨wd.heap.size, 2, none⟩ = some (.int .i64 3)) from ints_on hb (by omega) (by omega) HIBLPQ.out)
                        have HLBLPQA := Lib.hid (show wBLPQA.cell? ⟨wB.heap.size, x, none⟩ = some (.string (labB (fr + j))) from (hb.cell (p := ⟨wB.heap.size, x, none⟩) (by show wB.heap.size < _; omega) (by show wB.heap.size ≠ g; omega)).trans HLBLPQ.out)
                        have HKBLPQA := Lib.hid (show wBLPQA.cell? ⟨wd.heap.size, ki, none⟩ = some (.int .i64 sk) from (hb.cell (p := ⟨wd.heap.size, ki, none⟩) (by show wd.heap.size < _; omega) (by show wd.heap.size ≠ g; omega)).trans HKBLPQ.out)
                        have HEBLPQA := Lib.hid (show EBox wBLPQA wBLPQ.heap.size ⟨#[]⟩ 0 0 0 by rw [← hw]; exact heap_alloc_new wBLPQ _)
                        clear hw hb
                        refine hK.out _ _ ⟨⟨⟨trivial, HIBLPQA.out⟩, HLBLPQA.out⟩, HKBLPQA.out⟩ (fun hHeld => ?_)
                        clear hK K
                        obtain ⟨ec0, ec1, ec2, ec3⟩ := HEBLPQA.out.cells
                        have ef0 := HEBLPQA.out.thaw 0
                        have ef1 := HEBLPQA.out.thaw 1
                        have ef2 := HEBLPQA.out.thaw 2
                        have ef3 := HEBLPQA.out.thaw 3
                        have HFILL := Lib.hid (HEBLPQA.out.fill (s' := labB (fr + j)) (a' := sk) (b' := 0) (c' := (nx : Int)))
                        have HBES := Lib.hid (show Beside wBLPQ.heap.size wBLPQA ((((wBLPQA.setCell ⟨wBLPQ.heap.size, 0, none⟩ (.string (labB (fr + j)))).setCell ⟨wBLPQ.heap.size, 1, none⟩ (.int .i64 sk)).setCell ⟨wBLPQ.heap.size, 2, none⟩ (.int .i64 0)).setCell ⟨wBLPQ.heap.size, 3, none⟩ (.int .i64 (nx : Int))) from ((((Beside.refl _ wBLPQA).setCell 0 _).setCell 1 _).setCell 2 _).setCell 3 _)
                        have HEND := Lib.hid (edge_end HEBLPQA.out.lt HBBLPQA.out HDBLPQA.out HBES.out (by omega) hwg)
                        try simp only [Act.put, List.setIfInBounds_toArray]
                        refine wpAnyH_ready (rs := [18]) (by kernel_rfl) (by simp) ?_
                        refine AllReadyH.cons (i := 18) (o := _) rfl (fun K hK => ?_) AllReadyH.nil
                        go_simp
                        refine hK.out _ _ ⟨⟨⟨trivial, ints_on HBES.out (by omega) (by omega) HIBLPQA.out⟩, (HBES.out.cell (p := ⟨wB.heap.size, x, none⟩) (by show wB.heap.size < _; omega) (by show wB.heap.size ≠ wBLPQ.heap.size; omega)).trans HLBLPQA.out⟩, (HBES.out.cell (p := ⟨wd.heap.size, ki, none⟩) (by show wd.heap.size < _; omega) (by show wd.heap.size ≠ wBLPQ.heap.size; omega)).trans HKBLPQA.out⟩ (fun hHeld => ?_)
                        clear hK K
                        try simp only [Act.put, List.setIfInBounds_toArray]
                        refine wpAnyH_done (by kernel_rfl) ?_ _
                        go_wp2_with fail
                        go_meet
                        case rel => exact ⟨wBLPQ.heap.size, nx, sk, rfl, HFILL, hnx, hsk, Lib.hid HEND.out.1, Lib.hid HEND.out.2, by omega⟩
                    case gBLPA =>
                      go_simp
                      generalize hw : World.alloc wBLP _ = wBLPA
                      have hb : Beside g wBLP wBLPA := by rw [← hw]; exact Beside.of_below (tu1 wBLP _)
                      have hzBLPA : wBLP.heap.size + 1 ≤ wBLPA.heap.size := by rw [← hw]; simp
                      have HDBLPA := Lib.hid (show Dice wBLPA g by rw [← hw]; exact HDBLP.out.on (tu1 wBLP _))
                      have HBBLPA := Lib.hid (HBBLP.out.trans hb)
                      have HIBLPA := Lib.hid (show (wBLPA.cell? ⟨wd.heap.size, 0, none⟩ = some (.int .i64 1) ∧ wBLPA.cell? ⟨wd.heap.size, 1, none⟩ = some (.int .i64 0) ∧ wBLPA.cell? ⟨wd.heap.size, 2, none⟩ = some (.int .i64 3)) from ints_on hb (by omega) (by omega) HIBLP.out)
                      have HLBLPA := Lib.hid (show wBLPA.cell? ⟨wB.heap.size, x, none⟩ = some (.string (labB (fr + j))) from (hb.cell (p := ⟨wB.heap.size, x, none⟩) (by show wB.heap.size < _; omega) (by show wB.heap.size ≠ g; omega)).trans HLBLP.out)
                      have HEBLPA := Lib.hid (show EBox wBLPA wBLP.heap.size ⟨#[]⟩ 0 0 0 by rw [← hw]; exact heap_alloc_new wBLP _)
                      clear hw hb
                      refine hK.out _ _ ⟨⟨trivial, HIBLPA.out⟩, HLBLPA.out⟩ (fun hHeld => ?_)
                      clear hK K
                      try simp only [Act.put, List.setIfInBounds_toArray]
                      refine wpAnyH_ready (rs := [12]) (by kernel_rfl) (by simp) ?_
                      refine AllReadyH.cons (i := 12) (o := _) rfl (fun K hK => ?gBLPAQ) (AllReadyH.nil)
                      case gBLPAQ =>
                        go_simp
                        go_at_call 59
                        with_reducible refine (CP3.out _ HDBLPA.out).mono ?_
                        rintro e wBLPAQ ⟨⟨ki, hki, rfl⟩, hd, hb⟩
                        have hzBLPAQ : wBLPA.heap.size ≤ wBLPAQ.heap.size := hb.size
                        have HDBLPAQ := Lib.hid hd
                        have HBBLPAQ := Lib.hid (HBBLPA.out.trans hb)
                        have HIBLPAQ := Lib.hid (show (wBLPAQ.cell? ⟨wd.heap.size, 0, none⟩ = some (.int .i64 1) ∧ wBLPAQ.cell? ⟨wd.heap.size, 1, none⟩ = some (.int .i64 0) ∧ wBLPAQ.cell? ⟨wd.heap.size, 2, none⟩ = some (.int .i64 3)) from ints_on hb (by omega) (by omega) HIBLPA.out)
                        have HLBLPAQ := Lib.hid (show wBLPAQ.cell? ⟨wB.heap.size, x, none⟩ = some (.string (labB (fr + j))) from (hb.cell (p := ⟨wB.heap.size, x, none⟩) (by show wB.heap.size < _; omega) (by show wB.heap.size ≠ g; omega)).trans HLBLPA.out)
                        have HEBLPAQ := Lib.hid (show EBox wBLPAQ wBLP.heap.size ⟨#[]⟩ 0 0 0 from (hb.block wBLP.heap.size (by omega) (by omega)).trans HEBLPA.out)
                        clear hd hb
                        refine hK.out _ _ ⟨⟨trivial, HIBLPAQ.out⟩, HLBLPAQ.out⟩ (fun hHeld => ?_)
                        clear hK K
                        obtain ⟨sk, hsk, hci⟩ := ints_at HIBLPAQ.out hki
                        have HKBLPAQ := Lib.hid (show wBLPAQ.cell? ⟨wd.heap.size, ki, none⟩ = some (.int .i64 sk) from hci)
                        have j3 : (ki : Int) < 3 := by omega
                        have j4 : (0 : Int) ≤ (ki : Int) := by omega
                        clear hci
                        refine wpAnyH_more (S' := fun W => (((True ∧ (W.cell? ⟨wd.heap.size, 0, none⟩ = some (.int .i64 1) ∧ W.cell? ⟨wd.heap.size, 1, none⟩ = some (.int .i64 0) ∧ W.cell? ⟨wd.heap.size, 2, none⟩ = some (.int .i64 3))) ∧ W.cell? ⟨wB.heap.size, x, none⟩ = some (.string (labB (fr + j)))) ∧ W.cell? ⟨wd.heap.size, ki, none⟩ = some (.int .i64 sk))) (fun _ h => h.1) _ _ _ _ ?_
                        replace hHeld := And.intro hHeld HKBLPAQ.out
                        try simp only [Act.put, List.setIfInBounds_toArray]
                        refine' wpAnyH_take (i := 13) (v := _) rfl (by kernel_rfl) (by kernel_rfl) (by kernel_rfl) (fun _ _ _ h => h) (Or.inl ⟨by rfl, ?hyBLPAQ13⟩) (by assumption) ?restBLPAQ13
                        case hyBLPAQ13 =>
                          intro W hSw
                          (try dsimp only at hSw)
                          first | (go_simp; done) | (go_simp; with_reducible rfl)
                        try simp only [Act.put]
                        refine' wpAnyH_take (i := 14) (v := _) rfl (by kernel_rfl) (by kernel_rfl) (by kernel_rfl) (fun _ _ _ h => h) (Or.inl ⟨by rfl, ?hyBLPAQ14⟩) (by assumption) ?restBLPAQ14
                        case hyBLPAQ14 =>
                          intro W hSw
                          (try dsimp only at hSw)
                          first | (go_simp; done) | (go_simp; with_reducible rfl)
                        try simp only [Act.put]
                        refine' wpAnyH_take (i := 15) (v := _) rfl (by kernel_rfl) (by kernel_rfl) (by kernel_rfl) (fun _ _ _ h => h) (Or.inl ⟨by rfl, ?hyBLPAQ15⟩) (by assumption) ?restBLPAQ15
                        case hyBLPAQ15 =>
                          intro W hSw
                          (try dsimp only at hSw)
                          first | (go_simp; done) | (go_simp; with_reducible rfl)
                        try simp only [Act.put]
                        refine' wpAnyH_take (i := 16) (v := _) rfl (by kernel_rfl) (by kernel_rfl) (by kernel_rfl) (fun _ _ _ h => h) (Or.inl ⟨by rfl, ?hyBLPAQ16⟩) (by assumption) ?restBLPAQ16
                        case hyBLPAQ16 =>
                          intro W hSw
                          (try dsimp only at hSw)
                          first | (go_simp; done) | (go_simp; with_reducible rfl)
                        obtain ⟨ec0, ec1, ec2, ec3⟩ := HEBLPAQ.out.cells
                        have ef0 := HEBLPAQ.out.thaw 0
                        have ef1 := HEBLPAQ.out.thaw 1
                        have ef2 := HEBLPAQ.out.thaw 2
                        have ef3 := HEBLPAQ.out.thaw 3
                        have HFILL := Lib.hid (HEBLPAQ.out.fill (s' := labB (fr + j)) (a' := sk) (b' := 0) (c' := (nx : Int)))
                        have HBES := Lib.hid (show Beside wBLP.heap.size wBLPAQ ((((wBLPAQ.setCell ⟨wBLP.heap.size, 0, none⟩ (.string (labB (fr + j)))).setCell ⟨wBLP.heap.size, 1, none⟩ (.int .i64 sk)).setCell ⟨wBLP.heap.size, 2, none⟩ (.int .i64 0)).setCell ⟨wBLP.heap.size, 3, none⟩ (.int .i64 (nx : Int))) from ((((Beside.refl _ wBLPAQ).setCell 0 _).setCell 1 _).setCell 2 _).setCell 3 _)
                        have HEND := Lib.hid (edge_end HEBLPAQ.out.lt HBBLPAQ.out HDBLPAQ.out HBES.out (by omega) hwg)
                        try simp only [Act.put, List.setIfInBounds_toArray]
                        refine wpAnyH_ready (rs := [18]) (by kernel_rfl) (by simp) ?_
                        refine AllReadyH.cons (i := 18) (o := _) rfl (fun K hK => ?_) AllReadyH.nil
                        go_simp
                        refine hK.out _ _ ⟨⟨⟨trivial, ints_on HBES.out (by omega) (by omega) HIBLPAQ.out⟩, (HBES.out.cell (p := ⟨wB.heap.size, x, none⟩) (by show wB.heap.size < _; omega) (by show wB.heap.size ≠ wBLP.heap.size; omega)).trans HLBLPAQ.out⟩, (HBES.out.cell (p := ⟨wd.heap.size, ki, none⟩) (by show wd.heap.size < _; omega) (by show wd.heap.size ≠ wBLP.heap.size; omega)).trans HKBLPAQ.out⟩ (fun hHeld => ?_)
                        clear hK K
                        try simp only [Act.put, List.setIfInBounds_toArray]
                        refine wpAnyH_done (by kernel_rfl) ?_ _
                        go_wp2_with fail
                        go_meet
                        case rel => exact ⟨wBLP.heap.size, nx, sk, rfl, HFILL, hnx, hsk, Lib.hid HEND.out.1, Lib.hid HEND.out.2, by omega⟩
                  case gBLA =>
                    go_simp
                    generalize hw : World.alloc wBL _ = wBLA
                    have hb : Beside g wBL wBLA := by rw [← hw]; exact Beside.of_below (tu1 wBL _)
                    have hzBLA : wBL.heap.size + 1 ≤ wBLA.heap.size := by rw [← hw]; simp
                    have HDBLA := Lib.hid (show Dice wBLA g by rw [← hw]; exact HDBL.out.on (tu1 wBL _))
                    have HBBLA := Lib.hid (HBBL.out.trans hb)
                    have HIBLA := Lib.hid (show (wBLA.cell? ⟨wd.heap.size, 0, none⟩ = some (.int .i64 1) ∧ wBLA.cell? ⟨wd.heap.size, 1, none⟩ = some (.int .i64 0) ∧ wBLA.cell? ⟨wd.heap.size, 2, none⟩ = some (.int .i64 3)) from ints_on hb (by omega) (by omega) HIBL.out)
                    have HLBLA := Lib.hid (show wBLA.cell? ⟨wB.heap.size, x, none⟩ = some (.string (labB (fr + j))) from (hb.cell (p := ⟨wB.heap.size, x, none⟩) (by show wB.heap.size < _; omega) (by show wB.heap.size ≠ g; omega)).trans HLBL.out)
                    have HEBLA := Lib.hid (show EBox wBLA wBL.heap.size ⟨#[]⟩ 0 0 0 by rw [← hw]; exact heap_alloc_new wBL _)
                    clear hw hb
                    refine hK.out _ _ ⟨⟨trivial, HIBLA.out⟩, HLBLA.out⟩ (fun hHeld => ?_)
                    clear hK K
                    try simp only [Act.put, List.setIfInBounds_toArray]
                    refine wpAnyH_ready (rs := [9]) (by kernel_rfl) (by simp) ?_
                    refine AllReadyH.cons (i := 9) (o := _) rfl (fun K hK => ?gBLAP) (AllReadyH.nil)
                    case gBLAP =>
                      go_simp
                      go_at_call 59
                      with_reducible refine (CPn.out _ HDBLA.out).mono ?_
                      rintro e wBLAP ⟨⟨nx, hnx, rfl⟩, hd, hb⟩
                      have hzBLAP : wBLA.heap.size ≤ wBLAP.heap.size := hb.size
                      have HDBLAP := Lib.hid hd
                      have HBBLAP := Lib.hid (HBBLA.out.trans hb)
                      have HIBLAP := Lib.hid (show (wBLAP.cell? ⟨wd.heap.size, 0, none⟩ = some (.int .i64 1) ∧ wBLAP.cell? ⟨wd.heap.size, 1, none⟩ = some (.int .i64 0) ∧ wBLAP.cell? ⟨wd.heap.size, 2, none⟩ = some (.int .i64 3)) from ints_on hb (by omega) (by omega) HIBLA.out)
                      have HLBLAP := Lib.hid (show wBLAP.cell? ⟨wB.heap.size, x, none⟩ = some (.string (labB (fr + j))) from (hb.cell (p := ⟨wB.heap.size, x, none⟩) (by show wB.heap.size < _; omega) (by show wB.heap.size ≠ g; omega)).trans HLBLA.out)
                      have HEBLAP := Lib.hid (show EBox wBLAP wBL.heap.size ⟨#[]⟩ 0 0 0 from (hb.block wBL.heap.size (by omega) (by omega)).trans HEBLA.out)
                      clear hd hb
                      refine hK.out _ _ ⟨⟨trivial, HIBLAP.out⟩, HLBLAP.out⟩ (fun hHeld => ?_)
                      clear hK K
                      try simp only [Act.put, List.setIfInBounds_toArray]
                      refine wpAnyH_ready (rs := [12]) (by kernel_rfl) (by simp) ?_
                      refine AllReadyH.cons (i := 12) (o := _) rfl (fun K hK => ?gBLAPQ) (AllReadyH.nil)
                      case gBLAPQ =>
                        go_simp
                        go_at_call 59
                        with_reducible refine (CP3.out _ HDBLAP.out).mono ?_
                        rintro e wBLAPQ ⟨⟨ki, hki, rfl⟩, hd, hb⟩
                        have hzBLAPQ : wBLAP.heap.size ≤ wBLAPQ.heap.size := hb.size
                        have HDBLAPQ := Lib.hid hd
                        have HBBLAPQ := Lib.hid (HBBLAP.out.trans hb)
                        have HIBLAPQ := Lib.hid (show (wBLAPQ.cell? ⟨wd.heap.size, 0, none⟩ = some (.int .i64 1) ∧ wBLAPQ.cell? ⟨wd.heap.size, 1, none⟩ = some (.int .i64 0) ∧ wBLAPQ.cell? ⟨wd.heap.size, 2, none⟩ = some (.int .i64 3)) from ints_on hb (by omega) (by omega) HIBLAP.out)
                        have HLBLAPQ := Lib.hid (show wBLAPQ.cell? ⟨wB.heap.size, x, none⟩ = some (.string (labB (fr + j))) from (hb.cell (p := ⟨wB.heap.size, x, none⟩) (by show wB.heap.size < _; omega) (by show wB.heap.size ≠ g; omega)).trans HLBLAP.out)
                        have HEBLAPQ := Lib.hid (show EBox wBLAPQ wBL.heap.size ⟨#[]⟩ 0 0 0 from (hb.block wBL.heap.size (by omega) (by omega)).trans HEBLAP.out)
                        clear hd hb
                        refine hK.out _ _ ⟨⟨trivial, HIBLAPQ.out⟩, HLBLAPQ.out⟩ (fun hHeld => ?_)
                        clear hK K
                        obtain ⟨sk, hsk, hci⟩ := ints_at HIBLAPQ.out hki
                        have HKBLAPQ := Lib.hid (show wBLAPQ.cell? ⟨wd.heap.size, ki, none⟩ = some (.int .i64 sk) from hci)
                        have j3 : (ki : Int) < 3 := by omega
                        have j4 : (0 : Int) ≤ (ki : Int) := by omega
                        clear hci
                        refine wpAnyH_more (S' := fun W => (((True ∧ (W.cell? ⟨wd.heap.size, 0, none⟩ = some (.int .i64 1) ∧ W.cell? ⟨wd.heap.size, 1, none⟩ = some (.int .i64 0) ∧ W.cell? ⟨wd.heap.size, 2, none⟩ = some (.int .i64 3))) ∧ W.cell? ⟨wB.heap.size, x, none⟩ = some (.string (labB (fr + j)))) ∧ W.cell? ⟨wd.heap.size, ki, none⟩ = some (.int .i64 sk))) (fun _ h => h.1) _ _ _ _ ?_
                        replace hHeld := And.intro hHeld HKBLAPQ.out
                        try simp only [Act.put, List.setIfInBounds_toArray]
                        refine' wpAnyH_take (i := 13) (v := _) rfl (by kernel_rfl) (by kernel_rfl) (by kernel_rfl) (fun _ _ _ h => h) (Or.inl ⟨by rfl, ?hyBLAPQ13⟩) (by assumption) ?restBLAPQ13
                        case hyBLAPQ13 =>
                          intro W hSw
                          (try dsimp only at hSw)
                          first | (go_simp; done) | (go_simp; with_reducible rfl)
                        try simp only [Act.put]
                        refine' wpAnyH_take (i := 14) (v := _) rfl (by kernel_rfl) (by kernel_rfl) (by kernel_rfl) (fun _ _ _ h => h) (Or.inl ⟨by rfl, ?hyBLAPQ14⟩) (by assumption) ?restBLAPQ14
                        case hyBLAPQ14 =>
                          intro W hSw
                          (try dsimp only at hSw)
                          first | (go_simp; done) | (go_simp; with_reducible rfl)
                        try simp only [Act.put]
                        refine' wpAnyH_take (i := 15) (v := _) rfl (by kernel_rfl) (by kernel_rfl) (by kernel_rfl) (fun _ _ _ h => h) (Or.inl ⟨by rfl, ?hyBLAPQ15⟩) (by assumption) ?restBLAPQ15
                        case hyBLAPQ15 =>
                          intro W hSw
                          (try dsimp only at hSw)
                          first | (go_simp; done) | (go_simp; with_reducible rfl)
                        try simp only [Act.put]
                        refine' wpAnyH_take (i := 16) (v := _) rfl (by kernel_rfl) (by kernel_rfl) (by kernel_rfl) (fun _ _ _ h => h) (Or.inl ⟨by rfl, ?hyBLAPQ16⟩) (by assumption) ?restBLAPQ16
                        case hyBLAPQ16 =>
                          intro W hSw
                          (try dsimp only at hSw)
                          first | (go_simp; done) | (go_simp; with_reducible rfl)
                        obtain ⟨ec0, ec1, ec2, ec3⟩ := HEBLAPQ.out.cells
                        have ef0 := HEBLAPQ.out.thaw 0
                        have ef1 := HEBLAPQ.out.thaw 1
                        have ef2 := HEBLAPQ.out.thaw 2
                        have ef3 := HEBLAPQ.out.thaw 3
                        have HFILL := Lib.hid (HEBLAPQ.out.fill (s' := labB (fr + j)) (a' := sk) (b' := 0) (c' := (nx : Int)))
                        have HBES := Lib.hid (show Beside wBL.heap.size wBLAPQ ((((wBLAPQ.setCell ⟨wBL.heap.size, 0, none⟩ (.string (labB (fr + j)))).setCell ⟨wBL.heap.size, 1, none⟩ (.int .i64 sk)).setCell ⟨wBL.heap.size, 2, none⟩ (.int .i64 0)).setCell ⟨wBL.heap.size, 3, none⟩ (.int .i64 (nx : Int))) from ((((Beside.refl _ wBLAPQ).setCell 0 _).setCell 1 _).setCell 2 _).setCell 3 _)
                        have HEND := Lib.hid (edge_end HEBLAPQ.out.lt HBBLAPQ.out HDBLAPQ.out HBES.out (by omega) hwg)
                        try simp only [Act.put, List.setIfInBounds_toArray]
                        refine wpAnyH_ready (rs := [18]) (by kernel_rfl) (by simp) ?_
                        refine AllReadyH.cons (i := 18) (o := _) rfl (fun K hK => ?_) AllReadyH.nil
                        go_simp
                        refine hK.out _ _ ⟨⟨⟨trivial, ints_on HBES.out (by omega) (by omega) HIBLAPQ.out⟩, (HBES.out.cell (p := ⟨wB.heap.size, x, none⟩) (by show wB.heap.size < _; omega) (by show wB.heap.size ≠ wBL.heap.size; omega)).trans HLBLAPQ.out⟩, (HBES.out.cell (p := ⟨wd.heap.size, ki, none⟩) (by show wd.heap.size < _; omega) (by show wd.heap.size ≠ wBL.heap.size; omega)).trans HKBLAPQ.out⟩ (fun hHeld => ?_)
                        clear hK K
                        try simp only [Act.put, List.setIfInBounds_toArray]
                        refine wpAnyH_done (by kernel_rfl) ?_ _
                        go_wp2_with fail
                        go_meet
                        case rel => exact ⟨wBL.heap.size, nx, sk, rfl, HFILL, hnx, hsk, Lib.hid HEND.out.1, Lib.hid HEND.out.2, by omega⟩
                case gBA =>
                  go_simp
                  generalize hw : World.alloc wB _ = wBA
                  have hb : Beside g wB wBA := by rw [← hw]; exact Beside.of_below (tu1 wB _)
                  have hzBA : wB.heap.size + 1 ≤ wBA.heap.size := by rw [← hw]; simp
                  have HDBA := Lib.hid (show Dice wBA g by rw [← hw]; exact HDB.out.on (tu1 wB _))
                  have HBBA := Lib.hid (HBB.out.trans hb)
                  have HIBA := Lib.hid (show (wBA.cell? ⟨wd.heap.size, 0, none⟩ = some (.int .i64 1) ∧ wBA.cell? ⟨wd.heap.size, 1, none⟩ = some (.int .i64 0) ∧ wBA.cell? ⟨wd.heap.size, 2, none⟩ = some (.int .i64 3)) from ints_on hb (by omega) (by omega) HIB.out)
                  have HEBA := Lib.hid (show EBox wBA wB.heap.size ⟨#[]⟩ 0 0 0 by rw [← hw]; exact heap_alloc_new wB _)
                  clear hw hb
                  refine hK.out _ _ ⟨trivial, HIBA.out⟩ (fun hHeld => ?_)
                  clear hK K
                  try simp only [Act.put, List.setIfInBounds_toArray]
                  refine wpAnyH_ready (rs := [0]) (by kernel_rfl) (by simp) ?_
                  refine AllReadyH.cons (i := 0) (o := _) rfl (fun K hK => ?gBAL) (AllReadyH.nil)
                  case gBAL =>
                    go_simp
                    go_at_call 61
                    with_reducible refine (labels_any wBA).mono ?_
                    rintro e wBAL ⟨rfl, hw⟩
                    have hb : Beside g wBA wBAL := by rw [hw]; exact Beside.of_below (tu1 wBA _)
                    have hzBAL : wBA.heap.size + 1 ≤ wBAL.heap.size := by rw [hw]; simp
                    have HDBAL := Lib.hid (show Dice wBAL g by rw [hw]; exact HDBA.out.on (tu1 wBA _))
                    have HBBAL := Lib.hid (HBBA.out.trans hb)
                    have HIBAL := Lib.hid (show (wBAL.cell? ⟨wd.heap.size, 0, none⟩ = some (.int .i64 1) ∧ wBAL.cell? ⟨wd.heap.size, 1, none⟩ = some (.int .i64 0) ∧ wBAL.cell? ⟨wd.heap.size, 2, none⟩ = some (.int .i64 3)) from ints_on hb (by omega) (by omega) HIBA.out)
                    have HEBAL := Lib.hid (show EBox wBAL wB.heap.size ⟨#[]⟩ 0 0 0 from (hb.block wB.heap.size (by omega) (by omega)).trans HEBA.out)
                    have HLBAL := Lib.hid (show wBAL.cell? ⟨wBA.heap.size, x, none⟩ = some (.string (labB (fr + j))) by rw [hw]; exact HLC.out wBA)
                    clear hw hb
                    refine hK.out _ _ ⟨trivial, HIBAL.out⟩ (fun hHeld => ?_)
                    clear hK K
                    refine wpAnyH_more (S' := fun W => ((True ∧ (W.cell? ⟨wd.heap.size, 0, none⟩ = some (.int .i64 1) ∧ W.cell? ⟨wd.heap.size, 1, none⟩ = some (.int .i64 0) ∧ W.cell? ⟨wd.heap.size, 2, none⟩ = some (.int .i64 3))) ∧ W.cell? ⟨wBA.heap.size, x, none⟩ = some (.string (labB (fr + j))))) (fun _ h => h.1) _ _ _ _ ?_
                    replace hHeld := And.intro hHeld HLBAL.out
                    try simp only [Act.put, List.setIfInBounds_toArray]
                    refine' wpAnyH_take (i := 5) (v := _) rfl (by kernel_rfl) (by kernel_rfl) (by kernel_rfl) (fun _ _ _ h => h) (Or.inl ⟨by rfl, ?hyBAL5⟩) (by assumption) ?restBAL5
                    case hyBAL5 =>
                      intro W hSw
                      (try dsimp only at hSw)
                      first | (go_simp; done) | (go_simp; with_reducible rfl)
                    try simp only [Act.put]
                    refine' wpAnyH_take (i := 6) (v := _) rfl (by kernel_rfl) (by kernel_rfl) (by kernel_rfl) (fun _ _ _ h => h) (Or.inl ⟨by rfl, ?hyBAL6⟩) (by assumption) ?restBAL6
                    case hyBAL6 =>
                      intro W hSw
                      (try dsimp only at hSw)
                      first | (go_simp; done) | (go_simp; with_reducible rfl)
                    try simp only [Act.put, List.setIfInBounds_toArray]
                    refine wpAnyH_ready (rs := [9]) (by kernel_rfl) (by simp) ?_
                    refine AllReadyH.cons (i := 9) (o := _) rfl (fun K hK => ?gBALP) (AllReadyH.nil)
                    case gBALP =>
                      go_simp
                      go_at_call 59
                      with_reducible refine (CPn.out _ HDBAL.out).mono ?_
                      rintro e wBALP ⟨⟨nx, hnx, rfl⟩, hd, hb⟩
                      have hzBALP : wBAL.heap.size ≤ wBALP.heap.size := hb.size
                      have HDBALP := Lib.hid hd
                      have HBBALP := Lib.hid (HBBAL.out.trans hb)
                      have HIBALP := Lib.hid (show (wBALP.cell? ⟨wd.heap.size, 0, none⟩ = some (.int .i64 1) ∧ wBALP.cell? ⟨wd.heap.size, 1, none⟩ = some (.int .i64 0) ∧ wBALP.cell? ⟨wd.heap.size, 2, none⟩ = some (.int .i64 3)) from ints_on hb (by omega) (by omega) HIBAL.out)
                      have HLBALP := Lib.hid (show wBALP.cell? ⟨wBA.heap.size, x, none⟩ = some (.string (labB (fr + j))) from (hb.cell (p := ⟨wBA.heap.size, x, none⟩) (by show wBA.heap.size < _; omega) (by show wBA.heap.size ≠ g; omega)).trans HLBAL.out)
                      have HEBALP := Lib.hid (show EBox wBALP wB.heap.size ⟨#[]⟩ 0 0 0 from (hb.block wB.heap.size (by omega) (by omega)).trans HEBAL.out)
                      clear hd hb
                      refine hK.out _ _ ⟨⟨trivial, HIBALP.out⟩, HLBALP.out⟩ (fun hHeld => ?_)
                      clear hK K
                      try simp only [Act.put, List.setIfInBounds_toArray]
                      refine wpAnyH_ready (rs := [12]) (by kernel_rfl) (by simp) ?_
                      refine AllReadyH.cons (i := 12) (o := _) rfl (fun K hK => ?gBALPQ) (AllReadyH.nil)
                      case gBALPQ =>
                        go_simp
                        go_at_call 59
                        with_reducible refine (CP3.out _ HDBALP.out).mono ?_
                        rintro e wBALPQ ⟨⟨ki, hki, rfl⟩, hd, hb⟩
                        have hzBALPQ : wBALP.heap.size ≤ wBALPQ.heap.size := hb.size
                        have HDBALPQ := Lib.hid hd
                        have HBBALPQ := Lib.hid (HBBALP.out.trans hb)
                        have HIBALPQ := Lib.hid (show (wBALPQ.cell? ⟨wd.heap.size, 0, none⟩ = some (.int .i64 1) ∧ wBALPQ.cell? ⟨wd.heap.size, 1, none⟩ = some (.int .i64 0) ∧ wBALPQ.cell? ⟨wd.heap.size, 2, none⟩ = some (.int .i64 3)) from ints_on hb (by omega) (by omega) HIBALP.out)
                        have HLBALPQ := Lib.hid (show wBALPQ.cell? ⟨wBA.heap.size, x, none⟩ = some (.string (labB (fr + j))) from (hb.cell (p := ⟨wBA.heap.size, x, none⟩) (by show wBA.heap.size < _; omega) (by show wBA.heap.size ≠ g; omega)).trans HLBALP.out)
                        have HEBALPQ := Lib.hid (show EBox wBALPQ wB.heap.size ⟨#[]⟩ 0 0 0 from (hb.block wB.heap.size (by omega) (by omega)).trans HEBALP.out)
                        clear hd hb
                        refine hK.out _ _ ⟨⟨trivial, HIBALPQ.out⟩, HLBALPQ.out⟩ (fun hHeld => ?_)
                        clear hK K
                        obtain ⟨sk, hsk, hci⟩ := ints_at HIBALPQ.out hki
                        have HKBALPQ := Lib.hid (show wBALPQ.cell? ⟨wd.heap.size, ki, none⟩ = some (.int .i64 sk) from hci)
                        have j3 : (ki : Int) < 3 := by omega
                        have j4 : (0 : Int) ≤ (ki : Int) := by omega
                        clear hci
                        refine wpAnyH_more (S' := fun W => (((True ∧ (W.cell? ⟨wd.heap.size, 0, none⟩ = some (.int .i64 1) ∧ W.cell? ⟨wd.heap.size, 1, none⟩ = some (.int .i64 0) ∧ W.cell? ⟨wd.heap.size, 2, none⟩ = some (.int .i64 3))) ∧ W.cell? ⟨wBA.heap.size, x, none⟩ = some (.string (labB (fr + j)))) ∧ W.cell? ⟨wd.heap.size, ki, none⟩ = some (.int .i64 sk))) (fun _ h => h.1) _ _ _ _ ?_
                        replace hHeld := And.intro hHeld HKBALPQ.out
                        try simp only [Act.put, List.setIfInBounds_toArray]
                        refine' wpAnyH_take (i := 13) (v := _) rfl (by kernel_rfl) (by kernel_rfl) (by kernel_rfl) (fun _ _ _ h => h) (Or.inl ⟨by rfl, ?hyBALPQ13⟩) (by assumption) ?restBALPQ13
                        case hyBALPQ13 =>
                          intro W hSw
                          (try dsimp only at hSw)
                          first | (go_simp; done) | (go_simp; with_reducible rfl)
                        try simp only [Act.put]
                        refine' wpAnyH_take (i := 14) (v := _) rfl (by kernel_rfl) (by kernel_rfl) (by kernel_rfl) (fun _ _ _ h => h) (Or.inl ⟨by rfl, ?hyBALPQ14⟩) (by assumption) ?restBALPQ14
                        case hyBALPQ14 =>
                          intro W hSw
                          (try dsimp only at hSw)
                          first | (go_simp; done) | (go_simp; with_reducible rfl)
                        try simp only [Act.put]
                        refine' wpAnyH_take (i := 15) (v := _) rfl (by kernel_rfl) (by kernel_rfl) (by kernel_rfl) (fun _ _ _ h => h) (Or.inl ⟨by rfl, ?hyBALPQ15⟩) (by assumption) ?restBALPQ15
                        case hyBALPQ15 =>
                          intro W hSw
                          (try dsimp only at hSw)
                          first | (go_simp; done) | (go_simp; with_reducible rfl)
                        try simp only [Act.put]
                        refine' wpAnyH_take (i := 16) (v := _) rfl (by kernel_rfl) (by kernel_rfl) (by kernel_rfl) (fun _ _ _ h => h) (Or.inl ⟨by rfl, ?hyBALPQ16⟩) (by assumption) ?restBALPQ16
                        case hyBALPQ16 =>
                          intro W hSw
                          (try dsimp only at hSw)
                          first | (go_simp; done) | (go_simp; with_reducible rfl)
                        obtain ⟨ec0, ec1, ec2, ec3⟩ := HEBALPQ.out.cells
                        have ef0 := HEBALPQ.out.thaw 0
                        have ef1 := HEBALPQ.out.thaw 1
                        have ef2 := HEBALPQ.out.thaw 2
                        have ef3 := HEBALPQ.out.thaw 3
                        have HFILL := Lib.hid (HEBALPQ.out.fill (s' := labB (fr + j)) (a' := sk) (b' := 0) (c' := (nx : Int)))
                        have HBES := Lib.hid (show Beside wB.heap.size wBALPQ ((((wBALPQ.setCell ⟨wB.heap.size, 0, none⟩ (.string (labB (fr + j)))).setCell ⟨wB.heap.size, 1, none⟩ (.int .i64 sk)).setCell ⟨wB.heap.size, 2, none⟩ (.int .i64 0)).setCell ⟨wB.heap.size, 3, none⟩ (.int .i64 (nx : Int))) from ((((Beside.refl _ wBALPQ).setCell 0 _).setCell 1 _).setCell 2 _).setCell 3 _)
                        have HEND := Lib.hid (edge_end HEBALPQ.out.lt HBBALPQ.out HDBALPQ.out HBES.out (by omega) hwg)
                        try simp only [Act.put, List.setIfInBounds_toArray]
                        refine wpAnyH_ready (rs := [18]) (by kernel_rfl) (by simp) ?_
                        refine AllReadyH.cons (i := 18) (o := _) rfl (fun K hK => ?_) AllReadyH.nil
                        go_simp
                        refine hK.out _ _ ⟨⟨⟨trivial, ints_on HBES.out (by omega) (by omega) HIBALPQ.out⟩, (HBES.out.cell (p := ⟨wBA.heap.size, x, none⟩) (by show wBA.heap.size < _; omega) (by show wBA.heap.size ≠ wB.heap.size; omega)).trans HLBALPQ.out⟩, (HBES.out.cell (p := ⟨wd.heap.size, ki, none⟩) (by show wd.heap.size < _; omega) (by show wd.heap.size ≠ wB.heap.size; omega)).trans HKBALPQ.out⟩ (fun hHeld => ?_)
                        clear hK K
                        try simp only [Act.put, List.setIfInBounds_toArray]
                        refine wpAnyH_done (by kernel_rfl) ?_ _
                        go_wp2_with fail
                        go_meet
                        case rel => exact ⟨wB.heap.size, nx, sk, rfl, HFILL, hnx, hsk, Lib.hid HEND.out.1, Lib.hid HEND.out.2, by omega⟩
              case gA =>
                go_simp
                generalize hw : World.alloc wd _ = wA
                have hb : Beside g wd wA := by rw [← hw]; exact Beside.of_below (tu1 wd _)
                have hzA : wd.heap.size + 1 ≤ wA.heap.size := by rw [← hw]; simp
                have HDA := Lib.hid (show Dice wA g by rw [← hw]; exact HD.out.on (tu1 wd _))
                have HBA := Lib.hid (HB.out.trans hb)
                have HEA := Lib.hid (show EBox wA wd.heap.size ⟨#[]⟩ 0 0 0 by rw [← hw]; exact heap_alloc_new wd _)
                clear hw hb
                refine hK.out _ _ trivial (fun hHeld => ?_)
                clear hK K
                try simp only [Act.put, List.setIfInBounds_toArray]
                refine wpAnyH_ready (rs := [0, 10]) (by kernel_rfl) (by simp) ?_
                refine AllReadyH.cons (i := 0) (o := _) rfl (fun K hK => ?gAL) (AllReadyH.cons (i := 10) (o := _) rfl (fun K hK => ?gAB) (AllReadyH.nil))
                case gAL =>
                  go_simp
                  go_at_call 61
                  with_reducible refine (labels_any wA).mono ?_
                  rintro e wAL ⟨rfl, hw⟩
                  have hb : Beside g wA wAL := by rw [hw]; exact Beside.of_below (tu1 wA _)
                  have hzAL : wA.heap.size + 1 ≤ wAL.heap.size := by rw [hw]; simp
                  have HDAL := Lib.hid (show Dice wAL g by rw [hw]; exact HDA.out.on (tu1 wA _))
                  have HBAL := Lib.hid (HBA.out.trans hb)
                  have HEAL := Lib.hid (show EBox wAL wd.heap.size ⟨#[]⟩ 0 0 0 from (hb.block wd.heap.size (by omega) (by omega)).trans HEA.out)
                  have HLAL := Lib.hid (show wAL.cell? ⟨wA.heap.size, x, none⟩ = some (.string (labB (fr + j))) by rw [hw]; exact HLC.out wA)
                  clear hw hb
                  refine hK.out _ _ trivial (fun hHeld => ?_)
                  clear hK K
                  refine wpAnyH_more (S' := fun W => (True ∧ W.cell? ⟨wA.heap.size, x, none⟩ = some (.string (labB (fr + j))))) (fun _ h => h.1) _ _ _ _ ?_
                  replace hHeld := And.intro hHeld HLAL.out
                  try simp only [Act.put, List.setIfInBounds_toArray]
                  refine' wpAnyH_take (i := 5) (v := _) rfl (by kernel_rfl) (by kernel_rfl) (by kernel_rfl) (fun _ _ _ h => h) (Or.inl ⟨by rfl, ?hyAL5⟩) (by assumption) ?restAL5
                  case hyAL5 =>
                    intro W hSw
                    (try dsimp only at hSw)
                    first | (go_simp; done) | (go_simp; with_reducible rfl)
                  try simp only [Act.put]
                  refine' wpAnyH_take (i := 6) (v := _) rfl (by kernel_rfl) (by kernel_rfl) (by kernel_rfl) (fun _ _ _ h => h) (Or.inl ⟨by rfl, ?hyAL6⟩) (by assumption) ?restAL6
                  case hyAL6 =>
                    intro W hSw
                    (try dsimp only at hSw)
                    first | (go_simp; done) | (go_simp; with_reducible rfl)
                  try simp only [Act.put, List.setIfInBounds_toArray]
                  refine wpAnyH_ready (rs := [9, 10]) (by kernel_rfl) (by simp) ?_
                  refine AllReadyH.cons (i := 9) (o := _) rfl (fun K hK => ?gALP) (AllReadyH.cons (i := 10) (o := _) rfl (fun K hK => ?gALB) (AllReadyH.nil))
                  case gALP =>
                    go_simp
                    go_at_call 59
                    with_reducible refine (CPn.out _ HDAL.out).mono ?_
                    rintro e wALP ⟨⟨nx, hnx, rfl⟩, hd, hb⟩
                    have hzALP : wAL.heap.size ≤ wALP.heap.size := hb.size
                    have HDALP := Lib.hid hd
                    have HBALP := Lib.hid (HBAL.out.trans hb)
                    have HLALP := Lib.hid (show wALP.cell? ⟨wA.heap.size, x, none⟩ = some (.string (labB (fr + j))) from (hb.cell (p := ⟨wA.heap.size, x, none⟩) (by show wA.heap.size < _; omega) (by show wA.heap.size ≠ g; omega)).trans HLAL.out)
                    have HEALP := Lib.hid (show EBox wALP wd.heap.size ⟨#[]⟩ 0 0 0 from (hb.block wd.heap.size (by omega) (by omega)).trans HEAL.out)
                    clear hd hb
                    refine hK.out _ _ ⟨trivial, HLALP.out⟩ (fun hHeld => ?_)
                    clear hK K
                    try simp only [Act.put, List.setIfInBounds_toArray]
                    refine wpAnyH_ready (rs := [10, 12]) (by kernel_rfl) (by simp) ?_
                    refine AllReadyH.cons (i := 10) (o := _) rfl (fun K hK => ?gALPB) (AllReadyH.cons (i := 12) (o := _) rfl (fun K hK => ?gALPQ) (AllReadyH.nil))
                    case gALPB =>
                      go_simp
                      generalize hw : World.alloc wALP _ = wALPB
                      have hb : Beside g wALP wALPB := by rw [← hw]; exact Beside.of_below (tu1 wALP _)
                      have hzALPB : wALP.heap.size + 1 ≤ wALPB.heap.size := by rw [← hw]; simp
                      have HDALPB := Lib.hid (show Dice wALPB g by rw [← hw]; exact HDALP.out.on (tu1 wALP _))
                      have HBALPB := Lib.hid (HBALP.out.trans hb)
                      have HLALPB := Lib.hid (show wALPB.cell? ⟨wA.heap.size, x, none⟩ = some (.string (labB (fr + j))) from (hb.cell (p := ⟨wA.heap.size, x, none⟩) (by show wA.heap.size < _; omega) (by show wA.heap.size ≠ g; omega)).trans HLALP.out)
                      have HEALPB := Lib.hid (show EBox wALPB wd.heap.size ⟨#[]⟩ 0 0 0 from (hb.block wd.heap.size (by omega) (by omega)).trans HEALP.out)
                      have HIALPB := Lib.hid (show (wALPB.cell? ⟨wALP.heap.size, 0, none⟩ = some (.int .i64 1) ∧ wALPB.cell? ⟨wALP.heap.size, 1, none⟩ = some (.int .i64 0) ∧ wALPB.cell? ⟨wALP.heap.size, 2, none⟩ = some (.int .i64 3)) by rw [← hw]; exact ints_cells wALP)
                      clear hw hb
                      refine hK.out _ _ ⟨trivial, HLALPB.out⟩ (fun hHeld => ?_)
                      clear hK K
                      refine wpAnyH_more (S' := fun W => ((True ∧ W.cell? ⟨wA.heap.size, x, none⟩ = some (.string (labB (fr + j)))) ∧ (W.cell? ⟨wALP.heap.size, 0, none⟩ = some (.int .i64 1) ∧ W.cell? ⟨wALP.heap.size, 1, none⟩ = some (.int .i64 0) ∧ W.cell? ⟨wALP.heap.size, 2, none⟩ = some (.int .i64 3)))) (fun _ h => h.1) _ _ _ _ ?_
                      replace hHeld := And.intro hHeld HIALPB.out
                      try simp only [Act.put, List.setIfInBounds_toArray]
                      refine wpAnyH_ready (rs := [12]) (by kernel_rfl) (by simp) ?_
                      refine AllReadyH.cons (i := 12) (o := _) rfl (fun K hK => ?gALPBQ) (AllReadyH.nil)
                      case gALPBQ =>
                        go_simp
                        go_at_call 59
                        with_reducible refine (CP3.out _ HDALPB.out).mono ?_
                        rintro e wALPBQ ⟨⟨ki, hki, rfl⟩, hd, hb⟩
                        have hzALPBQ : wALPB.heap.size ≤ wALPBQ.heap.size := hb.size
                        have HDALPBQ := Lib.hid hd
                        have HBALPBQ := Lib.hid (HBALPB.out.trans hb)
                        have HLALPBQ := Lib.hid (show wALPBQ.cell? ⟨wA.heap.size, x, none⟩ = some (.string (labB (fr + j))) from (hb.cell (p := ⟨wA.heap.size, x, none⟩) (by show wA.heap.size < _; omega) (by show wA.heap.size ≠ g; omega)).trans HLALPB.out)
                        have HIALPBQ := Lib.hid (show (wALPBQ.cell? ⟨wALP.heap.size, 0, none⟩ = some (.int .i64 1) ∧ wALPBQ.cell? ⟨wALP.heap.size, 1, none⟩ = some (.int .i64 0) ∧ wALPBQ.cell? ⟨wALP.heap.size, 2, none⟩ = some (.int .i64 3)) from ints_on hb (by omega) (by omega) HIALPB.out)
                        have HEALPBQ := Lib.hid (show EBox wALPBQ wd.heap.size ⟨#[]⟩ 0 0 0 from (hb.block wd.heap.size (by omega) (by omega)).trans HEALPB.out)
                        clear hd hb
                        refine hK.out _ _ ⟨⟨trivial, HLALPBQ.out⟩, HIALPBQ.out⟩ (fun hHeld => ?_)
                        clear hK K
                        obtain ⟨sk, hsk, hci⟩ := ints_at HIALPBQ.out hki
                        have HKALPBQ := Lib.hid (show wALPBQ.cell? ⟨wALP.heap.size, ki, none⟩ = some (.int .i64 sk) from hci)
                        have j3 : (ki : Int) < 3 := by omega
                        have j4 : (0 : Int) ≤ (ki : Int) := by omega
                        clear hci
                        refine wpAnyH_more (S' := fun W => (((True ∧ W.cell? ⟨wA.heap.size, x, none⟩ = some (.string (labB (fr + j)))) ∧ (W.cell? ⟨wALP.heap.size, 0, none⟩ = some (.int .i64 1) ∧ W.cell? ⟨wALP.heap.size, 1, none⟩ = some (.int .i64 0) ∧ W.cell? ⟨wALP.heap.size, 2, none⟩ = some (.int .i64 3))) ∧ W.cell? ⟨wALP.heap.size, ki, none⟩ = some (.int .i64 sk))) (fun _ h => h.1) _ _ _ _ ?_
                        replace hHeld := And.intro hHeld HKALPBQ.out
                        try simp only [Act.put, List.setIfInBounds_toArray]
                        refine' wpAnyH_take (i := 13) (v := _) rfl (by kernel_rfl) (by kernel_rfl) (by kernel_rfl) (fun _ _ _ h => h) (Or.inl ⟨by rfl, ?hyALPBQ13⟩) (by assumption) ?restALPBQ13
                        case hyALPBQ13 =>
                          intro W hSw
                          (try dsimp only at hSw)
                          first | (go_simp; done) | (go_simp; with_reducible rfl)
                        try simp only [Act.put]
                        refine' wpAnyH_take (i := 14) (v := _) rfl (by kernel_rfl) (by kernel_rfl) (by kernel_rfl) (fun _ _ _ h => h) (Or.inl ⟨by rfl, ?hyALPBQ14⟩) (by assumption) ?restALPBQ14
                        case hyALPBQ14 =>
                          intro W hSw
                          (try dsimp only at hSw)
                          first | (go_simp; done) | (go_simp; with_reducible rfl)
                        try simp only [Act.put]
                        refine' wpAnyH_take (i := 15) (v := _) rfl (by kernel_rfl) (by kernel_rfl) (by kernel_rfl) (fun _ _ _ h => h) (Or.inl ⟨by rfl, ?hyALPBQ15⟩) (by assumption) ?restALPBQ15
                        case hyALPBQ15 =>
                          intro W hSw
                          (try dsimp only at hSw)
                          first | (go_simp; done) | (go_simp; with_reducible rfl)
                        try simp only [Act.put]
                        refine' wpAnyH_take (i := 16) (v := _) rfl (by kernel_rfl) (by kernel_rfl) (by kernel_rfl) (fun _ _ _ h => h) (Or.inl ⟨by rfl, ?hyALPBQ16⟩) (by assumption) ?restALPBQ16
                        case hyALPBQ16 =>
                          intro W hSw
                          (try dsimp only at hSw)
                          first | (go_simp; done) | (go_simp; with_reducible rfl)
                        obtain ⟨ec0, ec1, ec2, ec3⟩ := HEALPBQ.out.cells
                        have ef0 := HEALPBQ.out.thaw 0
                        have ef1 := HEALPBQ.out.thaw 1
                        have ef2 := HEALPBQ.out.thaw 2
                        have ef3 := HEALPBQ.out.thaw 3
                        have HFILL := Lib.hid (HEALPBQ.out.fill (s' := labB (fr + j)) (a' := sk) (b' := 0) (c' := (nx : Int)))
                        have HBES := Lib.hid (show Beside wd.heap.size wALPBQ ((((wALPBQ.setCell ⟨wd.heap.size, 0, none⟩ (.string (labB (fr + j)))).setCell ⟨wd.heap.size, 1, none⟩ (.int .i64 sk)).setCell ⟨wd.heap.size, 2, none⟩ (.int .i64 0)).setCell ⟨wd.heap.size, 3, none⟩ (.int .i64 (nx : Int))) from ((((Beside.refl _ wALPBQ).setCell 0 _).setCell 1 _).setCell 2 _).setCell 3 _)
                        have HEND := Lib.hid (edge_end HEALPBQ.out.lt HBALPBQ.out HDALPBQ.out HBES.out (by omega) hwg)
                        try simp only [Act.put, List.setIfInBounds_toArray]
                        refine wpAnyH_ready (rs := [18]) (by kernel_rfl) (by simp) ?_
                        refine AllReadyH.cons (i := 18) (o := _) rfl (fun K hK => ?_) AllReadyH.nil
                        go_simp
                        refine hK.out _ _ ⟨⟨⟨trivial, (HBES.out.cell (p := ⟨wA.heap.size, x, none⟩) (by show wA.heap.size < _; omega) (by show wA.heap.size ≠ wd.heap.size; omega)).trans HLALPBQ.out⟩, ints_on HBES.out (by omega) (by omega) HIALPBQ.out⟩, (HBES.out.cell (p := ⟨wALP.heap.size, ki, none⟩) (by show wALP.heap.size < _; omega) (by show wALP.heap.size ≠ wd.heap.size; omega)).trans HKALPBQ.out⟩ (fun hHeld => ?_)
                        clear hK K
                        try simp only [Act.put, List.setIfInBounds_toArray]
                        refine wpAnyH_done (by kernel_rfl) ?_ _
                        go_wp2_with fail
                        go_meet
                        case rel => exact ⟨wd.heap.size, nx, sk, rfl, HFILL, hnx, hsk, Lib.hid HEND.out.1, Lib.hid HEND.out.2, by omega⟩
                    case gALPQ =>
                      go_simp
                      go_at_call 59
                      with_reducible refine (CP3.out _ HDALP.out).mono ?_
                      rintro e wALPQ ⟨⟨ki, hki, rfl⟩, hd, hb⟩
                      have hzALPQ : wALP.heap.size ≤ wALPQ.heap.size := hb.size
                      have HDALPQ := Lib.hid hd
                      have HBALPQ := Lib.hid (HBALP.out.trans hb)
                      have HLALPQ := Lib.hid (show wALPQ.cell? ⟨wA.heap.size, x, none⟩ = some (.string (labB (fr + j))) from (hb.cell (p := ⟨wA.heap.size, x, none⟩) (by show wA.heap.size < _; omega) (by show wA.heap.size ≠ g; omega)).trans HLALP.out)
                      have HEALPQ := Lib.hid (show EBox wALPQ wd.heap.size ⟨#[]⟩ 0 0 0 from (hb.block wd.heap.size (by omega) (by omega)).trans HEALP.out)
                      clear hd hb
                      refine hK.out _ _ ⟨trivial, HLALPQ.out⟩ (fun hHeld => ?_)
                      clear hK K
                      try simp only [Act.put, List.setIfInBounds_toArray]
                      refine wpAnyH_ready (rs := [10]) (by kernel_rfl) (by simp) ?_
                      refine AllReadyH.cons (i := 10) (o := _) rfl (fun K hK => ?gALPQB) (AllReadyH.nil)
                      case gALPQB =>
                        go_simp
                        generalize hw : World.alloc wALPQ _ = wALPQB
                        have hb : Beside g wALPQ wALPQB := by rw [← hw]; exact Beside.of_below (tu1 wALPQ _)
                        have hzALPQB : wALPQ.heap.size + 1 ≤ wALPQB.heap.size := by rw [← hw]; simp
                        have HDALPQB := Lib.hid (show Dice wALPQB g by rw [← hw]; exact HDALPQ.out.on (tu1 wALPQ _))
                        have HBALPQB := Lib.hid (HBALPQ.out.trans hb)
                        have HLALPQB := Lib.hid (show wALPQB.cell? ⟨wA.heap.size, x, none⟩ = some (.string (labB (fr + j))) from (hb.cell (p := ⟨wA.heap.size, x, none⟩) (by show wA.heap.size < _; omega) (by show wA.heap.size ≠ g; omega)).trans HLALPQ.out)
                        have HEALPQB := Lib.hid (show EBox wALPQB wd.heap.size ⟨#[]⟩ 0 0 0 from (hb.block wd.heap.size (by omega) (by omega)).trans HEALPQ.out)
                        have HIALPQB := Lib.hid (show (wALPQB.cell? ⟨wALPQ.heap.size, 0, none⟩ = some (.int .i64 1) ∧ wALPQB.cell? ⟨wALPQ.heap.size, 1, none⟩ = some (.int .i64 0) ∧ wALPQB.cell? ⟨wALPQ.heap.size, 2, none⟩ = some (.int .i64 3)) by rw [← hw]; exact ints_cells wALPQ)
                        clear hw hb
                        refine hK.out _ _ ⟨trivial, HLALPQB.out⟩ (fun hHeld => ?_)
                        clear hK K
                        refine wpAnyH_more (S' := fun W => ((True ∧ W.cell? ⟨wA.heap.size, x, none⟩ = some (.string (labB (fr + j)))) ∧ (W.cell? ⟨wALPQ.heap.size, 0, none⟩ = some (.int .i64 1) ∧ W.cell? ⟨wALPQ.heap.size, 1, none⟩ = some (.int .i64 0) ∧ W.cell? ⟨wALPQ.heap.size, 2, none⟩ = some (.int .i64 3)))) (fun _ h => h.1) _ _ _ _ ?_
                        replace hHeld := And.intro hHeld HIALPQB.out
                        obtain ⟨sk, hsk, hci⟩ := ints_at HIALPQB.out hki
                        have HKALPQB := Lib.hid (show wALPQB.cell? ⟨wALPQ.heap.size, ki, none⟩ = some (.int .i64 sk) from hci)
                        have j3 : (ki : Int) < 3 := by omega
                        have j4 : (0 : Int) ≤ (ki : Int) := by omega
                        clear hci
                        refine wpAnyH_more (S' := fun W => (((True ∧ W.cell? ⟨wA.heap.size, x, none⟩ = some (.string (labB (fr + j)))) ∧ (W.cell? ⟨wALPQ.heap.size, 0, none⟩ = some (.int .i64 1) ∧ W.cell? ⟨wALPQ.heap.size, 1, none⟩ = some (.int .i64 0) ∧ W.cell? ⟨wALPQ.heap.size, 2, none⟩ = some (.int .i64 3))) ∧ W.cell? ⟨wALPQ.heap.size, ki, none⟩ = some (.int .i64 sk))) (fun _ h => h.1) _ _ _ _ ?_
                        replace hHeld := And.intro hHeld HKALPQB.out
                        try simp only [Act.put, List.setIfInBounds_toArray]
                        refine' wpAnyH_take (i := 13) (v := _) rfl (by kernel_rfl) (by kernel_rfl) (by kernel_rfl) (fun _ _ _ h => h) (Or.inl ⟨by rfl, ?hyALPQB13⟩) (by assumption) ?restALPQB13
                        case hyALPQB13 =>
                          intro W hSw
                          (try dsimp only at hSw)
                          first | (go_simp; done) | (go_simp; with_reducible rfl)
                        try simp only [Act.put]
                        refine' wpAnyH_take (i := 14) (v := _) rfl (by kernel_rfl) (by kernel_rfl) (by kernel_rfl) (fun _ _ _ h => h) (Or.inl ⟨by rfl, ?hyALPQB14⟩) (by assumption) ?restALPQB14
                        case hyALPQB14 =>
                          intro W hSw
                          (try dsimp only at hSw)
                          first | (go_simp; done) | (go_simp; with_reducible rfl)
                        try simp only [Act.put]
                        refine' wpAnyH_take (i := 15) (v := _) rfl (by kernel_rfl) (by kernel_rfl) (by kernel_rfl) (fun _ _ _ h => h) (Or.inl ⟨by rfl, ?hyALPQB15⟩) (by assumption) ?restALPQB15
                        case hyALPQB15 =>
                          intro W hSw
                          (try dsimp only at hSw)
                          first | (go_simp; done) | (go_simp; with_reducible rfl)
                        try simp only [Act.put]
                        refine' wpAnyH_take (i := 16) (v := _) rfl (by kernel_rfl) (by kernel_rfl) (by kernel_rfl) (fun _ _ _ h => h) (Or.inl ⟨by rfl, ?hyALPQB16⟩) (by assumption) ?restALPQB16
                        case hyALPQB16 =>
                          intro W hSw
                          (try dsimp only at hSw)
                          first | (go_simp; done) | (go_simp; with_reducible rfl)
                        obtain ⟨ec0, ec1, ec2, ec3⟩ := HEALPQB.out.cells
                        have ef0 := HEALPQB.out.thaw 0
                        have ef1 := HEALPQB.out.thaw 1
                        have ef2 := HEALPQB.out.thaw 2
                        have ef3 := HEALPQB.out.thaw 3
                        have HFILL := Lib.hid (HEALPQB.out.fill (s' := labB (fr + j)) (a' := sk) (b' := 0) (c' := (nx : Int)))
                        have HBES := Lib.hid (show Beside wd.heap.size wALPQB ((((wALPQB.setCell ⟨wd.heap.size, 0, none⟩ (.string (labB (fr + j)))).setCell ⟨wd.heap.size, 1, none⟩ (.int .i64 sk)).setCell ⟨wd.heap.size, 2, none⟩ (.int .i64 0)).setCell ⟨wd.heap.size, 3, none⟩ (.int .i64 (nx : Int))) from ((((Beside.refl _ wALPQB).setCell 0 _).setCell 1 _).setCell 2 _).setCell 3 _)
                        have HEND := Lib.hid (edge_end HEALPQB.out.lt HBALPQB.out HDALPQB.out HBES.out (by omega) hwg)
                        try simp only [Act.put, List.setIfInBounds_toArray]
                        refine wpAnyH_ready (rs := [18]) (by kernel_rfl) (by simp) ?_
                        refine AllReadyH.cons (i := 18) (o := _) rfl (fun K hK => ?_) AllReadyH.nil
                        go_simp
                        refine hK.out _ _ ⟨⟨⟨trivial, (HBES.out.cell (p := ⟨wA.heap.size, x, none⟩) (by show wA.heap.size < _; omega) (by show wA.heap.size ≠ wd.heap.size; omega)).trans HLALPQB.out⟩, ints_on HBES.out (by omega) (by omega) HIALPQB.out⟩, (HBES.out.cell (p := ⟨wALPQ.heap.size, ki, none⟩) (by show wALPQ.heap.size < _; omega) (by show wALPQ.heap.size ≠ wd.heap.size; omega)).trans HKALPQB.out⟩ (fun hHeld => ?_)
                        clear hK K
                        try simp only [Act.put, List.setIfInBounds_toArray]
                        refine wpAnyH_done (by kernel_rfl) ?_ _
                        go_wp2_with fail
                        go_meet
                        case rel => exact ⟨wd.heap.size, nx, sk, rfl, HFILL, hnx, hsk, Lib.hid HEND.out.1, Lib.hid HEND.out.2, by omega⟩
                  case gALB =>
                    go_simp
                    generalize hw : World.alloc wAL _ = wALB
                    have hb : Beside g wAL wALB := by rw [← hw]; exact Beside.of_below (tu1 wAL _)
                    have hzALB : wAL.heap.size + 1 ≤ wALB.heap.size := by rw [← hw]; simp
                    have HDALB := Lib.hid (show Dice wALB g by rw [← hw]; exact HDAL.out.on (tu1 wAL _))
                    have HBALB := Lib.hid (HBAL.out.trans hb)
                    have HLALB := Lib.hid (show wALB.cell? ⟨wA.heap.size, x, none⟩ = some (.string (labB (fr + j))) from (hb.cell (p := ⟨wA.heap.size, x, none⟩) (by show wA.heap.size < _; omega) (by show wA.heap.size ≠ g; omega)).trans HLAL.out)
                    have HEALB := Lib.hid (show EBox wALB wd.heap.size ⟨#[]⟩ 0 0 0 from (hb.block wd.heap.size (by omega) (by omega)).trans HEAL.out)
                    have HIALB := Lib.hid (show (wALB.cell? ⟨wAL.heap.size, 0, none⟩ = some (.int .i64 1) ∧ wALB.cell? ⟨wAL.heap.size, 1, none⟩ = some (.int .i64 0) ∧ wALB.cell? ⟨wAL.heap.size, 2, none⟩ = some (.int .i64 3)) by rw [← hw]; exact ints_cells wAL)
                    clear hw hb
                    refine hK.out _ _ ⟨trivial, HLALB.out⟩ (fun hHeld => ?_)
                    clear hK K
                    refine wpAnyH_more (S' := fun W => ((True ∧ W.cell? ⟨wA.heap.size, x, none⟩ = some (.string (labB (fr + j)))) ∧ (W.cell? ⟨wAL.heap.size, 0, none⟩ = some (.int .i64 1) ∧ W.cell? ⟨wAL.heap.size, 1, none⟩ = some (.int .i64 0) ∧ W.cell? ⟨wAL.heap.size, 2, none⟩ = some (.int .i64 3)))) (fun _ h => h.1) _ _ _ _ ?_
                    replace hHeld := And.intro hHeld HIALB.out
                    try simp only [Act.put, List.setIfInBounds_toArray]
                    refine wpAnyH_ready (rs := [9]) (by kernel_rfl) (by simp) ?_
                    refine AllReadyH.cons (i := 9) (o := _) rfl (fun K hK => ?gALBP) (AllReadyH.nil)
                    case gALBP =>
                      go_simp
                      go_at_call 59
                      with_reducible refine (CPn.out _ HDALB.out).mono ?_
                      rintro e wALBP ⟨⟨nx, hnx, rfl⟩, hd, hb⟩
                      have hzALBP : wALB.heap.size ≤ wALBP.heap.size := hb.size
                      have HDALBP := Lib.hid hd
                      have HBALBP := Lib.hid (HBALB.out.trans hb)
                      have HLALBP := Lib.hid (show wALBP.cell? ⟨wA.heap.size, x, none⟩ = some (.string (labB (fr + j))) from (hb.cell (p := ⟨wA.heap.size, x, none⟩) (by show wA.heap.size < _; omega) (by show wA.heap.size ≠ g; omega)).trans HLALB.out)
                      have HIALBP := Lib.hid (show (wALBP.cell? ⟨wAL.heap.size, 0, none⟩ = some (.int .i64 1) ∧ wALBP.cell? ⟨wAL.heap.size, 1, none⟩ = some (.int .i64 0) ∧ wALBP.cell? ⟨wAL.heap.size, 2, none⟩ = some (.int .i64 3)) from ints_on hb (by omega) (by omega) HIALB.out)
                      have HEALBP := Lib.hid (show EBox wALBP wd.heap.size ⟨#[]⟩ 0 0 0 from (hb.block wd.heap.size (by omega) (by omega)).trans HEALB.out)
                      clear hd hb
                      refine hK.out _ _ ⟨⟨trivial, HLALBP.out⟩, HIALBP.out⟩ (fun hHeld => ?_)
                      clear hK K
                      try simp only [Act.put, List.setIfInBounds_toArray]
                      refine wpAnyH_ready (rs := [12]) (by kernel_rfl) (by simp) ?_
                      refine AllReadyH.cons (i := 12) (o := _) rfl (fun K hK => ?gALBPQ) (AllReadyH.nil)
                      case gALBPQ =>
                        go_simp
                        go_at_call 59
                        with_reducible refine (CP3.out _ HDALBP.out).mono ?_
                        rintro e wALBPQ ⟨⟨ki, hki, rfl⟩, hd, hb⟩
                        have hzALBPQ : wALBP.heap.size ≤ wALBPQ.heap.size := hb.size
                        have HDALBPQ := Lib.hid hd
                        have HBALBPQ := Lib.hid (HBALBP.out.trans hb)
                        have HLALBPQ := Lib.hid (show wALBPQ.cell? ⟨wA.heap.size, x, none⟩ = some (.string (labB (fr + j))) from (hb.cell (p := ⟨wA.heap.size, x, none⟩) (by show wA.heap.size < _; omega) (by show wA.heap.size ≠ g; omega)).trans HLALBP.out)
                        have HIALBPQ := Lib.hid (show (wALBPQ.cell? ⟨wAL.heap.size, 0, none⟩ = some (.int .i64 1) ∧ wALBPQ.cell? ⟨wAL.heap.size, 1, none⟩ = some (.int .i64 0) ∧ wALBPQ.cell? ⟨wAL.heap.size, 2, none⟩ = some (.int .i64 3)) from ints_on hb (by omega) (by omega) HIALBP.out)
                        have HEALBPQ := Lib.hid (show EBox wALBPQ wd.heap.size ⟨#[]⟩ 0 0 0 from (hb.block wd.heap.size (by omega) (by omega)).trans HEALBP.out)
                        clear hd hb
                        refine hK.out _ _ ⟨⟨trivial, HLALBPQ.out⟩, HIALBPQ.out⟩ (fun hHeld => ?_)
                        clear hK K
                        obtain ⟨sk, hsk, hci⟩ := ints_at HIALBPQ.out hki
                        have HKALBPQ := Lib.hid (show wALBPQ.cell? ⟨wAL.heap.size, ki, none⟩ = some (.int .i64 sk) from hci)
                        have j3 : (ki : Int) < 3 := by omega
                        have j4 : (0 : Int) ≤ (ki : Int) := by omega
                        clear hci
                        refine wpAnyH_more (S' := fun W => (((True ∧ W.cell? ⟨wA.heap.size, x, none⟩ = some (.string (labB (fr + j)))) ∧ (W.cell? ⟨wAL.heap.size, 0, none⟩ = some (.int .i64 1) ∧ W.cell? ⟨wAL.heap.size, 1, none⟩ = some (.int .i64 0) ∧ W.cell? ⟨wAL.heap.size, 2, none⟩ = some (.int .i64 3))) ∧ W.cell? ⟨wAL.heap.size, ki, none⟩ = some (.int .i64 sk))) (fun _ h => h.1) _ _ _ _ ?_
                        replace hHeld := And.intro hHeld HKALBPQ.out
                        try simp only [Act.put, List.setIfInBounds_toArray]
                        refine' wpAnyH_take (i := 13) (v := _) rfl (by kernel_rfl) (by kernel_rfl) (by kernel_rfl) (fun _ _ _ h => h) (Or.inl ⟨by rfl, ?hyALBPQ13⟩) (by assumption) ?restALBPQ13
                        case hyALBPQ13 =>
                          intro W hSw
                          (try dsimp only at hSw)
                          first | (go_simp; done) | (go_simp; with_reducible rfl)
                        try simp only [Act.put]
                        refine' wpAnyH_take (i := 14) (v := _) rfl (by kernel_rfl) (by kernel_rfl) (by kernel_rfl) (fun _ _ _ h => h) (Or.inl ⟨by rfl, ?hyALBPQ14⟩) (by assumption) ?restALBPQ14
                        case hyALBPQ14 =>
                          intro W hSw
                          (try dsimp only at hSw)
                          first | (go_simp; done) | (go_simp; with_reducible rfl)
                        try simp only [Act.put]
                        refine' wpAnyH_take (i := 15) (v := _) rfl (by kernel_rfl) (by kernel_rfl) (by kernel_rfl) (fun _ _ _ h => h) (Or.inl ⟨by rfl, ?hyALBPQ15⟩) (by assumption) ?restALBPQ15
                        case hyALBPQ15 =>
                          intro W hSw
                          (try dsimp only at hSw)
                          first | (go_simp; done) | (go_simp; with_reducible rfl)
                        try simp only [Act.put]
                        refine' wpAnyH_take (i := 16) (v := _) rfl (by kernel_rfl) (by kernel_rfl) (by kernel_rfl) (fun _ _ _ h => h) (Or.inl ⟨by rfl, ?hyALBPQ16⟩) (by assumption) ?restALBPQ16
                        case hyALBPQ16 =>
                          intro W hSw
                          (try dsimp only at hSw)
                          first | (go_simp; done) | (go_simp; with_reducible rfl)
                        obtain ⟨ec0, ec1, ec2, ec3⟩ := HEALBPQ.out.cells
                        have ef0 := HEALBPQ.out.thaw 0
                        have ef1 := HEALBPQ.out.thaw 1
                        have ef2 := HEALBPQ.out.thaw 2
                        have ef3 := HEALBPQ.out.thaw 3
                        have HFILL := Lib.hid (HEALBPQ.out.fill (s' := labB (fr + j)) (a' := sk) (b' := 0) (c' := (nx : Int)))
                        have HBES := Lib.hid (show Beside wd.heap.size wALBPQ ((((wALBPQ.setCell ⟨wd.heap.size, 0, none⟩ (.string (labB (fr + j)))).setCell ⟨wd.heap.size, 1, none⟩ (.int .i64 sk)).setCell ⟨wd.heap.size, 2, none⟩ (.int .i64 0)).setCell ⟨wd.heap.size, 3, none⟩ (.int .i64 (nx : Int))) from ((((Beside.refl _ wALBPQ).setCell 0 _).setCell 1 _).setCell 2 _).setCell 3 _)
                        have HEND := Lib.hid (edge_end HEALBPQ.out.lt HBALBPQ.out HDALBPQ.out HBES.out (by omega) hwg)
                        try simp only [Act.put, List.setIfInBounds_toArray]
                        refine wpAnyH_ready (rs := [18]) (by kernel_rfl) (by simp) ?_
                        refine AllReadyH.cons (i := 18) (o := _) rfl (fun K hK => ?_) AllReadyH.nil
                        go_simp
                        refine hK.out _ _ ⟨⟨⟨trivial, (HBES.out.cell (p := ⟨wA.heap.size, x, none⟩) (by show wA.heap.size < _; omega) (by show wA.heap.size ≠ wd.heap.size; omega)).trans HLALBPQ.out⟩, ints_on HBES.out (by omega) (by omega) HIALBPQ.out⟩, (HBES.out.cell (p := ⟨wAL.heap.size, ki, none⟩) (by show wAL.heap.size < _; omega) (by show wAL.heap.size ≠ wd.heap.size; omega)).trans HKALBPQ.out⟩ (fun hHeld => ?_)
                        clear hK K
                        try simp only [Act.put, List.setIfInBounds_toArray]
                        refine wpAnyH_done (by kernel_rfl) ?_ _
                        go_wp2_with fail
                        go_meet
                        case rel => exact ⟨wd.heap.size, nx, sk, rfl, HFILL, hnx, hsk, Lib.hid HEND.out.1, Lib.hid HEND.out.2, by omega⟩
                case gAB =>
                  go_simp
                  generalize hw : World.alloc wA _ = wAB
                  have hb : Beside g wA wAB := by rw [← hw]; exact Beside.of_below (tu1 wA _)
                  have hzAB : wA.heap.size + 1 ≤ wAB.heap.size := by rw [← hw]; simp
                  have HDAB := Lib.hid (show Dice wAB g by rw [← hw]; exact HDA.out.on (tu1 wA _))
                  have HBAB := Lib.hid (HBA.out.trans hb)
                  have HEAB := Lib.hid (show EBox wAB wd.heap.size ⟨#[]⟩ 0 0 0 from (hb.block wd.heap.size (by omega) (by omega)).trans HEA.out)
                  have HIAB := Lib.hid (show (wAB.cell? ⟨wA.heap.size, 0, none⟩ = some (.int .i64 1) ∧ wAB.cell? ⟨wA.heap.size, 1, none⟩ = some (.int .i64 0) ∧ wAB.cell? ⟨wA.heap.size, 2, none⟩ = some (.int .i64 3)) by rw [← hw]; exact ints_cells wA)
                  clear hw hb
                  refine hK.out _ _ trivial (fun hHeld => ?_)
                  clear hK K
                  refine wpAnyH_more (S' := fun W => (True ∧ (W.cell? ⟨wA.heap.size, 0, none⟩ = some (.int .i64 1) ∧ W.cell? ⟨wA.heap.size, 1, none⟩ = some (.int .i64 0) ∧ W.cell? ⟨wA.heap.size, 2, none⟩ = some (.int .i64 3)))) (fun _ h => h.1) _ _ _ _ ?_
                  replace hHeld := And.intro hHeld HIAB.out
                  try simp only [Act.put, List.setIfInBounds_toArray]
                  refine wpAnyH_ready (rs := [0]) (by kernel_rfl) (by simp) ?_
                  refine AllReadyH.cons (i := 0) (o := _) rfl (fun K hK => ?gABL) (AllReadyH.nil)
                  case gABL =>
                    go_simp
                    go_at_call 61
                    with_reducible refine (labels_any wAB).mono ?_
                    rintro e wABL ⟨rfl, hw⟩
                    have hb : Beside g wAB wABL := by rw [hw]; exact Beside.of_below (tu1 wAB _)
                    have hzABL : wAB.heap.size + 1 ≤ wABL.heap.size := by rw [hw]; simp
                    have HDABL := Lib.hid (show Dice wABL g by rw [hw]; exact HDAB.out.on (tu1 wAB _))
                    have HBABL := Lib.hid (HBAB.out.trans hb)
                    have HIABL := Lib.hid (show (wABL.cell? ⟨wA.heap.size, 0, none⟩ = some (.int .i64 1) ∧ wABL.cell? ⟨wA.heap.size, 1, none⟩ = some (.int .i64 0) ∧ wABL.cell? ⟨wA.heap.size, 2, none⟩ = some (.int .i64 3)) from ints_on hb (by omega) (by omega) HIAB.out)
                    have HEABL := Lib.hid (show EBox wABL wd.heap.size ⟨#[]⟩ 0 0 0 from (hb.block wd.heap.size (by omega) (by omega)).trans HEAB.out)
                    have HLABL := Lib.hid (show wABL.cell? ⟨wAB.heap.size, x, none⟩ = some (.string (labB (fr + j))) by rw [hw]; exact HLC.out wAB)
                    clear hw hb
                    refine hK.out _ _ ⟨trivial, HIABL.out⟩ (fun hHeld => ?_)
                    clear hK K
                    refine wpAnyH_more (S' := fun W => ((True ∧ (W.cell? ⟨wA.heap.size, 0, none⟩ = some (.int .i64 1) ∧ W.cell? ⟨wA.heap.size, 1, none⟩ = some (.int .i64 0) ∧ W.cell? ⟨wA.heap.size, 2, none⟩ = some (.int .i64 3))) ∧ W.cell? ⟨wAB.heap.size, x, none⟩ = some (.string (labB (fr + j))))) (fun _ h => h.1) _ _ _ _ ?_
                    replace hHeld := And.intro hHeld HLABL.out
                    try simp only [Act.put, List.setIfInBounds_toArray]
                    refine' wpAnyH_take (i := 5) (v := _) rfl (by kernel_rfl) (by kernel_rfl) (by kernel_rfl) (fun _ _ _ h => h) (Or.inl ⟨by rfl, ?hyABL5⟩) (by assumption) ?restABL5
                    case hyABL5 =>
                      intro W hSw
                      (try dsimp only at hSw)
                      first | (go_simp; done) | (go_simp; with_reducible rfl)
                    try simp only [Act.put]
                    refine' wpAnyH_take (i := 6) (v := _) rfl (by kernel_rfl) (by kernel_rfl) (by kernel_rfl) (fun _ _ _ h => h) (Or.inl ⟨by rfl, ?hyABL6⟩) (by assumption) ?restABL6
                    case hyABL6 =>
                      intro W hSw
                      (try dsimp only at hSw)
                      first | (go_simp; done) | (go_simp; with_reducible rfl)
                    try simp only [Act.put, List.setIfInBounds_toArray]
                    refine wpAnyH_ready (rs := [9]) (by kernel_rfl) (by simp) ?_
                    refine AllReadyH.cons (i := 9) (o := _) rfl (fun K hK => ?gABLP) (AllReadyH.nil)
                    case gABLP =>
                      go_simp
                      go_at_call 59
                      with_reducible refine (CPn.out _ HDABL.out).mono ?_
                      rintro e wABLP ⟨⟨nx, hnx, rfl⟩, hd, hb⟩
                      have hzABLP : wABL.heap.size ≤ wABLP.heap.size := hb.size
                      have HDABLP := Lib.hid hd
                      have HBABLP := Lib.hid (HBABL.out.trans hb)
                      have HIABLP := Lib.hid (show (wABLP.cell? ⟨wA.heap.size, 0, none⟩ = some (.int .i64 1) ∧ wABLP.cell? ⟨wA.heap.size, 1, none⟩ = some (.int .i64 0) ∧ wABLP.cell? ⟨wA.heap.size, 2, none⟩ = some (.int .i64 3)) from ints_on hb (by omega) (by omega) HIABL.out)
                      have HLABLP := Lib.hid (show wABLP.cell? ⟨wAB.heap.size, x, none⟩ = some (.string (labB (fr + j))) from (hb.cell (p := ⟨wAB.heap.size, x, none⟩) (by show wAB.heap.size < _; omega) (by show wAB.heap.size ≠ g; omega)).trans HLABL.out)
                      have HEABLP := Lib.hid (show EBox wABLP wd.heap.size ⟨#[]⟩ 0 0 0 from (hb.block wd.heap.size (by omega) (by omega)).trans HEABL.out)
                      clear hd hb
                      refine hK.out _ _ ⟨⟨trivial, HIABLP.out⟩, HLABLP.out⟩ (fun hHeld => ?_)
                      clear hK K
                      try simp only [Act.put, List.setIfInBounds_toArray]
                      refine wpAnyH_ready (rs := [12]) (by kernel_rfl) (by simp) ?_
                      refine AllReadyH.cons (i := 12) (o := _) rfl (fun K hK => ?gABLPQ) (AllReadyH.nil)
                      case gABLPQ =>
                        go_simp
                        go_at_call 59
                        with_reducible refine (CP3.out _ HDABLP.out).mono ?_
                        rintro e wABLPQ ⟨⟨ki, hki, rfl⟩, hd, hb⟩
                        have hzABLPQ : wABLP.heap.size ≤ wABLPQ.heap.size := hb.size
                        have HDABLPQ := Lib.hid hd
                        have HBABLPQ := Lib.hid (HBABLP.out.trans hb)
                        have HIABLPQ := Lib.hid (show (wABLPQ.cell? ⟨wA.heap.size, 0, none⟩ = some (.int .i64 1) ∧ wABLPQ.cell? ⟨wA.heap.size, 1, none⟩ = some (.int .i64 0) ∧ wABLPQ.cell? ⟨wA.heap.size, 2, none⟩ = some (.int .i64 3)) from ints_on hb (by omega) (by omega) HIABLP.out)
                        have HLABLPQ := Lib.hid (show wABLPQ.cell? ⟨wAB.heap.size, x, none⟩ = some (.string (labB (fr + j))) from (hb.cell (p := ⟨wAB.heap.size, x, none⟩) (by show wAB.heap.size < _; omega) (by show wAB.heap.size ≠ g; omega)).trans HLABLP.out)
                        have HEABLPQ := Lib.hid (show EBox wABLPQ wd.heap.size ⟨#[]⟩ 0 0 0 from (hb.block wd.heap.size (by omega) (by omega)).trans HEABLP.out)
                        clear hd hb
                        refine hK.out _ _ ⟨⟨trivial, HIABLPQ.out⟩, HLABLPQ.out⟩ (fun hHeld => ?_)
                        clear hK K
                        obtain ⟨sk, hsk, hci⟩ := ints_at HIABLPQ.out hki
                        have HKABLPQ := Lib.hid (show wABLPQ.cell? ⟨wA.heap.size, ki, none⟩ = some (.int .i64 sk) from hci)
                        have j3 : (ki : Int) < 3 := by omega
                        have j4 : (0 : Int) ≤ (ki : Int) := by omega
                        clear hci
                        refine wpAnyH_more (S' := fun W => (((True ∧ (W.cell? ⟨wA.heap.size, 0, none⟩ = some (.int .i64 1) ∧ W.cell? ⟨wA.heap.size, 1, none⟩ = some (.int .i64 0) ∧ W.cell? ⟨wA.heap.size, 2, none⟩ = some (.int .i64 3))) ∧ W.cell? ⟨wAB.heap.size, x, none⟩ = some (.string (labB (fr + j)))) ∧ W.cell? ⟨wA.heap.size, ki, none⟩ = some (.int .i64 sk))) (fun _ h => h.1) _ _ _ _ ?_
                        replace hHeld := And.intro hHeld HKABLPQ.out
                        try simp only [Act.put, List.setIfInBounds_toArray]
                        refine' wpAnyH_take (i := 13) (v := _) rfl (by kernel_rfl) (by kernel_rfl) (by kernel_rfl) (fun _ _ _ h => h) (Or.inl ⟨by rfl, ?hyABLPQ13⟩) (by assumption) ?restABLPQ13
                        case hyABLPQ13 =>
                          intro W hSw
                          (try dsimp only at hSw)
                          first | (go_simp; done) | (go_simp; with_reducible rfl)
                        try simp only [Act.put]
                        refine' wpAnyH_take (i := 14) (v := _) rfl (by kernel_rfl) (by kernel_rfl) (by kernel_rfl) (fun _ _ _ h => h) (Or.inl ⟨by rfl, ?hyABLPQ14⟩) (by assumption) ?restABLPQ14
                        case hyABLPQ14 =>
                          intro W hSw
                          (try dsimp only at hSw)
                          first | (go_simp; done) | (go_simp; with_reducible rfl)
                        try simp only [Act.put]
                        refine' wpAnyH_take (i := 15) (v := _) rfl (by kernel_rfl) (by kernel_rfl) (by kernel_rfl) (fun _ _ _ h => h) (Or.inl ⟨by rfl, ?hyABLPQ15⟩) (by assumption) ?restABLPQ15
                        case hyABLPQ15 =>
                          intro W hSw
                          (try dsimp only at hSw)
                          first | (go_simp; done) | (go_simp; with_reducible rfl)
                        try simp only [Act.put]
                        refine' wpAnyH_take (i := 16) (v := _) rfl (by kernel_rfl) (by kernel_rfl) (by kernel_rfl) (fun _ _ _ h => h) (Or.inl ⟨by rfl, ?hyABLPQ16⟩) (by assumption) ?restABLPQ16
                        case hyABLPQ16 =>
                          intro W hSw
                          (try dsimp only at hSw)
                          first | (go_simp; done) | (go_simp; with_reducible rfl)
                        obtain ⟨ec0, ec1, ec2, ec3⟩ := HEABLPQ.out.cells
                        have ef0 := HEABLPQ.out.thaw 0
                        have ef1 := HEABLPQ.out.thaw 1
                        have ef2 := HEABLPQ.out.thaw 2
                        have ef3 := HEABLPQ.out.thaw 3
                        have HFILL := Lib.hid (HEABLPQ.out.fill (s' := labB (fr + j)) (a' := sk) (b' := 0) (c' := (nx : Int)))
                        have HBES := Lib.hid (show Beside wd.heap.size wABLPQ ((((wABLPQ.setCell ⟨wd.heap.size, 0, none⟩ (.string (labB (fr + j)))).setCell ⟨wd.heap.size, 1, none⟩ (.int .i64 sk)).setCell ⟨wd.heap.size, 2, none⟩ (.int .i64 0)).setCell ⟨wd.heap.size, 3, none⟩ (.int .i64 (nx : Int))) from ((((Beside.refl _ wABLPQ).setCell 0 _).setCell 1 _).setCell 2 _).setCell 3 _)
                        have HEND := Lib.hid (edge_end HEABLPQ.out.lt HBABLPQ.out HDABLPQ.out HBES.out (by omega) hwg)
                        try simp only [Act.put, List.setIfInBounds_toArray]
                        refine wpAnyH_ready (rs := [18]) (by kernel_rfl) (by simp) ?_
                        refine AllReadyH.cons (i := 18) (o := _) rfl (fun K hK => ?_) AllReadyH.nil
                        go_simp
                        refine hK.out _ _ ⟨⟨⟨trivial, ints_on HBES.out (by omega) (by omega) HIABLPQ.out⟩, (HBES.out.cell (p := ⟨wAB.heap.size, x, none⟩) (by show wAB.heap.size < _; omega) (by show wAB.heap.size ≠ wd.heap.size; omega)).trans HLABLPQ.out⟩, (HBES.out.cell (p := ⟨wA.heap.size, ki, none⟩) (by show wA.heap.size < _; omega) (by show wA.heap.size ≠ wd.heap.size; omega)).trans HKABLPQ.out⟩ (fun hHeld => ?_)
                        clear hK K
                        try simp only [Act.put, List.setIfInBounds_toArray]
                        refine wpAnyH_done (by kernel_rfl) ?_ _
                        go_wp2_with fail
                        go_meet
                        case rel => exact ⟨wd.heap.size, nx, sk, rfl, HFILL, hnx, hsk, Lib.hid HEND.out.1, Lib.hid HEND.out.2, by omega⟩
            case rest =>
              obtain ⟨eb, nx, sk, e12, HEB, hnx, hsk, HDx, HBx, heb⟩ := hcut
              subst e12
              have HOx := Lib.hid (HO.out.beside HBx.out (by omega))
              obtain ⟨x0, x1, x2, x3⟩ := HEB.out.cells
              have hebz := HEB.out.lt
              have HSK := Lib.hid hsk
              have HLS := Lib.hid (show (labB (fr + j)).size ≤ maxLen by simp [labB, maxLen, ByteArray.size])
              have HEG := Lib.hid (show ∀ (a b : Int), (b = 0 ∧ (a = 1 ∨ a = 0 ∨ a = 3)) ∨ (a = 5 ∧ 0 ≤ b ∧ b < ((m + 1 : Nat) : Int)) → edgeB (m + 1) (edgeR ⟨labB (fr + j), a, b, (nx : Int)⟩) = true from fun a b h => by
                unfold edgeR edgeB
                rw [labB_list, labS_may, show sortB (m + 1) a b = true by
                  unfold sortB
                  rcases h with ⟨rfl, h⟩ | ⟨rfl, h⟩
                  · rw [if_neg (by omega), decide_eq_true (show 0 ≤ a by omega), decide_eq_true (show a < 5 by omega)]; rfl
                  · rw [if_pos rfl]; unfold inBk; rw [decide_eq_true h.1, decide_eq_true h.2]; rfl, show inBk (m + 1) (nx : Int) = true from inBk_nat hnx]
                rfl)
              have HLN := Lib.hid (show ∀ (a b : Int), (l ++ [edgeR ⟨labB (fr + j), a, b, (nx : Int)⟩]).map EdgeL.label = (List.range (j + 1)).map fun i => labS (fr + i) from fun a b => by
                rw [List.map_append, HLB.out, List.range_succ, List.map_append]
                show _ ++ [(labB (fr + j)).toList] = _
                rw [labB_list]
                rfl)
              clear hsk
              go_wp2_with (first
                | (go_at_call 59; (with_reducible refine (CP5.out _ HDx.out).mono ?_)
                   rintro e w2 ⟨⟨k5, hk5, rfl⟩, hd2, hb2⟩
                   have HD2 := Lib.hid hd2
                   have HB2 := Lib.hid (HBx.out.trans hb2)
                   have HE2 := Lib.hid (show EBox w2 eb (labB (fr + j)) sk 0 (nx : Int) from (hb2.block eb hebz (by omega)).trans HEB.out)
                   obtain ⟨y0, y1, y2, y3⟩ := HE2.out.cells
                   have yf1 := HE2.out.thaw 1
                   have yf2 := HE2.out.thaw 2
                   have HO2 := Lib.hid (HOx.out.beside hb2 (by omega))
                   have hz2 := HB2.out.size
                   clear hd2 hb2 x0 x1 x2 x3)
                | (go_at_call 59; (with_reducible refine (CPn.out _ HD2.out).mono ?_)
                   rintro e w3 ⟨⟨yy, hyy, rfl⟩, hd3, hb3⟩
                   have HE3 := Lib.hid (show EBox w3 eb (labB (fr + j)) sk 0 (nx : Int) from (hb3.block eb HE2.out.lt (by omega)).trans HE2.out)
                   obtain ⟨z0, z1, z2, z3⟩ := HE3.out.cells
                   have zf1 := HE3.out.thaw 1
                   have zf2 := HE3.out.thaw 2
                   have HF3 := Lib.hid (HE3.out.sort (a' := 5) (b' := (yy : Int)))
                   have HZ3 := Lib.hid (edge_end HE3.out.lt (HB2.out.trans hb3) hd3 (((Beside.refl eb w3).setCell 1 (.int .i64 5)).setCell 2 (.int .i64 (yy : Int))) heb hwg)
                   have HO3 := Lib.hid (HO.out.beside HZ3.out.2 (by omega))
                   have hz3 := HZ3.out.2.size
                   have hyy' : (yy : Int) < ((m + 1 : Nat) : Int) := by omega
                   clear hd3 hb3 y0 y1 y2 y3 yf1 yf2)
                | (at_builtin
                   refine wpList_append_edges rfl (.tmp 75) (.tmp 77) rfl wi.heap.size v l _ 1 1 [edgeR ⟨labB (fr + j), sk, 0, (nx : Int)⟩] rfl rfl (HO2.out.alloc _) (EdRow.one (W := w2) ⟨labB (fr + j), sk, 0, (nx : Int)⟩ rfl rfl HLS.out) (by simp; omega) (by have := HLL.out; omega) ?_
                   intro v5 w5 ho5 hb5
                   have HO5 := Lib.hid ho5
                   have HB5 := Lib.hid (show Below wi.heap.size w2 w5 from ((Below.refl wi.heap.size w2).alloc (by omega) _).trans hb5)
                   clear ho5 hb5)
                | (at_builtin
                   refine wpList_append_edges rfl (.tmp 75) (.tmp 77) rfl wi.heap.size v l _ 1 1 [edgeR ⟨labB (fr + j), 5, (yy : Int), (nx : Int)⟩] rfl rfl (HO3.out.alloc _) (EdRow.one (W := (w3.setCell ⟨eb, 1, none⟩ (.int .i64 5)).setCell ⟨eb, 2, none⟩ (.int .i64 (yy : Int))) ⟨labB (fr + j), 5, (yy : Int), (nx : Int)⟩ (by simp) rfl HLS.out) (by simp at hz3 ⊢; omega) (by have := HLL.out; omega) ?_
                   intro v6 w6' ho6 hb6
                   have HO6 := Lib.hid ho6
                   have HB6 := Lib.hid (show Below wi.heap.size ((w3.setCell ⟨eb, 1, none⟩ (.int .i64 5)).setCell ⟨eb, 2, none⟩ (.int .i64 (yy : Int))) w6' from ((Below.refl wi.heap.size _).alloc (by omega) _).trans hb6)
                   clear ho6 hb6)
                | fail)
              · go_roundw
                case rel => exact ⟨j + 1, v6, _, by omega, by go_num, rfl, HO6, Lib.hid (HLN.out _ _), Lib.hid (fun a ha => by
                    rcases List.mem_append.1 ha with ha | ha
                    · exact HG.out a ha
                    · rw [List.mem_singleton.1 ha]; exact HEG.out _ _ (.inr ⟨rfl, by omega, hyy'⟩)), Lib.hid (HZ3.out.1.below HB6.out (by omega)), Lib.hid (bes_below (HBr.out.trans HZ3.out.2) HB6.out (Nat.le_refl _))⟩
                case measure => simp [intOf]; omega
              · go_roundw
                case rel => exact ⟨j + 1, v5, _, by omega, by go_num, rfl, HO5, Lib.hid (HLN.out _ _), Lib.hid (fun a ha => by
                    rcases List.mem_append.1 ha with ha | ha
                    · exact HG.out a ha
                    · rw [List.mem_singleton.1 ha]; exact HEG.out _ _ (.inl ⟨rfl, HSK.out⟩)), Lib.hid (HD2.out.below HB5.out (by omega)), Lib.hid (bes_below (HBr.out.trans HB2.out) HB5.out (Nat.le_refl _))⟩
                case measure => simp [intOf]; omega
          · obtain rfl : j = q + 1 := by omega
            have d2 : decide (((q + 1 : Nat) : Int) < 1 + (q : Int)) = false := decide_eq_false (by omega)
            obtain ⟨la, lc, hlv, hle, _, _⟩ := HO.out.sees (by have := HLL.out; omega)
            obtain ⟨ln, hln⟩ : ∃ ln, ln = l.length := ⟨_, rfl⟩
            rw [← hln] at hlv hle
            have HLNN := Lib.hid hln
            clear hln
            subst hlv
            have CS := Lib.hid (sorted10_any la ln lc l wr wr.heap.size (Nat.le_refl _) (by have := HLNN.out; have := HLL.out; omega) hle)
            have h0 : ∃ e ∈ l, e.label = labS fr := by
              have h1 : (l.map EdgeL.label)[0]? = some (labS (fr + 0)) := by rw [HLB.out]; simp
              rw [List.getElem?_map] at h1
              obtain ⟨e, he, h2⟩ := Option.map_eq_some_iff.1 h1
              exact ⟨e, List.mem_of_getElem? he, h2⟩
            have HL8 := Lib.hid (show edgesB (m + 1) (sortTo l 4) = true from by
              obtain ⟨h1, h2⟩ := sortTo_up l 4 (Nat.le_refl _)
              obtain ⟨e, he, hel⟩ := h0
              have h3 := sortTo_some he hfr hel
              unfold edgesB upB
              rw [List.all_eq_true.2 (fun x hx => HG.out x (sortTo_mem hx).1), decide_eq_true h1, decide_eq_true h3, decide_eq_true (show (sortTo l 4).length ≤ 6 by omega)]
              rfl)
            have HL4 := Lib.hid (sortTo_up l 4 (Nat.le_refl _)).2
            have HNr := Lib.hid (show NBox wr w6.heap.size (1 + (r : Int)) (rolS pi) none 0 0 from (HBr.out.block w6.heap.size hzi (by omega)).trans HNi.out)
            have HSr := Lib.hid (show Beside g w6 wr from HSi.out.trans HBr.out)
            clear h0 hle
            go_upto_region 20 with (first
              | (go_at_call 62; (with_reducible refine CS.out.mono ?_)
                 rintro e w8 ⟨⟨v8, rfl, ho8⟩, hb8⟩
                 obtain ⟨sa8, sc8, hv8, _, _, _⟩ := ho8.sees (by have := HL4.out; omega)
                 obtain ⟨sn8, hsn8⟩ : ∃ n, n = (sortTo l 4).length := ⟨_, rfl⟩
                 rw [← hsn8] at hv8
                 have HSN8 := Lib.hid hsn8
                 clear hsn8
                 subst hv8
                 have HO8 := Lib.hid ho8
                 have HN8 := Lib.hid (show NBox w8 w6.heap.size (1 + (r : Int)) (rolS pi) none 0 0 from (hb8.block w6.heap.size HNr.out.lt).trans HNr.out)
                 have HB8 := Lib.hid (show Beside g w6 w8 from HSr.out.trans (Beside.of_below hb8))
                 have HD8 := Lib.hid (HD.out.on hb8)
                 have hz8 := hb8.size
                 obtain ⟨n80, n81, n82⟩ := HN8.out.cells
                 have nf2 := HN8.out.thaw 2
                 clear ho8 hb8)
              | fail)
            have HE9 := Lib.hid (edge_end HN8.out.lt HB8.out HD8.out ((Beside.refl w6.heap.size w8).setCell 2 (.slice sa8 sn8 sc8)) (Nat.le_refl _) (by omega))
            have HN9 := Lib.hid (setBox10 (va3 := sa8) (k3 := sn8) (vc3 := sc8) HN8.out)
            have HO9 := Lib.hid (HO8.out.beside ((Beside.refl w6.heap.size w8).setCell 2 (.slice sa8 sn8 sc8)) (by have := HSr.out.size; have := HNr.out.lt; omega))
            have hz9 : wr.heap.size ≤ (w8.setCell ⟨w6.heap.size, 2, none⟩ (.slice sa8 sn8 sc8)).heap.size := by simp; omega
            have hz69 : w6.heap.size < wr.heap.size := HNr.out.lt
            generalize w8.setCell ⟨w6.heap.size, 2, none⟩ (.slice sa8 sn8 sc8) = w9 at HE9 HN9 HO9 hz9 ⊢
            have HM9 := Lib.hid (HM6.out.beside HE9.out.2 HE9.out.1)
            obtain ⟨p0, p1, p2⟩ := HN9.out.cells
            obtain ⟨b90, b91, b92⟩ := HM9.out.box.cells
            obtain ⟨_, _, hzG⟩ := HM9.out.low
            have hvl : ∀ b, (Value.slice va k vc).ownBlock = some b → b < w6.heap.size := fun b e => by
              obtain ⟨rs, h1, _⟩ := HM6.out.own
              exact (h1.lt b e).2
            have hat : NodeAt w9 (w1.heap.size + 1) (.slice va k vc) ⟨1 + (r : Int), rolS pi, sa8, sn8, sc8⟩ ⟨1 + (r : Int), (rolS pi).toList, sortTo l 4⟩ := by
              obtain ⟨sa', sc', hv', hed, hcp, _⟩ := HO9.out.sees (by have := HL4.out; omega)
              obtain ⟨e1, e2, e3⟩ := Value.slice.inj hv'
              refine ⟨rfl, rfl, by simp [rolS, maxLen, ByteArray.size], ?_, fun b off e => ?_, by show sn8 ≤ sc8; rw [e2, e3]; exact hcp⟩
              · show Edges w9 w9.heap.size sa8 sn8 (sortTo l 4)
                rw [e1, e2]; exact hed
              · have e' : sa8 = some ⟨b, off, none⟩ := e
                obtain ⟨ts, h1, _⟩ := HO9.out
                rw [e'] at h1
                have h2 := h1.lt b rfl
                exact ⟨by omega, h2.2, fun c => by have := hvl b c; omega⟩
            have HAT := Lib.hid hat
            have HGT := Lib.hid (show nodeB (m + 1) ⟨1 + (r : Int), (rolS pi).toList, sortTo l 4⟩ = true by
              unfold nodeB
              rw [if_neg (by show ¬ (1 + (r : Int)) = 0; omega), if_pos (by show (1 + (r : Int)) = 1 ∨ (1 + (r : Int)) = 2; omega)]
              rw [show may (rolS pi).toList = true from rolS_may pi, HL8.out]
              rfl)
            clear hat hvl
            go_wp2_with (first
              | (at_builtin
                 refine wpList_append_node rfl (.tmp 83) (.tmp 85) rfl (w1.heap.size + 1) (.slice va k vc) f ⟨1 + (r : Int), rolS pi, sa8, sn8, sc8⟩ ⟨1 + (r : Int), (rolS pi).toList, sortTo l 4⟩ rfl rfl rfl rfl HM9.out.own HAT.out (by omega) (by have := HFL.out; omega) w9 (Below.refl _ _) ?_
                 intro v5 w5 hown hbel
                 obtain ⟨sa5, sc5, hv5, _⟩ := hown.sees (by rw [List.length_append, List.length_singleton, HFL.out]; omega)
                 rw [List.length_append, List.length_singleton, HFL.out] at hv5
                 subst hv5
                 have HO5 := Lib.hid hown
                 have HX5 := Lib.hid (HM9.out.box.stay (hbel.block w1.heap.size (by omega)))
                 have HB5 := Lib.hid hbel
                 obtain ⟨u50, u51, u52⟩ := HX5.out.cells
                 have uf5 := HX5.out.thaw 0
                 clear hown hbel)
              | fail)
            go_roundw
            case rel =>
              have hbs := (Beside.refl w1.heap.size w5).setCell 0 (.slice sa5 (k + 1) sc5)
              have hbl0 : Below w1.heap.size w9 w5 := HB5.out.mono (by omega)
              have hbl : Below w1.heap.size w9 (w5.setCell ⟨w1.heap.size, 0, none⟩ (.slice sa5 (k + 1) sc5)) := hbl0.setCell (Nat.le_refl _) _
              exact ⟨k + 1, sa5, sc5, f ++ [⟨1 + (r : Int), (rolS pi).toList, sortTo l 4⟩], by omega, by go_num, Lib.hid ⟨HO5.out.beside hbs (by omega), HX5.out.set0 _ _ _, HM9.out.res.stay (hbl.block _ (by omega)), HM9.out.dice.below hbl (by omega), ⟨hbl.os.trans HM9.out.bes.os, hbl.tape.trans HM9.out.bes.tape, hbl.output.trans HM9.out.bes.output, Nat.le_trans HM9.out.bes.size hbl.size, fun b hb hne => (hbl.block b (by omega)).trans (HM9.out.bes.block b hb hne)⟩,
                fun t ht => by
                  rcases List.mem_append.1 ht with ht | ht
                  · exact HM9.out.good t ht
                  · rw [List.mem_singleton.1 ht]; exact HGT.out, by rw [List.length_append, HFL.out]; rfl, hlow1, hlow2, by have := hbl.size; omega⟩⟩
            case measure => simp [intOf]; omega
    · obtain rfl : k = m + 1 := by omega
      have d1 : decide (((m + 1 : Nat) : Int) < 1 + (m : Int)) = false := decide_eq_false (by omega)
      obtain ⟨b0, b1, b2⟩ := HM.out.box.cells
      have bf1 := HM.out.box.thaw 1
      go_upto_region 22 with fail
      have hGz := HM.out.low.2.2
      have HZA := Lib.hid (edge_end hGz HM.out.bes HM.out.dice ((Beside.refl w1.heap.size wr).setCell 1 (.slice (some ⟨wr.heap.size, 0, none⟩) 2 2)) (by omega) hgl)
      have HOA := Lib.hid ((HM.out.own.beside ((Beside.refl w1.heap.size wr).setCell 1 (.slice (some ⟨wr.heap.size, 0, none⟩) 2 2)) (by omega)).kept (tu1 _ (.cells #[.string ⟨#[111, 110, 101]⟩, .string ⟨#[116, 119, 111]⟩] 9)) (by omega))
      have HXA := Lib.hid (show BBox ((wr.setCell ⟨w1.heap.size, 1, none⟩ (.slice (some ⟨wr.heap.size, 0, none⟩) 2 2)).alloc (.cells #[.string ⟨#[111, 110, 101]⟩, .string ⟨#[116, 119, 111]⟩] 9)) w1.heap.size va (m + 1) vc (some ⟨wr.heap.size, 0, none⟩) 2 2 none 0 0 from
        ((tu1 _ _).block _ (by simpa using hGz)).trans (HM.out.box.set1 _ _ _))
      have HSA := Lib.hid (show BBox ((wr.setCell ⟨w1.heap.size, 1, none⟩ (.slice (some ⟨wr.heap.size, 0, none⟩) 2 2)).alloc (.cells #[.string ⟨#[111, 110, 101]⟩, .string ⟨#[116, 119, 111]⟩] 9)) w.heap.size none 0 0 none 0 0 none 0 0 from
        ((tu1 _ _).block _ (by simp; omega)).trans ((Below.heap_setCell _ _ _ _ (by simp; omega)).trans HM.out.res))
      have HNA := Lib.hid (show ((wr.setCell ⟨w1.heap.size, 1, none⟩ (.slice (some ⟨wr.heap.size, 0, none⟩) 2 2)).alloc (.cells #[.string ⟨#[111, 110, 101]⟩, .string ⟨#[116, 119, 111]⟩] 9)).heap[wr.heap.size]? = some (.cells #[.string ⟨#[111, 110, 101]⟩, .string ⟨#[116, 119, 111]⟩] 9 (0, 0)) from by
        have := heap_alloc_new (wr.setCell ⟨w1.heap.size, 1, none⟩ (.slice (some ⟨wr.heap.size, 0, none⟩) 2 2)) (.cells #[.string ⟨#[111, 110, 101]⟩, .string ⟨#[116, 119, 111]⟩] 9)
        rwa [World.size_setCell] at this)
      have HDA := Lib.hid (HZA.out.1.on (tu1 _ (.cells #[.string ⟨#[111, 110, 101]⟩, .string ⟨#[116, 119, 111]⟩] 9)))
      have HBA := Lib.hid (HZA.out.2.alloc (.cells #[.string ⟨#[111, 110, 101]⟩, .string ⟨#[116, 119, 111]⟩] 9))
      clear HZA b0 b1 b2 bf1
      generalize (wr.setCell ⟨w1.heap.size, 1, none⟩ (.slice (some ⟨wr.heap.size, 0, none⟩) 2 2)).alloc (.cells #[.string ⟨#[111, 110, 101]⟩, .string ⟨#[116, 119, 111]⟩] 9) = wA at HOA HXA HSA HNA HDA HBA ⊢
      go_upto_region 23 with (first
        | (go_at_call 59; (with_reducible refine (CPn.out _ HDA.out).mono ?_)
           rintro e wB ⟨⟨x, hx, rfl⟩, hd2, hb2⟩
           have HDB := Lib.hid hd2
           have HBB := Lib.hid (HBA.out.trans hb2)
           have HOB := Lib.hid (HOA.out.beside hb2 (by omega))
           have HXB := Lib.hid (HXA.out.stay (hb2.block _ HXA.out.lt (by omega)))
           have HSB := Lib.hid (HSA.out.stay (hb2.block _ HSA.out.lt (by omega)))
           have HNB := Lib.hid ((hb2.block wr.heap.size (Array.getElem?_eq_some_iff.1 HNA.out).1 (by omega)).trans HNA.out)
           obtain ⟨c0, c1, c2⟩ := HXB.out.cells
           have cf2 := HXB.out.thaw 2
           have hGB : w1.heap.size < wB.heap.size := HXB.out.lt
           clear hd2 hb2)
        | fail)
      have HZC := Lib.hid (edge_end HXB.out.lt HBB.out HDB.out ((Beside.refl w1.heap.size wB).setCell 2 (.slice (some ⟨wB.heap.size, 0, none⟩) 2 2)) (by omega) hgl)
      have HOC := Lib.hid ((HOB.out.beside ((Beside.refl w1.heap.size wB).setCell 2 (.slice (some ⟨wB.heap.size, 0, none⟩) 2 2)) (by omega)).kept (tu1 _ (.cells #[.int .i64 0, .int .i64 (x : Int)] 3)) (by omega))
      have HXC := Lib.hid (show BBox ((wB.setCell ⟨w1.heap.size, 2, none⟩ (.slice (some ⟨wB.heap.size, 0, none⟩) 2 2)).alloc (.cells #[.int .i64 0, .int .i64 (x : Int)] 3)) w1.heap.size va (m + 1) vc (some ⟨wr.heap.size, 0, none⟩) 2 2 (some ⟨wB.heap.size, 0, none⟩) 2 2 from
        ((tu1 _ _).block _ (by have := HXB.out.lt; simpa using this)).trans (HXB.out.set2 _ _ _))
      have HSC := Lib.hid (show BBox ((wB.setCell ⟨w1.heap.size, 2, none⟩ (.slice (some ⟨wB.heap.size, 0, none⟩) 2 2)).alloc (.cells #[.int .i64 0, .int .i64 (x : Int)] 3)) w.heap.size none 0 0 none 0 0 none 0 0 from
        ((tu1 _ _).block _ (by have := HSB.out.lt; simpa using this)).trans ((Below.heap_setCell _ _ _ _ (by simp; omega)).trans HSB.out))
      have HNC := Lib.hid (show ((wB.setCell ⟨w1.heap.size, 2, none⟩ (.slice (some ⟨wB.heap.size, 0, none⟩) 2 2)).alloc (.cells #[.int .i64 0, .int .i64 (x : Int)] 3)).heap[wr.heap.size]? = some (.cells #[.string ⟨#[111, 110, 101]⟩, .string ⟨#[116, 119, 111]⟩] 9 (0, 0)) from
        ((tu1 _ _).block _ (by have := (Array.getElem?_eq_some_iff.1 HNB.out).1; simpa using this)).trans ((Below.heap_setCell _ _ _ _ (by simp; omega)).trans HNB.out))
      have HIC := Lib.hid (show ((wB.setCell ⟨w1.heap.size, 2, none⟩ (.slice (some ⟨wB.heap.size, 0, none⟩) 2 2)).alloc (.cells #[.int .i64 0, .int .i64 (x : Int)] 3)).heap[wB.heap.size]? = some (.cells #[.int .i64 0, .int .i64 (x : Int)] 3 (0, 0)) from by
        have := heap_alloc_new (wB.setCell ⟨w1.heap.size, 2, none⟩ (.slice (some ⟨wB.heap.size, 0, none⟩) 2 2)) (.cells #[.int .i64 0, .int .i64 (x : Int)] 3)
        rwa [World.size_setCell] at this)
      have HBC := Lib.hid (HZC.out.2.alloc (.cells #[.int .i64 0, .int .i64 (x : Int)] 3))
      have hwB : wr.heap.size < wB.heap.size := (Array.getElem?_eq_some_iff.1 HNB.out).1
      clear HZC c0 c1 c2 cf2
      generalize (wB.setCell ⟨w1.heap.size, 2, none⟩ (.slice (some ⟨wB.heap.size, 0, none⟩) 2 2)).alloc (.cells #[.int .i64 0, .int .i64 (x : Int)] 3) = wC at HOC HXC HSC HNC HIC HBC ⊢
      obtain ⟨e0, e1, e2⟩ := HXC.out.cells
      obtain ⟨s0, s1, s2⟩ := HSC.out.cells
      have sf0 := HSC.out.thaw 0
      have sf1 := HSC.out.thaw 1
      have sf2 := HSC.out.thaw 2
      go_wp2_with fail
      refine bodyPost_ret (v := bkV va (m + 1) vc (some ⟨wr.heap.size, 0, none⟩) 2 2 (some ⟨wB.heap.size, 0, none⟩) 2 2) (by simp [results, go_sem, s0, s1, s2]) rfl ?_
      have hset : ∀ (x y z : Value), Beside w.heap.size wC (((wC.setCell ⟨w.heap.size, 0, none⟩ x).setCell ⟨w.heap.size, 1, none⟩ y).setCell ⟨w.heap.size, 2, none⟩ z) := fun x y z => (((Beside.refl _ wC).setCell 0 x).setCell 1 y).setCell 2 z
      have hend := book_end (va := va) (vc := vc) (HOC.out.beside (hset (.slice va (m + 1) vc) (.slice (some ⟨wr.heap.size, 0, none⟩) 2 2) (.slice (some ⟨wB.heap.size, 0, none⟩) 2 2)) (by omega)) HM.out.good HM.out.len hm hx
        (((hset _ _ _).block _ (Array.getElem?_eq_some_iff.1 HNC.out).1 (by omega)).trans HNC.out) (((hset _ _ _).block _ (Array.getElem?_eq_some_iff.1 HIC.out).1 (by omega)).trans HIC.out)
      refine ⟨⟨va, m + 1, vc, some ⟨wr.heap.size, 0, none⟩, 2, some ⟨wB.heap.size, 0, none⟩, 2, _, rfl, hend.1, hend.2, by omega, by omega, (HOC.out.beside (hset (.slice va (m + 1) vc) (.slice (some ⟨wr.heap.size, 0, none⟩) 2 2) (.slice (some ⟨wB.heap.size, 0, none⟩) 2 2)) (by omega)).caps⟩, ?_⟩
      exact ⟨(hset _ _ _).os.trans HBC.out.os, (hset _ _ _).tape.trans HBC.out.tape, (hset _ _ _).output.trans HBC.out.output, Nat.le_trans HBC.out.size (hset _ _ _).size, fun b hb hne => ((hset _ _ _).block b (by have := HBC.out.size; omega) (by omega)).trans (HBC.out.block b hb hne)⟩
theorem book10_any (g : Nat) (w : World) (hD : Dice w g) :
    Calls Try.prog 22 #[.pointer (some ⟨g, 0, none⟩)] w fun e w' => BkMade e w' ∧ Beside g w w' :=
  (book10C_any g w hD).mono fun _ _ h => ⟨h.1.plain, h.2⟩
end Go.Proofs.Ytgefhgcpnfbigaa
