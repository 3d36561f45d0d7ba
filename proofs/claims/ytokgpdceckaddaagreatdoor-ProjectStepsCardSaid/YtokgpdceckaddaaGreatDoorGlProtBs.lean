/- Contract of reparteemake's rounds, with types. (Printed out of XGlRounds.) -/
import Derived.Test.YtokgpdceckaddaaGreatDoorGlRoundsP
import Derived.Test.YtokgpdceckaddaaGreatDoorPjMades
import Derived.Deep.DeepCutAuto
import Derived.Deep.RegionLaw
namespace Go.Proofs.YtokgpdceckaddaaGreatDoor
open Go.RowKit

/-- What is known between the steps: the points so far. -/
structure RSg (w W : World) (g g9 : Nat) (nm : ByteArray) (many rb rc N : Nat) (sa : Option Addr) (sn sc : Nat) (f : List PointL) : Prop where
  row : PRow W (g9 + 1) W.heap.size (.slice sa sn sc) f
  box : PBox W g9 nm (some ⟨rb, 0, none⟩) many rc sa sn sc
  res : PBox W w.heap.size ⟨#[]⟩ none 0 0 none 0 0
  roles : RRow W (w.heap.size + 1) (some ⟨rb, 0, none⟩) many rc (rolesL many)
  dice : Dice W g
  bes : Beside g w W
  len : f.length = sn
  ok : ∀ t ∈ f, pointB (rolesL many) N t = true
  arm : ∀ t ∈ f, 0 < t.arms.length
theorem RSg.gets {w W : World} {g g9 : Nat} {nm : ByteArray} {many rb rc N : Nat} {sa : Option Addr} {sn sc : Nat} {f : List PointL} (h : RSg w W g g9 nm many rb rc N sa sn sc f) {k : Nat} (hk : k < many) : W.cell? ⟨rb, k, none⟩ = some (.string (rolS k)) := by
  obtain ⟨b, hb, _, _, hc⟩ := h.roles.cell (by omega)
  obtain ⟨e1, _, _⟩ := Addr.mk.inj (Option.some.inj hb)
  subst e1
  have := hc k _ (rolesL_at hk)
  rwa [baS_of] at this
theorem RSg.low {w W : World} {g g9 : Nat} {nm : ByteArray} {many rb rc N : Nat} {sa : Option Addr} {sn sc : Nat} {f : List PointL} (h : RSg w W g g9 nm many rb rc N sa sn sc f) : w.heap.size < rb ∧ rb < W.heap.size ∧ g9 < W.heap.size := by
  have := World.ownsRow.lt h.roles rb rfl
  exact ⟨by omega, this.2, h.box.lt⟩
/-- A step that leaves the blocks below the array of points. -/
theorem RSg.next {w W W' : World} {g g9 : Nat} {nm : ByteArray} {many rb rc N : Nat} {sa : Option Addr} {sn sc : Nat} {f : List PointL} (h : RSg w W g g9 nm many rb rc N sa sn sc f) (hg : g < w.heap.size) (hw : w.heap.size < g9) (hr : rb < g9) (hb : Below (g9 + 1) W W') {sa' : Option Addr} {sn' sc' : Nat} {f' : List PointL} (hrow : PRow W' (g9 + 1) W'.heap.size (.slice sa' sn' sc') f')
    (hlen : f'.length = sn') (hok : ∀ t ∈ f', pointB (rolesL many) N t = true) (harm : ∀ t ∈ f', 0 < t.arms.length) : RSg w (W'.setCell ⟨g9, 2, none⟩ (.slice sa' sn' sc')) g g9 nm many rb rc N sa' sn' sc' f' := by
  have hs := hb.size
  have hbx := h.low
  have hb2 : Below g9 W' (W'.setCell ⟨g9, 2, none⟩ (.slice sa' sn' sc')) := (Below.refl g9 W').setCell (Nat.le_refl _) _
  refine ⟨(hrow.beside ((Beside.refl g9 W').setCell 2 _) (by omega)).top (Nat.le_refl _), PBox.set (show PBox W' g9 nm _ many rc sa sn sc from (hb.block g9 (by omega)).trans h.box), ?_, (h.roles.below hb (by omega)).below hb2 hr, (h.dice.below hb (by omega)).below hb2 (by omega), bes_below (bes_below h.bes hb (by omega)) hb2 (by omega), hlen, hok, harm⟩
  exact (hb2.block w.heap.size (by omega)).trans ((hb.block w.heap.size (by omega)).trans h.res)
theorem RSg.same {w W W' : World} {g g9 : Nat} {nm : ByteArray} {many rb rc N : Nat} {sa : Option Addr} {sn sc : Nat} {f : List PointL} (h : RSg w W g g9 nm many rb rc N sa sn sc f) (hg : g < w.heap.size) (hw : w.heap.size < g9) (hd : Dice W' g) (hb : Beside g W W') : RSg w W' g g9 nm many rb rc N sa sn sc f := by
  have hbx := h.low
  exact ⟨(h.row.beside hb (by omega)).top (Nat.le_refl _), h.box.beside hb (by omega), h.res.beside hb (by omega), h.roles.beside hb (by omega), hd, h.bes.trans hb, h.len, h.ok, h.arm⟩
theorem RSg.drew {w W : World} {g g9 : Nat} {nm : ByteArray} {many rb rc N : Nat} {sa : Option Addr} {sn sc : Nat} {f : List PointL} (h : RSg w W g g9 nm many rb rc N sa sn sc f) : RSg w W.drew g g9 nm many rb rc N sa sn sc f :=
  ⟨h.row.drew, h.box, h.res, h.roles.drew, h.dice.drew, bes_drew h.bes, h.len, h.ok, h.arm⟩
theorem RSg.onto {w W : World} {g g9 : Nat} {nm : ByteArray} {many rb rc N : Nat} {sa : Option Addr} {sn sc : Nat} {f : List PointL} (h : RSg w W g g9 nm many rb rc N sa sn sc f) (hg : g < w.heap.size) (hw : w.heap.size < g9) (o : Obj) : RSg w (W.alloc o) g g9 nm many rb rc N sa sn sc f :=
  h.same hg hw (h.dice.on (tu1 W o)) (Beside.of_below (tu1 W o))
theorem RRow.gets {W : World} {base many rb rc k : Nat} (h : RRow W base (some ⟨rb, 0, none⟩) many rc (rolesL many)) (hk : k < many) : W.cell? ⟨rb, k, none⟩ = some (.string (rolS k)) := by
  obtain ⟨b, hb, _, _, hc⟩ := h.cell (by omega)
  obtain ⟨e1, _, _⟩ := Addr.mk.inj (Option.some.inj hb)
  subst e1
  have := hc k _ (rolesL_at hk)
  rwa [baS_of] at this
theorem AOwn.drewn {W : World} {base : Nat} {v : Value} {l : List ArmL} (h : AOwn W base v l) : AOwn W.drew base v l := by
  obtain ⟨rs, h1, h2⟩ := h
  exact ⟨rs, h1.drew, h2⟩
theorem nil_small : (⟨#[]⟩ : ByteArray).size ≤ maxLen := by simp [maxLen, ByteArray.size]
theorem nil_str : (⟨#[]⟩ : ByteArray).toList = [] := by rw [ByteArray.toList_eq]
theorem labB_small (i : Nat) : (labB i).size ≤ maxLen := by simp [labB, maxLen, ByteArray.size]
theorem made_one (W : World) (s : ByteArray) (t : Str) (hs : s.size ≤ maxLen) (ht : s.toList = t) (ck x : Int) :
    AOwn (W.alloc (.cells #[.string s, .int .i64 ck, .string ⟨#[]⟩, .int .i64 x] 45)) W.heap.size (.slice (some ⟨W.heap.size, 0, none⟩) 1 1) [⟨t, ck, [], x⟩] := by
  have h := AOwn.made (W := W) (Nat.le_refl _) [⟨s, ck, ⟨#[]⟩, x⟩] _ 1 rfl rfl (by omega) (fun t ht => by
    rw [List.mem_singleton.1 ht]
    exact ⟨hs, nil_small⟩)
  have e : [(⟨s, ck, ⟨#[]⟩, x⟩ : AR)].map armR = [⟨t, ck, [], x⟩] := by
    show [(⟨s.toList, ck, (⟨#[]⟩ : ByteArray).toList, x⟩ : ArmL)] = _
    rw [ht, nil_str]
  rw [e] at h
  exact h
theorem made_oneT (W : World) (s : ByteArray) (t : Str) (hs : s.size ≤ maxLen) (ht : s.toList = t) (cn : ByteArray) (hcn : cn.size ≤ maxLen) (ck x : Int) :
    AOwn (W.alloc (.cells #[.string s, .int .i64 ck, .string cn, .int .i64 x] 45)) W.heap.size (.slice (some ⟨W.heap.size, 0, none⟩) 1 1) [⟨t, ck, cn.toList, x⟩] := by
  have h := AOwn.made (W := W) (Nat.le_refl _) [⟨s, ck, cn, x⟩] _ 1 rfl rfl (by omega) (fun t ht => by
    rw [List.mem_singleton.1 ht]
    exact ⟨hs, hcn⟩)
  have e : [(⟨s, ck, cn, x⟩ : AR)].map armR = [⟨t, ck, cn.toList, x⟩] := by
    show [(⟨s.toList, ck, cn.toList, x⟩ : ArmL)] = _
    rw [ht]
  rw [e] at h
  exact h
theorem armB_typed {N : Nat} {s cn : Str} {k x : Int} (hs : may s = true) (hc : carriesB k cn = true) (hx0 : 0 ≤ x) (hx : x < (N : Int)) : armB N ⟨s, k, cn, x⟩ = true := by
  unfold armB
  simp only [Bool.and_eq_true, decide_eq_true_eq]
  exact ⟨⟨⟨hs, hc⟩, hx0⟩, hx⟩
theorem made_two (W : World) (i j : Nat) (ck x y : Int) :
    AOwn (W.alloc (.cells #[.string (labB i), .int .i64 ck, .string ⟨#[]⟩, .int .i64 x, .string (labB j), .int .i64 0, .string ⟨#[]⟩, .int .i64 y] 45)) W.heap.size (.slice (some ⟨W.heap.size, 0, none⟩) 2 2) [⟨labS i, ck, [], x⟩, ⟨labS j, 0, [], y⟩] := by
  have h := AOwn.made (W := W) (Nat.le_refl _) [⟨labB i, ck, ⟨#[]⟩, x⟩, ⟨labB j, 0, ⟨#[]⟩, y⟩] _ 2 rfl rfl (by omega) (fun t ht => by
    rcases List.mem_cons.1 ht with rfl | ht
    · exact ⟨labB_small i, nil_small⟩
    · rw [List.mem_singleton.1 ht]
      exact ⟨labB_small j, nil_small⟩)
  have e : [(⟨labB i, ck, ⟨#[]⟩, x⟩ : AR), ⟨labB j, 0, ⟨#[]⟩, y⟩].map armR = [⟨labS i, ck, [], x⟩, ⟨labS j, 0, [], y⟩] := by
    show [(⟨(labB i).toList, ck, (⟨#[]⟩ : ByteArray).toList, x⟩ : ArmL), ⟨(labB j).toList, 0, (⟨#[]⟩ : ByteArray).toList, y⟩] = _
    rw [labB_list, labB_list, nil_str]
  rw [e] at h
  exact h
theorem succ_wraps {a b : Nat} (h : b = a + 1) (hs : a ≤ 1000) : IntKind.i64.wrap ((a : Int) + 1) = (b : Int) ∧ wrap64 ((a : Int) + 1) = (b : Int) := by
  subst h
  exact ⟨i64_small (by omega) (by omega), wrap_small (by omega) (by omega)⟩
theorem pred_wraps {a b : Nat} (h : a = b + 1) (hs : a ≤ 1000) : IntKind.i64.wrap ((a : Int) - 1) = (b : Int) ∧ wrap64 ((a : Int) - 1) = (b : Int) := by
  subst h
  rw [show (((b + 1 : Nat) : Int)) - 1 = (b : Int) by omega]
  exact ⟨i64_small (by omega) (by omega), wrap_small (by omega) (by omega)⟩
theorem all_app {α : Type} {P : α → Prop} {f : List α} {x : α} (h : ∀ t ∈ f, P t) (hx : P x) : ∀ t ∈ f ++ [x], P t := fun t ht => by
  rcases List.mem_append.1 ht with ht | ht
  · exact h t ht
  · rw [List.mem_singleton.1 ht]
    exact hx
/-- A store into an arm's Next. -/
theorem RSg.put {w W : World} {g g9 : Nat} {nm : ByteArray} {many rb rc N : Nat} {sa : Option Addr} {sn sc : Nat} {f : List PointL} (h : RSg w W g g9 nm many rb rc N sa sn sc f) (hg : g < w.heap.size) (hw : w.heap.size < g9) (hr : rb < g9) {k : Nat} {t : PointL} (hk : f[k]? = some t) {j : Nat} {x : ArmL} (hj : t.arms[j]? = some x) {z : Int} (h0 : 0 ≤ z) (h1 : z < (N : Int)) :
    ∃ g2 ab ac, sa = some ⟨g2, 0, none⟩ ∧ g2 < W.heap.size ∧ W.cell? ⟨g2, k * 3 + 2, none⟩ = some (.slice (some ⟨ab, 0, none⟩) t.arms.length ac) ∧ W.frozen? ⟨ab, j * 4 + 3, none⟩ = false ∧ (∃ o, W.cell? ⟨ab, j * 4 + 3, none⟩ = some o) ∧
      RSg w (W.setCell ⟨ab, j * 4 + 3, none⟩ (.int .i64 z)) g g9 nm many rb rc N sa sn sc (f.set k ⟨t.src, t.dst, t.arms.set j ⟨x.label, x.ck, x.cn, z⟩⟩) := by
  have hkl := (List.getElem?_eq_some_iff.1 hk).1
  obtain ⟨b, rfl, hb⟩ : ∃ b, sa = some ⟨b, 0, none⟩ ∧ b < W.heap.size := by
    obtain ⟨rs, h1, _⟩ := h.row
    have hlt := h1.lt
    rcases h1.2 with ⟨_, h0⟩ | ⟨g2, cap, cur, hv, _⟩
    · omega
    · obtain ⟨q1, _, _⟩ := Value.slice.inj hv
      subst q1
      exact ⟨g2, rfl, (hlt g2 rfl).2⟩
  obtain ⟨ab, ac, hc, hab1, hab2, _, hput⟩ := h.row.spot hk (h.arm t (List.mem_of_getElem? hk))
  obtain ⟨p1, p2, p3⟩ := hput j x z hj
  have hbel : Below (g9 + 1) W (W.setCell ⟨ab, j * 4 + 3, none⟩ (.int .i64 z)) := (Below.refl _ W).setCell (p := ⟨ab, j * 4 + 3, none⟩) hab1 _
  have hbx := h.low
  refine ⟨b, ab, ac, rfl, hb, hc, p2, p3, ⟨p1.top (Nat.le_refl _), (hbel.block g9 (by omega)).trans h.box, (hbel.block w.heap.size (by omega)).trans h.res, h.roles.below hbel (by omega), h.dice.below hbel (by omega), bes_below h.bes (hbel.mono (by omega)) (Nat.le_refl _), by rw [List.length_set]; exact h.len, fun y hy => ?_, fun y hy => ?_⟩⟩
  · rcases List.mem_or_eq_of_mem_set hy with hy | rfl
    · exact h.ok y hy
    · exact pointB_set (h.ok t (List.mem_of_getElem? hk)) hj h0 h1
  · rcases List.mem_or_eq_of_mem_set hy with hy | rfl
    · exact h.arm y hy
    · show 0 < (t.arms.set j _).length
      rw [List.length_set]
      exact h.arm t (List.mem_of_getElem? hk)
theorem ok_small : (⟨#[111, 107]⟩ : ByteArray).size ≤ maxLen := by simp [maxLen, ByteArray.size]
theorem ok_str : (⟨#[111, 107]⟩ : ByteArray).toList = [111, 107] := by rw [ByteArray.toList_eq]
theorem set_first {f : List PointL} {k : Nat} {t : PointL} {j : Nat} {x : ArmL} (h : ∃ x0 : PointL, f[0]? = some x0 ∧ x0.arms.length = 2) (hk : f[k]? = some t) : ∃ x0 : PointL, (f.set k ⟨t.src, t.dst, t.arms.set j x⟩)[0]? = some x0 ∧ x0.arms.length = 2 := by
  obtain ⟨x0, h1, h2⟩ := h
  by_cases e : k = 0
  · subst e
    rw [h1] at hk
    obtain rfl := Option.some.inj hk
    exact ⟨_, by rw [List.getElem?_set_self (List.getElem?_eq_some_iff.1 h1).1], by show (List.set _ _ _).length = 2; rw [List.length_set]; exact h2⟩
  · exact ⟨x0, by rw [List.getElem?_set_ne e]; exact h1, h2⟩
/-- Two labels of the four, one of the first two and one of the last two. -/
theorem two_labs (i j : Nat) (hi : i < 2) (h2 : 2 ≤ j) (hj : j < 4) : labS i ≠ labS j := by
  unfold labS
  have h1 : i = 0 ∨ i = 1 := by omega
  have h3 : j = 2 ∨ j = 3 := by omega
  rcases h1 with rfl | rfl <;> rcases h3 with rfl | rfl <;> decide
set_option maxHeartbeats 32000000 in
set_option maxRecDepth 20000 in
theorem roundsT_any (g : Nat) (nm : ByteArray) (many : Nat) (ta : Option Addr) (tn tc : Nat) (h2 : 2 ≤ many) (h4 : many ≤ 4) (w : World) (hD : Dice w g) (hT : TyIn w g ta tn) :
    Calls Tryz.prog 63 #[.pointer (some ⟨g, 0, none⟩), .string nm, .int .i64 (many : Int), .slice ta tn tc] w fun e w' => ProtRet nm many w e w' ∧ Beside g w w' := by
  have hgl := hD.lt
  have HTY := Lib.hid hT
  have HB0 := Lib.hid (tu1 w (.cells #[.string ⟨#[]⟩, .slice none 0 0, .slice none 0 0] 27))
  have HR0 := Lib.hid (PBox.new w ⟨#[]⟩ none 0 0 none 0 0)
  have HD0 := Lib.hid (hD.on HB0.out)
  have hz1 : w.heap.size + 1 = (w.alloc (.cells #[.string ⟨#[]⟩, .slice none 0 0, .slice none 0 0] 27)).heap.size := by simp
  clear hD hT
  go_enter Tryz.func63, Tryz.ntmps63
  go_upto_region 1 with fail
  generalize hw1 : w.alloc (.cells #[.string ⟨#[]⟩, .slice none 0 0, .slice none 0 0] 27) = w1 at HB0 HR0 HD0 hz1 ⊢
  clear hw1
  have CR := Lib.hid (roles_any w1)
  have HRS := Lib.hid (rolObj_strs w1 (many := many) (by omega))
  have i5 : (many : Int) ≤ 5 := by omega
  have i6 : (0 : Int) ≤ (many : Int) := by omega
  go_upto_region 2 with (first
    | (go_at_call 95; (with_reducible refine CR.out.mono ?_)
       rintro e w2 ⟨rfl, hw2⟩
       have HS2 := Lib.hid (show Strs w2 (w1.heap.size + 1) (some ⟨w1.heap.size, 0, none⟩) many (rolesL many) by rw [hw2]; exact HRS.out)
       have HB2 := Lib.hid (show Below w1.heap.size w1 w2 by rw [hw2]; exact tu1 w1 rolObj)
       have hz2 : w2.heap.size = w1.heap.size + 1 := by rw [hw2]; simp
       clear hw2)
    | (at_builtin
       refine wpList_append_strs _ rfl (.const (.slice none 0 0)) (.tmp 21) _ rfl (w.heap.size + 1) 9 Tryz.underlying24 info9 (.slice none 0 0) 0 [] rfl (World.ownsRow_nil _ _ _ _) (w1.heap.size + 1) _ many 5 (rolesL many) rfl HS2.out (by omega) (by omega) ?_
       intro v3 w3 own3 gr3 at3
       obtain ⟨ra, rc, hv3, hst3, _, _⟩ := Strs.of_own (n := many) (ss := rolesL many) (by rw [Nat.zero_add] at own3; exact own3) (by omega) (rolesL_max many)
       subst hv3
       have HR3 := Lib.hid (show RRow w3 (w.heap.size + 1) ra many rc (rolesL many) by unfold RRow; rw [Nat.zero_add] at own3; exact own3)
       have HB3 := Lib.hid (HB2.out.grown gr3 (by omega) (fun j hj => by cases hj))
       have hz3 := HB3.out.size
       clear own3 gr3 at3 hst3)
    | fail)
  obtain ⟨rb, hrb, hrb1, hrb2, _⟩ := HR3.out.cell (by omega)
  subst hrb
  have hb4 := tu1 w3 (.cells #[.string nm, .slice (some ⟨rb, 0, none⟩) many rc, .slice none 0 0] 27)
  have HX4 := Lib.hid (PBox.new w3 nm (some ⟨rb, 0, none⟩) many rc none 0 0)
  have HB4 := Lib.hid (show Beside g w (w3.alloc (.cells #[.string nm, .slice (some ⟨rb, 0, none⟩) many rc, .slice none 0 0] 27)) from Beside.of_below (below_on HB0.out (below_on HB3.out hb4)))
  have HD4 := Lib.hid ((HD0.out.on HB3.out).on hb4)
  have HRo4 := Lib.hid (HR3.out.below hb4 hrb2)
  have HR4 := Lib.hid ((HR0.out.on HB3.out).on hb4)
  generalize hg9 : w3.heap.size = g9 at HX4 ⊢
  generalize hw4 : w3.alloc (.cells #[.string nm, .slice (some ⟨rb, 0, none⟩) many rc, .slice none 0 0] 27) = w4 at HX4 HB4 HD4 HRo4 HR4 ⊢
  have hw9 : w.heap.size < g9 := by omega
  have hr9 : rb < g9 := by omega
  clear hw4 hg9 hb4 HR3 HB3 HRS HB2 HR0 HD0 HB0 CR HS2 hz1 hz2 hz3 hrb1 hrb2
  have hg4 : g < w4.heap.size := by have := HB4.out.size; omega
  have CL1 := Lib.hid (fun (W : World) => labels_any W)
  have CP2 := Lib.hid (fun (W : World) (h : Dice W g) => pick_at g 2 2 W rfl h (by omega) (by omega))
  have HDd := Lib.hid HD4.out.drew
  go_cut [10, 11] (fun s10 s11 wx => ∃ i j : Nat, i < 2 ∧ 2 ≤ j ∧ j < 4 ∧ s10 = .string (labB i) ∧ s11 = .string (labB j) ∧ Hid (Dice wx g) ∧ Hid (Beside g w4 wx))
  case first =>
    go_region_law (first
      | (go_simp; go_at_call 97; (with_reducible refine (CL1.out w4.drew).mono ?_)
         rintro e v1 ⟨rfl, hv1⟩
         have HDa := Lib.hid (show Dice v1 g by rw [hv1]; exact HDd.out.on (tu1 w4.drew labObj))
         have HBa := Lib.hid (show Beside g w4 v1 by rw [hv1]; exact (bes_drew (Beside.refl g w4)).alloc labObj)
         have HLa := Lib.hid (show ∀ i, i < 4 → v1.cell? ⟨w4.heap.size, i, none⟩ = some (.string (labB i)) by
           rw [hv1]
           intro i hi
           have := labObj_at w4.drew i
           rwa [Nat.mod_eq_of_lt hi] at this)
         have hsa : w4.heap.size < v1.heap.size := by rw [hv1]; show _ < (World.alloc _ _).heap.size; simp
         clear hv1)
      | (go_simp; go_at_call 61; (with_reducible refine (CP2.out _ HDa.out).mono ?_)
         rintro e v2 ⟨⟨i, hi, rfl⟩, hd2, hb2⟩
         have c1 := (hb2.cell (p := ⟨w4.heap.size, i, none⟩) hsa (show w4.heap.size ≠ g by omega)).trans (HLa.out i (by omega))
         have HDb := Lib.hid hd2
         have HBb := Lib.hid (HBa.out.trans hb2)
         have hsb := hb2.size
         have j1 : (i : Int) < 4 := by omega
         have j2 : (0 : Int) ≤ (i : Int) := by omega
         clear hd2 hb2)
      | (go_simp; go_at_call 97; (with_reducible refine (CL1.out v2).mono ?_)
         rintro e v3 ⟨rfl, hv3⟩
         have HDc := Lib.hid (show Dice v3 g by rw [hv3]; exact HDb.out.on (tu1 v2 labObj))
         have HBc := Lib.hid (show Beside g w4 v3 by rw [hv3]; exact HBb.out.alloc labObj)
         have HLc := Lib.hid (show ∀ i, i < 4 → v3.cell? ⟨v2.heap.size, i, none⟩ = some (.string (labB i)) by
           rw [hv3]
           intro i hi
           have := labObj_at v2 i
           rwa [Nat.mod_eq_of_lt hi] at this)
         have hsc : v2.heap.size < v3.heap.size := by rw [hv3]; simp
         have c2 : v3.cell? ⟨w4.heap.size, i, none⟩ = some (.string (labB i)) := by rw [hv3]; exact ((tu1 v2 labObj).cell (p := ⟨w4.heap.size, i, none⟩) (show w4.heap.size < v2.heap.size by omega)).trans c1
         clear hv3)
      | (go_simp; go_at_call 61; (with_reducible refine (CP2.out _ HDc.out).mono ?_)
         rintro e v4 ⟨⟨i2, hi2, rfl⟩, hd4, hb4⟩
         have c3 := (hb4.cell (p := ⟨w4.heap.size, i, none⟩) (show w4.heap.size < v3.heap.size by omega) (show w4.heap.size ≠ g by omega)).trans c2
         obtain ⟨jj, hjj⟩ : ∃ jj : Nat, jj = 2 + i2 := ⟨_, rfl⟩
         have c4 := (hb4.cell (p := ⟨v2.heap.size, jj, none⟩) hsc (show v2.heap.size ≠ g by omega)).trans (HLc.out jj (by omega))
         have e5 : IntKind.i64.wrap (2 + (i2 : Int)) = (jj : Int) := by rw [hjj]; exact i64_small (by omega) (by omega)
         have j3 : (jj : Int) < 4 := by omega
         have j4 : (0 : Int) ≤ (jj : Int) := by omega
         have HJ := Lib.hid (show 2 ≤ jj ∧ jj < 4 from ⟨by omega, by omega⟩)
         have HDe := Lib.hid hd4
         have HBe := Lib.hid (HBc.out.trans hb4)
         clear hd4 hb4 hjj)
      | fail)
    all_goals
      go_wp2_with fail
      go_meet
      exact ⟨i, jj, hi, HJ.out.1, HJ.out.2, rfl, rfl, HDe, HBe⟩
  case rest =>
    obtain ⟨li, lj, hli, hlj2, hlj, rfl, rfl, HDc, HBc⟩ := hcut
    have hX := HX4.out.beside HBc.out (by omega)
    have hR := HR4.out.beside HBc.out (by omega)
    have hRo := HRo4.out.beside HBc.out (by omega)
    have hBw := HB4.out.trans HBc.out
    have HZ := Lib.hid (And.intro hX (And.intro hR (And.intro hRo hBw)))
    clear hX hR hRo hBw HX4 HR4 HRo4 HB4 HD4 HDd HBc CL1
    have CD := Lib.hid (fun (W : World) (h : Dice W g) => data_any g W h)
    go_upto_region 5 with (first
      | (go_at_call 61; (with_reducible refine (CP2.out _ HDc.out).mono ?_)
         rintro e w5 ⟨⟨k3, hk3, rfl⟩, hd5, hb5⟩
         obtain ⟨B, hB⟩ : ∃ B, ((k3 : Int) == 1) = B := ⟨_, rfl⟩
         have HD5 := Lib.hid hd5
         have HB5 := Lib.hid hb5
         clear hd5 hb5)
      | (go_at_call 98; (with_reducible refine (CD.out _ HD5.out).mono ?_)
         rintro e w6 ⟨⟨ck, hck0, hck5, rfl⟩, hd6, hb6⟩
         have HD6 := Lib.hid hd6
         have HB6 := Lib.hid (HB5.out.trans hb6)
         clear hd6 hb6)
      | fail)
    clear hB
    obtain ⟨N, hN⟩ : ∃ N, N = 2 * many - 2 + (if B = true then 1 else 0) := ⟨_, rfl⟩
    have HNB := Lib.hid (show (B = true → N + 1 = 2 * many) ∧ (B = false → N + 2 = 2 * many) from ⟨fun h => by rw [hN, if_pos h]; omega, fun h => by rw [hN, if_neg (by rw [h]; simp)]; omega⟩)
    have hN1 : 2 * many ≤ N + 2 := by
      cases B
      · have := HNB.out.2 rfl; omega
      · have := HNB.out.1 rfl; omega
    have hN2 : N + 1 ≤ 2 * many := by
      cases B
      · have := HNB.out.2 rfl; omega
      · have := HNB.out.1 rfl; omega
    clear hN
    have hb7 := tu1 w6 (.cells #[.int .i64 ck, .string ⟨#[]⟩] 43)
    obtain ⟨sa, hsa⟩ : ∃ sa : Option Addr, sa = none := ⟨_, rfl⟩
    obtain ⟨sn, hsn⟩ : ∃ sn : Nat, sn = 0 := ⟨_, rfl⟩
    obtain ⟨sc, hsc⟩ : ∃ sc : Nat, sc = 0 := ⟨_, rfl⟩
    obtain ⟨f, hf⟩ : ∃ f : List PointL, f = [] := ⟨_, rfl⟩
    have HS7 := Lib.hid (show RSg w (w6.alloc (.cells #[.int .i64 ck, .string ⟨#[]⟩] 43)) g g9 nm many rb rc N sa sn sc f from by
      rw [hsa, hsn, hsc, hf]
      exact ⟨PRow.zero _ _ _, (HZ.out.1.beside HB6.out (by omega)).on hb7, (HZ.out.2.1.beside HB6.out (by omega)).on hb7, (HZ.out.2.2.1.beside HB6.out (by omega)).on hb7 (by omega), HD6.out.on hb7, (HZ.out.2.2.2.trans HB6.out).alloc _, rfl, by simp, by simp⟩)
    have HC7 := Lib.hid (show (w6.alloc (.cells #[.int .i64 ck, .string ⟨#[]⟩] 43)).heap[w6.heap.size]? = some (.cells #[.int .i64 ck, .string ⟨#[]⟩] 43 (0, 0)) from heap_alloc_new w6 _)
    generalize hg13 : w6.heap.size = g13 at HC7 ⊢
    generalize hw7 : w6.alloc (.cells #[.int .i64 ck, .string ⟨#[]⟩] 43) = w7 at HS7 HC7 ⊢
    clear hw7 hg13 hb7 HZ HD6 HB6 HD5 HB5 HDc CD
    have c130 : w7.cell? ⟨g13, 0, none⟩ = some (.int .i64 ck) := by rw [cell_of_row _ _ _ _ _ _ HC7.out]; rfl
    have c131 : w7.cell? ⟨g13, 1, none⟩ = some (.string ⟨#[]⟩) := by rw [cell_of_row _ _ _ _ _ _ HC7.out]; rfl
    have hl7 := HS7.out.low
    have HL0 := Lib.hid (show armsB N [(⟨labS li, ck, [], 1⟩ : ArmL), ⟨labS lj, 0, [], 0⟩] = true from armsB_two (armB_data (labS_may _) hck0 hck5 (by omega) (by omega)) (armB_data (labS_may _) (by omega) (by omega) (by omega) (by omega)) (two_labs li lj hli hlj2 hlj))
    have HSN := Lib.hid hsn
    have hsn9 : sn ≤ 100 := by omega
    have HF0 := Lib.hid hf
    clear hsa hsn hsc hf
    have k03 : 0 < many := by omega
    have k04 : 1 < many := by omega
    have k01 : (0 : Int) < (many : Int) := by omega
    have k02 : (1 : Int) < (many : Int) := by omega
    have HKSa := Lib.hid (fun (W : World) (hL : PBox W g9 nm (some ⟨rb, 0, none⟩) many rc sa sn sc) (hR : RRow W (w.heap.size + 1) (some ⟨rb, 0, none⟩) many rc (rolesL many)) => show W.cell? ⟨g9, 0, none⟩ = some (.string nm) ∧ W.cell? ⟨g9, 1, none⟩ = some (.slice (some ⟨rb, 0, none⟩) many rc) ∧ W.cell? ⟨g9, 2, none⟩ = some (.slice sa sn sc) ∧ W.cell? ⟨rb, 0, none⟩ = some (.string (rolS 0)) ∧ W.cell? ⟨rb, 1, none⟩ = some (.string (rolS 1)) from
      ⟨hL.cells.1, hL.cells.2.1, hL.cells.2.2, hR.gets (k := 0) (by omega), hR.gets (k := 1) (by omega)⟩)
    have HSda := Lib.hid (HS7.out.drew)
    refine wp_region_last2 (S := fun W => W.cell? ⟨g9, 0, none⟩ = some (.string nm) ∧ W.cell? ⟨g9, 1, none⟩ = some (.slice (some ⟨rb, 0, none⟩) many rc) ∧ W.cell? ⟨g9, 2, none⟩ = some (.slice sa sn sc) ∧ W.cell? ⟨rb, 0, none⟩ = some (.string (rolS 0)) ∧ W.cell? ⟨rb, 1, none⟩ = some (.string (rolS 1))) rfl (by kernel_rfl) (by kernel_rfl) (HKSa.out _ (HSda.out).box (HSda.out).roles) (fun hHeld => ?_)
    simp only [List.pop_toArray, List.dropLast_cons_cons, List.dropLast_singleton]
    try simp only [Act.put, List.setIfInBounds_toArray]
    refine' wpAnyH_take (i := 0) (v := _) rfl (by kernel_rfl) (by kernel_rfl) (by kernel_rfl) (fun _ _ _ h => h) (Or.inl ⟨by rfl, ?hy0a⟩) (by assumption) ?rest0a
    case hy0a =>
      intro W hSw
      (try dsimp only at hSw)
      first | (go_simp; done) | (go_simp; with_reducible rfl)
    try simp only [Act.put, List.setIfInBounds_toArray]
    refine' wpAnyH_take (i := 1) (v := _) rfl (by kernel_rfl) (by kernel_rfl) (by kernel_rfl) (fun _ _ _ h => h) (Or.inl ⟨by rfl, ?hy1a⟩) (by assumption) ?rest1a
    case hy1a =>
      intro W hSw
      (try dsimp only at hSw)
      first | (go_simp; done) | (go_simp; with_reducible rfl)
    try simp only [Act.put]
    refine' wpAnyH_take (i := 2) (v := _) rfl (by kernel_rfl) (by kernel_rfl) (by kernel_rfl) (fun _ _ _ h => h) (Or.inl ⟨by rfl, ?hy2a⟩) (by assumption) ?rest2a
    case hy2a =>
      intro W hSw
      (try dsimp only at hSw)
      first | (go_simp; done) | (go_simp; with_reducible rfl)
    try simp only [Act.put]
    refine' wpAnyH_take (i := 3) (v := _) rfl (by kernel_rfl) (by kernel_rfl) (by kernel_rfl) (fun _ _ _ h => h) (Or.inl ⟨by rfl, ?hy3a⟩) (by assumption) ?rest3a
    case hy3a =>
      intro W hSw
      (try dsimp only at hSw)
      first | (go_simp; done) | (go_simp; with_reducible rfl)
    try simp only [Act.put]
    refine' wpAnyH_take (i := 4) (v := _) rfl (by kernel_rfl) (by kernel_rfl) (by kernel_rfl) (fun _ _ _ h => h) (Or.inl ⟨by rfl, ?hy4a⟩) (by assumption) ?rest4a
    case hy4a =>
      intro W hSw
      (try dsimp only at hSw)
      first | (go_simp; done) | (go_simp; with_reducible rfl)
    try simp only [Act.put]
    refine' wpAnyH_take (i := 5) (v := _) rfl (by kernel_rfl) (by kernel_rfl) (by kernel_rfl) (fun _ _ _ h => h) (Or.inl ⟨by rfl, ?hy5a⟩) (by assumption) ?rest5a
    case hy5a =>
      intro W hSw
      (try dsimp only at hSw)
      first | (go_simp; done) | (go_simp; with_reducible rfl)
    try simp only [Act.put]
    refine' wpAnyH_take (i := 6) (v := _) rfl (by kernel_rfl) (by kernel_rfl) (by kernel_rfl) (fun _ _ _ h => h) (Or.inl ⟨by rfl, ?hy6a⟩) (by assumption) ?rest6a
    case hy6a =>
      intro W hSw
      (try dsimp only at hSw)
      first | (go_simp; done) | (go_simp; with_reducible rfl)
    try simp only [Act.put]
    refine' wpAnyH_take (i := 7) (v := _) rfl (by kernel_rfl) (by kernel_rfl) (by kernel_rfl) (fun _ _ _ h => h) (Or.inl ⟨by rfl, ?hy7a⟩) (by assumption) ?rest7a
    case hy7a =>
      intro W hSw
      (try dsimp only at hSw)
      first | (go_simp; done) | (go_simp; with_reducible rfl)
    try simp only [Act.put]
    refine' wpAnyH_take (i := 8) (v := _) rfl (by kernel_rfl) (by kernel_rfl) (by kernel_rfl) (fun _ _ _ h => h) (Or.inl ⟨by rfl, ?hy8a⟩) (by assumption) ?rest8a
    case hy8a =>
      intro W hSw
      (try dsimp only at hSw)
      first | (go_simp; done) | (go_simp; with_reducible rfl)
    try simp only [Act.put]
    refine' wpAnyH_take (i := 9) (v := _) rfl (by kernel_rfl) (by kernel_rfl) (by kernel_rfl) (fun _ _ _ h => h) (Or.inl ⟨by rfl, ?hy9a⟩) (by assumption) ?rest9a
    case hy9a =>
      intro W hSw
      (try dsimp only at hSw)
      first | (go_simp; done) | (go_simp; with_reducible rfl)
    try simp only [Act.put]
    refine' wpAnyH_take (i := 10) (v := _) rfl (by kernel_rfl) (by kernel_rfl) (by kernel_rfl) (fun _ _ _ h => h) (Or.inl ⟨by rfl, ?hy10a⟩) (by assumption) ?rest10a
    case hy10a =>
      intro W hSw
      (try dsimp only at hSw)
      first | (go_simp; done) | (go_simp; with_reducible rfl)
    try simp only [Act.put]
    refine' wpAnyH_take (i := 13) (v := _) rfl (by kernel_rfl) (by kernel_rfl) (by kernel_rfl) (fun _ _ _ h => h) (Or.inl ⟨by rfl, ?hy13a⟩) (by assumption) ?rest13a
    case hy13a =>
      intro W hSw
      (try dsimp only at hSw)
      first | (go_simp; done) | (go_simp; with_reducible rfl)
    try simp only [Act.put]
    refine' wpAnyH_take (i := 14) (v := _) rfl (by kernel_rfl) (by kernel_rfl) (by kernel_rfl) (fun _ _ _ h => h) (Or.inl ⟨by rfl, ?hy14a⟩) (by assumption) ?rest14a
    case hy14a =>
      intro W hSw
      (try dsimp only at hSw)
      first | (go_simp; done) | (go_simp; with_reducible rfl)
    try simp only [Act.put]
    refine wpAnyH_ready (rs := [11]) (by kernel_rfl) (by simp) ?_
    refine AllReadyH.cons (i := 11) (o := _) rfl (fun K hK => ?_) AllReadyH.nil
    go_simp
    refine hK.out _ _ (HKSa.out _ (HSda.out).box (HSda.out).roles) (fun hHeld => ?_)
    clear hK K
    try simp only [Act.put, List.setIfInBounds_toArray]
    refine' wpAnyH_take (i := 12) (v := _) rfl (by kernel_rfl) (by kernel_rfl) (by kernel_rfl) (fun _ _ _ h => h) (Or.inl ⟨by rfl, ?hy12a⟩) (by assumption) ?rest12a
    case hy12a =>
      intro W hSw
      (try dsimp only at hSw)
      first | (go_simp; done) | (go_simp; with_reducible rfl)
    have HS8a := Lib.hid (show RSg w ((w7.alloc (.cells #[.string (labB li), .int .i64 ck, .string ⟨#[]⟩, .int .i64 1, .string (labB lj), .int .i64 0, .string ⟨#[]⟩, .int .i64 0] 45)).drew) g g9 nm many rb rc N sa sn sc f from ((HS7.out.onto hgl hw9 (.cells #[.string (labB li), .int .i64 ck, .string ⟨#[]⟩, .int .i64 1, .string (labB lj), .int .i64 0, .string ⟨#[]⟩, .int .i64 0] 45)).drew))
    have HA8a := Lib.hid (show AOwn ((w7.alloc (.cells #[.string (labB li), .int .i64 ck, .string ⟨#[]⟩, .int .i64 1, .string (labB lj), .int .i64 0, .string ⟨#[]⟩, .int .i64 0] 45)).drew) w7.heap.size (.slice (some ⟨w7.heap.size, 0, none⟩) 2 2) [⟨labS li, ck, [], 1⟩, ⟨labS lj, 0, [], 0⟩] from AOwn.drewn (show AOwn (w7.alloc (.cells #[.string (labB li), .int .i64 ck, .string ⟨#[]⟩, .int .i64 1, .string (labB lj), .int .i64 0, .string ⟨#[]⟩, .int .i64 0] 45)) w7.heap.size (.slice (some ⟨w7.heap.size, 0, none⟩) 2 2) [⟨labS li, ck, [], 1⟩, ⟨labS lj, 0, [], 0⟩] from made_two w7 li lj ck 1 0))
    have HO8a := Lib.hid (show PRow ((w7.alloc (.cells #[.string (labB li), .int .i64 ck, .string ⟨#[]⟩, .int .i64 1, .string (labB lj), .int .i64 0, .string ⟨#[]⟩, .int .i64 0] 45)).drew) (g9 + 1) w7.heap.size (.slice sa sn sc) f from (HS7.out.row.kept (tu1 _ _) (by omega)).drew)
    have hloa := HS7.out.low
    have hlna := HS7.out.len
    try simp only [Act.put, List.setIfInBounds_toArray]
    refine wpAnyH_ready (rs := [15]) (by kernel_rfl) (by simp) ?_
    refine AllReadyH.cons (i := 15) (o := _) rfl (fun K hK => ?_) AllReadyH.nil
    go_simp
    refine hK.out _ _ (HKSa.out _ (HS8a.out).box (HS8a.out).roles) (fun hHeld => ?_)
    clear hK K
    generalize hw8a : (w7.alloc (.cells #[.string (labB li), .int .i64 ck, .string ⟨#[]⟩, .int .i64 1, .string (labB lj), .int .i64 0, .string ⟨#[]⟩, .int .i64 0] 45)).drew = w8a at HS8a HA8a HO8a hHeld ⊢
    have hs8a : w7.heap.size ≤ w8a.heap.size := by rw [← hw8a]; simp
    clear hw8a
    try simp only [Act.put, List.setIfInBounds_toArray]
    refine' wpAnyH_take (i := 16) (v := _) rfl (by kernel_rfl) (by kernel_rfl) (by kernel_rfl) (fun _ _ _ h => h) (Or.inl ⟨by rfl, ?hy16a⟩) (by assumption) ?rest16a
    case hy16a =>
      intro W hSw
      (try dsimp only at hSw)
      first | (go_simp; done) | (go_simp; with_reducible rfl)
    try simp only [Act.put, List.setIfInBounds_toArray]
    refine wpAnyH_ready (rs := [17]) (by kernel_rfl) (by simp) ?_
    refine AllReadyH.cons (i := 17) (o := _) rfl (fun K hK => ?_) AllReadyH.nil
    go_simp
    refine hK.out _ _ (HKSa.out _ (HS8a.out.onto hgl hw9 _).box (HS8a.out.onto hgl hw9 _).roles) (fun hHeld => ?_)
    clear hK K
    try simp only [Act.put, List.setIfInBounds_toArray, List.set_cons_zero, List.set_cons_succ]
    refine wpAnyH_ready (rs := [18]) (by kernel_rfl) (by simp) ?_
    refine AllReadyH.cons (i := 18) (o := _) rfl (fun K hK => ?_) AllReadyH.nil
    refine step_append_mpoint w8a (by rfl) (.tmp 41) (.tmp 57) (by rfl) (g9 + 1) w7.heap.size (.slice sa sn sc) f ⟨rolS 0, rolS 1, some ⟨w7.heap.size, 0, none⟩, 2, 2⟩ ⟨(rolS 0).toList, (rolS 1).toList, [⟨labS li, ck, [], 1⟩, ⟨labS lj, 0, [], 0⟩]⟩ (by rfl) (by rfl) (by rfl) HO8a.out ⟨⟨rfl, rolS_small _⟩, rfl, rolS_small _, by show List.length _ ≤ _; simp⟩ HA8a.out (by omega) hs8a (by omega) w8a (Below.refl _ _) ?_
    intro v5 w5a hown hbel
    obtain ⟨sa5a, sc5a, hv5, _⟩ := hown.powns.sees (by rw [List.length_append, List.length_singleton]; omega)
    rw [List.length_append, List.length_singleton, hlna] at hv5
    subst hv5
    have HL5a := Lib.hid (show PBox w5a g9 nm (some ⟨rb, 0, none⟩) many rc sa sn sc from (hbel.block g9 (by omega)).trans HS8a.out.box)
    have HR5a := Lib.hid (HS8a.out.roles.below hbel (by omega))
    have HNa := Lib.hid (HS8a.out.next hgl hw9 hr9 hbel hown (by rw [List.length_append, hlna]; rfl) (all_app HS8a.out.ok (pointB_made (a := 0) (b := 1) (by omega) (by omega) h4 (by omega) HL0.out)) (all_app HS8a.out.arm (by show 0 < List.length _; simp)))
    obtain ⟨f5a, hf5a⟩ : ∃ x, x = f ++ [(⟨(rolS 0).toList, (rolS 1).toList, [⟨labS li, ck, [], 1⟩, ⟨labS lj, 0, [], 0⟩]⟩ : PointL)] := ⟨_, rfl⟩
    rw [← hf5a] at HNa
    have HF5a := Lib.hid hf5a
    clear hf5a
    have ufa := HL5a.out.thaw 2
    clear hown hbel
    refine hK.out _ _ (HKSa.out _ HL5a.out HR5a.out) (fun hHeld => ?_)
    clear hK K
    try simp only [Act.put, List.setIfInBounds_toArray]
    try simp only [Act.put, List.setIfInBounds_toArray]
    refine' wpAnyH_take (i := 19) (v := _) rfl (by kernel_rfl) (by kernel_rfl) (by kernel_rfl) (fun _ _ _ h => h) (Or.inl ⟨by rfl, ?hy19a⟩) (by assumption) ?rest19a
    case hy19a =>
      intro W hSw
      (try dsimp only at hSw)
      first | (go_simp; done) | (go_simp; with_reducible rfl)
    try simp only [Act.put]
    refine wpAnyH_done (by kernel_rfl) ?_ _
    unfold LastPost
    obtain ⟨_, _, _⟩ := HL5a.out.cells
    go_simp
    generalize hwA : w5a.setCell ⟨g9, 2, none⟩ (.slice sa5a (sn + 1) sc5a) = wA at HNa ⊢
    clear hwA HC7 c130 c131 HS7 HSda HKSa HS8a HA8a HO8a HL5a HR5a ufa hHeld hl7 hloa hlna hs8a HL0 k01 k02 k03
    have HX0 := Lib.hid (show ∃ x0 : PointL, f5a[0]? = some x0 ∧ x0.arms.length = 2 from ⟨_, by rw [HF5a.out, HF0.out]; rfl, rfl⟩)
    have CC := Lib.hid (fun (W : World) (h : Dice W g) (ht : TyIn W g ta tn) => carriesT_any g ta tn tc W h ht)
    have CD := Lib.hid (fun (W : World) (h : Dice W g) => data_any g W h)
    go_wp2_with fail
    go_loopw [14] (fun i wr => ∃ (k : Nat) (sa : Option Addr) (sn sc : Nat) (f : List PointL), 1 ≤ k ∧ k + 1 ≤ many ∧ i = .int .i64 k ∧ sn = k ∧ Hid (RSg w wr g g9 nm many rb rc N sa sn sc f) ∧ Hid (∃ x0 : PointL, f[0]? = some x0 ∧ x0.arms.length = 2)) (fun i _ => many - (intOf i).toNat)
    case atStart => exact ⟨1, sa5a, sn + 1, sc5a, f5a, by omega, by omega, by simp, by have := HSN.out; omega, HNa, HX0⟩
    case round =>
      clear HNa HX0
      obtain ⟨k, sa, sn, sc, f, hk1, hk, rfl, hsn, HS, HX0⟩ := hrel
      obtain rfl : sn = k := hsn
      obtain ⟨k1, hk1e⟩ : ∃ k1 : Nat, k1 = sn + 1 := ⟨_, rfl⟩
      have hsn9 : sn ≤ 100 := by omega
      have E5 := Lib.hid (succ_wraps hk1e (by omega))
      have hk1lo : sn + 1 ≤ k1 := by omega
      have hk1hi : k1 ≤ sn + 1 := by omega
      clear hk1e
      by_cases hlt : k1 < many
      · have j1 : (sn : Int) < (many : Int) := by omega
        have j2 : (0 : Int) ≤ (sn : Int) := by omega
        have j3 : (k1 : Int) < (many : Int) := by omega
        have j4 : (0 : Int) ≤ (k1 : Int) := by omega
        have j5 : sn < many := by omega
        obtain ⟨e5, e6⟩ := E5.out
        go_upto_region 9 with fail
        clear e5 e6
        have HKSb := Lib.hid (fun (W : World) (hL : PBox W g9 nm (some ⟨rb, 0, none⟩) many rc sa sn sc) (hR : RRow W (w.heap.size + 1) (some ⟨rb, 0, none⟩) many rc (rolesL many)) => show W.cell? ⟨g9, 0, none⟩ = some (.string nm) ∧ W.cell? ⟨g9, 1, none⟩ = some (.slice (some ⟨rb, 0, none⟩) many rc) ∧ W.cell? ⟨g9, 2, none⟩ = some (.slice sa sn sc) ∧ W.cell? ⟨rb, sn, none⟩ = some (.string (rolS sn)) ∧ W.cell? ⟨rb, k1, none⟩ = some (.string (rolS k1)) from
          ⟨hL.cells.1, hL.cells.2.1, hL.cells.2.2, hR.gets (k := sn) (by omega), hR.gets (k := k1) (by omega)⟩)
        have HSdb := Lib.hid (HS.out.drew)
        refine wp_region_last2 (S := fun W => W.cell? ⟨g9, 0, none⟩ = some (.string nm) ∧ W.cell? ⟨g9, 1, none⟩ = some (.slice (some ⟨rb, 0, none⟩) many rc) ∧ W.cell? ⟨g9, 2, none⟩ = some (.slice sa sn sc) ∧ W.cell? ⟨rb, sn, none⟩ = some (.string (rolS sn)) ∧ W.cell? ⟨rb, k1, none⟩ = some (.string (rolS k1))) rfl (by kernel_rfl) (by kernel_rfl) (HKSb.out _ (HSdb.out).box (HSdb.out).roles) (fun hHeld => ?_)
        simp only [List.pop_toArray, List.dropLast_cons_cons, List.dropLast_singleton]
        obtain ⟨e5, e6⟩ := E5.out
        try simp only [Act.put, List.setIfInBounds_toArray]
        refine' wpAnyH_take (i := 0) (v := _) rfl (by kernel_rfl) (by kernel_rfl) (by kernel_rfl) (fun _ _ _ h => h) (Or.inl ⟨by rfl, ?hy0b⟩) (by assumption) ?rest0b
        case hy0b =>
          intro W hSw
          (try dsimp only at hSw)
          first | (go_simp; done) | (go_simp; with_reducible rfl)
        try simp only [Act.put, List.setIfInBounds_toArray]
        refine' wpAnyH_take (i := 1) (v := _) rfl (by kernel_rfl) (by kernel_rfl) (by kernel_rfl) (fun _ _ _ h => h) (Or.inl ⟨by rfl, ?hy1b⟩) (by assumption) ?rest1b
        case hy1b =>
          intro W hSw
          (try dsimp only at hSw)
          first | (go_simp; done) | (go_simp; with_reducible rfl)
        try simp only [Act.put]
        refine' wpAnyH_take (i := 2) (v := _) rfl (by kernel_rfl) (by kernel_rfl) (by kernel_rfl) (fun _ _ _ h => h) (Or.inl ⟨by rfl, ?hy2b⟩) (by assumption) ?rest2b
        case hy2b =>
          intro W hSw
          (try dsimp only at hSw)
          first | (go_simp; done) | (go_simp; with_reducible rfl)
        try simp only [Act.put]
        refine' wpAnyH_take (i := 3) (v := _) rfl (by kernel_rfl) (by kernel_rfl) (by kernel_rfl) (fun _ _ _ h => h) (Or.inl ⟨by rfl, ?hy3b⟩) (by assumption) ?rest3b
        case hy3b =>
          intro W hSw
          (try dsimp only at hSw)
          first | (go_simp; done) | (go_simp; with_reducible rfl)
        try simp only [Act.put]
        refine' wpAnyH_take (i := 4) (v := _) rfl (by kernel_rfl) (by kernel_rfl) (by kernel_rfl) (fun _ _ _ h => h) (Or.inl ⟨by rfl, ?hy4b⟩) (by assumption) ?rest4b
        case hy4b =>
          intro W hSw
          (try dsimp only at hSw)
          first | (go_simp; done) | (go_simp; with_reducible rfl)
        try simp only [Act.put]
        refine' wpAnyH_take (i := 5) (v := _) rfl (by kernel_rfl) (by kernel_rfl) (by kernel_rfl) (fun _ _ _ h => h) (Or.inl ⟨by rfl, ?hy5b⟩) (by assumption) ?rest5b
        case hy5b =>
          intro W hSw
          (try dsimp only at hSw)
          first | (go_simp; done) | (go_simp; with_reducible rfl)
        try simp only [Act.put]
        refine' wpAnyH_take (i := 6) (v := _) rfl (by kernel_rfl) (by kernel_rfl) (by kernel_rfl) (fun _ _ _ h => h) (Or.inl ⟨by rfl, ?hy6b⟩) (by assumption) ?rest6b
        case hy6b =>
          intro W hSw
          (try dsimp only at hSw)
          first | (go_simp; done) | (go_simp; with_reducible rfl)
        try simp only [Act.put]
        refine' wpAnyH_take (i := 7) (v := _) rfl (by kernel_rfl) (by kernel_rfl) (by kernel_rfl) (fun _ _ _ h => h) (Or.inl ⟨by rfl, ?hy7b⟩) (by assumption) ?rest7b
        case hy7b =>
          intro W hSw
          (try dsimp only at hSw)
          first | (go_simp; done) | (go_simp; with_reducible rfl)
        try simp only [Act.put]
        refine' wpAnyH_take (i := 8) (v := _) rfl (by kernel_rfl) (by kernel_rfl) (by kernel_rfl) (fun _ _ _ h => h) (Or.inl ⟨by rfl, ?hy8b⟩) (by assumption) ?rest8b
        case hy8b =>
          intro W hSw
          (try dsimp only at hSw)
          first | (go_simp; done) | (go_simp; with_reducible rfl)
        try simp only [Act.put]
        refine' wpAnyH_take (i := 9) (v := _) rfl (by kernel_rfl) (by kernel_rfl) (by kernel_rfl) (fun _ _ _ h => h) (Or.inl ⟨by rfl, ?hy9b⟩) (by assumption) ?rest9b
        case hy9b =>
          intro W hSw
          (try dsimp only at hSw)
          first | (go_simp; done) | (go_simp; with_reducible rfl)
        try simp only [Act.put]
        refine' wpAnyH_take (i := 10) (v := _) rfl (by kernel_rfl) (by kernel_rfl) (by kernel_rfl) (fun _ _ _ h => h) (Or.inl ⟨by rfl, ?hy10b⟩) (by assumption) ?rest10b
        case hy10b =>
          intro W hSw
          (try dsimp only at hSw)
          first | (go_simp; done) | (go_simp; with_reducible rfl)
        try simp only [Act.put]
        refine' wpAnyH_take (i := 11) (v := _) rfl (by kernel_rfl) (by kernel_rfl) (by kernel_rfl) (fun _ _ _ h => h) (Or.inl ⟨by rfl, ?hy11b⟩) (by assumption) ?rest11b
        case hy11b =>
          intro W hSw
          (try dsimp only at hSw)
          first | (go_simp; done) | (go_simp; with_reducible rfl)
        try simp only [Act.put]
        refine' wpAnyH_take (i := 12) (v := _) rfl (by kernel_rfl) (by kernel_rfl) (by kernel_rfl) (fun _ _ _ h => h) (Or.inl ⟨by rfl, ?hy12b⟩) (by assumption) ?rest12b
        case hy12b =>
          intro W hSw
          (try dsimp only at hSw)
          first | (go_simp; done) | (go_simp; with_reducible rfl)
        try simp only [Act.put]
        refine' wpAnyH_take (i := 13) (v := _) rfl (by kernel_rfl) (by kernel_rfl) (by kernel_rfl) (fun _ _ _ h => h) (Or.inl ⟨by rfl, ?hy13b⟩) (by assumption) ?rest13b
        case hy13b =>
          intro W hSw
          (try dsimp only at hSw)
          first | (go_simp; done) | (go_simp; with_reducible rfl)
        try simp only [Act.put]
        refine' wpAnyH_take (i := 14) (v := _) rfl (by kernel_rfl) (by kernel_rfl) (by kernel_rfl) (fun _ _ _ h => h) (Or.inl ⟨by rfl, ?hy14b⟩) (by assumption) ?rest14b
        case hy14b =>
          intro W hSw
          (try dsimp only at hSw)
          first | (go_simp; done) | (go_simp; with_reducible rfl)
        try simp only [Act.put]
        refine' wpAnyH_take (i := 15) (v := _) rfl (by kernel_rfl) (by kernel_rfl) (by kernel_rfl) (fun _ _ _ h => h) (Or.inl ⟨by rfl, ?hy15b⟩) (by assumption) ?rest15b
        case hy15b =>
          intro W hSw
          (try dsimp only at hSw)
          first | (go_simp; done) | (go_simp; with_reducible rfl)
        try simp only [Act.put]
        refine' wpAnyH_take (i := 17) (v := _) rfl (by kernel_rfl) (by kernel_rfl) (by kernel_rfl) (fun _ _ _ h => h) (Or.inl ⟨by rfl, ?hy17b⟩) (by assumption) ?rest17b
        case hy17b =>
          intro W hSw
          (try dsimp only at hSw)
          first | (go_simp; done) | (go_simp; with_reducible rfl)
        try simp only [Act.put]
        refine' wpAnyH_take (i := 18) (v := _) rfl (by kernel_rfl) (by kernel_rfl) (by kernel_rfl) (fun _ _ _ h => h) (Or.inl ⟨by rfl, ?hy18b⟩) (by assumption) ?rest18b
        case hy18b =>
          intro W hSw
          (try dsimp only at hSw)
          first | (go_simp; done) | (go_simp; with_reducible rfl)
        try simp only [Act.put]
        refine' wpAnyH_take (i := 19) (v := _) rfl (by kernel_rfl) (by kernel_rfl) (by kernel_rfl) (fun _ _ _ h => h) (Or.inl ⟨by rfl, ?hy19b⟩) (by assumption) ?rest19b
        case hy19b =>
          intro W hSw
          (try dsimp only at hSw)
          first | (go_simp; done) | (go_simp; with_reducible rfl)
        try simp only [Act.put]
        refine' wpAnyH_take (i := 20) (v := _) rfl (by kernel_rfl) (by kernel_rfl) (by kernel_rfl) (fun _ _ _ h => h) (Or.inl ⟨by rfl, ?hy20b⟩) (by assumption) ?rest20b
        case hy20b =>
          intro W hSw
          (try dsimp only at hSw)
          first | (go_simp; done) | (go_simp; with_reducible rfl)
        clear e5 e6
        try simp only [Act.put]
        refine wpAnyH_ready (rs := [16]) (by kernel_rfl) (by simp) ?_
        refine AllReadyH.cons (i := 16) (o := _) rfl (fun K hK => ?_) AllReadyH.nil
        go_simp
        go_at_call 99
        with_reducible refine (CC.out _ (HSdb.out.dice) (HTY.out.beside HSdb.out.bes)).mono ?_
        rintro e wcb ⟨⟨cqb, cnb, heb, hcqb⟩, hdb, hbb⟩
        subst heb
        have HCQ := Lib.hid hcqb
        have HScb := Lib.hid (HSdb.out.same hgl hw9 hdb hbb)
        clear hdb hbb hcqb
        refine hK.out _ _ (HKSb.out _ (HScb.out).box (HScb.out).roles) (fun hHeld => ?_)
        clear hK K
        try simp only [Act.put, List.setIfInBounds_toArray]
        refine' wpAnyH_take (i := 21) (v := _) rfl (by kernel_rfl) (by kernel_rfl) (by kernel_rfl) (fun _ _ _ h => h) (Or.inl ⟨by rfl, ?hy21b⟩) (by assumption) ?rest21b
        case hy21b =>
          intro W hSw
          (try dsimp only at hSw)
          first | (go_simp; done) | (go_simp; with_reducible rfl)
        have HS8b := Lib.hid (show RSg w (wcb.alloc (.cells #[.string (labB li), .int .i64 cqb, .string cnb, .int .i64 (k1 : Int)] 45)) g g9 nm many rb rc N sa sn sc f from (HScb.out.onto hgl hw9 (.cells #[.string (labB li), .int .i64 cqb, .string cnb, .int .i64 (k1 : Int)] 45)))
        have HA8b := Lib.hid (show AOwn (wcb.alloc (.cells #[.string (labB li), .int .i64 cqb, .string cnb, .int .i64 (k1 : Int)] 45)) wcb.heap.size (.slice (some ⟨wcb.heap.size, 0, none⟩) 1 1) [⟨labS li, cqb, cnb.toList, (k1 : Int)⟩] from made_oneT wcb (labB li) (labS li) (labB_small _) (labB_list _) cnb HCQ.out.1 cqb (k1 : Int))
        have HO8b := Lib.hid (show PRow (wcb.alloc (.cells #[.string (labB li), .int .i64 cqb, .string cnb, .int .i64 (k1 : Int)] 45)) (g9 + 1) wcb.heap.size (.slice sa sn sc) f from HScb.out.row.kept (tu1 _ _) (by omega))
        have hlob := HScb.out.low
        have hlnb := HScb.out.len
        try simp only [Act.put, List.setIfInBounds_toArray]
        refine wpAnyH_ready (rs := [22]) (by kernel_rfl) (by simp) ?_
        refine AllReadyH.cons (i := 22) (o := _) rfl (fun K hK => ?_) AllReadyH.nil
        go_simp
        refine hK.out _ _ (HKSb.out _ (HS8b.out).box (HS8b.out).roles) (fun hHeld => ?_)
        clear hK K
        generalize hw8b : wcb.alloc (.cells #[.string (labB li), .int .i64 cqb, .string cnb, .int .i64 (k1 : Int)] 45) = w8b at HS8b HA8b HO8b hHeld ⊢
        have hs8b : wcb.heap.size ≤ w8b.heap.size := by rw [← hw8b]; simp
        clear hw8b
        try simp only [Act.put, List.setIfInBounds_toArray]
        refine' wpAnyH_take (i := 23) (v := _) rfl (by kernel_rfl) (by kernel_rfl) (by kernel_rfl) (fun _ _ _ h => h) (Or.inl ⟨by rfl, ?hy23b⟩) (by assumption) ?rest23b
        case hy23b =>
          intro W hSw
          (try dsimp only at hSw)
          first | (go_simp; done) | (go_simp; with_reducible rfl)
        try simp only [Act.put, List.setIfInBounds_toArray]
        refine wpAnyH_ready (rs := [24]) (by kernel_rfl) (by simp) ?_
        refine AllReadyH.cons (i := 24) (o := _) rfl (fun K hK => ?_) AllReadyH.nil
        go_simp
        refine hK.out _ _ (HKSb.out _ (HS8b.out.onto hgl hw9 _).box (HS8b.out.onto hgl hw9 _).roles) (fun hHeld => ?_)
        clear hK K
        try simp only [Act.put, List.setIfInBounds_toArray, List.set_cons_zero, List.set_cons_succ]
        refine wpAnyH_ready (rs := [25]) (by kernel_rfl) (by simp) ?_
        refine AllReadyH.cons (i := 25) (o := _) rfl (fun K hK => ?_) AllReadyH.nil
        refine step_append_mpoint w8b (by rfl) (.tmp 67) (.tmp 90) (by rfl) (g9 + 1) wcb.heap.size (.slice sa sn sc) f ⟨rolS sn, rolS k1, some ⟨wcb.heap.size, 0, none⟩, 1, 1⟩ ⟨(rolS sn).toList, (rolS k1).toList, [⟨labS li, cqb, cnb.toList, (k1 : Int)⟩]⟩ (by rfl) (by rfl) (by rfl) HO8b.out ⟨⟨rfl, rolS_small _⟩, rfl, rolS_small _, by show List.length _ ≤ _; simp⟩ HA8b.out (by omega) hs8b (by omega) w8b (Below.refl _ _) ?_
        intro v5 w5b hown hbel
        obtain ⟨sa5b, sc5b, hv5, _⟩ := hown.powns.sees (by rw [List.length_append, List.length_singleton]; omega)
        rw [List.length_append, List.length_singleton, hlnb] at hv5
        subst hv5
        have HL5b := Lib.hid (show PBox w5b g9 nm (some ⟨rb, 0, none⟩) many rc sa sn sc from (hbel.block g9 (by omega)).trans HS8b.out.box)
        have HR5b := Lib.hid (HS8b.out.roles.below hbel (by omega))
        have HNb := Lib.hid (HS8b.out.next hgl hw9 hr9 hbel hown (by rw [List.length_append, hlnb]; rfl) (all_app HS8b.out.ok (pointB_made (a := sn) (b := k1) (by omega) (by omega) h4 (by omega) (armsB_one (armB_typed (labS_may _) HCQ.out.2 (by omega) (by omega))))) (all_app HS8b.out.arm (by show 0 < List.length _; simp)))
        obtain ⟨f5b, hf5b⟩ : ∃ x, x = f ++ [(⟨(rolS sn).toList, (rolS k1).toList, [⟨labS li, cqb, cnb.toList, (k1 : Int)⟩]⟩ : PointL)] := ⟨_, rfl⟩
        rw [← hf5b] at HNb
        have HF5b := Lib.hid hf5b
        clear hf5b
        have ufb := HL5b.out.thaw 2
        clear hown hbel
        refine hK.out _ _ (HKSb.out _ HL5b.out HR5b.out) (fun hHeld => ?_)
        clear hK K
        try simp only [Act.put, List.setIfInBounds_toArray]
        try simp only [Act.put, List.setIfInBounds_toArray]
        refine' wpAnyH_take (i := 26) (v := _) rfl (by kernel_rfl) (by kernel_rfl) (by kernel_rfl) (fun _ _ _ h => h) (Or.inl ⟨by rfl, ?hy26b⟩) (by assumption) ?rest26b
        case hy26b =>
          intro W hSw
          (try dsimp only at hSw)
          first | (go_simp; done) | (go_simp; with_reducible rfl)
        try simp only [Act.put]
        refine wpAnyH_done (by kernel_rfl) ?_ _
        unfold LastPost
        obtain ⟨_, _, _⟩ := HL5b.out.cells
        go_simp
        have HX5 := Lib.hid (show ∃ x0 : PointL, f5b[0]? = some x0 ∧ x0.arms.length = 2 from by
          obtain ⟨x0, h1, h2⟩ := HX0.out
          exact ⟨x0, by rw [HF5b.out, List.getElem?_append_left (List.getElem?_eq_some_iff.1 h1).1]; exact h1, h2⟩)
        obtain ⟨e5, e6⟩ := E5.out
        go_wp2_with fail
        go_roundw
        case rel =>
          clear e5 e6
          exact ⟨k1, sa5b, sn + 1, sc5b, f5b, by omega, by omega, by first | rfl | go_num, by omega, HNb, HX5⟩
        case measure =>
          clear e5 e6
          simp [intOf]; omega
      · obtain ⟨s0, hs0⟩ : ∃ s0, s0 = if B = true then many else sn := ⟨_, rfl⟩
        have HS0 := Lib.hid (show (B = true → s0 = many) ∧ (B = false → s0 = sn) from ⟨fun h => by rw [hs0, if_pos h], fun h => by rw [hs0, if_neg (by rw [h]; simp)]⟩)
        have hNS : N + 1 = s0 + many := by
          cases B
          · have := HNB.out.2 rfl; have := HS0.out.2 rfl; omega
          · have := HNB.out.1 rfl; have := HS0.out.1 rfl; omega
        clear hs0
        have hkm : k1 = many := by omega
        obtain ⟨wo, hwo⟩ : ∃ wo : World, wo = wr := ⟨_, rfl⟩
        subst hwo
        obtain ⟨e5, e6⟩ := E5.out
        go_upto_if 93 with fail
        clear e5 e6
        go_cut [] (fun wx => ∃ (sa : Option Addr) (sc : Nat) (f : List PointL), Hid (RSg w wx g g9 nm many rb rc N sa s0 sc f) ∧ Hid (∃ x0 : PointL, f[0]? = some x0 ∧ x0.arms.length = 2))
        case first =>
          cases B
          · obtain rfl : s0 = sn := HS0.out.2 rfl
            obtain ⟨jj, hjj⟩ : ∃ jj, s0 = jj + 1 := ⟨s0 - 1, by omega⟩
            have E7 := Lib.hid (pred_wraps hjj (by omega))
            have hll := HS.out.len
            have hft := List.getElem?_eq_getElem (l := f) (i := jj) (by omega)
            obtain ⟨t, ht⟩ : ∃ t, t = f[jj]'(by omega) := ⟨_, rfl⟩
            rw [← ht] at hft
            have hta := HS.out.arm t (List.mem_of_getElem? hft)
            obtain ⟨x, hx⟩ : ∃ x, t.arms[0]? = some x := ⟨_, List.getElem?_eq_getElem hta⟩
            obtain ⟨g2, ab, ac, hsa, hg2, hc, hfz, ⟨o, ho⟩, hSP⟩ := HS.out.put hgl hw9 hr9 hft hx (z := 0) (by omega) (by omega)
            subst hsa
            have HSP := Lib.hid hSP
            rw [Nat.zero_mul, Nat.zero_add] at hfz ho HSP
            have HX9 := Lib.hid (show ∃ x0 : PointL, (f.set jj ⟨t.src, t.dst, t.arms.set 0 ⟨x.label, x.ck, x.cn, 0⟩⟩)[0]? = some x0 ∧ x0.arms.length = 2 from set_first HX0.out hft)
            obtain ⟨an, han⟩ : ∃ an, an = t.arms.length := ⟨_, rfl⟩
            rw [← han] at hc hta
            have j1 : (jj : Int) < (s0 : Int) := by omega
            have j2 : (0 : Int) ≤ (jj : Int) := by omega
            have j3 : (0 : Int) < (an : Int) := by omega
            obtain ⟨_, _, _⟩ := HS.out.box.cells
            clear hft ht hx hSP han hll hkm hjj hlt
            obtain ⟨e5, e6⟩ := E7.out
            go_wp2_with fail
            clear e5 e6
            go_meet
            exact ⟨_, _, _, HSP, HX9⟩
          · have hsm : s0 = many := HS0.out.1 rfl
            have hks : many = sn + 1 := by omega
            have E7 := Lib.hid (pred_wraps hks (by omega))
            have HSM := Lib.hid (show s0 = sn + 1 by omega)
            have j1 : (sn : Int) < (many : Int) := by omega
            have j2 : (0 : Int) ≤ (sn : Int) := by omega
            have j3 : (0 : Int) < (many : Int) := by omega
            have j4 : sn < many := by omega
            have j5 : 0 < many := by omega
            have hks2 : 1 ≤ sn := by omega
            clear hks hkm hsm
            go_upto_region 11 with fail
            have HKSc := Lib.hid (fun (W : World) (hL : PBox W g9 nm (some ⟨rb, 0, none⟩) many rc sa sn sc) (hR : RRow W (w.heap.size + 1) (some ⟨rb, 0, none⟩) many rc (rolesL many)) => show W.cell? ⟨g9, 0, none⟩ = some (.string nm) ∧ W.cell? ⟨g9, 1, none⟩ = some (.slice (some ⟨rb, 0, none⟩) many rc) ∧ W.cell? ⟨g9, 2, none⟩ = some (.slice sa sn sc) ∧ W.cell? ⟨rb, sn, none⟩ = some (.string (rolS sn)) ∧ W.cell? ⟨rb, 0, none⟩ = some (.string (rolS 0)) from
              ⟨hL.cells.1, hL.cells.2.1, hL.cells.2.2, hR.gets (k := sn) (by omega), hR.gets (k := 0) (by omega)⟩)
            have HSdc := Lib.hid (HS.out.drew)
            refine wp_region_last2 (S := fun W => W.cell? ⟨g9, 0, none⟩ = some (.string nm) ∧ W.cell? ⟨g9, 1, none⟩ = some (.slice (some ⟨rb, 0, none⟩) many rc) ∧ W.cell? ⟨g9, 2, none⟩ = some (.slice sa sn sc) ∧ W.cell? ⟨rb, sn, none⟩ = some (.string (rolS sn)) ∧ W.cell? ⟨rb, 0, none⟩ = some (.string (rolS 0))) rfl (by kernel_rfl) (by kernel_rfl) (HKSc.out _ (HSdc.out).box (HSdc.out).roles) (fun hHeld => ?_)
            simp only [List.pop_toArray, List.dropLast_cons_cons, List.dropLast_singleton]
            obtain ⟨e5, e6⟩ := E7.out
            try simp only [Act.put, List.setIfInBounds_toArray]
            refine' wpAnyH_take (i := 0) (v := _) rfl (by kernel_rfl) (by kernel_rfl) (by kernel_rfl) (fun _ _ _ h => h) (Or.inl ⟨by rfl, ?hy0c⟩) (by assumption) ?rest0c
            case hy0c =>
              intro W hSw
              (try dsimp only at hSw)
              first | (go_simp; done) | (go_simp; with_reducible rfl)
            try simp only [Act.put, List.setIfInBounds_toArray]
            refine' wpAnyH_take (i := 1) (v := _) rfl (by kernel_rfl) (by kernel_rfl) (by kernel_rfl) (fun _ _ _ h => h) (Or.inl ⟨by rfl, ?hy1c⟩) (by assumption) ?rest1c
            case hy1c =>
              intro W hSw
              (try dsimp only at hSw)
              first | (go_simp; done) | (go_simp; with_reducible rfl)
            try simp only [Act.put]
            refine' wpAnyH_take (i := 2) (v := _) rfl (by kernel_rfl) (by kernel_rfl) (by kernel_rfl) (fun _ _ _ h => h) (Or.inl ⟨by rfl, ?hy2c⟩) (by assumption) ?rest2c
            case hy2c =>
              intro W hSw
              (try dsimp only at hSw)
              first | (go_simp; done) | (go_simp; with_reducible rfl)
            try simp only [Act.put]
            refine' wpAnyH_take (i := 3) (v := _) rfl (by kernel_rfl) (by kernel_rfl) (by kernel_rfl) (fun _ _ _ h => h) (Or.inl ⟨by rfl, ?hy3c⟩) (by assumption) ?rest3c
            case hy3c =>
              intro W hSw
              (try dsimp only at hSw)
              first | (go_simp; done) | (go_simp; with_reducible rfl)
            try simp only [Act.put]
            refine' wpAnyH_take (i := 4) (v := _) rfl (by kernel_rfl) (by kernel_rfl) (by kernel_rfl) (fun _ _ _ h => h) (Or.inl ⟨by rfl, ?hy4c⟩) (by assumption) ?rest4c
            case hy4c =>
              intro W hSw
              (try dsimp only at hSw)
              first | (go_simp; done) | (go_simp; with_reducible rfl)
            try simp only [Act.put]
            refine' wpAnyH_take (i := 5) (v := _) rfl (by kernel_rfl) (by kernel_rfl) (by kernel_rfl) (fun _ _ _ h => h) (Or.inl ⟨by rfl, ?hy5c⟩) (by assumption) ?rest5c
            case hy5c =>
              intro W hSw
              (try dsimp only at hSw)
              first | (go_simp; done) | (go_simp; with_reducible rfl)
            try simp only [Act.put]
            refine' wpAnyH_take (i := 6) (v := _) rfl (by kernel_rfl) (by kernel_rfl) (by kernel_rfl) (fun _ _ _ h => h) (Or.inl ⟨by rfl, ?hy6c⟩) (by assumption) ?rest6c
            case hy6c =>
              intro W hSw
              (try dsimp only at hSw)
              first | (go_simp; done) | (go_simp; with_reducible rfl)
            try simp only [Act.put]
            refine' wpAnyH_take (i := 7) (v := _) rfl (by kernel_rfl) (by kernel_rfl) (by kernel_rfl) (fun _ _ _ h => h) (Or.inl ⟨by rfl, ?hy7c⟩) (by assumption) ?rest7c
            case hy7c =>
              intro W hSw
              (try dsimp only at hSw)
              first | (go_simp; done) | (go_simp; with_reducible rfl)
            try simp only [Act.put]
            refine' wpAnyH_take (i := 8) (v := _) rfl (by kernel_rfl) (by kernel_rfl) (by kernel_rfl) (fun _ _ _ h => h) (Or.inl ⟨by rfl, ?hy8c⟩) (by assumption) ?rest8c
            case hy8c =>
              intro W hSw
              (try dsimp only at hSw)
              first | (go_simp; done) | (go_simp; with_reducible rfl)
            try simp only [Act.put]
            refine' wpAnyH_take (i := 9) (v := _) rfl (by kernel_rfl) (by kernel_rfl) (by kernel_rfl) (fun _ _ _ h => h) (Or.inl ⟨by rfl, ?hy9c⟩) (by assumption) ?rest9c
            case hy9c =>
              intro W hSw
              (try dsimp only at hSw)
              first | (go_simp; done) | (go_simp; with_reducible rfl)
            try simp only [Act.put]
            refine' wpAnyH_take (i := 10) (v := _) rfl (by kernel_rfl) (by kernel_rfl) (by kernel_rfl) (fun _ _ _ h => h) (Or.inl ⟨by rfl, ?hy10c⟩) (by assumption) ?rest10c
            case hy10c =>
              intro W hSw
              (try dsimp only at hSw)
              first | (go_simp; done) | (go_simp; with_reducible rfl)
            try simp only [Act.put]
            refine' wpAnyH_take (i := 11) (v := _) rfl (by kernel_rfl) (by kernel_rfl) (by kernel_rfl) (fun _ _ _ h => h) (Or.inl ⟨by rfl, ?hy11c⟩) (by assumption) ?rest11c
            case hy11c =>
              intro W hSw
              (try dsimp only at hSw)
              first | (go_simp; done) | (go_simp; with_reducible rfl)
            try simp only [Act.put]
            refine' wpAnyH_take (i := 12) (v := _) rfl (by kernel_rfl) (by kernel_rfl) (by kernel_rfl) (fun _ _ _ h => h) (Or.inl ⟨by rfl, ?hy12c⟩) (by assumption) ?rest12c
            case hy12c =>
              intro W hSw
              (try dsimp only at hSw)
              first | (go_simp; done) | (go_simp; with_reducible rfl)
            clear e5 e6
            try simp only [Act.put]
            refine wpAnyH_ready (rs := [13]) (by kernel_rfl) (by simp) ?_
            refine AllReadyH.cons (i := 13) (o := _) rfl (fun K hK => ?_) AllReadyH.nil
            go_simp
            go_at_call 98
            with_reducible refine (CD.out _ (HSdc.out.dice)).mono ?_
            rintro e wcc ⟨⟨cqc, hcq0c, hcq5c, hec⟩, hdc, hbc⟩
            subst hec
            have HScc := Lib.hid (HSdc.out.same hgl hw9 hdc hbc)
            clear hdc hbc
            refine hK.out _ _ (HKSc.out _ (HScc.out).box (HScc.out).roles) (fun hHeld => ?_)
            clear hK K
            try simp only [Act.put, List.setIfInBounds_toArray]
            refine' wpAnyH_take (i := 14) (v := _) rfl (by kernel_rfl) (by kernel_rfl) (by kernel_rfl) (fun _ _ _ h => h) (Or.inl ⟨by rfl, ?hy14c⟩) (by assumption) ?rest14c
            case hy14c =>
              intro W hSw
              (try dsimp only at hSw)
              first | (go_simp; done) | (go_simp; with_reducible rfl)
            have HS8c := Lib.hid (show RSg w (wcc.alloc (.cells #[.string ⟨#[111, 107]⟩, .int .i64 cqc, .string ⟨#[]⟩, .int .i64 0] 45)) g g9 nm many rb rc N sa sn sc f from (HScc.out.onto hgl hw9 (.cells #[.string ⟨#[111, 107]⟩, .int .i64 cqc, .string ⟨#[]⟩, .int .i64 0] 45)))
            have HA8c := Lib.hid (show AOwn (wcc.alloc (.cells #[.string ⟨#[111, 107]⟩, .int .i64 cqc, .string ⟨#[]⟩, .int .i64 0] 45)) wcc.heap.size (.slice (some ⟨wcc.heap.size, 0, none⟩) 1 1) [⟨[111, 107], cqc, [], 0⟩] from made_one wcc ⟨#[111, 107]⟩ [111, 107] ok_small ok_str cqc 0)
            have HO8c := Lib.hid (show PRow (wcc.alloc (.cells #[.string ⟨#[111, 107]⟩, .int .i64 cqc, .string ⟨#[]⟩, .int .i64 0] 45)) (g9 + 1) wcc.heap.size (.slice sa sn sc) f from HScc.out.row.kept (tu1 _ _) (by omega))
            have hloc := HScc.out.low
            have hlnc := HScc.out.len
            try simp only [Act.put, List.setIfInBounds_toArray]
            refine wpAnyH_ready (rs := [15]) (by kernel_rfl) (by simp) ?_
            refine AllReadyH.cons (i := 15) (o := _) rfl (fun K hK => ?_) AllReadyH.nil
            go_simp
            refine hK.out _ _ (HKSc.out _ (HS8c.out).box (HS8c.out).roles) (fun hHeld => ?_)
            clear hK K
            generalize hw8c : wcc.alloc (.cells #[.string ⟨#[111, 107]⟩, .int .i64 cqc, .string ⟨#[]⟩, .int .i64 0] 45) = w8c at HS8c HA8c HO8c hHeld ⊢
            have hs8c : wcc.heap.size ≤ w8c.heap.size := by rw [← hw8c]; simp
            clear hw8c
            try simp only [Act.put, List.setIfInBounds_toArray]
            refine' wpAnyH_take (i := 16) (v := _) rfl (by kernel_rfl) (by kernel_rfl) (by kernel_rfl) (fun _ _ _ h => h) (Or.inl ⟨by rfl, ?hy16c⟩) (by assumption) ?rest16c
            case hy16c =>
              intro W hSw
              (try dsimp only at hSw)
              first | (go_simp; done) | (go_simp; with_reducible rfl)
            try simp only [Act.put, List.setIfInBounds_toArray]
            refine wpAnyH_ready (rs := [17]) (by kernel_rfl) (by simp) ?_
            refine AllReadyH.cons (i := 17) (o := _) rfl (fun K hK => ?_) AllReadyH.nil
            go_simp
            refine hK.out _ _ (HKSc.out _ (HS8c.out.onto hgl hw9 _).box (HS8c.out.onto hgl hw9 _).roles) (fun hHeld => ?_)
            clear hK K
            try simp only [Act.put, List.setIfInBounds_toArray, List.set_cons_zero, List.set_cons_succ]
            refine wpAnyH_ready (rs := [18]) (by kernel_rfl) (by simp) ?_
            refine AllReadyH.cons (i := 18) (o := _) rfl (fun K hK => ?_) AllReadyH.nil
            refine step_append_mpoint w8c (by rfl) (.tmp 95) (.tmp 111) (by rfl) (g9 + 1) wcc.heap.size (.slice sa sn sc) f ⟨rolS sn, rolS 0, some ⟨wcc.heap.size, 0, none⟩, 1, 1⟩ ⟨(rolS sn).toList, (rolS 0).toList, [⟨[111, 107], cqc, [], 0⟩]⟩ (by rfl) (by rfl) (by rfl) HO8c.out ⟨⟨rfl, rolS_small _⟩, rfl, rolS_small _, by show List.length _ ≤ _; simp⟩ HA8c.out (by omega) hs8c (by omega) w8c (Below.refl _ _) ?_
            intro v5 w5c hown hbel
            obtain ⟨sa5c, sc5c, hv5, _⟩ := hown.powns.sees (by rw [List.length_append, List.length_singleton]; omega)
            rw [List.length_append, List.length_singleton, hlnc] at hv5
            subst hv5
            have HL5c := Lib.hid (show PBox w5c g9 nm (some ⟨rb, 0, none⟩) many rc sa sn sc from (hbel.block g9 (by omega)).trans HS8c.out.box)
            have HR5c := Lib.hid (HS8c.out.roles.below hbel (by omega))
            have HNc := Lib.hid (HS8c.out.next hgl hw9 hr9 hbel hown (by rw [List.length_append, hlnc]; rfl) (all_app HS8c.out.ok (pointB_made (a := sn) (b := 0) (by omega) (by omega) h4 (by omega) (armsB_one (armB_data (by decide) hcq0c hcq5c (by omega) (by omega))))) (all_app HS8c.out.arm (by show 0 < List.length _; simp)))
            obtain ⟨f5c, hf5c⟩ : ∃ x, x = f ++ [(⟨(rolS sn).toList, (rolS 0).toList, [⟨[111, 107], cqc, [], 0⟩]⟩ : PointL)] := ⟨_, rfl⟩
            rw [← hf5c] at HNc
            have HF5c := Lib.hid hf5c
            clear hf5c
            have ufc := HL5c.out.thaw 2
            clear hown hbel
            refine hK.out _ _ (HKSc.out _ HL5c.out HR5c.out) (fun hHeld => ?_)
            clear hK K
            try simp only [Act.put, List.setIfInBounds_toArray]
            try simp only [Act.put, List.setIfInBounds_toArray]
            refine' wpAnyH_take (i := 19) (v := _) rfl (by kernel_rfl) (by kernel_rfl) (by kernel_rfl) (fun _ _ _ h => h) (Or.inl ⟨by rfl, ?hy19c⟩) (by assumption) ?rest19c
            case hy19c =>
              intro W hSw
              (try dsimp only at hSw)
              first | (go_simp; done) | (go_simp; with_reducible rfl)
            try simp only [Act.put]
            refine wpAnyH_done (by kernel_rfl) ?_ _
            unfold LastPost
            obtain ⟨_, _, _⟩ := HL5c.out.cells
            go_simp
            have HX5 := Lib.hid (show ∃ x0 : PointL, f5c[0]? = some x0 ∧ x0.arms.length = 2 from by
              obtain ⟨x0, h1, h2⟩ := HX0.out
              exact ⟨x0, by rw [HF5c.out, List.getElem?_append_left (List.getElem?_eq_some_iff.1 h1).1]; exact h1, h2⟩)
            go_wp2_with fail
            go_meet
            exact ⟨sa5c, sc5c, f5c, by rw [HSM.out]; exact HNc, HX5⟩
        case rest =>
          clear HS HX0 E5 hlt hkm hk1lo hk1hi
          obtain ⟨sa, sc, f, HS5, HX5⟩ := hcut
          obtain ⟨w15, hw15⟩ : ∃ w15 : World, w15 = wc := ⟨_, rfl⟩
          subst hw15
          obtain ⟨x0, hx0, hxa⟩ := HX5.out
          obtain ⟨y, hy⟩ : ∃ y, x0.arms[1]? = some y := ⟨_, List.getElem?_eq_getElem (by omega)⟩
          have hs0 : 1 ≤ s0 ∧ s0 ≤ 4 := by
            cases B
            · have := HS0.out.2 rfl; omega
            · have := HS0.out.1 rfl; omega
          obtain ⟨g2, ab, ac, hsa, hg2, hc, hfz, ⟨o, ho⟩, hSP⟩ := HS5.out.put hgl hw9 hr9 hx0 hy (z := (s0 : Int)) (by omega) (by omega)
          subst hsa
          rw [hxa] at hc
          have hc : w15.cell? ⟨g2, 2, none⟩ = some (.slice (some ⟨ab, 0, none⟩) 2 ac) := by simpa using hc
          have hfz : w15.frozen? ⟨ab, 7, none⟩ = false := by simpa using hfz
          have ho : w15.cell? ⟨ab, 7, none⟩ = some o := by simpa using ho
          obtain ⟨f6, hf6⟩ : ∃ f6, f6 = f.set 0 ⟨x0.src, x0.dst, x0.arms.set 1 ⟨y.label, y.ck, y.cn, (s0 : Int)⟩⟩ := ⟨_, rfl⟩
          have HSP := Lib.hid (show RSg w (w15.setCell ⟨ab, 7, none⟩ (.int .i64 (s0 : Int))) g g9 nm many rb rc N (some ⟨g2, 0, none⟩) s0 sc f6 from by rw [hf6]; exact hSP)
          have j1 : (0 : Int) < (s0 : Int) := by omega
          have j2 : 0 < s0 := by omega
          obtain ⟨_, _, _⟩ := HS5.out.box.cells
          clear hSP hf6 hx0 hxa hy hs0
          go_wp2_with fail
          generalize hw16 : w15.setCell ⟨ab, 7, none⟩ (.int .i64 (s0 : Int)) = w16 at HSP ⊢
          clear hw16 HS5 HX5 hc hfz ho j1 j2 hg2
          have hbnd : s0 ≤ 4 := by
            cases B
            · have := HS0.out.2 rfl; omega
            · have := HS0.out.1 rfl; omega
          go_loopw [17] (fun i wr => ∃ (k : Nat) (sa : Option Addr) (sn sc : Nat) (f : List PointL), 1 ≤ k ∧ k + 1 ≤ many ∧ i = .int .i64 k ∧ sn + 1 = s0 + k ∧ Hid (RSg w wr g g9 nm many rb rc N sa sn sc f)) (fun i _ => many - (intOf i).toNat)
          case atStart => exact ⟨1, some ⟨g2, 0, none⟩, s0, sc, f6, by omega, by omega, by simp, by omega, HSP⟩
          case round =>
            clear HSP
            obtain ⟨k, sa, sn, sc, f, hk1, hk, rfl, hsn, HS⟩ := hrel
            obtain ⟨k1, hk1e⟩ : ∃ k1 : Nat, k1 = k + 1 := ⟨_, rfl⟩
            obtain ⟨sn1, hsn1⟩ : ∃ sn1 : Nat, sn1 = sn + 1 := ⟨_, rfl⟩
            have hsn9 : sn ≤ 100 := by omega
            have E5 := Lib.hid (succ_wraps hk1e (by omega))
            have E6 := Lib.hid (succ_wraps hsn1 (by omega))
            have hk1lo : k + 1 ≤ k1 := by omega
            have hk1hi : k1 ≤ k + 1 := by omega
            have hs1lo : sn1 ≤ s0 + k := by omega
            have HSN1 := Lib.hid hsn1
            have HSNK := Lib.hid hsn
            clear hk1e hsn1 hsn
            by_cases hlt : k1 < many
            · have j1 : (k : Int) < (many : Int) := by omega
              have j2 : (0 : Int) ≤ (k : Int) := by omega
              have j3 : (k1 : Int) < (many : Int) := by omega
              have j4 : (0 : Int) ≤ (k1 : Int) := by omega
              have j5 : k < many := by omega
              obtain ⟨e5, e6⟩ := E5.out
              go_upto_region 19 with fail
              clear e5 e6
              have HKSd := Lib.hid (fun (W : World) (hL : PBox W g9 nm (some ⟨rb, 0, none⟩) many rc sa sn sc) (hR : RRow W (w.heap.size + 1) (some ⟨rb, 0, none⟩) many rc (rolesL many)) => show W.cell? ⟨g9, 0, none⟩ = some (.string nm) ∧ W.cell? ⟨g9, 1, none⟩ = some (.slice (some ⟨rb, 0, none⟩) many rc) ∧ W.cell? ⟨g9, 2, none⟩ = some (.slice sa sn sc) ∧ W.cell? ⟨rb, k, none⟩ = some (.string (rolS k)) ∧ W.cell? ⟨rb, k1, none⟩ = some (.string (rolS k1)) from
                ⟨hL.cells.1, hL.cells.2.1, hL.cells.2.2, hR.gets (k := k) (by omega), hR.gets (k := k1) (by omega)⟩)
              have HSdd := Lib.hid (HS.out.drew)
              refine wp_region_last2 (S := fun W => W.cell? ⟨g9, 0, none⟩ = some (.string nm) ∧ W.cell? ⟨g9, 1, none⟩ = some (.slice (some ⟨rb, 0, none⟩) many rc) ∧ W.cell? ⟨g9, 2, none⟩ = some (.slice sa sn sc) ∧ W.cell? ⟨rb, k, none⟩ = some (.string (rolS k)) ∧ W.cell? ⟨rb, k1, none⟩ = some (.string (rolS k1))) rfl (by kernel_rfl) (by kernel_rfl) (HKSd.out _ (HSdd.out).box (HSdd.out).roles) (fun hHeld => ?_)
              simp only [List.pop_toArray, List.dropLast_cons_cons, List.dropLast_singleton]
              obtain ⟨⟨e5, e6⟩, ⟨e7, e8⟩⟩ := And.intro E5.out E6.out
              try simp only [Act.put, List.setIfInBounds_toArray]
              refine' wpAnyH_take (i := 0) (v := _) rfl (by kernel_rfl) (by kernel_rfl) (by kernel_rfl) (fun _ _ _ h => h) (Or.inl ⟨by rfl, ?hy0d⟩) (by assumption) ?rest0d
              case hy0d =>
                intro W hSw
                (try dsimp only at hSw)
                first | (go_simp; done) | (go_simp; with_reducible rfl)
              try simp only [Act.put, List.setIfInBounds_toArray]
              refine' wpAnyH_take (i := 1) (v := _) rfl (by kernel_rfl) (by kernel_rfl) (by kernel_rfl) (fun _ _ _ h => h) (Or.inl ⟨by rfl, ?hy1d⟩) (by assumption) ?rest1d
              case hy1d =>
                intro W hSw
                (try dsimp only at hSw)
                first | (go_simp; done) | (go_simp; with_reducible rfl)
              try simp only [Act.put]
              refine' wpAnyH_take (i := 2) (v := _) rfl (by kernel_rfl) (by kernel_rfl) (by kernel_rfl) (fun _ _ _ h => h) (Or.inl ⟨by rfl, ?hy2d⟩) (by assumption) ?rest2d
              case hy2d =>
                intro W hSw
                (try dsimp only at hSw)
                first | (go_simp; done) | (go_simp; with_reducible rfl)
              try simp only [Act.put]
              refine' wpAnyH_take (i := 3) (v := _) rfl (by kernel_rfl) (by kernel_rfl) (by kernel_rfl) (fun _ _ _ h => h) (Or.inl ⟨by rfl, ?hy3d⟩) (by assumption) ?rest3d
              case hy3d =>
                intro W hSw
                (try dsimp only at hSw)
                first | (go_simp; done) | (go_simp; with_reducible rfl)
              try simp only [Act.put]
              refine' wpAnyH_take (i := 4) (v := _) rfl (by kernel_rfl) (by kernel_rfl) (by kernel_rfl) (fun _ _ _ h => h) (Or.inl ⟨by rfl, ?hy4d⟩) (by assumption) ?rest4d
              case hy4d =>
                intro W hSw
                (try dsimp only at hSw)
                first | (go_simp; done) | (go_simp; with_reducible rfl)
              try simp only [Act.put]
              refine' wpAnyH_take (i := 5) (v := _) rfl (by kernel_rfl) (by kernel_rfl) (by kernel_rfl) (fun _ _ _ h => h) (Or.inl ⟨by rfl, ?hy5d⟩) (by assumption) ?rest5d
              case hy5d =>
                intro W hSw
                (try dsimp only at hSw)
                first | (go_simp; done) | (go_simp; with_reducible rfl)
              try simp only [Act.put]
              refine' wpAnyH_take (i := 6) (v := _) rfl (by kernel_rfl) (by kernel_rfl) (by kernel_rfl) (fun _ _ _ h => h) (Or.inl ⟨by rfl, ?hy6d⟩) (by assumption) ?rest6d
              case hy6d =>
                intro W hSw
                (try dsimp only at hSw)
                first | (go_simp; done) | (go_simp; with_reducible rfl)
              try simp only [Act.put]
              refine' wpAnyH_take (i := 7) (v := _) rfl (by kernel_rfl) (by kernel_rfl) (by kernel_rfl) (fun _ _ _ h => h) (Or.inl ⟨by rfl, ?hy7d⟩) (by assumption) ?rest7d
              case hy7d =>
                intro W hSw
                (try dsimp only at hSw)
                first | (go_simp; done) | (go_simp; with_reducible rfl)
              try simp only [Act.put]
              refine' wpAnyH_take (i := 8) (v := _) rfl (by kernel_rfl) (by kernel_rfl) (by kernel_rfl) (fun _ _ _ h => h) (Or.inl ⟨by rfl, ?hy8d⟩) (by assumption) ?rest8d
              case hy8d =>
                intro W hSw
                (try dsimp only at hSw)
                first | (go_simp; done) | (go_simp; with_reducible rfl)
              try simp only [Act.put]
              refine' wpAnyH_take (i := 9) (v := _) rfl (by kernel_rfl) (by kernel_rfl) (by kernel_rfl) (fun _ _ _ h => h) (Or.inl ⟨by rfl, ?hy9d⟩) (by assumption) ?rest9d
              case hy9d =>
                intro W hSw
                (try dsimp only at hSw)
                first | (go_simp; done) | (go_simp; with_reducible rfl)
              try simp only [Act.put]
              refine' wpAnyH_take (i := 10) (v := _) rfl (by kernel_rfl) (by kernel_rfl) (by kernel_rfl) (fun _ _ _ h => h) (Or.inl ⟨by rfl, ?hy10d⟩) (by assumption) ?rest10d
              case hy10d =>
                intro W hSw
                (try dsimp only at hSw)
                first | (go_simp; done) | (go_simp; with_reducible rfl)
              try simp only [Act.put]
              refine' wpAnyH_take (i := 11) (v := _) rfl (by kernel_rfl) (by kernel_rfl) (by kernel_rfl) (fun _ _ _ h => h) (Or.inl ⟨by rfl, ?hy11d⟩) (by assumption) ?rest11d
              case hy11d =>
                intro W hSw
                (try dsimp only at hSw)
                first | (go_simp; done) | (go_simp; with_reducible rfl)
              try simp only [Act.put]
              refine' wpAnyH_take (i := 12) (v := _) rfl (by kernel_rfl) (by kernel_rfl) (by kernel_rfl) (fun _ _ _ h => h) (Or.inl ⟨by rfl, ?hy12d⟩) (by assumption) ?rest12d
              case hy12d =>
                intro W hSw
                (try dsimp only at hSw)
                first | (go_simp; done) | (go_simp; with_reducible rfl)
              try simp only [Act.put]
              refine' wpAnyH_take (i := 13) (v := _) rfl (by kernel_rfl) (by kernel_rfl) (by kernel_rfl) (fun _ _ _ h => h) (Or.inl ⟨by rfl, ?hy13d⟩) (by assumption) ?rest13d
              case hy13d =>
                intro W hSw
                (try dsimp only at hSw)
                first | (go_simp; done) | (go_simp; with_reducible rfl)
              try simp only [Act.put]
              refine' wpAnyH_take (i := 14) (v := _) rfl (by kernel_rfl) (by kernel_rfl) (by kernel_rfl) (fun _ _ _ h => h) (Or.inl ⟨by rfl, ?hy14d⟩) (by assumption) ?rest14d
              case hy14d =>
                intro W hSw
                (try dsimp only at hSw)
                first | (go_simp; done) | (go_simp; with_reducible rfl)
              try simp only [Act.put]
              refine' wpAnyH_take (i := 15) (v := _) rfl (by kernel_rfl) (by kernel_rfl) (by kernel_rfl) (fun _ _ _ h => h) (Or.inl ⟨by rfl, ?hy15d⟩) (by assumption) ?rest15d
              case hy15d =>
                intro W hSw
                (try dsimp only at hSw)
                first | (go_simp; done) | (go_simp; with_reducible rfl)
              try simp only [Act.put]
              refine' wpAnyH_take (i := 16) (v := _) rfl (by kernel_rfl) (by kernel_rfl) (by kernel_rfl) (fun _ _ _ h => h) (Or.inl ⟨by rfl, ?hy16d⟩) (by assumption) ?rest16d
              case hy16d =>
                intro W hSw
                (try dsimp only at hSw)
                first | (go_simp; done) | (go_simp; with_reducible rfl)
              try simp only [Act.put]
              refine' wpAnyH_take (i := 17) (v := _) rfl (by kernel_rfl) (by kernel_rfl) (by kernel_rfl) (fun _ _ _ h => h) (Or.inl ⟨by rfl, ?hy17d⟩) (by assumption) ?rest17d
              case hy17d =>
                intro W hSw
                (try dsimp only at hSw)
                first | (go_simp; done) | (go_simp; with_reducible rfl)
              try simp only [Act.put]
              refine' wpAnyH_take (i := 18) (v := _) rfl (by kernel_rfl) (by kernel_rfl) (by kernel_rfl) (fun _ _ _ h => h) (Or.inl ⟨by rfl, ?hy18d⟩) (by assumption) ?rest18d
              case hy18d =>
                intro W hSw
                (try dsimp only at hSw)
                first | (go_simp; done) | (go_simp; with_reducible rfl)
              clear e5 e6 e7 e8
              have HS8d := Lib.hid (show RSg w ((wr.alloc (.cells #[.string (labB lj), .int .i64 0, .string ⟨#[]⟩, .int .i64 (sn1 : Int)] 45)).drew) g g9 nm many rb rc N sa sn sc f from ((HS.out.onto hgl hw9 (.cells #[.string (labB lj), .int .i64 0, .string ⟨#[]⟩, .int .i64 (sn1 : Int)] 45)).drew))
              have HA8d := Lib.hid (show AOwn ((wr.alloc (.cells #[.string (labB lj), .int .i64 0, .string ⟨#[]⟩, .int .i64 (sn1 : Int)] 45)).drew) wr.heap.size (.slice (some ⟨wr.heap.size, 0, none⟩) 1 1) [⟨labS lj, 0, [], (sn1 : Int)⟩] from AOwn.drewn (show AOwn (wr.alloc (.cells #[.string (labB lj), .int .i64 0, .string ⟨#[]⟩, .int .i64 (sn1 : Int)] 45)) wr.heap.size (.slice (some ⟨wr.heap.size, 0, none⟩) 1 1) [⟨labS lj, 0, [], (sn1 : Int)⟩] from made_one wr (labB lj) (labS lj) (labB_small _) (labB_list _) 0 (sn1 : Int)))
              have HO8d := Lib.hid (show PRow ((wr.alloc (.cells #[.string (labB lj), .int .i64 0, .string ⟨#[]⟩, .int .i64 (sn1 : Int)] 45)).drew) (g9 + 1) wr.heap.size (.slice sa sn sc) f from (HS.out.row.kept (tu1 _ _) (by omega)).drew)
              have hlod := HS.out.low
              have hlnd := HS.out.len
              try simp only [Act.put]
              refine wpAnyH_ready (rs := [19]) (by kernel_rfl) (by simp) ?_
              refine AllReadyH.cons (i := 19) (o := _) rfl (fun K hK => ?_) AllReadyH.nil
              go_simp
              refine hK.out _ _ (HKSd.out _ (HS8d.out).box (HS8d.out).roles) (fun hHeld => ?_)
              clear hK K
              generalize hw8d : (wr.alloc (.cells #[.string (labB lj), .int .i64 0, .string ⟨#[]⟩, .int .i64 (sn1 : Int)] 45)).drew = w8d at HS8d HA8d HO8d hHeld ⊢
              have hs8d : wr.heap.size ≤ w8d.heap.size := by rw [← hw8d]; simp
              clear hw8d
              try simp only [Act.put, List.setIfInBounds_toArray]
              refine' wpAnyH_take (i := 20) (v := _) rfl (by kernel_rfl) (by kernel_rfl) (by kernel_rfl) (fun _ _ _ h => h) (Or.inl ⟨by rfl, ?hy20d⟩) (by assumption) ?rest20d
              case hy20d =>
                intro W hSw
                (try dsimp only at hSw)
                first | (go_simp; done) | (go_simp; with_reducible rfl)
              try simp only [Act.put, List.setIfInBounds_toArray]
              refine wpAnyH_ready (rs := [21]) (by kernel_rfl) (by simp) ?_
              refine AllReadyH.cons (i := 21) (o := _) rfl (fun K hK => ?_) AllReadyH.nil
              go_simp
              refine hK.out _ _ (HKSd.out _ (HS8d.out.onto hgl hw9 _).box (HS8d.out.onto hgl hw9 _).roles) (fun hHeld => ?_)
              clear hK K
              try simp only [Act.put, List.setIfInBounds_toArray, List.set_cons_zero, List.set_cons_succ]
              refine wpAnyH_ready (rs := [22]) (by kernel_rfl) (by simp) ?_
              refine AllReadyH.cons (i := 22) (o := _) rfl (fun K hK => ?_) AllReadyH.nil
              refine step_append_mpoint w8d (by rfl) (.tmp 144) (.tmp 164) (by rfl) (g9 + 1) wr.heap.size (.slice sa sn sc) f ⟨rolS k, rolS k1, some ⟨wr.heap.size, 0, none⟩, 1, 1⟩ ⟨(rolS k).toList, (rolS k1).toList, [⟨labS lj, 0, [], (sn1 : Int)⟩]⟩ (by rfl) (by rfl) (by rfl) HO8d.out ⟨⟨rfl, rolS_small _⟩, rfl, rolS_small _, by show List.length _ ≤ _; simp⟩ HA8d.out (by omega) hs8d (by omega) w8d (Below.refl _ _) ?_
              intro v5 w5d hown hbel
              obtain ⟨sa5d, sc5d, hv5, _⟩ := hown.powns.sees (by rw [List.length_append, List.length_singleton]; omega)
              rw [List.length_append, List.length_singleton, hlnd] at hv5
              subst hv5
              have HL5d := Lib.hid (show PBox w5d g9 nm (some ⟨rb, 0, none⟩) many rc sa sn sc from (hbel.block g9 (by omega)).trans HS8d.out.box)
              have HR5d := Lib.hid (HS8d.out.roles.below hbel (by omega))
              have HNd := Lib.hid (HS8d.out.next hgl hw9 hr9 hbel hown (by rw [List.length_append, hlnd]; rfl) (all_app HS8d.out.ok (pointB_made (a := k) (b := k1) (by omega) (by omega) h4 (by omega) (armsB_one (armB_data (labS_may _) (by omega) (by omega) (by omega) (by omega))))) (all_app HS8d.out.arm (by show 0 < List.length _; simp)))
              obtain ⟨f5d, hf5d⟩ : ∃ x, x = f ++ [(⟨(rolS k).toList, (rolS k1).toList, [⟨labS lj, 0, [], (sn1 : Int)⟩]⟩ : PointL)] := ⟨_, rfl⟩
              rw [← hf5d] at HNd
              have HF5d := Lib.hid hf5d
              clear hf5d
              have ufd := HL5d.out.thaw 2
              clear hown hbel
              refine hK.out _ _ (HKSd.out _ HL5d.out HR5d.out) (fun hHeld => ?_)
              clear hK K
              try simp only [Act.put, List.setIfInBounds_toArray]
              try simp only [Act.put, List.setIfInBounds_toArray]
              refine' wpAnyH_take (i := 23) (v := _) rfl (by kernel_rfl) (by kernel_rfl) (by kernel_rfl) (fun _ _ _ h => h) (Or.inl ⟨by rfl, ?hy23d⟩) (by assumption) ?rest23d
              case hy23d =>
                intro W hSw
                (try dsimp only at hSw)
                first | (go_simp; done) | (go_simp; with_reducible rfl)
              try simp only [Act.put]
              refine wpAnyH_done (by kernel_rfl) ?_ _
              unfold LastPost
              obtain ⟨_, _, _⟩ := HL5d.out.cells
              go_simp
              obtain ⟨e5, e6⟩ := E5.out
              go_wp2_with fail
              go_roundw
              case rel =>
                clear e5 e6
                exact ⟨k1, sa5d, sn + 1, sc5d, f5d, by omega, by omega, by first | rfl | go_num, by have := HSNK.out; omega, HNd⟩
              case measure =>
                clear e5 e6
                simp [intOf]; omega
            · obtain ⟨_, _, _⟩ := HS.out.box.cells
              have pf2 := HS.out.box.thaw 2
              have HLN := Lib.hid HS.out.len
              obtain ⟨e5, e6⟩ := E5.out
              go_upto_region 20 with fail
              clear e5 e6
              go_wp2_with (first
                | (at_builtin
                   refine wpList_append_mpoint rfl (.tmp 168) (.tmp 170) rfl (g9 + 1) wr.heap.size (.slice sa sn sc) f ⟨⟨#[]⟩, ⟨#[]⟩, none, 0, 0⟩ ⟨[], [], []⟩ rfl rfl rfl rfl HS.out.row ⟨⟨by rw [ByteArray.toList_eq], by simp [maxLen, ByteArray.size]⟩, by rw [ByteArray.toList_eq], by simp [maxLen, ByteArray.size], by simp⟩ (AOwn.zero _ _) (by have := HS.out.low; omega) (Nat.le_refl _) (by have := HLN.out; omega) wr (Below.refl _ _) ?_
                   intro v5 w5 hown hbel
                   obtain ⟨sa5, sc5, hv5, _⟩ := hown.powns.sees (by rw [List.length_append, List.length_singleton, HLN.out]; omega)
                   rw [List.length_append, List.length_singleton, HLN.out] at hv5
                   subst hv5
                   have hlow := HS.out.low
                   have HO5 := Lib.hid hown
                   have HL5 := Lib.hid (show PBox w5 g9 nm (some ⟨rb, 0, none⟩) many rc sa sn sc from (hbel.block g9 (by omega)).trans HS.out.box)
                   have HB5 := Lib.hid (bes_below HS.out.bes hbel (by omega))
                   have HRs5 := Lib.hid (show PBox w5 w.heap.size ⟨#[]⟩ none 0 0 none 0 0 from (hbel.block w.heap.size (by omega)).trans HS.out.res)
                   have HRo5 := Lib.hid (HS.out.roles.below hbel (by omega))
                   have hs5 := hbel.size
                   obtain ⟨_, _, _⟩ := HL5.out.cells
                   have uf2 := HL5.out.thaw 2
                   have zf0 := HRs5.out.thaw 0
                   have zf1 := HRs5.out.thaw 1
                   have zf2 := HRs5.out.thaw 2
                   obtain ⟨rc0, rc1, rc2⟩ := HRs5.out.cells
                   clear hown hbel)
                | fail)
              have HBS := Lib.hid (fun (u : Value) => ((Beside.refl g9 w5).setCell 2 u))
              have HBL := Lib.hid (fun (u : Value) => ((Below.refl g9 w5).setCell (p := ⟨g9, 2, none⟩) (Nat.le_refl _) u))
              have HO6 := Lib.hid ((HO5.out.beside (HBS.out (.slice sa5 (sn + 1) sc5)) (by omega)).top (Nat.le_refl _))
              have HB6 := Lib.hid (bes_below HB5.out (HBL.out (.slice sa5 (sn + 1) sc5)) (by omega))
              have HRs6 := Lib.hid (show PBox (w5.setCell ⟨g9, 2, none⟩ (.slice sa5 (sn + 1) sc5)) w.heap.size ⟨#[]⟩ none 0 0 none 0 0 from (heap_setCell_ne (by omega)).trans HRs5.out)
              have HRo6 := Lib.hid (HRo5.out.below (HBL.out (.slice sa5 (sn + 1) sc5)) hr9)
              generalize hw6 : w5.setCell ⟨g9, 2, none⟩ (.slice sa5 (sn + 1) sc5) = w6' at HO6 HB6 HRs6 HRo6 ⊢
              clear hw6
              obtain ⟨rc0, rc1, rc2⟩ := HRs6.out.cells
              refine bodyPost_ret (v := .agg #[.string nm, .slice (some ⟨rb, 0, none⟩) many rc, .slice sa5 (sn + 1) sc5]) (by simp [results, go_sem, rc0, rc1, rc2]) rfl ?_
              have hbs := (((Beside.refl w.heap.size w6').setCell 0 (.string nm)).setCell 1 (.slice (some ⟨rb, 0, none⟩) many rc)).setCell 2 (.slice sa5 (sn + 1) sc5)
              have hbl : Below w.heap.size w6' (((w6'.setCell ⟨w.heap.size, 0, none⟩ (.string nm)).setCell ⟨w.heap.size, 1, none⟩ (.slice (some ⟨rb, 0, none⟩) many rc)).setCell ⟨w.heap.size, 2, none⟩ (.slice sa5 (sn + 1) sc5)) := (((Below.refl w.heap.size w6').setCell (Nat.le_refl _) _).setCell (Nat.le_refl _) _).setCell (Nat.le_refl _) _
              have hl : (f ++ [(⟨[], [], []⟩ : PointL)]).length = sn + 1 := by rw [List.length_append, HLN.out]; rfl
              have hnk := HSNK.out
              have hNe : sn + 1 = N := by omega
              refine ⟨⟨some ⟨rb, 0, none⟩, rc, sa5, sn + 1, sc5, f ++ [⟨[], [], []⟩], rfl, ?_, ?_, hl, ?_, by omega, by omega⟩, bes_below HB6.out hbl (Nat.le_refl _)⟩
              · have hm := (HO6.out.beside hbs (by omega)).top (Nat.le_refl _)
                exact hm.low (by omega)
              · exact (HRo6.out.beside hbs (by omega)).low (by omega)
              · rw [hl, hNe]
                intro x hx
                rcases List.mem_append.1 hx with hx | hx
                · exact HS.out.ok x hx
                · rw [List.mem_singleton.1 hx]
                  rfl
end Go.Proofs.YtokgpdceckaddaaGreatDoor

/- Contract of reparteemake's Protocol, with types, by its first pick. (Printed out of XGlProtB.) -/
namespace Go.Proofs.YtokgpdceckaddaaGreatDoor
open Go.RowKit

def manyBy (k many : Nat) : Prop := (k = 0 ∧ many = 2) ∨ (k = 1 ∧ 2 ≤ many ∧ many ≤ 4) ∨ (k = 2 ∧ many = 3) ∨ (k = 3 ∧ many = 3)
theorem manyBy.range {k many : Nat} (h : manyBy k many) : 2 ≤ many ∧ many ≤ 4 := by
  rcases h with h | h | h | h <;> omega
set_option maxHeartbeats 16000000 in
set_option maxRecDepth 20000 in
theorem protByT_any (g : Nat) (nm : ByteArray) (ta : Option Addr) (tn tc : Nat) (S : Nat → Prop) (w : World) (hgl : g < w.heap.size) (hT : TyIn w g ta tn)
    (CP : ∀ W : World, Below w.heap.size w W → Calls Tryz.prog 61 #[.pointer (some ⟨g, 0, none⟩), .int .i64 4] W fun e w' => (∃ k : Nat, k < 4 ∧ S k ∧ e = .returned (.int .i64 (k : Int))) ∧ Dice w' g ∧ Beside g W w') :
    Calls Tryz.prog 34 #[.pointer (some ⟨g, 0, none⟩), .string nm, .slice ta tn tc] w fun e w' => (∃ k many, S k ∧ manyBy k many ∧ ProtRet nm many w e w') ∧ Beside g w w' := by
  have HTY := Lib.hid hT
  have HB0 := Lib.hid (tu1 w (.cells #[.string ⟨#[]⟩, .slice none 0 0, .slice none 0 0] 27))
  have HR0 := Lib.hid (PBox.new w ⟨#[]⟩ none 0 0 none 0 0)
  have CP1 := Lib.hid (CP _ HB0.out)
  have CP3 := Lib.hid (fun (W : World) (h : Dice W g) => pick_at g 3 3 W rfl h (by omega) (by omega))
  have CA2 := Lib.hid (fun (W : World) (h : Dice W g) (ht : TyIn W g ta tn) => show Calls Tryz.prog 62 #[.pointer (some ⟨g, 0, none⟩), .string nm, .int .i64 2, .slice ta tn tc] W fun e w' => ProtRet nm 2 W e w' ∧ Beside g W w' from anyT_any g nm 2 ta tn tc (by omega) (by omega) W h ht)
  have CA3 := Lib.hid (fun (W : World) (h : Dice W g) (ht : TyIn W g ta tn) => show Calls Tryz.prog 62 #[.pointer (some ⟨g, 0, none⟩), .string nm, .int .i64 3, .slice ta tn tc] W fun e w' => ProtRet nm 3 W e w' ∧ Beside g W w' from anyT_any g nm 3 ta tn tc (by omega) (by omega) W h ht)
  have CN3 := Lib.hid (fun (W : World) (h : Dice W g) (ht : TyIn W g ta tn) => show Calls Tryz.prog 63 #[.pointer (some ⟨g, 0, none⟩), .string nm, .int .i64 3, .slice ta tn tc] W fun e w' => ProtRet nm 3 W e w' ∧ Beside g W w' from roundsT_any g nm 3 ta tn tc (by omega) (by omega) W h ht)
  have CNm := Lib.hid (fun (k2 m : Nat) (hm : m = 2 + k2) (h4 : m ≤ 4) (W : World) (h : Dice W g) (ht : TyIn W g ta tn) => show Calls Tryz.prog 63 #[.pointer (some ⟨g, 0, none⟩), .string nm, .int .i64 (2 + (k2 : Int)), .slice ta tn tc] W fun e w' => ProtRet nm m W e w' ∧ Beside g W w' from by
    have := roundsT_any g nm m ta tn tc (by omega) h4 W h ht
    rwa [show ((m : Nat) : Int) = 2 + (k2 : Int) by omega] at this)
  clear CP hT
  go_enter Tryz.func34, Tryz.ntmps34
  go_upto_region 2 with (first
    | (go_at_call 61; (with_reducible refine CP1.out.mono ?_)
       rintro e w1 ⟨⟨k, hk, hS, rfl⟩, hd1, hb1⟩
       have HSK := Lib.hid hS
       have HD1 := Lib.hid hd1
       have HB1 := Lib.hid (hb1.cut HB0.out)
       have HR1 := Lib.hid (HR0.out.beside hb1 (by omega))
       clear hd1 hb1 hS)
    | fail)
  have hk4 : k = 0 ∨ k = 1 ∨ k = 2 ∨ k = 3 := by omega
  clear hk
  rcases hk4 with rfl | rfl | rfl | rfl
  · go_wp2_with (first
    | (go_at_call 62; (with_reducible refine (CA2.out _ HD1.out (HTY.out.beside HB1.out)).mono ?_)
       rintro e w2 ⟨⟨ra, rc, sa, sn, sc, ps, rfl, hm, hr, hl, hok, h2, h9⟩, hb2⟩
       have HM := Lib.hid hm
       have HRo := Lib.hid hr
       have HB2 := Lib.hid (HB1.out.trans hb2)
       have HR2 := Lib.hid (HR1.out.beside hb2 (by omega))
       have HE := Lib.hid (show ps.length = sn ∧ (∀ x ∈ ps, pointB (rolesL 2) ps.length x = true) ∧ 2 ≤ ps.length ∧ ps.length ≤ 9 from ⟨hl, hok, h2, h9⟩)
       obtain ⟨rc0, rc1, rc2⟩ := HR2.out.cells
       have zf0 := HR2.out.thaw 0
       have zf1 := HR2.out.thaw 1
       have zf2 := HR2.out.thaw 2
       clear hm hr hl hok h2 h9 hb2)
    | fail)
    refine bodyPost_ret (v := .agg #[.string nm, .slice ra 2 rc, .slice sa sn sc]) (by simp [results, go_sem, rc0, rc1, rc2]) rfl ?_
    have hz := HR1.out.lt
    have hbs := (((Beside.refl w.heap.size w2).setCell 0 (.string nm)).setCell 1 (.slice ra 2 rc)).setCell 2 (.slice sa sn sc)
    have hbl : Below w.heap.size w2 (((w2.setCell ⟨w.heap.size, 0, none⟩ (.string nm)).setCell ⟨w.heap.size, 1, none⟩ (.slice ra 2 rc)).setCell ⟨w.heap.size, 2, none⟩ (.slice sa sn sc)) := (((Below.refl w.heap.size w2).setCell (Nat.le_refl _) _).setCell (Nat.le_refl _) _).setCell (Nat.le_refl _) _
    refine ⟨⟨0, 2, HSK.out, .inl ⟨rfl, rfl⟩, ra, rc, sa, sn, sc, ps, rfl, ?_, ?_, HE.out.1, HE.out.2.1, HE.out.2.2.1, HE.out.2.2.2⟩, bes_below HB2.out hbl (Nat.le_refl _)⟩
    · have hm := (HM.out.beside hbs (by omega)).top (Nat.le_refl _)
      exact hm.low (by omega)
    · exact (HRo.out.beside hbs (by omega)).low (by omega)
  · go_wp2_with (first
    | (go_at_call 61; (with_reducible refine (CP3.out _ HD1.out).mono ?_)
       rintro e w5 ⟨⟨k2, hk2, rfl⟩, hd5, hb5⟩
       obtain ⟨m9, hm9⟩ : ∃ m9, m9 = 2 + k2 := ⟨_, rfl⟩
       have HM9 := Lib.hid (show 2 ≤ m9 ∧ m9 ≤ 4 from ⟨by omega, by omega⟩)
       have HK9 := Lib.hid hm9
       have HD5 := Lib.hid hd5
       have HB5 := Lib.hid (HB1.out.trans hb5)
       have HR5 := Lib.hid (HR1.out.beside hb5 (by omega))
       clear hd5 hb5 hm9)
    | (go_at_call 63; (with_reducible refine (CNm.out k2 m9 HK9.out HM9.out.2 _ HD5.out (HTY.out.beside HB5.out)).mono ?_)
       rintro e w2 ⟨⟨ra, rc, sa, sn, sc, ps, rfl, hm, hr, hl, hok, h2, h9⟩, hb2⟩
       have HM := Lib.hid hm
       have HRo := Lib.hid hr
       have HB2 := Lib.hid (HB5.out.trans hb2)
       have HR2 := Lib.hid (HR5.out.beside hb2 (by omega))
       have HE := Lib.hid (show ps.length = sn ∧ (∀ x ∈ ps, pointB (rolesL m9) ps.length x = true) ∧ 2 ≤ ps.length ∧ ps.length ≤ 9 from ⟨hl, hok, h2, h9⟩)
       obtain ⟨rc0, rc1, rc2⟩ := HR2.out.cells
       have zf0 := HR2.out.thaw 0
       have zf1 := HR2.out.thaw 1
       have zf2 := HR2.out.thaw 2
       clear hm hr hl hok h2 h9 hb2)
    | fail)
    refine bodyPost_ret (v := .agg #[.string nm, .slice ra m9 rc, .slice sa sn sc]) (by simp [results, go_sem, rc0, rc1, rc2]) rfl ?_
    have hz := HR5.out.lt
    have hbs := (((Beside.refl w.heap.size w2).setCell 0 (.string nm)).setCell 1 (.slice ra m9 rc)).setCell 2 (.slice sa sn sc)
    have hbl : Below w.heap.size w2 (((w2.setCell ⟨w.heap.size, 0, none⟩ (.string nm)).setCell ⟨w.heap.size, 1, none⟩ (.slice ra m9 rc)).setCell ⟨w.heap.size, 2, none⟩ (.slice sa sn sc)) := (((Below.refl w.heap.size w2).setCell (Nat.le_refl _) _).setCell (Nat.le_refl _) _).setCell (Nat.le_refl _) _
    refine ⟨⟨1, m9, HSK.out, .inr (.inl ⟨rfl, HM9.out⟩), ra, rc, sa, sn, sc, ps, rfl, ?_, ?_, HE.out.1, HE.out.2.1, HE.out.2.2.1, HE.out.2.2.2⟩, bes_below HB2.out hbl (Nat.le_refl _)⟩
    · have hm := (HM.out.beside hbs (by omega)).top (Nat.le_refl _)
      exact hm.low (by omega)
    · exact (HRo.out.beside hbs (by omega)).low (by omega)
  · go_wp2_with (first
    | (go_at_call 62; (with_reducible refine (CA3.out _ HD1.out (HTY.out.beside HB1.out)).mono ?_)
       rintro e w2 ⟨⟨ra, rc, sa, sn, sc, ps, rfl, hm, hr, hl, hok, h2, h9⟩, hb2⟩
       have HM := Lib.hid hm
       have HRo := Lib.hid hr
       have HB2 := Lib.hid (HB1.out.trans hb2)
       have HR2 := Lib.hid (HR1.out.beside hb2 (by omega))
       have HE := Lib.hid (show ps.length = sn ∧ (∀ x ∈ ps, pointB (rolesL 3) ps.length x = true) ∧ 2 ≤ ps.length ∧ ps.length ≤ 9 from ⟨hl, hok, h2, h9⟩)
       obtain ⟨rc0, rc1, rc2⟩ := HR2.out.cells
       have zf0 := HR2.out.thaw 0
       have zf1 := HR2.out.thaw 1
       have zf2 := HR2.out.thaw 2
       clear hm hr hl hok h2 h9 hb2)
    | fail)
    refine bodyPost_ret (v := .agg #[.string nm, .slice ra 3 rc, .slice sa sn sc]) (by simp [results, go_sem, rc0, rc1, rc2]) rfl ?_
    have hz := HR1.out.lt
    have hbs := (((Beside.refl w.heap.size w2).setCell 0 (.string nm)).setCell 1 (.slice ra 3 rc)).setCell 2 (.slice sa sn sc)
    have hbl : Below w.heap.size w2 (((w2.setCell ⟨w.heap.size, 0, none⟩ (.string nm)).setCell ⟨w.heap.size, 1, none⟩ (.slice ra 3 rc)).setCell ⟨w.heap.size, 2, none⟩ (.slice sa sn sc)) := (((Below.refl w.heap.size w2).setCell (Nat.le_refl _) _).setCell (Nat.le_refl _) _).setCell (Nat.le_refl _) _
    refine ⟨⟨2, 3, HSK.out, .inr (.inr (.inl ⟨rfl, rfl⟩)), ra, rc, sa, sn, sc, ps, rfl, ?_, ?_, HE.out.1, HE.out.2.1, HE.out.2.2.1, HE.out.2.2.2⟩, bes_below HB2.out hbl (Nat.le_refl _)⟩
    · have hm := (HM.out.beside hbs (by omega)).top (Nat.le_refl _)
      exact hm.low (by omega)
    · exact (HRo.out.beside hbs (by omega)).low (by omega)
  · go_wp2_with (first
    | (go_at_call 63; (with_reducible refine (CN3.out _ HD1.out (HTY.out.beside HB1.out)).mono ?_)
       rintro e w2 ⟨⟨ra, rc, sa, sn, sc, ps, rfl, hm, hr, hl, hok, h2, h9⟩, hb2⟩
       have HM := Lib.hid hm
       have HRo := Lib.hid hr
       have HB2 := Lib.hid (HB1.out.trans hb2)
       have HR2 := Lib.hid (HR1.out.beside hb2 (by omega))
       have HE := Lib.hid (show ps.length = sn ∧ (∀ x ∈ ps, pointB (rolesL 3) ps.length x = true) ∧ 2 ≤ ps.length ∧ ps.length ≤ 9 from ⟨hl, hok, h2, h9⟩)
       obtain ⟨rc0, rc1, rc2⟩ := HR2.out.cells
       have zf0 := HR2.out.thaw 0
       have zf1 := HR2.out.thaw 1
       have zf2 := HR2.out.thaw 2
       clear hm hr hl hok h2 h9 hb2)
    | fail)
    refine bodyPost_ret (v := .agg #[.string nm, .slice ra 3 rc, .slice sa sn sc]) (by simp [results, go_sem, rc0, rc1, rc2]) rfl ?_
    have hz := HR1.out.lt
    have hbs := (((Beside.refl w.heap.size w2).setCell 0 (.string nm)).setCell 1 (.slice ra 3 rc)).setCell 2 (.slice sa sn sc)
    have hbl : Below w.heap.size w2 (((w2.setCell ⟨w.heap.size, 0, none⟩ (.string nm)).setCell ⟨w.heap.size, 1, none⟩ (.slice ra 3 rc)).setCell ⟨w.heap.size, 2, none⟩ (.slice sa sn sc)) := (((Below.refl w.heap.size w2).setCell (Nat.le_refl _) _).setCell (Nat.le_refl _) _).setCell (Nat.le_refl _) _
    refine ⟨⟨3, 3, HSK.out, .inr (.inr (.inr ⟨rfl, rfl⟩)), ra, rc, sa, sn, sc, ps, rfl, ?_, ?_, HE.out.1, HE.out.2.1, HE.out.2.2.1, HE.out.2.2.2⟩, bes_below HB2.out hbl (Nat.le_refl _)⟩
    · have hm := (HM.out.beside hbs (by omega)).top (Nat.le_refl _)
      exact hm.low (by omega)
    · exact (HRo.out.beside hbs (by omega)).low (by omega)
theorem protXT_any (g : Nat) (x : Nat) (hx : x < 4) (nm : ByteArray) (ta : Option Addr) (tn tc : Nat) (w : World) (hD : DiceX w g (x : Int)) (hT : TyIn w g ta tn) :
    Calls Tryz.prog 34 #[.pointer (some ⟨g, 0, none⟩), .string nm, .slice ta tn tc] w fun e w' => (∃ many, manyBy x many ∧ ProtRet nm many w e w') ∧ Beside g w w' :=
  (protByT_any g nm ta tn tc (fun k => k = x) w hD.lt hT (fun W hW => (pickX_any g x hx W (hD.on hW)).mono fun e w' h => ⟨⟨x, hx, rfl, h.1⟩, h.2⟩)).mono fun e w' h => by
    obtain ⟨⟨k, many, rfl, hm, hr⟩, hb⟩ := h
    exact ⟨⟨many, hm, hr⟩, hb⟩
theorem law8one_any (xa xb : Option Addr) (a : Option Addr) (n c : Nat) (l : List Int) (w : World) (h : Nums w w.heap.size a n (1 :: l)) (hlim : n * 8 ≤ 140737488355328) :
    Calls Tryz.prog 12 #[.agg #[.string ⟨#[112]⟩, .slice xa 3 3, .slice xb 3 3], .slice a n c] w fun e w' => ProtIn (fun m => 2 ≤ m ∧ m ≤ 4) ⟨#[112]⟩ w e w' ∧ Below w.heap.size w w' :=
  law8Prot_any (fun m => 2 ≤ m ∧ m ≤ 4) 1 (fun W g ta tn tc hD hT => (protXT_any g 1 (by omega) ⟨#[112]⟩ ta tn tc W hD hT).mono fun _ _ h => by
    obtain ⟨⟨many, hm, hr⟩, hb⟩ := h
    exact ⟨⟨many, hm.range, hr⟩, hb⟩) _ ⟨#[112]⟩ xa 3 3 xb 3 3 rfl a n c l w w.heap.size (Nat.le_refl _) h hlim
end Go.Proofs.YtokgpdceckaddaaGreatDoor
