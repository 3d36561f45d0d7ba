/- Contract of reparteemake's Renamed: every role under a new name. -/
import Derived.Test.YtokgpdceckaddaaGreatDoorPjIdle
import Derived.Test.YtokgpdceckaddaaGreatDoorPjSpecs
import Derived.Deep.RegionLaw
import Derived.Laws.Concat
import Derived.Test.YtokgpdceckaddaaGreatDoorPjMades
import Derived.Test.YtokgpdceckaddaaGreatDoorPjUs
import Derived.Test.YtokgpdceckaddaaGreatDoorPjFirsts
import Derived.Deep.RegionHeld3
import Derived.Deep.CutRange
import Derived.Deep.DeepCutAuto
import Derived.Test.YtokgpdceckaddaaGreatDoorTuSeat
import Derived.Test.YtokgpdceckaddaaGreatDoorCards
import Derived.Test.YtokgpdceckaddaaGreatDoorTie
import Derived.SevenTiedAt
import Derived.LaidOnce
import Derived.Lay
import Derived.ChangeOld
import Derived.ShutString
namespace Go.Proofs.YtokgpdceckaddaaGreatDoor
open Go.RowKit

/-- A point in a box of its own. -/
def PtC (W : World) (g : Nat) (q s : ByteArray) (a : Option Addr) (n c : Nat) : Prop := W.heap[g]? = some (.cells #[.string q, .string s, .slice a n c] 63 (0, 0))
section
variable {W W' : World} {g : Nat} {q s : ByteArray} {a : Option Addr} {n c : Nat}
theorem PtC.lt (h : PtC W g q s a n c) : g < W.heap.size := (Array.getElem?_eq_some_iff.1 h).1
theorem PtC.new (w : World) (q s : ByteArray) (a : Option Addr) (n c : Nat) : PtC (w.alloc (.cells #[.string q, .string s, .slice a n c] 63)) w.heap.size q s a n c := heap_alloc_new w _
theorem PtC.cells (h : PtC W g q s a n c) : W.cell? ⟨g, 0, none⟩ = some (.string q) ∧ W.cell? ⟨g, 1, none⟩ = some (.string s) ∧ W.cell? ⟨g, 2, none⟩ = some (.slice a n c) := by
  unfold PtC at h
  refine ⟨?_, ?_, ?_⟩
  all_goals (rw [cell_of_row _ _ _ _ _ _ h]; rfl)
theorem PtC.thaw (h : PtC W g q s a n c) (o : Nat) : W.frozen? ⟨g, o, none⟩ = false := by
  unfold PtC at h
  unfold World.frozen?
  rw [h]
  simp
theorem PtC.set2 (h : PtC W g q s a n c) (a' : Option Addr) (n' c' : Nat) : PtC (W.setCell ⟨g, 2, none⟩ (.slice a' n' c')) g q s a' n' c' := by
  unfold PtC at h ⊢
  obtain ⟨hlt, hk⟩ := Array.getElem?_eq_some_iff.1 h
  show (W.heap.modify g _)[g]? = _
  rw [Array.getElem?_eq_getElem (by rw [Array.size_modify]; exact hlt), Array.getElem_modify_self, hk]
  rfl
theorem PtC.set0 (h : PtC W g q s a n c) (q' : ByteArray) : PtC (W.setCell ⟨g, 0, none⟩ (.string q')) g q' s a n c := by
  unfold PtC at h ⊢
  obtain ⟨hlt, hk⟩ := Array.getElem?_eq_some_iff.1 h
  show (W.heap.modify g _)[g]? = _
  rw [Array.getElem?_eq_getElem (by rw [Array.size_modify]; exact hlt), Array.getElem_modify_self, hk]
  rfl
theorem PtC.set1 (h : PtC W g q s a n c) (s' : ByteArray) : PtC (W.setCell ⟨g, 1, none⟩ (.string s')) g q s' a n c := by
  unfold PtC at h ⊢
  obtain ⟨hlt, hk⟩ := Array.getElem?_eq_some_iff.1 h
  show (W.heap.modify g _)[g]? = _
  rw [Array.getElem?_eq_getElem (by rw [Array.size_modify]; exact hlt), Array.getElem_modify_self, hk]
  rfl
theorem PtC.at_ (h : PtC W g q s a n c) (hb : W'.heap[g]? = W.heap[g]?) : PtC W' g q s a n c := hb.trans h
end
theorem rs_cat (q : ByteArray) : ((⟨#[114]⟩ : ByteArray) ++ q).toList = rS q.toList := by
  rw [ByteArray.toList_eq, ByteArray.data_append, Array.toList_append, ← ByteArray.toList_eq, ← ByteArray.toList_eq, show (⟨#[114]⟩ : ByteArray).toList = [114] from str1 114]
  rfl
theorem rs_size (q : ByteArray) : ((⟨#[114]⟩ : ByteArray) ++ q).size = 1 + q.size := by
  rw [← len_toList, rs_cat, ← len_toList q]
  unfold rS
  rw [List.length_cons]
  omega
theorem take_map1 {α β : Type} (f : α → β) {l : List α} {k : Nat} {x : α} (h : l[k]? = some x) : (l.take (k + 1)).map f = (l.take k).map f ++ [f x] := by
  obtain ⟨hk, rfl⟩ := List.getElem?_eq_some_iff.1 h
  rw [List.take_add_one, List.getElem?_eq_getElem hk, List.map_append]
  rfl
theorem POwn.lt8 {w : World} {base : Nat} {v : Value} {f : List PointL} (h : POwn w base v f) : ∀ b, v.ownBlock = some b → base ≤ b ∧ b < w.heap.size := by
  obtain ⟨rs, h1, _, _⟩ := h
  exact h1.lt
theorem RRow.stay8 {w w' : World} {base B : Nat} {ra : Option Addr} {rn rc : Nat} {rs : List Str} (h : RRow w base ra rn rc rs) (hb : Below B w w') (hB : ∀ b, (Value.slice ra rn rc).ownBlock = some b → b < B) : RRow w' base ra rn rc rs := by
  refine ⟨h.1, ?_⟩
  rcases h.2 with h0 | ⟨k, cap, cur, e, hbase, hh, q⟩
  · exact .inl h0
  · refine .inr ⟨k, cap, cur, e, hbase, ?_, q⟩
    rw [hb.block k (hB k (by rw [e]; rfl))]
    exact hh
def RenRet (nm : ByteArray) (many sn : Nat) (rs : List Str) (ps : List PointL) (w : World) (e : Ending) (w' : World) : Prop :=
  ∃ (xa : Option Addr) (xc : Nat) (ya : Option Addr) (yc : Nat), e = .returned (.agg #[.string nm, .slice xa many xc, .slice ya sn yc]) ∧ PIn w' nm xa many (rs.map rS) ya sn (ps.map renP) ∧ Below w.heap.size w w'
theorem strs_one8r (W : World) (w1 : World) (s : ByteArray) (h : w1 = W.alloc (.cells #[.string s] 9)) (hs : s.size ≤ maxLen) : Strs w1 (W.heap.size + 1) (some ⟨W.heap.size, 0, none⟩) 1 [s.toList] := by
  subst h
  exact strs_one W s hs
theorem step_append_ren {ops : Array Oper} {o : Oper} {a : Act} {K : Act → World → Prop} {Q : Exit → Act → World → Prop} {E : Prop} {w1 : World} (W : World) (hgd : o.guard = none) (s x : Operand)
    (ho : o.op = .call { callee := .builtin .append, args := #[s, x], argTypes := #[24, 24] }) (base : Nat) (v : Value) (n : Nat) (ss : List Str) (sv : ByteArray)
    (hw1 : w1 = W.alloc (.cells #[.string sv] 9)) (hs : a.eval s = v) (hx : a.eval x = .slice (some ⟨W.heap.size, 0, none⟩) 1 1)
    (hown : W.ownsRow base 9 1 v n (ss.map encStr)) (hsv : sv.size ≤ maxLen) (hlim : n ≤ 1000) (hb : base ≤ W.heap.size)
    (h : ∀ v' w', w'.ownsRow base 9 1 v' (n + 1) ((ss ++ [sv.toList]).map encStr) → Below base W w' → K (a.put o.dst v') w') : if Region.wanted o (yielded ops a.tmps) = true then Oper.wp Tryz.prog o a w1 K Q else E := by
  have hwant : Region.wanted o (yielded ops a.tmps) = true := by simp [Region.wanted, hgd]
  rw [if_pos hwant]
  subst hw1
  exact wp_append_strs _ s x _ ho base _ Tryz.underlying24 info9 v n ss hs (hown.alloc _) _ _ 1 1 [sv.toList] hx (strs_one8r W _ sv rfl hsv) (by omega) (by simp; omega) (fun v' w' h1 h2 _ => h v' w' h1 (((Below.refl base W).alloc hb _).grown h2 (by simp; omega) (fun j hj => (hown.lt j hj).1)))
set_option maxHeartbeats 8000000 in
set_option maxRecDepth 20000 in
theorem renamed_any (nm : ByteArray) (ra : Option Addr) (many rc : Nat) (rs : List Str) (sa : Option Addr) (sn sc : Nat) (ps : List PointL) (w : World) (hP : PIn w nm ra many rs sa sn ps) (hv : protB nm.toList rs ps = true) :
    Calls Tryz.prog 14 #[.agg #[.string nm, .slice ra many rc, .slice sa sn sc]] w fun e w' => RenRet nm many sn rs ps w e w' := by
  have HIN := Lib.hid hP
  have hr5 : many ≤ 5 := by
    have h1 := (protB_all hv).2.1
    unfold rolesB at h1
    simp only [Bool.and_eq_true, decide_eq_true_eq] at h1
    have := HIN.out.roles.1
    omega
  have HR12 := Lib.hid (show ∀ r ∈ rs, r.length ≤ 12 from fun r hr => by
    have h1 := (protB_all hv).2.1
    unfold rolesB at h1
    have h3 := List.all_eq_true.1 (Bool.and_eq_true_iff.1 h1).2 r hr
    unfold may at h3
    simp only [Bool.and_eq_true, decide_eq_true_eq] at h3
    exact h3.1.1.1.2)
  have HVV := Lib.hid hv
  have HMX := Lib.hid (show ∀ (j : Nat), ∀ x ∈ (rs.take j).map rS, x.length ≤ maxLen from fun j x hx => by
    obtain ⟨y, hy, rfl⟩ := List.mem_map.1 hx
    have := HR12.out y (List.mem_of_mem_take hy)
    unfold rS maxLen
    rw [List.length_cons]
    omega)
  obtain ⟨S, hS⟩ : ∃ S, S = w.heap.size := ⟨_, rfl⟩
  obtain ⟨w1, hw1⟩ : ∃ w1, w1 = ((w.alloc (.cells #[.string nm, .slice ra many rc, .slice sa sn sc] 27)).alloc (.cells #[.string ⟨#[]⟩, .slice none 0 0, .slice none 0 0] 27)).alloc (.cells #[.string nm, .slice none 0 0, .slice none 0 0] 27) := ⟨_, rfl⟩
  have HB1 := Lib.hid (show Below w.heap.size w w1 by rw [hw1]; exact below_on (below_on (tu1 w _) (tu1 _ _)) (tu1 _ _))
  have HP1 := Lib.hid (show PBox w1 S nm ra many rc sa sn sc by rw [hw1, hS]; exact ((PBox.new w nm ra many rc sa sn sc).on (tu1 _ _)).on (tu1 _ _))
  have HR1 := Lib.hid (show PBox w1 (S + 1) ⟨#[]⟩ none 0 0 none 0 0 by
    rw [hw1, hS]
    have := (PBox.new (w.alloc (.cells #[.string nm, .slice ra many rc, .slice sa sn sc] 27)) ⟨#[]⟩ none 0 0 none 0 0).on (tu1 _ (.cells #[.string nm, .slice none 0 0, .slice none 0 0] 27))
    rw [World.size_alloc] at this
    exact this)
  have HX1 := Lib.hid (show PBox w1 (S + 2) nm none 0 0 none 0 0 by
    rw [hw1, hS]
    have := PBox.new ((w.alloc (.cells #[.string nm, .slice ra many rc, .slice sa sn sc] 27)).alloc (.cells #[.string ⟨#[]⟩, .slice none 0 0, .slice none 0 0] 27)) nm none 0 0 none 0 0
    rw [World.size_alloc, World.size_alloc] at this
    exact this)
  have hz1 : w1.heap.size = S + 3 := by rw [hw1, hS]; simp
  have HW1 := Lib.hid hw1
  have HS := Lib.hid hS
  obtain ⟨b0, b1, b2⟩ := (PBox.new w nm ra many rc sa sn sc).cells
  clear hP hw1 hS hv
  go_enter Tryz.func14, Tryz.ntmps14
  go_upto_region 2 with fail
  rw [← HW1.out, ← HS.out]
  clear b0 b1 b2
  go_wp2_with fail
  go_loopw [4] (fun i wr => ∃ (k : Nat) (xa : Option Addr) (xc : Nat), k ≤ many ∧ i = .int .i64 k ∧ Hid (RRow wr (S + 3) xa k xc ((rs.take k).map rS)) ∧ Hid (PBox wr (S + 2) nm xa k xc none 0 0) ∧ Hid (Beside (S + 2) w1 wr)) (fun i _ => many - (intOf i).toNat)
  case atStart => exact ⟨0, none, 0, Nat.zero_le _, rfl, Lib.hid (World.ownsRow_nil _ _ _ _), HX1, Lib.hid (Beside.refl _ _)⟩
  case round =>
    obtain ⟨k, xa, xc, hk, rfl, HO, HX, HBs⟩ := hrel
    have hzr := HBs.out.size
    obtain ⟨p0, p1, p2⟩ := (HP1.out.beside HBs.out (show S ≠ S + 2 by omega)).cells
    obtain ⟨x0, x1, x2⟩ := HX.out.cells
    have xf1 := HX.out.thaw 1
    have HBW := Lib.hid (show Below w.heap.size w wr from HB1.out.trans ((HBs.out.below (B := w.heap.size) (by have := HS.out; omega) (by have := HS.out; omega))))
    by_cases hlt : k < many
    · obtain ⟨rb, ro, t, rfl, hrb, ht, hc⟩ := (HIN.out.on HBW.out).roles.part1 hlt
      have ht12 : t.size ≤ 12 := by
        have := HR12.out _ (List.mem_of_getElem? ht)
        rw [len_toList] at this
        exact this
      have hsv : ((⟨#[114]⟩ : ByteArray) ++ t).size ≤ maxLen := by rw [rs_size]; unfold maxLen; omega
      have HST := Lib.hid (show (rs.take (k + 1)).map rS = (rs.take k).map rS ++ [((⟨#[114]⟩ : ByteArray) ++ t).toList] by rw [rs_cat, take_map1 rS ht])
      have i1 : (k : Int) < (many : Int) := by omega
      have i2 : (0 : Int) ≤ (k : Int) := by omega
      have hs1 : ¬ (9223372036854775807 < 1 + t.size) := by omega
      have hs3 : S + 3 ≤ wr.drew.heap.size := by show S + 3 ≤ wr.heap.size; omega
      have hx1 : S + 1 + 1 < wr.heap.size := by omega
      have hx2 : S + 2 < wr.heap.size := by omega
      have HOd := Lib.hid (World.ownsRow.drew HO.out)
      have HXd := Lib.hid (show PBox wr.drew (S + 2) nm xa k xc none 0 0 from HX.out)
      clear ht
      go_upto_region 5 with fail
      go_region_law (first
        | (refine step_append_ren wr.drew (by rfl) (.tmp 18) (.tmp 25) (by rfl) (S + 3) (.slice xa k xc) k ((rs.take k).map rS) ((⟨#[114]⟩ : ByteArray) ++ t) (by rfl) (by rfl) (by rfl) HOd.out hsv (by omega) hs3 ?_
           intro v3 w3 own3 hb3
           rw [← HST.out] at own3
           obtain ⟨za, zc, hv3, _, _, _⟩ := Strs.of_own own3 (by omega) (HMX.out (k + 1))
           subst hv3
           have HO3 := Lib.hid own3
           have HB3 := Lib.hid hb3
           have HX3 := Lib.hid (show PBox w3 (S + 2) nm xa k xc none 0 0 from (hb3.block (S + 2) (by omega)).trans HXd.out)
           obtain ⟨x0, x1, x2⟩ := HX3.out.cells
           have xf1 := HX3.out.thaw 1
           clear own3 hb3)
        | fail)
      all_goals
        go_wp2_with fail
        go_roundw
        case rel =>
          have hbs := (Beside.refl (S + 2) w3).setCell 1 (.slice za (k + 1) zc)
          exact ⟨k + 1, za, zc, by omega, by go_num, Lib.hid (RRow.beside HO3.out hbs (by omega)), Lib.hid (HX3.out.set1 za (k + 1) zc), Lib.hid ((bes_below (bes_drew HBs.out) HB3.out (by omega)).trans hbs)⟩
        case measure => simp [intOf]; omega
    · have d1 : decide ((k : Int) < (many : Int)) = false := decide_eq_false (by omega)
      have hkm : many = k := by omega
      subst hkm
      have HRR0 := Lib.hid (show RRow wr (S + 3) xa many xc (rs.map rS) by
        have h := HO.out
        rw [List.take_of_length_le (by rw [HIN.out.roles.1]; omega)] at h
        exact h)
      obtain ⟨wy, hwy⟩ : ∃ wy : World, wy = wr := ⟨_, rfl⟩
      subst hwy
      obtain ⟨T, hT⟩ : ∃ T, T = wy.heap.size := ⟨_, rfl⟩
      have HTB := Lib.hid (show ∀ b, (Value.slice xa many xc).ownBlock = some b → b < T from fun b e => by rw [hT]; exact (World.ownsRow.lt HRR0.out b e).2)
      have hTS : S + 3 ≤ T := by omega
      have hTT : T ≤ wy.heap.size := by omega
      clear hT
      have HX0 := HX
      have HBs0 := HBs
      clear HX HBs HO HBW
      go_wp2_with fail
      clear p0 p1 p2 x0 x1 x2 xf1
      go_loopw [5] (fun i wr => ∃ (k : Nat) (ya : Option Addr) (yc : Nat), k ≤ sn ∧ i = .int .i64 k ∧ T ≤ wr.heap.size ∧ Hid (POwn wr T (.slice ya k yc) ((ps.take k).map renP)) ∧ Hid (PBox wr (S + 2) nm xa many xc ya k yc) ∧ Hid (RRow wr (S + 3) xa many xc (rs.map rS)) ∧ Hid (Beside (S + 2) w1 wr)) (fun i _ => sn - (intOf i).toNat)
      case atStart => exact ⟨0, none, 0, Nat.zero_le _, rfl, hTT, Lib.hid (POwn.zero _ _), HX0, HRR0, HBs0⟩
      case round =>
        obtain ⟨k, ya, yc, hk, rfl, hTr, HO, HX, HRR, HBs⟩ := hrel
        have hzr := HBs.out.size
        obtain ⟨p0, p1, p2⟩ := (HP1.out.beside HBs.out (show S ≠ S + 2 by omega)).cells
        have HBW := Lib.hid (show Below w.heap.size w wr from HB1.out.trans ((HBs.out.below (B := w.heap.size) (by have := HS.out; omega) (by have := HS.out; omega))))
        have hpl := HIN.out.pts.1
        have hsn : sn ≤ 24 := by have := (protB_all HVV.out).2.2.2.1; omega
        by_cases hlt : k < sn
        · obtain ⟨b, off, q, s, aa, an, ac, al, rfl, hbb, hx, ⟨q0, q1, q2⟩, hq, hs, hal⟩ := (HIN.out.on HBW.out).pts.at_ hlt
          have hmem := List.mem_of_getElem? hx
          have hal1 := hal.1
          have hpb := (protB_all HVV.out).2.2.2.2 _ hmem
          have han : an ≤ 6 := by
            rcases pointB_ways hpb with h0 | ⟨_, _, _, _, h4⟩
            · have := (endB_iff.1 h0).2.2
              dsimp only at this
              rw [this] at hal1
              simp at hal1
              omega
            · have := (armsB_all h4).2.2.2
              dsimp only at this
              omega
          have i1 : (k : Int) < (sn : Int) := by omega
          have i2 : (0 : Int) ≤ (k : Int) := by omega
          go_upto_region 10 with fail
          have HCA := Lib.hid (PtC.new wr q s aa an ac)
          have HBA := Lib.hid (tu1 wr (.cells #[.string q, .string s, .slice aa an ac] 63))
          have hgr : wr.heap.size ≤ wr.heap.size := Nat.le_refl _
          generalize hg : wr.heap.size = g at HCA hgr ⊢
          generalize hwA : wr.alloc (.cells #[.string q, .string s, .slice aa an ac] 63) = wA at HCA HBA ⊢
          have hgr : wr.heap.size ≤ g := by omega
          have HAL := Lib.hid hal
          clear hwA q0 q1 q2 p0 p1 p2 hal hmem
          obtain ⟨c0, c1, c2⟩ := HCA.out.cells
          by_cases h0 : an = 0
          · have hnil : al = [] := List.eq_nil_of_length_eq_zero (by omega)
            have HNM := Lib.hid (show q.toList = (renP ⟨q.toList, s.toList, al⟩).src ∧ s.toList = (renP ⟨q.toList, s.toList, al⟩).dst ∧ True by
              subst hnil
              exact ⟨rfl, rfl, trivial⟩)
            have HLQ := Lib.hid (And.intro hq hs)
            have d1 : decide (0 < an) = false := by rw [h0]; rfl
            have d4 : ¬ (0 < an) := by omega
            have d2 : decide ((an : Int) > 0) = false := by rw [h0]; rfl
            have d3 : decide ((0 : Int) < (an : Int)) = false := by rw [h0]; rfl
            clear hpb hnil h0
            go_upto_region 12 with fail
            clear c0 c1 c2 d1 d2 d3 d4
            have HCt := HCA
            have hbt := HBA.out
            have hgt := HCt.out.lt
            have HAt := Lib.hid (HAL.out.on HBA.out)
            obtain ⟨c0, c1, c2⟩ := HCt.out.cells
            have cf2 := HCt.out.thaw 2
            have hzt := hbt.size
            clear hbt
            go_upto_region 13 with (first
              | (at_builtin
                 refine wpList_append_arms rfl (.const (.slice none 0 0)) (.tmp 53) rfl (g + 1) (.slice none 0 0) [] aa an ac al rfl rfl (AOwn.zero _ _) (ARow.of_arms HAt.out) (by omega) (by simp; omega) ?_
                 intro v2 w2 ho2 hb2
                 obtain ⟨va, vc, hv2, hva, _, _⟩ := ho2.sees (by simp [hal1]; omega)
                 have hsp := ho2.spots
                 have hln : ([] ++ al).length = an := by simp [hal1]
                 rw [hln] at hv2 hva
                 subst hv2
                 have HA2 := Lib.hid (show Arms w2 w2.heap.size va an al from hva)
                 have HSP := Lib.hid (show ∀ b, (Value.slice va an vc).ownBlock = some b → g + 1 ≤ b ∧ b < w2.heap.size from hsp)
                 have HB2 := Lib.hid hb2
                 have HC2 := Lib.hid (HCt.out.at_ (hb2.block g (by omega)))
                 obtain ⟨c0, c1, c2⟩ := HC2.out.cells
                 have cf2 := HC2.out.thaw 2
                 have hz2 := hb2.size
                 clear ho2 hb2 hva hsp hln)
              | fail)
            have HC3 := Lib.hid (HC2.out.set2 va an vc)
            have hbs := (Beside.refl g w2).setCell 2 (.slice va an vc)
            have HBq := Lib.hid (show Below wr.heap.size wr (w2.setCell ⟨g, 2, none⟩ (.slice va an vc)) from (HBA.out.trans (HB2.out.mono (by omega))).setCell (p := ⟨g, 2, none⟩) hgr _)
            have HA3 := Lib.hid (show Arms (w2.setCell ⟨g, 2, none⟩ (.slice va an vc)) (w2.setCell ⟨g, 2, none⟩ (.slice va an vc)).heap.size va an al from HA2.out.stay (by have := hbs.size; omega) (fun b off e => hbs.block b (HSP.out b (by rw [e]; rfl)).2 (by have := (HSP.out b (by rw [e]; rfl)).1; omega)))
            have HS3 := Lib.hid (show ∀ b, (Value.slice va an vc).ownBlock = some b → g + 1 ≤ b ∧ b < (w2.setCell ⟨g, 2, none⟩ (.slice va an vc)).heap.size from fun b e => ⟨(HSP.out b e).1, by have := (HSP.out b e).2; have := hbs.size; omega⟩)
            generalize hw3 : w2.setCell ⟨g, 2, none⟩ (.slice va an vc) = w3 at HC3 HBq HA3 HS3 hbs ⊢
            clear hw3 hbs c0 c1 c2 cf2
            have hz3 := HBq.out.size
            obtain ⟨c0, c1, c2⟩ := HC3.out.cells
            have hXq := HX.out.on HBq.out
            obtain ⟨x0, x1, x2⟩ := hXq.cells
            have xf2 := hXq.thaw 2
            have HO3 := Lib.hid (HO.out.kept HBq.out (by omega))
            have HPT := Lib.hid (show PtAt w3 T (.slice ya k yc) ⟨q, s, va, an, vc⟩ (renP ⟨q.toList, s.toList, al⟩) from by
              refine ⟨⟨HNM.out.1, HLQ.out.1⟩, HNM.out.2.1, HLQ.out.2, by rw [renP_arms]; exact HA3.out, fun b off e => ?_⟩
              have e : va = some ⟨b, off, none⟩ := e
              have h1 := HS3.out b (by rw [e]; rfl)
              exact ⟨by omega, h1.2, fun e2 => by have := (POwn.lt8 HO.out b e2).2; omega⟩)
            have HBS3 := Lib.hid (bes_below HBs.out HBq.out (by omega))
            have hlk : ((ps.take k).map renP).length ≤ 1000000 := by rw [List.length_map, List.length_take]; omega
            have hs3 : T ≤ w3.heap.size := by omega
            clear hXq
            go_wp2_with (first
              | (at_builtin
                 refine wpList_append_point rfl (.tmp 57) (.tmp 59) rfl T (.slice ya k yc) ((ps.take k).map renP) ⟨q, s, va, an, vc⟩ (renP ⟨q.toList, s.toList, al⟩) rfl rfl rfl rfl HO3.out HPT.out hs3 hlk w3 (Below.refl _ _) ?_
                 intro v5 w5 ho5 hb5
                 obtain ⟨za, zc, hv5, _⟩ := ho5.sees (by rw [List.length_append]; simp; omega)
                 have hl5 : ((ps.take k).map renP ++ [renP ⟨q.toList, s.toList, al⟩]).length = k + 1 := by rw [List.length_append, List.length_map, List.length_take]; simp; omega
                 rw [hl5] at hv5
                 subst hv5
                 have HO5 := Lib.hid ho5
                 have HX5 := Lib.hid (show PBox w5 (S + 2) nm xa many xc ya k yc from (hb5.block (S + 2) (by omega)).trans (HX.out.on HBq.out))
                 have HB5 := Lib.hid hb5
                 obtain ⟨x0, x1, x2⟩ := HX5.out.cells
                 have xf2 := HX5.out.thaw 2
                 clear ho5 hb5 hl5)
              | fail)
            go_roundw
            case rel =>
              have hbs := (Beside.refl (S + 2) w5).setCell 2 (.slice za (k + 1) zc)
              refine ⟨k + 1, za, zc, by omega, by go_num, by have h1 := HB5.out.size; have h2 := hbs.size; show T ≤ (w5.setCell ⟨S + 2, 2, none⟩ (.slice za (k + 1) zc)).heap.size; omega, Lib.hid ?_, Lib.hid HX5.out.set, Lib.hid (((HRR.out.on HBq.out (by omega)).stay8 HB5.out HTB.out).beside hbs (by omega)), Lib.hid ((bes_below HBS3.out HB5.out (by omega)).trans hbs)⟩
              rw [take_map1 renP hx]
              exact HO5.out.beside hbs (by omega)
            case measure => simp [intOf]; omega
          · rcases pointB_ways hpb with h1 | ⟨_, h1, h2, h3, h4⟩
            · have := (endB_iff.1 h1).2.2
              dsimp only at this
              rw [this] at hal1
              exact absurd hal1.symm h0
            · have hq12 : q.size ≤ 12 := by have := HR12.out _ h2; dsimp only at this; rw [len_toList] at this; exact this
              have hs12 : s.size ≤ 12 := by have := HR12.out _ h3; dsimp only at this; rw [len_toList] at this; exact this
              have HNM := Lib.hid (show ((⟨#[114]⟩ : ByteArray) ++ q).toList = (renP ⟨q.toList, s.toList, al⟩).src ∧ ((⟨#[114]⟩ : ByteArray) ++ s).toList = (renP ⟨q.toList, s.toList, al⟩).dst ∧ True by
                rw [renP_in (by show 0 < al.length; omega), rs_cat, rs_cat]
                exact ⟨rfl, rfl, trivial⟩)
              have HLQ := Lib.hid (show ((⟨#[114]⟩ : ByteArray) ++ q).size ≤ maxLen ∧ ((⟨#[114]⟩ : ByteArray) ++ s).size ≤ maxLen by
                rw [rs_size, rs_size]
                unfold maxLen
                omega)
              have d2 : decide ((an : Int) > 0) = true := decide_eq_true (by omega)
              have d3 : decide ((0 : Int) < (an : Int)) = true := decide_eq_true (by omega)
              have hs1 : ¬ (9223372036854775807 < 1 + q.size) := by omega
              have hs2 : ¬ (9223372036854775807 < 1 + s.size) := by omega
              have cf0 := HCA.out.thaw 0
              have cf1 := HCA.out.thaw 1
              clear hpb h1 h2 h3 h4
              go_upto_region 12 with fail
              have HCB := Lib.hid ((HCA.out.set0 ((⟨#[114]⟩ : ByteArray) ++ q)).set1 ((⟨#[114]⟩ : ByteArray) ++ s))
              have HBB := Lib.hid ((HBA.out.setCell (p := ⟨g, 0, none⟩) hgr (.string ((⟨#[114]⟩ : ByteArray) ++ q))).setCell (p := ⟨g, 1, none⟩) hgr (.string ((⟨#[114]⟩ : ByteArray) ++ s)))
              generalize hwB : (wA.setCell ⟨g, 0, none⟩ (.string ((⟨#[114]⟩ : ByteArray) ++ q))).setCell ⟨g, 1, none⟩ (.string ((⟨#[114]⟩ : ByteArray) ++ s)) = wB at HCB HBB ⊢
              clear hwB c0 c1 c2 cf0 cf1 d2 d3 hs1 hs2
              have HCt := HCB
              have hbt := HBB.out
              have hgt := HCt.out.lt
              have HAt := Lib.hid (HAL.out.on HBB.out)
              obtain ⟨c0, c1, c2⟩ := HCt.out.cells
              have cf2 := HCt.out.thaw 2
              have hzt := hbt.size
              clear hbt
              go_upto_region 13 with (first
                | (at_builtin
                   refine wpList_append_arms rfl (.const (.slice none 0 0)) (.tmp 53) rfl (g + 1) (.slice none 0 0) [] aa an ac al rfl rfl (AOwn.zero _ _) (ARow.of_arms HAt.out) (by omega) (by simp; omega) ?_
                   intro v2 w2 ho2 hb2
                   obtain ⟨va, vc, hv2, hva, _, _⟩ := ho2.sees (by simp [hal1]; omega)
                   have hsp := ho2.spots
                   have hln : ([] ++ al).length = an := by simp [hal1]
                   rw [hln] at hv2 hva
                   subst hv2
                   have HA2 := Lib.hid (show Arms w2 w2.heap.size va an al from hva)
                   have HSP := Lib.hid (show ∀ b, (Value.slice va an vc).ownBlock = some b → g + 1 ≤ b ∧ b < w2.heap.size from hsp)
                   have HB2 := Lib.hid hb2
                   have HC2 := Lib.hid (HCt.out.at_ (hb2.block g (by omega)))
                   obtain ⟨c0, c1, c2⟩ := HC2.out.cells
                   have cf2 := HC2.out.thaw 2
                   have hz2 := hb2.size
                   clear ho2 hb2 hva hsp hln)
                | fail)
              have HC3 := Lib.hid (HC2.out.set2 va an vc)
              have hbs := (Beside.refl g w2).setCell 2 (.slice va an vc)
              have HBq := Lib.hid (show Below wr.heap.size wr (w2.setCell ⟨g, 2, none⟩ (.slice va an vc)) from (HBB.out.trans (HB2.out.mono (by omega))).setCell (p := ⟨g, 2, none⟩) hgr _)
              have HA3 := Lib.hid (show Arms (w2.setCell ⟨g, 2, none⟩ (.slice va an vc)) (w2.setCell ⟨g, 2, none⟩ (.slice va an vc)).heap.size va an al from HA2.out.stay (by have := hbs.size; omega) (fun b off e => hbs.block b (HSP.out b (by rw [e]; rfl)).2 (by have := (HSP.out b (by rw [e]; rfl)).1; omega)))
              have HS3 := Lib.hid (show ∀ b, (Value.slice va an vc).ownBlock = some b → g + 1 ≤ b ∧ b < (w2.setCell ⟨g, 2, none⟩ (.slice va an vc)).heap.size from fun b e => ⟨(HSP.out b e).1, by have := (HSP.out b e).2; have := hbs.size; omega⟩)
              generalize hw3 : w2.setCell ⟨g, 2, none⟩ (.slice va an vc) = w3 at HC3 HBq HA3 HS3 hbs ⊢
              clear hw3 hbs c0 c1 c2 cf2
              have hz3 := HBq.out.size
              obtain ⟨c0, c1, c2⟩ := HC3.out.cells
              have hXq := HX.out.on HBq.out
              obtain ⟨x0, x1, x2⟩ := hXq.cells
              have xf2 := hXq.thaw 2
              have HO3 := Lib.hid (HO.out.kept HBq.out (by omega))
              have HPT := Lib.hid (show PtAt w3 T (.slice ya k yc) ⟨((⟨#[114]⟩ : ByteArray) ++ q), ((⟨#[114]⟩ : ByteArray) ++ s), va, an, vc⟩ (renP ⟨q.toList, s.toList, al⟩) from by
                refine ⟨⟨HNM.out.1, HLQ.out.1⟩, HNM.out.2.1, HLQ.out.2, by rw [renP_arms]; exact HA3.out, fun b off e => ?_⟩
                have e : va = some ⟨b, off, none⟩ := e
                have h1 := HS3.out b (by rw [e]; rfl)
                exact ⟨by omega, h1.2, fun e2 => by have := (POwn.lt8 HO.out b e2).2; omega⟩)
              have HBS3 := Lib.hid (bes_below HBs.out HBq.out (by omega))
              have hlk : ((ps.take k).map renP).length ≤ 1000000 := by rw [List.length_map, List.length_take]; omega
              have hs3 : T ≤ w3.heap.size := by omega
              clear hXq
              go_wp2_with (first
                | (at_builtin
                   refine wpList_append_point rfl (.tmp 57) (.tmp 59) rfl T (.slice ya k yc) ((ps.take k).map renP) ⟨((⟨#[114]⟩ : ByteArray) ++ q), ((⟨#[114]⟩ : ByteArray) ++ s), va, an, vc⟩ (renP ⟨q.toList, s.toList, al⟩) rfl rfl rfl rfl HO3.out HPT.out hs3 hlk w3 (Below.refl _ _) ?_
                   intro v5 w5 ho5 hb5
                   obtain ⟨za, zc, hv5, _⟩ := ho5.sees (by rw [List.length_append]; simp; omega)
                   have hl5 : ((ps.take k).map renP ++ [renP ⟨q.toList, s.toList, al⟩]).length = k + 1 := by rw [List.length_append, List.length_map, List.length_take]; simp; omega
                   rw [hl5] at hv5
                   subst hv5
                   have HO5 := Lib.hid ho5
                   have HX5 := Lib.hid (show PBox w5 (S + 2) nm xa many xc ya k yc from (hb5.block (S + 2) (by omega)).trans (HX.out.on HBq.out))
                   have HB5 := Lib.hid hb5
                   obtain ⟨x0, x1, x2⟩ := HX5.out.cells
                   have xf2 := HX5.out.thaw 2
                   clear ho5 hb5 hl5)
                | fail)
              go_roundw
              case rel =>
                have hbs := (Beside.refl (S + 2) w5).setCell 2 (.slice za (k + 1) zc)
                refine ⟨k + 1, za, zc, by omega, by go_num, by have h1 := HB5.out.size; have h2 := hbs.size; show T ≤ (w5.setCell ⟨S + 2, 2, none⟩ (.slice za (k + 1) zc)).heap.size; omega, Lib.hid ?_, Lib.hid HX5.out.set, Lib.hid (((HRR.out.on HBq.out (by omega)).stay8 HB5.out HTB.out).beside hbs (by omega)), Lib.hid ((bes_below HBS3.out HB5.out (by omega)).trans hbs)⟩
                rw [take_map1 renP hx]
                exact HO5.out.beside hbs (by omega)
              case measure => simp [intOf]; omega
        · have d1 : decide ((k : Int) < (sn : Int)) = false := decide_eq_false (by omega)
          have hkm : sn = k := by omega
          subst hkm
          have hpt : (ps.take sn).map renP = ps.map renP := by rw [List.take_of_length_le (by omega)]
          obtain ⟨x0, x1, x2⟩ := HX.out.cells
          have hRr := (HR1.out.beside HBs.out (show S + 1 ≠ S + 2 by omega))
          obtain ⟨z0, z1, z2⟩ := hRr.cells
          have zf0 := hRr.thaw 0
          have zf1 := hRr.thaw 1
          have zf2 := hRr.thaw 2
          clear hRr
          go_wp2_with fail
          refine bodyPost_ret (v := .agg #[.string nm, .slice xa many xc, .slice ya sn yc]) (by simp [results, go_sem, z0, z1, z2]) rfl ?_
          have hb2 := (((Beside.refl (S + 1) wr).setCell 0 (.string nm)).setCell 1 (.slice xa many xc)).setCell 2 (.slice ya sn yc)
          have hbw := ((HBW.out.setCell (p := ⟨S + 1, 0, none⟩) (show w.heap.size ≤ S + 1 by have := HS.out; omega) (.string nm)).setCell (p := ⟨S + 1, 1, none⟩) (show w.heap.size ≤ S + 1 by have := HS.out; omega) (.slice xa many xc)).setCell (p := ⟨S + 1, 2, none⟩) (show w.heap.size ≤ S + 1 by have := HS.out; omega) (.slice ya sn yc)
          obtain ⟨a2, c2, hv, hpts⟩ := (HO.out.beside hb2 (by omega)).sees (by rw [List.length_map, List.length_take]; omega)
          rw [hpt] at hv hpts
          rw [List.length_map, hpl] at hv hpts
          obtain ⟨e1, _, _⟩ := Value.slice.inj hv
          subst e1
          exact ⟨xa, xc, ya, yc, rfl, ⟨HIN.out.name, (HRR.out.beside hb2 (by omega)).strs (by omega) (by have := HMX.out many; rw [List.take_of_length_le (by rw [HIN.out.roles.1]; omega)] at this; exact this), hpts⟩, hbw⟩
end Go.Proofs.YtokgpdceckaddaaGreatDoor

/- Law: ProjectNames. (The first rows printed by gen/gen8.py.) -/
namespace Go.Proofs.YtokgpdceckaddaaGreatDoor
open Go.RowKit

theorem bel_drew8 {B : Nat} {w W : World} (h : Below B w W) : Below B w W.drew := bel_drewN h 1
theorem ren_tur (w : World) (k k' : Int) (s s' : ByteArray) (a a' : Option Addr) (n c n' c' : Nat) :
    let W := ((w.alloc (.cells #[.int .i64 k, .string s, .slice a n c] 41)).alloc (.cells #[.int .i64 k', .string s', .slice a' n' c'] 41)).drew
    (W.cell? ⟨w.heap.size, 0, none⟩ = some (.int .i64 k) ∧ W.cell? ⟨w.heap.size, 1, none⟩ = some (.string s) ∧ W.cell? ⟨w.heap.size, 2, none⟩ = some (.slice a n c)) ∧ (W.cell? ⟨w.heap.size + 1, 0, none⟩ = some (.int .i64 k') ∧ W.cell? ⟨w.heap.size + 1, 1, none⟩ = some (.string s') ∧ W.cell? ⟨w.heap.size + 1, 2, none⟩ = some (.slice a' n' c')) ∧ w.heap.size < W.heap.size ∧ w.heap.size + 1 < W.heap.size ∧ Below w.heap.size w W := by
  intro W
  have h1 : W.heap[w.heap.size]? = some (.cells #[.int .i64 k, .string s, .slice a n c] 41 (0, 0)) :=
    ((tu1 (w.alloc (.cells #[.int .i64 k, .string s, .slice a n c] 41)) (.cells #[.int .i64 k', .string s', .slice a' n' c'] 41)).block w.heap.size (by simp)).trans (heap_alloc_new w _)
  have h2 : W.heap[w.heap.size + 1]? = some (.cells #[.int .i64 k', .string s', .slice a' n' c'] 41 (0, 0)) := by
    have := heap_alloc_new (w.alloc (.cells #[.int .i64 k, .string s, .slice a n c] 41)) (.cells #[.int .i64 k', .string s', .slice a' n' c'] 41)
    rw [World.size_alloc] at this
    exact this
  have hb : Below w.heap.size w W := bel_drewN (below_on (tu1 w _) (tu1 _ _)) 1
  exact ⟨⟨by rw [cell_of_row _ _ _ _ _ _ h1]; rfl, by rw [cell_of_row _ _ _ _ _ _ h1]; rfl, by rw [cell_of_row _ _ _ _ _ _ h1]; rfl⟩, ⟨by rw [cell_of_row _ _ _ _ _ _ h2]; rfl, by rw [cell_of_row _ _ _ _ _ _ h2]; rfl, by rw [cell_of_row _ _ _ _ _ _ h2]; rfl⟩, (Array.getElem?_eq_some_iff.1 h1).1, (Array.getElem?_eq_some_iff.1 h2).1, hb⟩
theorem errU_ren (x : Except Int (List TurnL)) : errU (renE x) = errU x := by cases x <;> rfl
theorem turnsU_ren (x : Except Int (List TurnL)) : turnsU (renE x) = (turnsU x).map renT := by cases x <;> rfl
theorem rolesB_ren {many : Nat} (h2 : 2 ≤ many) (h4 : many ≤ 4) : rolesB ((rolesL many).map rS) = true := by
  have : many = 2 ∨ many = 3 ∨ many = 4 := by omega
  rcases this with rfl | rfl | rfl <;> decide
theorem roleRen_any {W : World} {many : Nat} (h2 : 2 ≤ many) (h4 : many ≤ 4) {xa : Option Addr} {xc : Nat} {ya : Option Addr} {sn yc : Nat} {ps : List PointL} (h : PIn W ⟨#[112]⟩ xa many ((rolesL many).map rS) ya sn (ps.map renP)) (hp : protB [112] (rolesL many) ps = true) {i : Nat} (hi : i < many) :
    Calls Tryz.prog 15 #[.agg #[.string ⟨#[112]⟩, .slice xa many xc, .slice ya sn yc], .string ((⟨#[114]⟩ : ByteArray) ++ rolS i)] W fun e w' => ∃ (s : ByteArray) (a : Option Addr) (n c : Nat), e = .returned (.tuple #[.agg #[.string s, .slice a n c], .int .i64 (errU (roleP ps (rolS i).toList))]) ∧ Turns w' w'.heap.size a n ((turnsU (roleP ps (rolS i).toList)).map renT) ∧ Below W.heap.size W w' :=
  (roleU_any ⟨#[112]⟩ xa many xc ((rolesL many).map rS) ya sn yc (ps.map renP) ((⟨#[114]⟩ : ByteArray) ++ rolS i) W h).mono fun e w' k => by
    rw [prot_one, rs_cat, roleQ_in (prot_ren hp (rolesB_ren h2 h4)) (List.contains_iff_mem.2 (List.mem_map.2 ⟨_, List.contains_iff_mem.1 (hasS_made hi), rfl⟩)), role_ren hp (hasS_made hi)] at k
    obtain ⟨s, a, n, c, k1, k2, k3⟩ := k
    rw [errU_ren] at k1
    have k4 := k2.turns
    rw [turnsU_ren] at k4
    exact ⟨s, a, n, c, k1, k4, k3⟩
set_option maxHeartbeats 16000000 in
set_option maxRecDepth 20000 in
theorem projectNames_walk (a : Option Addr) (n c : Nat) (l : List Int) (y : Int) (w : World) (h : Nums w w.heap.size a n l) (hlim : n * 8 ≤ 140737488351232) :
    Calls Tryz.prog 3 #[.slice a n c, .int .i64 y] w fun e w' => e = .returned (.bool true) ∧ Below w.heap.size w w' := by
  have HN := Lib.hid h
  have HF := Lib.hid (first8_any w)
  have hn0 := h.1
  have HLN := Lib.hid hn0
  clear h hn0
  go_enter Tryz.func3, Tryz.ntmps3
  go_upto_region 4 with (first
    | (go_at_call 11; (with_reducible refine HF.out.mono ?_)
       rintro e w1 ⟨rfl, hb1⟩
       have HB1 := Lib.hid hb1
       clear hb1)
    | (go_at_call 13; (with_reducible refine (given8_any _).mono ?_)
       rintro e w2 ⟨xa, xb, rfl, _, hb2⟩
       have HB2 := Lib.hid (below_on HB1.out hb2)
       clear hb2)
    | (at_builtin
       refine wpList_append_plus rfl (.tmp 19) (.tmp 20) rfl w2.heap.size w.heap.size (.slice (some ⟨w2.heap.size, 0, none⟩) 1 1) a n c [2] l rfl rfl (IInts.one (W := w2) (cs := #[.int .i64 2]) (base := w2.heap.size) (g := w2.heap.size) 2 rfl rfl (Nat.le_refl _)) ((HN.out.below HB2.out).alloc HB2.out.size _) (by show (1 + n) * 8 ≤ _; omega) (by simp) ?_
       intro v3 w3 hown hgr
       obtain ⟨pa, pc, hv, _, _, _, hnu⟩ := hown.sees
       obtain ⟨pn, hpn⟩ : ∃ pn, pn = ([2] ++ l : List Int).length := ⟨_, rfl⟩
       rw [← hpn] at hv hnu
       subst hv
       have hpl : pn * 8 ≤ 140737488355328 := by rw [hpn, List.length_append, HLN.out]; show (1 + n) * 8 ≤ _; omega
       clear hpn
       have HNU := Lib.hid (show Nums w3 w3.heap.size pa pn (2 :: l) from hnu)
       have HB3 := Lib.hid ((HB2.out.alloc HB2.out.size (.cells #[.int .i64 2] 3)).grown hgr (by have := HB2.out.size; simp; omega) (fun j e => by cases e; exact HB2.out.size))
       clear hown hgr hnu)
    | (go_at_call 12; (with_reducible refine (law8two_any xa xb pa pn pc l w3 HNU.out hpl).mono ?_)
       rintro e w4 ⟨⟨many, hmany, ra, rc, sa, sn, sc, ps, rfl, hm, hr, hl, hok, h2, h9⟩, hb4⟩
       have HB4 := Lib.hid (below_on HB3.out hb4)
       have hm2 : 2 ≤ many := by omega
       have hm4 : many ≤ 4 := by omega
       obtain ⟨hpin, hmade⟩ := made_in hm2 hm4 hm hr hl hok h2 h9
       have HPI := Lib.hid hpin
       have HMD := Lib.hid hmade
       have HMANY := Lib.hid hmany
       clear hm hr hl hok h2 h9 hb4 hpin hmade hmany)
    | fail)
  have HG5 := Lib.hid (GIn.begin (rc := rc) (sc := sc) HB4.out HPI.out)
  generalize hg5 : w4.heap.size = g5 at HG5 ⊢
  generalize hw5 : w4.alloc (.cells #[.string ⟨#[112]⟩, .slice ra many rc, .slice sa sn sc] 27) = w5 at HG5 ⊢
  clear hg5 hw5 HPI HB4 HB3 HNU HB2 HB1 HF HN hpl
  obtain ⟨pc0, pc1, pc2⟩ := HG5.out.box.cells
  have CN := Lib.hid (renamed_any ⟨#[112]⟩ ra many rc (rolesL many) sa sn sc ps w5 HG5.out.pin (by rw [prot_one]; exact HMD.out.ok))
  go_upto_region 5 with (first
    | (go_at_call 14; (with_reducible refine CN.out.mono ?_)
       rintro e w6 ⟨xa, xc, ya, yc, rfl, hp6, hb6⟩
       have HP6 := Lib.hid hp6
       have HG6 := Lib.hid (HG5.out.on hb6)
       clear hp6 hb6)
    | fail)
  have HQ7 := Lib.hid (PBox.new w6 ⟨#[112]⟩ xa many xc ya sn yc)
  have HP7 := Lib.hid (HP6.out.on (tu1 w6 (.cells #[.string ⟨#[112]⟩, .slice xa many xc, .slice ya sn yc] 27)))
  have HG7 := Lib.hid (HG6.out.on (tu1 w6 (.cells #[.string ⟨#[112]⟩, .slice xa many xc, .slice ya sn yc] 27)))
  generalize hg7 : w6.heap.size = g7 at HQ7 ⊢
  generalize hw7 : w6.alloc (.cells #[.string ⟨#[112]⟩, .slice xa many xc, .slice ya sn yc] 27) = w7 at HQ7 HP7 HG7 ⊢
  clear hg7 hw7 HP6 HG6 HG5 CN pc0 pc1 pc2
  obtain ⟨pc0, pc1, pc2⟩ := HG7.out.box.cells
  obtain ⟨ri, hri, hmz⟩ := mod_lt y many (by omega) (by omega)
  obtain ⟨rb, ro, rfl, hrb, hrc⟩ := HG7.out.roles hri
  have hne : ((many : Int) == 0) = false := by rw [beq_eq_false_iff_ne]; omega
  have i1 : (ri : Int) < (many : Int) := by omega
  have i2 : (0 : Int) ≤ (ri : Int) := by omega
  have hwm : IntKind.u64.wrap (many : Int) = (many : Int) := IntWalk.u64_in _ (by omega)
  go_quiet (fail)
  go_upto_region 6 with fail
  have hbq := bel_drewN (Below.refl w7.heap.size w7) nq
  have HG8 := Lib.hid (HG7.out.on hbq)
  have HQ8 := Lib.hid (HQ7.out.on hbq)
  have HP8 := Lib.hid (HP7.out.on hbq)
  generalize hw8 : w7.drewN nq = w8 at HG8 HQ8 HP8 ⊢
  clear hw8 hmz hwm hrc hrb pc0 pc1 pc2 HG7 HQ7 HP7
  obtain ⟨pc0, pc1, pc2⟩ := HG8.out.box.cells
  have CR1 := HG8.out.role HMD.out hri
  have CR2 := fun (W : World) (hW : Below w8.heap.size w8 W) => roleRen_any hm2 hm4 (xc := xc) (yc := yc) (HP8.out.on hW) HMD.out.ok hri
  obtain ⟨X, hX⟩ : ∃ X, X = roleP ps (rolS ri).toList := ⟨_, rfl⟩
  rw [← hX] at CR1 CR2
  obtain ⟨E, hE⟩ : ∃ E, E = errU X := ⟨_, rfl⟩
  obtain ⟨ts, hts⟩ : ∃ ts, ts = turnsU X := ⟨_, rfl⟩
  rw [← hE, ← hts] at CR2
  have CR1 := Lib.hid (show Calls Tryz.prog 15 #[.agg #[.string ⟨#[112]⟩, .slice (some ⟨rb, ro, none⟩) many rc, .slice sa sn sc], .string (rolS ri)] w8 fun e w' => ∃ (s : ByteArray) (a : Option Addr) (n c : Nat), e = .returned (.tuple #[.agg #[.string s, .slice a n c], .int .i64 E]) ∧ Turns w' w'.heap.size a n ts ∧ Below w8.heap.size w8 w' from CR1.mono fun e w' k => by
    obtain ⟨s, a, n, c, k1, k2, k3⟩ := k
    rw [← hE] at k1
    have k4 := k2.turns
    rw [← hts] at k4
    exact ⟨s, a, n, c, k1, k4, k3⟩)
  have CR2 := Lib.hid CR2
  have HPE := Lib.hid (show ∀ t ∈ ts, t.kind ≠ 0 → t.peer.length = 1 from fun t ht hk => by
    rw [hts, hX] at ht
    cases hx : roleP ps (rolS ri).toList with
    | error e => rw [hx] at ht; cases ht
    | ok us =>
      rw [hx] at ht
      obtain ⟨ns, hro⟩ := roleP_spec hx
      have hm := (role_peers HMD.out.ok (hasS_made hri) hro (show t ∈ us from ht) hk).2
      unfold rolesL at hm
      obtain ⟨i, _, e⟩ := List.mem_map.1 hm
      rw [← e]
      rfl)
  clear hX hE hts
  go_upto_region 7 with (first
    | (go_at_call 15; (with_reducible refine CR1.out.mono ?_)
       rintro e v1 ⟨s1, a1, n1, c1, rfl, hl1, hb1⟩
       have HL1 := Lib.hid hl1
       have HB1 := Lib.hid hb1
       clear hl1 hb1)
    | fail)
  have hb9 := below_on HB1.out (tu1 v1 (.cells #[.string s1, .slice a1 n1 c1] 34))
  have HG9 := Lib.hid (HG8.out.on hb9)
  have HQ9 := Lib.hid (HQ8.out.on hb9)
  have HP9 := Lib.hid (HP8.out.on hb9)
  have HL9 := Lib.hid (HL1.out.on (tu1 v1 (.cells #[.string s1, .slice a1 n1 c1] 34)))
  have HX9 := Lib.hid (LBox.new v1 s1 a1 n1 c1)
  have HB9 := Lib.hid hb9
  generalize hg9 : v1.heap.size = g9 at HX9 ⊢
  generalize hw9 : v1.alloc (.cells #[.string s1, .slice a1 n1 c1] 34) = w9 at HG9 HQ9 HP9 HL9 HX9 HB9 ⊢
  clear hw9 hg9 hb9 HG8 HQ8 HP8 HL1 HB1 pc0 pc1 pc2 CR1
  obtain ⟨pc0, pc1, pc2⟩ := HQ9.out.cells
  have hrs : (rolS ri).size = 1 := rfl
  have hs1 : ¬ (9223372036854775807 < 1 + (rolS ri).size) := by omega
  go_upto_region 8 with (first
    | (go_at_call 15; (with_reducible refine (CR2.out _ HB9.out).mono ?_)
       rintro e v2 ⟨s2, a2, n2, c2, rfl, hl2, hb2⟩
       have HL2 := Lib.hid hl2
       have HB2 := Lib.hid hb2
       clear hl2 hb2)
    | fail)
  have hb10 := below_on HB2.out (tu1 v2 (.cells #[.string s2, .slice a2 n2 c2] 34))
  have HG10 := Lib.hid (HG9.out.on hb10)
  have HQ10 := Lib.hid (HQ9.out.on hb10)
  have HP10 := Lib.hid (HP9.out.on hb10)
  have HLA := Lib.hid (HL9.out.on hb10)
  have HXA := Lib.hid (HX9.out.on hb10)
  have HLB := Lib.hid (HL2.out.on (tu1 v2 (.cells #[.string s2, .slice a2 n2 c2] 34)))
  have HXB := Lib.hid (LBox.new v2 s2 a2 n2 c2)
  generalize hg10 : v2.heap.size = g10 at HXB ⊢
  generalize hw10 : v2.alloc (.cells #[.string s2, .slice a2 n2 c2] 34) = w10 at HG10 HQ10 HP10 HLA HXA HLB HXB ⊢
  clear hw10 hg10 hb10 HG9 HQ9 HP9 HL9 HX9 HL2 HB2 pc0 pc1 pc2 CR2 hs1 hrs HB9
  have hn2 : n2 = n1 := by rw [← HLA.out.1, ← HLB.out.1, List.length_map]
  subst hn2
  obtain ⟨pc0, pc1, pc2⟩ := HQ10.out.cells
  obtain ⟨xa0, xa1⟩ := HXA.out.cells
  obtain ⟨xb0, xb1⟩ := HXB.out.cells
  have ee : (E != E) = false := by simp
  have nn : ((n2 : Int) != (n2 : Int)) = false := by simp
  have CM := Lib.hid (show Calls Tryz.prog 16 #[.agg #[.string ⟨#[112]⟩, .slice xa many xc, .slice ya sn yc]] w10 fun e w' => e = .returned (.bool true) ∧ Below w10.heap.size w10 w' from (HP10.out.may (rc := xc) (c := yc)).mono fun e w' k => ⟨by rw [k.1, prot_one, prot_ren HMD.out.ok (rolesB_ren hm2 hm4)], k.2⟩)
  go_upto_region 10 with (first
    | (go_at_call 16; (with_reducible refine CM.out.mono ?_)
       rintro e w11 ⟨rfl, hb11⟩
       have HB11 := Lib.hid hb11
       clear hb11)
    | fail)
  have HGb := Lib.hid (HG10.out.on HB11.out)
  have HLAb := Lib.hid (HLA.out.on HB11.out)
  have HLBb := Lib.hid (HLB.out.on HB11.out)
  have HXAb := Lib.hid (HXA.out.on HB11.out)
  have HXBb := Lib.hid (HXB.out.on HB11.out)
  have hn1m := HLAb.out.2.1
  clear pc0 pc1 pc2 xa0 xa1 xb0 xb1 ee nn CM HG10 HQ10 HP10 HLA HLB HXA HXB HB11
  go_wp2_with fail
  go_loopw [12] (fun i wr => ∃ k : Nat, k ≤ n2 ∧ i = .int .i64 k ∧ Hid (Below w11.heap.size w11 wr)) (fun i _ => n2 - (intOf i).toNat)
  case atStart => exact ⟨0, Nat.zero_le _, rfl, Lib.hid (Below.refl _ _)⟩
  case round =>
    obtain ⟨k, hk, rfl, HBr⟩ := hrel
    obtain ⟨wq, hwq⟩ : ∃ wq : World, wq = wr := ⟨_, rfl⟩
    subst hwq
    obtain ⟨xa0, xa1⟩ := (HXAb.out.on HBr.out).cells
    obtain ⟨xb0, xb1⟩ := (HXBb.out.on HBr.out).cells
    have hz7 := HGb.out.bel.size
    by_cases hlt : k < n2
    · have i1 : (k : Int) < (n2 : Int) := by omega
      have i2 : (0 : Int) ≤ (k : Int) := by omega
      obtain ⟨tb, tz, kd, pe, ta, tn, tc, tl, ea0, htb, htx, ⟨xc0, xc1, xc2⟩, hpe, hta⟩ := (HLAb.out.on HBr.out).at_ hlt
      obtain ⟨ub, uz, ke, qe, va, vn, vc, vl, ea1, hub, hux, ⟨yc0, yc1, yc2⟩, hqe, hva⟩ := (HLBb.out.on HBr.out).at_ hlt
      subst ea0 ea1
      rw [List.getElem?_map, htx] at hux
      have hux : renT ⟨kd, pe.toList, tl⟩ = ⟨ke, qe.toList, vl⟩ := Option.some.inj hux
      unfold renT at hux
      obtain ⟨q1, q2, q3⟩ := TurnL.mk.inj hux
      dsimp only at q1 q2 q3
      subst q1 q3
      have hvn : vn = tn := by rw [← hva.1, ← hta.1]
      subst hvn
      have HQ2 := Lib.hid q2
      have HPL := Lib.hid (show kd ≠ 0 → pe.size = 1 from fun hk => by have := HPE.out _ (List.mem_of_getElem? htx) hk; dsimp only at this; rw [len_toList] at this; exact this)
      have HTA := Lib.hid hta
      have HTV := Lib.hid hva
      have HK := Lib.hid (fun (W : World) (hW : Below wq.heap.size wq W) => show (W.cell? ⟨g9, 1, none⟩ = some (.slice (some ⟨tb, tz, none⟩) n2 c1) ∧ W.cell? ⟨g10, 1, none⟩ = some (.slice (some ⟨ub, uz, none⟩) n2 c2)) ∧ (W.cell? ⟨tb, tz + k * 3, none⟩ = some (.int .i64 kd) ∧ W.cell? ⟨tb, tz + k * 3 + 1, none⟩ = some (.string pe) ∧ W.cell? ⟨tb, tz + k * 3 + 2, none⟩ = some (.slice ta vn tc)) ∧ W.cell? ⟨ub, uz + k * 3, none⟩ = some (.int .i64 kd) ∧ W.cell? ⟨ub, uz + k * 3 + 1, none⟩ = some (.string qe) ∧ W.cell? ⟨ub, uz + k * 3 + 2, none⟩ = some (.slice va vn vc) from
        ⟨⟨((HXAb.out.on HBr.out).on hW).cells.2, ((HXBb.out.on HBr.out).on hW).cells.2⟩, ⟨(hW.cell (p := ⟨tb, tz + k * 3, none⟩) htb).trans xc0, (hW.cell (p := ⟨tb, tz + k * 3 + 1, none⟩) htb).trans xc1, (hW.cell (p := ⟨tb, tz + k * 3 + 2, none⟩) htb).trans xc2⟩, (hW.cell (p := ⟨ub, uz + k * 3, none⟩) hub).trans yc0, (hW.cell (p := ⟨ub, uz + k * 3 + 1, none⟩) hub).trans yc1, (hW.cell (p := ⟨ub, uz + k * 3 + 2, none⟩) hub).trans yc2⟩)
      have HD := Lib.hid (Below.refl wq.heap.size wq)
      go_upto_region 13 with fail
      clear htx hux q2 hta hva xc0 xc1 xc2 yc0 yc1 yc2 xa0 xa1 xb0 xb1
      go_cut [13, 14] (fun s13 s14 wx => ∃ gx gy : Nat, s13 = .pointer (some ⟨gx, 0, none⟩) ∧ s14 = .pointer (some ⟨gy, 0, none⟩) ∧ Hid (wx.cell? ⟨gx, 0, none⟩ = some (.int .i64 kd) ∧ wx.cell? ⟨gx, 1, none⟩ = some (.string pe) ∧ wx.cell? ⟨gx, 2, none⟩ = some (.slice ta vn tc)) ∧ Hid (wx.cell? ⟨gy, 0, none⟩ = some (.int .i64 kd) ∧ wx.cell? ⟨gy, 1, none⟩ = some (.string qe) ∧ wx.cell? ⟨gy, 2, none⟩ = some (.slice va vn vc)) ∧ gx < wx.heap.size ∧ gy < wx.heap.size ∧ Hid (Below wq.heap.size wq wx))
      case first =>
        go_region_held3 (fun W => (W.cell? ⟨g9, 1, none⟩ = some (.slice (some ⟨tb, tz, none⟩) n2 c1) ∧ W.cell? ⟨g10, 1, none⟩ = some (.slice (some ⟨ub, uz, none⟩) n2 c2)) ∧ (W.cell? ⟨tb, tz + k * 3, none⟩ = some (.int .i64 kd) ∧ W.cell? ⟨tb, tz + k * 3 + 1, none⟩ = some (.string pe) ∧ W.cell? ⟨tb, tz + k * 3 + 2, none⟩ = some (.slice ta vn tc)) ∧ W.cell? ⟨ub, uz + k * 3, none⟩ = some (.int .i64 kd) ∧ W.cell? ⟨ub, uz + k * 3 + 1, none⟩ = some (.string qe) ∧ W.cell? ⟨ub, uz + k * 3 + 2, none⟩ = some (.slice va vn vc))
          (first | exact HK.out _ HD.out | exact HK.out _ (bel_drew8 HD.out) | (refine HK.out _ ?_; ((repeat' (first | exact HD.out | with_reducible apply bel_drew8 | with_reducible apply Below.setCell | with_reducible apply Below.alloc)) <;> simp)))
          (fail)
        all_goals (go_wp2_with fail; go_meet)
        case rel =>
          have h := ren_tur wq kd kd pe qe ta va vn tc vn vc
          exact ⟨_, _, rfl, rfl, Lib.hid h.1, Lib.hid h.2.1, h.2.2.1, h.2.2.2.1, Lib.hid h.2.2.2.2⟩
        case rel =>
          have h := ren_tur wq kd kd qe pe va ta vn vc vn tc
          exact ⟨_, _, rfl, rfl, Lib.hid h.2.1, Lib.hid h.1, h.2.2.2.1, h.2.2.1, Lib.hid h.2.2.2.2⟩
      case rest =>
        obtain ⟨gx, gy, e13, e14, HXC, HYC, hgx, hgy, HBE⟩ := hcut
        subst e13 e14
        obtain ⟨we, hwe⟩ : ∃ we : World, we = wc := ⟨_, rfl⟩
        subst hwe
        have kk : (kd != kd) = false := by simp
        have nn2 : ((vn : Int) != (vn : Int)) = false := by simp
        obtain ⟨x0, x1, x2⟩ := HXC.out
        obtain ⟨y0, y1, y2⟩ := HYC.out
        go_upto_region 14 with fail
        go_cut [110] (fun sx wx => sx = .bool false ∧ Hid (Below we.heap.size we wx))
        case first =>
          by_cases hk0 : kd = 0
          · subst hk0
            go_wp2_with fail
            go_meet
            case rel => exact ⟨rfl, Lib.hid (Below.refl _ _)⟩
          · have d2 : (kd == 0) = false := beq_eq_false_iff_ne.2 hk0
            have d3 : (kd != 0) = true := by rw [bne, d2]; rfl
            have hs1 : ¬ (9223372036854775807 < 1 + pe.size) := by have := HPL.out hk0; omega
            have n1 : (((⟨#[114]⟩ : ByteArray) ++ pe).toList == qe.toList) = true := by
              have := HQ2.out
              rw [if_neg hk0] at this
              rw [beq_iff_eq, rs_cat, this]
            have n3 : (((⟨#[114]⟩ : ByteArray) ++ pe).toList != qe.toList) = false := by rw [bne, n1]; rfl
            clear hk0
            go_wp2_with fail
            go_meet
            case rel => exact ⟨rfl, Lib.hid (Below.refl _ _)⟩
        case rest =>
          obtain ⟨hs110, HBF⟩ := hcut
          subst hs110
          obtain ⟨wf, hwf⟩ : ∃ wf : World, wf = wc := ⟨_, rfl⟩
          subst hwf
          clear x0 x1 x2 y0 y1 y2
          have HAX := Lib.hid (HTA.out.on (below_on HBE.out HBF.out))
          have HAY := Lib.hid (HTV.out.on (below_on HBE.out HBF.out))
          have HLX := Lib.hid (fun (W : World) (hW : Below wf.heap.size wf W) => show W.cell? ⟨gx, 2, none⟩ = some (.slice ta vn tc) ∧ W.cell? ⟨gy, 2, none⟩ = some (.slice va vn vc) from
            ⟨((below_on HBF.out hW).cell (p := ⟨gx, 2, none⟩) hgx).trans HXC.out.2.2, ((below_on HBF.out hW).cell (p := ⟨gy, 2, none⟩) hgy).trans HYC.out.2.2⟩)
          have hzf := HBF.out.size
          obtain ⟨x2, y2⟩ := HLX.out wf (Below.refl _ _)
          go_wp2_with fail
          go_loopw [15] (fun i wx => ∃ m : Nat, m ≤ vn ∧ i = .int .i64 m ∧ Hid (Below wf.heap.size wf wx)) (fun i _ => vn - (intOf i).toNat)
          case atStart => exact ⟨0, Nat.zero_le _, rfl, Lib.hid (Below.refl _ _)⟩
          case round =>
            obtain ⟨m, hm, rfl, HBx⟩ := hrel
            obtain ⟨wx, hwx⟩ : ∃ wx : World, wx = wr := ⟨_, rfl⟩
            subst hwx
            obtain ⟨x2, y2⟩ := HLX.out _ HBx.out
            have hvn6 := HAX.out.2.1
            by_cases hmn : m < vn
            · have i1 : (m : Int) < (vn : Int) := by omega
              have i2 : (0 : Int) ≤ (m : Int) := by omega
              obtain ⟨lb, lo, sv, cu, ck, nx, ea, hlb, hx6, ⟨z0, z1, z2, z3⟩, _, _⟩ := (HAX.out.on HBx.out).at_ hmn
              obtain ⟨mb, mo, tv, du, dk, ox, eb, hmb, hy6, ⟨u0, u1, u2, u3⟩, _, _⟩ := (HAY.out.on HBx.out).at_ hmn
              subst ea eb
              rw [hx6] at hy6
              obtain ⟨q1, q2, q3, q4⟩ := ArmL.mk.inj (Option.some.inj hy6)
              obtain rfl := toList_inj q1
              obtain rfl := toList_inj q3
              subst q2 q4
              clear hx6 hy6 q1 q3
              go_upto_region 19 with fail
              go_quiet (fail)
              go_wp2_with fail
              go_roundw
              case rel => exact ⟨m + 1, by omega, by go_num, Lib.hid (bel_drewN HBx.out _)⟩
              case measure => simp [intOf]; omega
            · have d1 : decide ((m : Int) < (vn : Int)) = false := decide_eq_false (by omega)
              have HBW := Lib.hid (below_on HBr.out (below_on HBE.out (below_on HBF.out HBx.out)))
              go_wp2_with fail
              go_roundw
              case rel => exact ⟨k + 1, by omega, by go_num, HBW⟩
              case measure => simp [intOf]; omega
    · have d1 : decide ((k : Int) < (n2 : Int)) = false := decide_eq_false (by omega)
      have HE := Lib.hid (HGb.out.bel.trans (HBr.out.mono hz7))
      go_wp2_with fail
      go_ret
      exact ⟨rfl, HE.out⟩
end Go.Proofs.YtokgpdceckaddaaGreatDoor

/- The statement ProjectNames holds for every argument, with no condition; the listed tables are tied to the program's text. -/
namespace Go.Proofs.YtokgpdceckaddaaGreatDoor.projectNames
open Go Go.ChangeShapes Go.WideShapes Go.ChangeAt Go.RowKit
open Go.ChangeMaps (open_string shut_string)

theorem door_met (os : Os) (args : Array Value) : laidMetH Tryz.prog Rows.projectNamesRow.laid ((World.laidAll Tryz.prog os Rows.projectNamesRow.laid).forCall (fun _ _ => 0) ⟨#[], args, []⟩).memory := by
  rw [MakeChecks.laidMetH_plain _ _ _ (by kernel_rfl)]
  exact laidMet_laidAll _ (by kernel_rfl) (by kernel_rfl)
set_option maxRecDepth 100000 in
theorem lifted (os : Os) (started : os.Started) (H : Type) (enc : TypeId × Value → H) :
    ReturnsInHanded {} Tryz.checked os 3 .any (fun w args => (Rows.projectNamesSpec.pre enc Tryz.prog Tryz.f3 [] false w args ∧ laidMetH Tryz.prog Rows.projectNamesRow.laid w) ∧ sizedMet enc Tryz.prog Tryz.f3 (OpenSpec.ofChange Rows.projectNamesSpec) false w args)
      (Rows.projectNamesSpec.post enc Tryz.prog Tryz.f3 false true false false) := by
  refine returnsInHanded_of_change_and (C := Tryz.checked) (X := fun w _ => laidMetH Tryz.prog Rows.projectNamesRow.laid w) (fun _ _ _ hh h => h.of_heap hh) seatOwn started (by kernel_rfl) Tryz.func3
    (ChangeSpec.witness_shaped (enc := enc) (C := Tryz.checked) (os := os) (X := fun w _ => laidMetH Tryz.prog Rows.projectNamesRow.laid w) false (World.laidAll Tryz.prog os Rows.projectNamesRow.laid) #[.slice none 0 0, .int .i64 0] 8 (World.laidAll_os _ _ _)
      (World.shaped_of_ZipB (by kernel_rfl) (by kernel_rfl)) (by kernel_rfl) (by kernel_rfl) (by kernel_rfl) (door_met os _)) ?_
  intro W base args ds gs before hval0 hW _ hsz0 hX0 _
  have hval : ∀ (j : Nat) t v, Tryz.f3.params[j]? = some t → args[j]? = some v → Value.okWide Tryz.prog W .any base t v := hval0
  have hsz : (DataW.weightsEach Tryz.prog (Tryz.f3.params.toList ++ Rows.projectNamesSpec.plain.varTypes Tryz.prog) (ds ++ gs)).all (· ≤ reachBytes) = true := hsz0
  have hW' := hW
  obtain ⟨p, q, hA0, hV, rfl, hfz, hnd⟩ := hW
  have hA : DataW.TrodAll enc Tryz.prog W 0 (fun _ => true) true Tryz.f3.params.toList args.toList ds p := hA0
  rw [Tryz.params3] at hA hval hsz
  obtain ⟨v0, vs0, d0, ds0, p0, q0, hargs, rfl, rfl, h0, r0⟩ := trodAll_cons hA
  obtain ⟨v1, vs1, d1, ds1, p1, q1, rfl, rfl, rfl, h1, r1⟩ := trodAll_cons r0
  obtain ⟨rfl, rfl, rfl⟩ := trodAll_nil r1
  obtain rfl : args = #[v0, v1] := by cases args; simp_all
  obtain ⟨rfl, rfl⟩ := trodVars_none hV
  have k0 := h0
  have lt0 := args_below k0
  obtain ⟨fu0, hf0⟩ := h0
  obtain ⟨ia0, ilen0, icap0, rfl⟩ := okWide_slice Tryz.underlying22 (hval 0 22 v0 rfl rfl)
  obtain ⟨a0, n0, c0, l0, hv0, hn0, hi0, hc0, hm0, hz0⟩ := open_ints hf0 (fun elems spare e => by
    have := sized_slice hsz (j := 0) (t := 22) (e := 3) rfl (congrArg some e) Tryz.underlying22
    rwa [seatBytes2] at this)
  obtain ⟨ea0, en0, ec0⟩ := Value.slice.inj hv0
  subst ea0 en0 ec0
  have k1 := h1
  have lt1 := args_below k1
  obtain ⟨a1, rfl, rfl, rfl, w1⟩ := open_int Tryz.underlying3 (hval 1 3 v1 rfl rfl) h1
  clear hA0 hval0 hsz0
  refine (projectNames_walk ia0 ilen0 icap0 l0 a1 W hn0 hz0 ).mono fun e W' ⟨he, bel⟩ => ?_
  subst he
  exact ⟨_, rfl, _, _, _, [], _, [], hW', trodAll_mk1 (shut_bool Tryz.underlying4 _), (trodAll_cons_mk (Below.trod seatLaidOut (by kernel_rfl) (of_decide_eq_true (by kernel_rfl)) k0 bel lt0) (trodAll_cons_mk (Below.trod seatLaidOut (by kernel_rfl) (of_decide_eq_true (by kernel_rfl)) k1 bel lt1) trodAll_mk0)), rfl, bel.frame _, fun h => by cases h⟩

theorem over : Rows.ProjectNamesSaid :=
  OpenClaim.holds_of_wide 3 Tryz.f3 rfl rfl rfl rfl rfl rfl rfl ⟨rfl, rfl, rfl, rfl, rfl⟩ rfl rfl rfl rfl rfl (by kernel_rfl) Tryz.func3 (by kernel_rfl)
    (of_decide_eq_true (by kernel_rfl)) (by unfold Func.isWrapper; first | (rw [if_pos (by decide +kernel)]; kernel_rfl) | (rw [if_neg (by decide +kernel)]; exact ⟨rfl, rfl⟩))
    (fun os started H enc _ => lifted os started H enc)

theorem proved : Rows.ProjectNamesCardSaid :=
  Claim7.holds_tied_plain_at .later [] [.data, .data, .data] true _ false
    over (fun _ h => by cases h) (by kernel_rfl) (fun _ h => by cases h) projectNames_row_tie rfl ⟨rfl, rfl⟩ (by kernel_rfl) rfl
    (fun f fn hf hfn => by
      obtain rfl : f = 3 := Option.some.inj ((show Tryz.prog.funcNamed Rows.projectNamesRow.func = some 3 by kernel_rfl).symm.trans hf) |>.symm
      obtain rfl : fn = Tryz.f3 := (Option.some.inj (Tryz.func3.symm.trans hfn)).symm
      exact ⟨by kernel_rfl, fun j t ht => by
        rw [Tryz.params3] at ht
        have hm : t ∈ [22, 3] := by simpa using Array.mem_of_getElem? ht
        have hall : ([22, 3].all fun u => !Tryz.prog.wantsStandIn u) = true := by kernel_rfl
        exact (show Tryz.prog.wantsStandIn t = false by simpa using List.all_eq_true.1 hall t hm)⟩)
    (by kernel_rfl)
#print axioms proved
end Go.Proofs.YtokgpdceckaddaaGreatDoor.projectNames
