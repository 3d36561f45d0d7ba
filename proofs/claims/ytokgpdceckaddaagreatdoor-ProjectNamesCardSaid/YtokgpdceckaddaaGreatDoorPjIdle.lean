/- Contract of reparteemake's Idle: one role more. -/
import Derived.Test.YtokgpdceckaddaaGreatDoorPjSpecs
import Derived.Test.YtokgpdceckaddaaGreatDoorGlFirsts
namespace Go.Proofs.YtokgpdceckaddaaGreatDoor
open Go.RowKit

def idleB : ByteArray := ⟨#[105, 100, 108, 101]⟩
theorem idleB_str : idleB.toList = idleS := by unfold idleB; rw [ByteArray.toList_eq]; rfl
theorem idleB_small : idleB.size ≤ maxLen := by simp [idleB, maxLen, ByteArray.size]
theorem PBox.set1 {W : World} {g : Nat} {nm : ByteArray} {ra : Option Addr} {rn rc : Nat} {a : Option Addr} {n c : Nat} (h : PBox W g nm ra rn rc a n c) (xa : Option Addr) (xn xc : Nat) : PBox (W.setCell ⟨g, 1, none⟩ (.slice xa xn xc)) g nm xa xn xc a n c := by
  unfold PBox at h ⊢
  obtain ⟨hlt, hk⟩ := Array.getElem?_eq_some_iff.1 h
  show (W.heap.modify g _)[g]? = _
  rw [Array.getElem?_eq_getElem (by rw [Array.size_modify]; exact hlt), Array.getElem_modify_self, hk]
  rfl
def IdleRet (nm : ByteArray) (sa : Option Addr) (sn sc many : Nat) (rs : List Str) (ps : List PointL) (w : World) (e : Ending) (w' : World) : Prop :=
  ∃ xa xc, e = .returned (.agg #[.string nm, .slice xa (many + 1) xc, .slice sa sn sc]) ∧ PIn w' nm xa (many + 1) (rs ++ [idleS]) sa sn ps ∧ Below w.heap.size w w'
set_option maxHeartbeats 8000000 in
set_option maxRecDepth 20000 in
theorem idle_any (nm : ByteArray) (ra : Option Addr) (many rc : Nat) (rs : List Str) (sa : Option Addr) (sn sc : Nat) (ps : List PointL) (w : World) (hP : PIn w nm ra many rs sa sn ps) (hm : many ≤ 5) :
    Calls Tryz.prog 17 #[.agg #[.string nm, .slice ra many rc, .slice sa sn sc]] w fun e w' => IdleRet nm sa sn sc many rs ps w e w' := by
  have HIN := Lib.hid hP
  obtain ⟨S, hS⟩ : ∃ S, S = w.heap.size := ⟨_, rfl⟩
  obtain ⟨w1, hw1⟩ : ∃ w1, w1 = ((w.alloc (.cells #[.string nm, .slice ra many rc, .slice sa sn sc] 27)).alloc (.cells #[.string ⟨#[]⟩, .slice none 0 0, .slice none 0 0] 27)).alloc (.cells #[.string nm, .slice ra many rc, .slice sa sn sc] 27) := ⟨_, rfl⟩
  have HB1 := Lib.hid (show Below w.heap.size w w1 by rw [hw1]; exact below_on (below_on (tu1 w _) (tu1 _ _)) (tu1 _ _))
  have HP1 := Lib.hid (show PBox w1 S nm ra many rc sa sn sc by rw [hw1, hS]; exact ((PBox.new w nm ra many rc sa sn sc).on (tu1 _ _)).on (tu1 _ _))
  have HR1 := Lib.hid (show PBox w1 (S + 1) ⟨#[]⟩ none 0 0 none 0 0 by
    rw [hw1, hS]
    have := (PBox.new (w.alloc (.cells #[.string nm, .slice ra many rc, .slice sa sn sc] 27)) ⟨#[]⟩ none 0 0 none 0 0).on (tu1 _ (.cells #[.string nm, .slice ra many rc, .slice sa sn sc] 27))
    rw [World.size_alloc] at this
    exact this)
  have HX1 := Lib.hid (show PBox w1 (S + 2) nm ra many rc sa sn sc by
    rw [hw1, hS]
    have := PBox.new ((w.alloc (.cells #[.string nm, .slice ra many rc, .slice sa sn sc] 27)).alloc (.cells #[.string ⟨#[]⟩, .slice none 0 0, .slice none 0 0] 27)) nm ra many rc sa sn sc
    rw [World.size_alloc, World.size_alloc] at this
    exact this)
  have hz1 : w1.heap.size = S + 3 := by rw [hw1, hS]; simp
  have HW1 := Lib.hid hw1
  have HS := Lib.hid hS
  obtain ⟨b0, b1, b2⟩ := (PBox.new w nm ra many rc sa sn sc).cells
  clear hP hw1 hS
  go_enter Tryz.func17, Tryz.ntmps17
  go_upto_region 2 with fail
  rw [← HW1.out, ← HS.out]
  obtain ⟨p0, p1, p2⟩ := HP1.out.cells
  obtain ⟨x0, x1, x2⟩ := HX1.out.cells
  have xf1 := HX1.out.thaw 1
  have hb3 : S + 3 ≤ w1.heap.size := Nat.le_of_eq hz1.symm
  have HRS := Lib.hid (HIN.out.on HB1.out).roles
  clear hz1 b0 b1 b2
  go_upto_region 3 with (first
    | (at_builtin
       refine wpList_append_strs _ rfl (.const (.slice none 0 0)) (.tmp 6) _ rfl (S + 3) 9 Tryz.underlying24 info9 (.slice none 0 0) 0 [] rfl (World.ownsRow_nil _ _ _ _) w1.heap.size _ many rc rs rfl HRS.out (by omega) (by omega) ?_
       intro v3 w3 own3 gr3 at3
       have HO3 := Lib.hid (show w3.ownsRow (S + 3) 9 1 v3 many (rs.map encStr) by rw [Nat.zero_add] at own3; exact own3)
       have HB3 := Lib.hid ((Below.refl w1.heap.size w1).grown gr3 (Nat.le_refl _) (fun j hj => by cases hj))
       have hz3 := HB3.out.size
       clear own3 gr3 at3)
    | (at_builtin
       refine wpList_append_strs _ rfl (.tmp 7) (.tmp 8) _ rfl (S + 3) 9 Tryz.underlying24 info9 v3 many rs rfl (HO3.out.alloc _) (w3.heap.size + 1) _ 1 1 [idleB.toList] rfl (strs_one w3 idleB idleB_small) (by omega) (by simp; omega) ?_
       intro v4 w4 own4 gr4 at4
       obtain ⟨xa, xc, hv, hst, _, _⟩ := Strs.of_own (ss := rs ++ [idleB.toList]) own4 (by omega) (fun s hs => by
         rcases List.mem_append.1 hs with hs | hs
         · exact HRS.out.max s hs
         · rw [List.mem_singleton.1 hs, len_toList]
           exact idleB_small)
       subst hv
       have HRR := Lib.hid (show RRow w4 (S + 3) xa (many + 1) xc (rs ++ [idleS]) by rw [idleB_str] at own4; exact own4)
       have HB4 := Lib.hid (show Below (S + 3) w1 w4 from ((HB3.out.mono hb3).alloc (by omega) _).grown gr4 (by simp; omega) (fun j hj => (HO3.out.lt j hj).1))
       have HP4 := Lib.hid (show PBox w4 (S + 2) nm ra many rc sa sn sc from (HB4.out.block (S + 2) (by omega)).trans HX1.out)
       have HR4 := Lib.hid (show PBox w4 (S + 1) ⟨#[]⟩ none 0 0 none 0 0 from (HB4.out.block (S + 1) (by omega)).trans HR1.out)
       have hz4 := HB4.out.size
       obtain ⟨y0, y1, y2⟩ := HP4.out.cells
       have yf1 := HP4.out.thaw 1
       clear own4 gr4 at4 hst)
    | fail)
  have HP5 := Lib.hid (HP4.out.set1 xa (many + 1) xc)
  have hbs := (Beside.refl (S + 2) w4).setCell 1 (.slice xa (many + 1) xc)
  have HRR5 := Lib.hid (HRR.out.beside hbs (by omega))
  have HR5 := Lib.hid (HR4.out.beside hbs (by omega))
  have HB5 := Lib.hid (show Below S w1 (w4.setCell ⟨S + 1 + 1, 1, none⟩ (.slice xa (many + 1) xc)) from (HB4.out.mono (by omega)).setCell (p := ⟨S + 1 + 1, 1, none⟩) (show S ≤ S + 1 + 1 by omega) _)
  generalize hw5 : w4.setCell ⟨S + 1 + 1, 1, none⟩ (.slice xa (many + 1) xc) = w5 at HP5 HRR5 HR5 HB5 ⊢
  clear hw5 hbs p0 p1 p2 x0 x1 x2 xf1 y0 y1 y2 yf1
  obtain ⟨y0, y1, y2⟩ := HP5.out.cells
  obtain ⟨z0, z1, z2⟩ := HR5.out.cells
  have zf0 := HR5.out.thaw 0
  have zf1 := HR5.out.thaw 1
  have zf2 := HR5.out.thaw 2
  go_wp2_with fail
  refine bodyPost_ret (v := .agg #[.string nm, .slice xa (many + 1) xc, .slice sa sn sc]) (by simp [results, go_sem, z0, z1, z2]) rfl ?_
  have hb2 := (((Beside.refl (S + 1) w5).setCell 0 (.string nm)).setCell 1 (.slice xa (many + 1) xc)).setCell 2 (.slice sa sn sc)
  have hbl : Below S w1 (((w5.setCell ⟨S + 1, 0, none⟩ (.string nm)).setCell ⟨S + 1, 1, none⟩ (.slice xa (many + 1) xc)).setCell ⟨S + 1, 2, none⟩ (.slice sa sn sc)) := ((HB5.out.setCell (p := ⟨S + 1, 0, none⟩) (Nat.le_succ _) _).setCell (p := ⟨S + 1, 1, none⟩) (Nat.le_succ _) _).setCell (p := ⟨S + 1, 2, none⟩) (Nat.le_succ _) _
  have hbw := HB1.out.trans (hbl.mono (Nat.le_of_eq HS.out.symm))
  refine ⟨xa, xc, rfl, ⟨HIN.out.name, (HRR5.out.beside hb2 (by omega)).strs (by omega) (fun s hs => ?_), HIN.out.pts.on hbw⟩, hbw⟩
  rcases List.mem_append.1 hs with hs | hs
  · exact HRS.out.max s hs
  · rw [List.mem_singleton.1 hs, ← idleB_str, len_toList]
    exact idleB_small
end Go.Proofs.YtokgpdceckaddaaGreatDoor
