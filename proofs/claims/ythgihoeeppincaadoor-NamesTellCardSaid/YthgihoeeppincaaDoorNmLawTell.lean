/- The law NamesTell returns true for every list and string. -/
import Derived.Test.YthgihoeeppincaaDoorNmRefPutAll
import Derived.Test.YthgihoeeppincaaDoorNmRefFresh
namespace Go.Proofs.YthgihoeeppincaaDoor
open Go.RowKit Go.Sort

/-- The four bytes that stand behind the copy of the list. -/
def roomB : ByteArray := ⟨#[114, 111, 111, 109]⟩
/-- From what the appends leave: the copy with the guard string behind it. -/
theorem room_mid {w w2 : World} {n : Nat} {ss : List Str} {v2 : Value} (hn : n ≤ 40) (hm : ∀ x ∈ ss, x.length ≤ maxLen)
    (O2 : w2.ownsRow w.heap.size 9 1 v2 (0 + n + 1) (List.map encStr ([] ++ ss ++ [roomB.toList]))) :
    ∃ g cap, v2 = .slice (some ⟨g, 0, none⟩) (n + 1) cap ∧ n + 1 ≤ cap ∧ cap ≤ 9223372036854775807 ∧ Strs w2 w2.heap.size (some ⟨g, 0, none⟩) n ss ∧ g < w2.heap.size ∧ w2.cell? ⟨g, n, none⟩ = some (.string roomB) := by
  have hl : ss.length = n := by have := O2.1; simp at this; omega
  rw [List.nil_append, Nat.zero_add] at O2
  have hmx : ∀ x ∈ ss ++ [roomB.toList], x.length ≤ maxLen := fun x hx => by
    rcases List.mem_append.1 hx with hx | hx
    · exact hm x hx
    · rw [List.mem_singleton.1 hx, lit_list [114, 111, 111, 109] roomB rfl]; simp [maxLen]
  obtain ⟨a, c, rfl, hs, hnc, _⟩ := Strs.of_own O2 (by omega) hmx
  obtain ⟨b, o, rfl, hb, hc⟩ := hs.2.2.2 (by omega)
  rcases O2.2 with ⟨_, h0⟩ | ⟨g, cap, cur, hv, _, _, h1, h2, _, _⟩
  · omega
  injection hv with e1 e2 e3
  injection e1 with e1
  injection e1 with e4 e5
  subst e4 e5 e3
  refine ⟨b, c, rfl, hnc, by unfold maxLen at h2; omega, ?_, hb, ?_⟩
  · have := hs.cut (k := n) (by omega)
    rwa [List.take_left' hl] at this
  · have := hc n roomB.toList (by rw [List.getElem?_append_right (by omega), hl]; simp)
    rw [Nat.zero_add] at this
    rw [this]
    show some (Value.string (baS roomB.toList)) = _
    rw [baS_of]

theorem same_both {a b : Option Addr} {n m ca cb : Nat} {ss : List Str} {w : World} {bound : Nat} (ha : Strs w bound a n ss) (hb : Strs w bound b m ss) :
    Calls Tryd.prog 23 #[.slice a n ca, .slice b m cb] w fun e w' => e = .returned (.bool true) ∧ ∃ q, w' = w.drewN q := by
  have h := same_any a b n m ca cb ss ss w bound ha hb
  rwa [decide_eq_true (show ss = ss from rfl)] at h

set_option maxHeartbeats 4000000 in
theorem tell_walk (a : Option Addr) (n c : Nat) (ss : List Str) (s : ByteArray) (w : World) (h : Strs w w.heap.size a n ss) (hnc : n ≤ c) (hs : s.size ≤ maxLen) :
    Calls Tryd.prog 3 #[.slice a n c, .string s] w fun e w' => e = .returned (.bool true) ∧ Below w.heap.size w w' := by
  have hsn := h.2.1
  by_cases hbig : 40 < n
  · have d1 : decide ((40 : Int) < (n : Int)) = true := by simp; omega
    clear h
    go_enter Tryd.func3, Tryd.ntmps3
    go_wp2_with (go_at_call 8; refine (first_any _).mono ?_; rintro e w1 ⟨rfl, hb⟩)
    go_ret
    exact ⟨rfl, hb⟩
  have d1 : decide ((40 : Int) < (n : Int)) = false := by simp; omega
  have H := Lib.hid h
  have HSM := Lib.hid hs
  clear h hs
  go_enter Tryd.func3, Tryd.ntmps3
  go_wp2_with (first
    | (go_at_call 8; refine (first_any _).mono ?_; rintro e w1 ⟨rfl, hb⟩
       have HB := Lib.hid hb
       clear hb)
    | (at_builtin
       refine wpList_append_strs _ rfl (.const (.slice none 0 0)) (.tmp 15) _ rfl w.heap.size 9 Tryd.underlying22 info9 _ 0 [] rfl (World.ownsRow_nil _ _ _ _) w.heap.size a n c ss rfl (H.out.below HB.out) (by omega) HB.out.size ?_
       intro v1 w2 own1 gr1 at1
       replace gr1 : w1.grownBy w2 (Value.slice none 0 0).ownBlock := gr1
       have O1 := Lib.hid own1
       have B1 := Lib.hid (HB.out.grown gr1 HB.out.size (fun j hj => by simp [Value.ownBlock] at hj))
       clear own1 gr1 at1)
    | (at_builtin
       refine wpList_append_strs _ rfl (.tmp 16) (.tmp 17) _ rfl w.heap.size 9 Tryd.underlying22 info9 v1 (0 + n) ([] ++ ss) rfl (O1.out.alloc _) _ _ 1 1 [roomB.toList] rfl (strs_one w2 roomB (by simp [roomB, maxLen, ByteArray.size])) (by omega) (by have := B1.out.size; simp; omega) ?_
       intro v2 w3 own2 gr2 at2
       obtain ⟨g, cap, rfl, hcap, hcm, hin, hg, hcell⟩ := room_mid (by omega) H.out.max own2
       have HIN := Lib.hid hin
       have HCE := Lib.hid hcell
       have B2 := Lib.hid ((B1.out.alloc B1.out.size _).grown gr2 (by have := B1.out.size; simp; omega) (fun j hj => (O1.out.lt j hj).1))
       have hkc : (n : Int) ≤ (cap : Int) := by omega
       have LL := Lib.hid (show ∀ W, Below w3.heap.size w3 W → Strs W W.heap.size a n ss from fun W hb => ((H.out.below B2.out).below (hb.mono B2.out.size)).more (Nat.le_trans B2.out.size hb.size))
       have LI := Lib.hid (show ∀ W, Below w3.heap.size w3 W → Strs W W.heap.size (some ⟨g, 0, none⟩) n ss from fun W hb => (hin.below hb).more hb.size)
       clear own2 gr2 at2 hin hcell)
    | (go_at_call 9
       refine (put_any (some ⟨g, 0, none⟩) n _ ss s _ (by omega) HSM.out (by exact HIN.out)).mono ?_
       rintro e w4 ⟨v, rfl, hown, hb⟩
       have hml := putS_len ss s.toList
       rw [H.out.1] at hml
       obtain ⟨m, hm⟩ : ∃ m, m = (putS ss s.toList).length := ⟨_, rfl⟩
       rw [← hm] at hown hml
       have hmx : ∀ x ∈ putS ss s.toList, x.length ≤ maxLen := fun x hx => by
         rw [mem_putS] at hx
         rcases hx with hx | hx
         · exact H.out.max x hx
         · rw [hx, len_toList]; exact HSM.out
       obtain ⟨a4, c4, rfl, hs4, _⟩ := Strs.of_own hown (by omega) hmx
       have HS4 := Lib.hid hs4
       have B4 := Lib.hid hb
       clear hown hb hs4 hm hmx hml)
    | (go_at_call 10
       refine (refPut_any a n c ss s w4 (by omega) HSM.out (LL.out _ B4.out)).mono ?_
       rintro e w5 ⟨b5, o5, m5, c5, rfl, hs5, _, _, hb⟩
       have HS5 := Lib.hid hs5
       have HS45 := Lib.hid ((HS4.out.below hb).more hb.size)
       have B5 := Lib.hid (B4.out.trans (hb.mono B4.out.size))
       clear hs5 hb)
    | (go_at_call 11
       refine (fresh_any (some ⟨g, 0, none⟩) n _ ss s w5 (by omega) HSM.out (LI.out _ B5.out)).mono ?_
       rintro e w6 ⟨rfl, hb⟩
       have B56 := Lib.hid hb
       have B6 := Lib.hid (B5.out.trans (hb.mono B5.out.size))
       clear hb)
    | (go_at_call 12
       refine (refFresh_any a n c ss s w6 (by omega) HSM.out (LL.out _ B6.out)).mono ?_
       rintro e w7 ⟨rfl, hb⟩
       have B57 := Lib.hid (B56.out.trans (hb.mono B56.out.size))
       have B7 := Lib.hid (B6.out.trans (hb.mono B6.out.size))
       clear hb)
    | (go_at_call 13; refine (keyword_any s w7).mono ?_; rintro e w8 ⟨rfl, rfl⟩)
    | (go_at_call 14; refine (refKeyword_any s w7).mono ?_; rintro e w8 ⟨rfl, rfl⟩)
    | (go_at_call 15; refine (may_any s w7 HSM.out).mono ?_; rintro e w8 ⟨rfl, rfl⟩)
    | (go_at_call 16; refine (refMay_any s w7 HSM.out).mono ?_; rintro e w8 ⟨rfl, rfl⟩)
    | (go_at_call 17; refine (has_any (some ⟨g, 0, none⟩) n _ ss s w7 _ (LI.out _ B7.out)).mono ?_; rintro e w8 ⟨rfl, rfl⟩)
    | (go_at_call 18; refine (refHas_any a n c ss s w7 _ (LL.out _ B7.out)).mono ?_; rintro e w8 ⟨rfl, rfl⟩)
    | (go_at_call 19; refine (place_any (some ⟨g, 0, none⟩) n _ ss s w7 _ (LI.out _ B7.out)).mono ?_; rintro e w8 ⟨rfl, rfl⟩)
    | (go_at_call 20; refine (refPlace_any a n c ss s w7 _ (LL.out _ B7.out)).mono ?_; rintro e w8 ⟨rfl, rfl⟩)
    | (go_at_call 21; refine (once_any (some ⟨g, 0, none⟩) n _ ss w7 (LI.out _ B7.out)).mono ?_
       rintro e w9 ⟨rfl, hb⟩
       have B59 := Lib.hid (B57.out.trans (hb.mono B57.out.size))
       have B9 := Lib.hid (B7.out.trans (hb.mono B7.out.size))
       have hcell := (B9.out.cell (p := ⟨g, n, none⟩) hg).trans HCE.out
       clear hb)
    | (go_at_call 22; refine (refOnce_any a n c ss w9 _ hnc (LL.out _ B9.out)).mono ?_; rintro e w10 ⟨rfl, q, rfl⟩)
    | (go_at_call 23
       refine (same_both (by exact (HS45.out.below B59.out).drewN q) (by exact (HS5.out.below B59.out).drewN q)).mono ?_
       rintro e w11 ⟨rfl, q2, rfl⟩)
    | (go_at_call 23
       refine (same_both (by exact (LI.out _ B9.out).drewN _) (by exact (LL.out _ B9.out).drewN _)).mono ?_
       rintro e w12 ⟨rfl, q3, rfl⟩)
    | fail)
  go_ret
  have X := B2.out.trans (B9.out.mono B2.out.size)
  exact ⟨ret_bool (by rw [lit_list [114, 111, 111, 109] roomB rfl]; rfl), by first | exact bel_drewN X _ | exact bel_drewN (bel_drewN X _) _ | exact bel_drewN (bel_drewN (bel_drewN X _) _) _⟩
end Go.Proofs.YthgihoeeppincaaDoor
