/- Contracts of the reference's put and Put. -/
import Derived.Test.YthgihoeeppincaaDoorNmRefA
namespace Go.Proofs.YthgihoeeppincaaDoor
open Go.RowKit Go.Sort

theorem putS_in {ss : List Str} {s : Str} (h : Rises ss) (hs : s ∈ ss) : putS ss s = ss :=
  putS_only h (fun x => ⟨fun hx => .inl hx, fun hx => by
    rcases hx with hx | hx
    · exact hx
    · rw [hx]; exact hs⟩)
theorem putS_at {ss : List Str} {s : Str} {k : Nat} (h : Rises ss) (hk : k ≤ ss.length) (hlo : ∀ j, j < k → ss.getD j [] < s) (hhi : ∀ (hkk : k < ss.length), s < ss[k]) : putS ss s = ss.take k ++ [s] ++ ss.drop k := by
  have htl : ∀ x ∈ ss.take k, x < s := fun x hx => by
    obtain ⟨j, hj, rfl⟩ := List.getElem_of_mem hx
    rw [List.length_take] at hj
    have := hlo j (by omega)
    rw [List.getD_eq_getElem?_getD, List.getElem?_eq_getElem (by omega)] at this
    simpa using this
  have hdl : ∀ x ∈ ss.drop k, s < x := fun x hx => by
    obtain ⟨j, hj, rfl⟩ := List.getElem_of_mem hx
    rw [List.length_drop] at hj
    rw [List.getElem_drop]
    have h0 := hhi (by omega)
    rcases Nat.eq_zero_or_pos j with e | e
    · subst e; exact h0
    · exact List.lt_trans h0 (List.pairwise_iff_getElem.1 h k (k + j) (by omega) (by omega) (by omega))
  refine putS_only ?_ (fun x => ?_)
  · unfold Rises
    rw [List.append_assoc, List.pairwise_append, List.pairwise_append]
    refine ⟨h.sublist (List.take_sublist _ _), ⟨by simp, h.sublist (List.drop_sublist _ _), fun x hx y hy => ?_⟩, fun x hx y hy => ?_⟩
    · rw [List.mem_singleton] at hx; rw [hx]; exact hdl y hy
    · rcases List.mem_append.1 hy with hy | hy
      · rw [List.mem_singleton] at hy; rw [hy]; exact htl x hx
      · exact List.lt_trans (htl x hx) (hdl y hy)
  · have hm : x ∈ ss ↔ x ∈ ss.take k ∨ x ∈ ss.drop k := by rw [← List.mem_append, List.take_append_drop]
    rw [hm]
    simp only [List.mem_append, List.mem_singleton]
    constructor
    · rintro ((h1 | h1) | h1)
      · exact .inl (.inl h1)
      · exact .inr h1
      · exact .inl (.inr h1)
    · rintro ((h1 | h1) | h1)
      · exact .inl (.inl h1)
      · exact .inr h1
      · exact .inl (.inr h1)

/-- From what the three appends leave to the contract. -/
theorem put_done {w w3 : World} {b off n k : Nat} {ss : List Str} {s : ByteArray} {v3 : Value} (hs : s.size ≤ maxLen) (hp : putS ss s.toList = ss.take k ++ [s.toList] ++ ss.drop k) (h : Strs w w.heap.size (some ⟨b, off, none⟩) n ss) (hk : k ≤ n) (hn : n ≤ 1000) {mm : Nat} {tt : List Str} (hmm : mm = n - k) (htt : tt = ss.drop k)
    (hown : w3.ownsRow w.heap.size 9 1 v3 (0 + k + 1 + mm) (([] ++ ss.take k ++ [s.toList] ++ tt).map encStr)) (hb : Below w.heap.size w w3) :
    ∃ b1 o1 m c1, Ending.returned v3 = .returned (.slice (some ⟨b1, o1, none⟩) m c1) ∧ Strs w3 w3.heap.size (some ⟨b1, o1, none⟩) m (putS ss s.toList) ∧ m ≤ c1 ∧ c1 ≤ maxLen ∧ Below w.heap.size w w3 := by
  subst hmm htt
  rw [List.nil_append, ← hp] at hown
  have hmx : ∀ x ∈ putS ss s.toList, x.length ≤ maxLen := fun x hx => by
    rw [mem_putS] at hx
    rcases hx with hx | hx
    · exact h.max x hx
    · rw [hx, len_toList]; exact hs
  rcases hown.2 with ⟨_, h0⟩ | ⟨g, cap, cur, rfl, _, _, hcap, hmax, _⟩
  · omega
  obtain ⟨a1, c1, e, hst, hle, _⟩ := Strs.of_own hown (by omega) hmx
  injection e with e1 e2 e3
  subst e1 e3
  exact ⟨g, 0, _, cap, rfl, hst, hcap, hmax, hb⟩

set_option maxHeartbeats 1000000 in
theorem refput_any (b off n c : Nat) (ss : List Str) (s : ByteArray) (w : World) (h0 : 0 < n) (hn : n ≤ 1000) (hnc : n ≤ c) (hc : c ≤ maxLen) (hs : s.size ≤ maxLen) (hr : Rises ss) (h : Strs w w.heap.size (some ⟨b, off, none⟩) n ss) :
    Calls Tryd.prog 26 #[.slice (some ⟨b, off, none⟩) n c, .string s] w fun e w' =>
      ∃ b1 o1 m c1, e = .returned (.slice (some ⟨b1, o1, none⟩) m c1) ∧ Strs w' w'.heap.size (some ⟨b1, o1, none⟩) m (putS ss s.toList) ∧ m ≤ c1 ∧ c1 ≤ maxLen ∧ Below w.heap.size w w' := by
  have hsn := h.2.1
  have H := Lib.hid h
  have HL := Lib.hid h.1
  have HRI := Lib.hid hr
  have hcm : c ≤ 9223372036854775807 := by unfold maxLen at hc; omega
  have HC := Lib.hid hc
  have HSM := Lib.hid hs
  clear h hr hc hs
  go_enter Tryd.func26, Tryd.ntmps26
  go_wp2
  go_loop [5] (fun i => ∃ k : Nat, k ≤ n ∧ i = .int .i64 k ∧ Hid (∀ j, j < k → ss.getD j [] < s.toList)) (fun i => n - (intOf i).toNat)
  case atStart => exact ⟨0, Nat.zero_le _, rfl, Lib.hid (fun j hj => absurd hj (Nat.not_lt_zero _))⟩
  case round =>
    obtain ⟨k, hk, rfl, hpre⟩ := hrel
    by_cases hlt : k < n
    · have hkk : k < ss.length := by rw [HL.out]; exact hlt
      obtain ⟨b2, o2, e2, hb2, hc2⟩ := H.out.at_ hlt
      obtain ⟨rfl, rfl⟩ : b = b2 ∧ off = o2 := by injection e2 with e2; injection e2 with e3 e4; exact ⟨e3, e4⟩
      clear e2
      obtain ⟨y, hy⟩ : ∃ y, y = baS (ss.getD k []) := ⟨_, rfl⟩
      replace hc2 : w.cell? { block := b, off := off + k } = some (Value.string y) := by rw [hy]; exact hc2
      have ey : y.toList = ss.getD k [] := by rw [hy, baS_toList]
      clear hy
      cases hls : Op.bytesLess y.toList s.toList
      · have hge : ¬ ss.getD k [] < s.toList := by
          rw [bytesLess_eq, decide_eq_false_iff_not, ey] at hls
          exact hls
        have hgk : ss.getD k [] = ss[k] := by rw [List.getD_eq_getElem?_getD, List.getElem?_eq_getElem hkk]; rfl
        cases hye : (y.toList == s.toList)
        · have hhi : ∀ (hkk : k < ss.length), s.toList < ss[k] := fun hkk => by
            rw [← hgk]
            exact lt_of (List.not_lt.1 hge) (fun e => by rw [ey, ← e] at hye; simp at hye)
          have HP := Lib.hid (putS_at HRI.out (Nat.le_of_lt hkk) hpre.out hhi)
          clear ey hkk hge hgk hhi
          have hkc : (k : Int) ≤ (c : Int) := by omega
          have hcd : Strs w w.heap.size (if c = k then some ⟨b, off, none⟩ else (some ⟨b, off, none⟩ : Option Addr).map (·.add k)) (n - k) (ss.drop k) := H.out.drop hk hnc
          rw [if_neg (by omega), Option.map_some, Go.WideShapes.add_plain] at hcd
          have HCD := Lib.hid hcd
          clear hcd
          go_wp2_with (first
            | (at_builtin
               refine wpList_append_strs _ rfl (.const (.slice none 0 0)) (.tmp 36) _ rfl w.heap.size 9 Tryd.underlying22 info9 _ 0 [] rfl (World.ownsRow_nil _ _ _ _) w.heap.size _ k _ (ss.take k) rfl (H.out.cut hk) (by omega) (Nat.le_refl _) ?_
               intro v1 w1 own1 gr1 at1
               replace gr1 : w.grownBy w1 (Value.slice none 0 0).ownBlock := gr1
               have O1 := Lib.hid own1
               have B1 := Lib.hid ((Below.refl w.heap.size w).grown gr1 (Nat.le_refl _) (fun j hj => by simp [Value.ownBlock] at hj))
               clear own1 gr1 at1)
            | (at_builtin
               refine wpList_append_strs _ rfl (.tmp 38) (.tmp 40) _ rfl w.heap.size 9 Tryd.underlying22 info9 v1 (0 + k) ([] ++ ss.take k) rfl (O1.out.alloc _) _ _ 1 1 [s.toList] rfl (strs_one w1 s HSM.out) (by omega) (by have := B1.out.size; simp; omega) ?_
               intro v2 w2 own2 gr2 at2
               have O2 := Lib.hid own2
               have B2 := Lib.hid ((B1.out.alloc B1.out.size _).grown gr2 (by have := B1.out.size; simp; omega) (fun j hj => (O1.out.lt j hj).1))
               clear own2 gr2 at2)
            | (at_builtin
               refine wpList_append_strs _ rfl (.tmp 42) (.tmp 45) _ rfl w.heap.size 9 Tryd.underlying22 info9 v2 (0 + k + 1) ([] ++ ss.take k ++ [s.toList]) rfl O2.out w.heap.size _ (n - k) _ (ss.drop k) rfl (HCD.out.below B2.out) (by omega) B2.out.size ?_
               intro v3 w3 own3 gr3 at3
               have O3 := Lib.hid own3
               have B3 := Lib.hid (B2.out.grown gr3 B2.out.size (fun j hj => (O2.out.lt j hj).1))
               clear own3 gr3 at3))
          go_ret
          exact put_done HSM.out HP.out H.out hk hn rfl rfl O3.out B3.out
        · have HP := Lib.hid (putS_in HRI.out (show s.toList ∈ ss by
            have : y.toList = s.toList := by simpa using hye
            rw [← this, ey, hgk]; exact List.getElem_mem hkk))
          clear ey hkk hge hgk
          go_wp2
          go_ret
          rw [HP.out]
          exact ⟨b, off, n, c, rfl, H.out, hnc, HC.out, Below.refl _ _⟩
      · have hmore := Lib.hid (show ∀ j, j < k + 1 → ss.getD j [] < s.toList from fun j hj => by
          rcases Nat.lt_or_ge j k with hjk | hjk
          · exact hpre.out j hjk
          · obtain rfl : j = k := by omega
            rw [bytesLess_eq, decide_eq_true_eq, ey] at hls
            exact hls)
        clear ey hkk
        go_wp2
        go_round
        case rel => exact ⟨k + 1, by omega, by go_num, hmore⟩
        case measure => simp [intOf]; omega
    · have hkn : k = n := by omega
      have hkl : k = ss.length := by rw [HL.out]; exact hkn
      have HP := Lib.hid (putS_at HRI.out (Nat.le_of_eq hkl) hpre.out (fun hkk => by omega))
      have HDR := Lib.hid (show ss.drop k = [] from List.drop_of_length_le (Nat.le_of_eq hkl.symm))
      clear hkl
      have hkc : (k : Int) ≤ (c : Int) := by omega
      have hge : n ≤ k := by omega
      have HKN := Lib.hid hkn
      clear hkn
      by_cases hck : c = k
      · go_wp2_with (first
          | (at_builtin
             refine wpList_append_strs _ rfl (.const (.slice none 0 0)) (.tmp 36) _ rfl w.heap.size 9 Tryd.underlying22 info9 _ 0 [] rfl (World.ownsRow_nil _ _ _ _) w.heap.size _ k _ (ss.take k) rfl (H.out.cut hk) (by omega) (Nat.le_refl _) ?_
             intro v1 w1 own1 gr1 at1
             replace gr1 : w.grownBy w1 (Value.slice none 0 0).ownBlock := gr1
             have O1 := Lib.hid own1
             have B1 := Lib.hid ((Below.refl w.heap.size w).grown gr1 (Nat.le_refl _) (fun j hj => by simp [Value.ownBlock] at hj))
             clear own1 gr1 at1)
          | (at_builtin
             refine wpList_append_strs _ rfl (.tmp 38) (.tmp 40) _ rfl w.heap.size 9 Tryd.underlying22 info9 v1 (0 + k) ([] ++ ss.take k) rfl (O1.out.alloc _) _ _ 1 1 [s.toList] rfl (strs_one w1 s HSM.out) (by omega) (by have := B1.out.size; simp; omega) ?_
             intro v2 w2 own2 gr2 at2
             have O2 := Lib.hid own2
             have B2 := Lib.hid ((B1.out.alloc B1.out.size _).grown gr2 (by have := B1.out.size; simp; omega) (fun j hj => (O1.out.lt j hj).1))
             clear own2 gr2 at2)
          | (at_builtin
             refine wpList_append_strs _ rfl (.tmp 42) (.tmp 45) _ rfl w.heap.size 9 Tryd.underlying22 info9 v2 (0 + k + 1) ([] ++ ss.take k ++ [s.toList]) rfl O2.out w.heap.size _ 0 _ [] rfl (Strs.zero _ _ _) (by omega) B2.out.size ?_
             intro v3 w3 own3 gr3 at3
             have O3 := Lib.hid own3
             have B3 := Lib.hid (B2.out.grown gr3 B2.out.size (fun j hj => (O2.out.lt j hj).1))
             clear own3 gr3 at3))
        go_ret
        exact put_done HSM.out HP.out H.out hk hn (by omega) HDR.out.symm O3.out B3.out
      · go_wp2_with (first
          | (at_builtin
             refine wpList_append_strs _ rfl (.const (.slice none 0 0)) (.tmp 36) _ rfl w.heap.size 9 Tryd.underlying22 info9 _ 0 [] rfl (World.ownsRow_nil _ _ _ _) w.heap.size _ k _ (ss.take k) rfl (H.out.cut hk) (by omega) (Nat.le_refl _) ?_
             intro v1 w1 own1 gr1 at1
             replace gr1 : w.grownBy w1 (Value.slice none 0 0).ownBlock := gr1
             have O1 := Lib.hid own1
             have B1 := Lib.hid ((Below.refl w.heap.size w).grown gr1 (Nat.le_refl _) (fun j hj => by simp [Value.ownBlock] at hj))
             clear own1 gr1 at1)
          | (at_builtin
             refine wpList_append_strs _ rfl (.tmp 38) (.tmp 40) _ rfl w.heap.size 9 Tryd.underlying22 info9 v1 (0 + k) ([] ++ ss.take k) rfl (O1.out.alloc _) _ _ 1 1 [s.toList] rfl (strs_one w1 s HSM.out) (by omega) (by have := B1.out.size; simp; omega) ?_
             intro v2 w2 own2 gr2 at2
             have O2 := Lib.hid own2
             have B2 := Lib.hid ((B1.out.alloc B1.out.size _).grown gr2 (by have := B1.out.size; simp; omega) (fun j hj => (O1.out.lt j hj).1))
             clear own2 gr2 at2)
          | (at_builtin
             refine wpList_append_strs _ rfl (.tmp 42) (.tmp 45) _ rfl w.heap.size 9 Tryd.underlying22 info9 v2 (0 + k + 1) ([] ++ ss.take k ++ [s.toList]) rfl O2.out w.heap.size _ 0 _ [] rfl (Strs.zero _ _ _) (by omega) B2.out.size ?_
             intro v3 w3 own3 gr3 at3
             have O3 := Lib.hid own3
             have B3 := Lib.hid (B2.out.grown gr3 B2.out.size (fun j hj => (O2.out.lt j hj).1))
             clear own3 gr3 at3))
        go_ret
        exact put_done HSM.out HP.out H.out hk hn (by omega) HDR.out.symm O3.out B3.out
end Go.Proofs.YthgihoeeppincaaDoor
