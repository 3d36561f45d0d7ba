/- Contracts of reparteemake's Protocol by the first number's rest, and of the statements' protocol where that is 1 or 3. -/
import Derived.Test.YtcjanipjgjgjpaaGlFirsts
import Derived.Test.YtcjanipjgjgjpaaGlRounds
namespace Go.Proofs.Ytcjanipjgjgjpaa
open Go.RowKit

/-- How many roles there are, by the first pick. -/
def manyBy (k many : Nat) : Prop := (k = 0 ∧ many = 2) ∨ (k = 1 ∧ 2 ≤ many ∧ many ≤ 4) ∨ (k = 2 ∧ many = 3) ∨ (k = 3 ∧ many = 3)
theorem manyBy.range {k many : Nat} (h : manyBy k many) : 2 ≤ many ∧ many ≤ 4 := by
  rcases h with h | h | h | h <;> omega
set_option maxHeartbeats 16000000 in
set_option maxRecDepth 20000 in
theorem protBy_any (g : Nat) (nm : ByteArray) (S : Nat → Prop) (w : World) (hgl : g < w.heap.size)
    (CP : ∀ W : World, Below w.heap.size w W → Calls Try.prog 46 #[.pointer (some ⟨g, 0, none⟩), .int .i64 4] W fun e w' => (∃ k : Nat, k < 4 ∧ S k ∧ e = .returned (.int .i64 (k : Int))) ∧ Dice w' g ∧ Beside g W w') :
    Calls Try.prog 26 #[.pointer (some ⟨g, 0, none⟩), .string nm, .slice none 0 0] w fun e w' => (∃ k many, S k ∧ manyBy k many ∧ ProtRet nm many w e w') ∧ Beside g w w' := by
  have HB0 := Lib.hid (tu1 w (.cells #[.string ⟨#[]⟩, .slice none 0 0, .slice none 0 0] 27))
  have HR0 := Lib.hid (PBox.new w ⟨#[]⟩ none 0 0 none 0 0)
  have CP1 := Lib.hid (CP _ HB0.out)
  have CP3 := Lib.hid (fun (W : World) (h : Dice W g) => pick_at g 3 3 W rfl h (by omega) (by omega))
  have CA2 := Lib.hid (fun (W : World) (h : Dice W g) => show Calls Try.prog 47 #[.pointer (some ⟨g, 0, none⟩), .string nm, .int .i64 2, .slice none 0 0] W fun e w' => ProtRet nm 2 W e w' ∧ Beside g W w' from any_any g nm 2 (by omega) (by omega) W h)
  have CA3 := Lib.hid (fun (W : World) (h : Dice W g) => show Calls Try.prog 47 #[.pointer (some ⟨g, 0, none⟩), .string nm, .int .i64 3, .slice none 0 0] W fun e w' => ProtRet nm 3 W e w' ∧ Beside g W w' from any_any g nm 3 (by omega) (by omega) W h)
  have CN3 := Lib.hid (fun (W : World) (h : Dice W g) => show Calls Try.prog 48 #[.pointer (some ⟨g, 0, none⟩), .string nm, .int .i64 3, .slice none 0 0] W fun e w' => ProtRet nm 3 W e w' ∧ Beside g W w' from rounds_any g nm 3 (by omega) (by omega) W h)
  have CNm := Lib.hid (fun (k2 m : Nat) (hm : m = 2 + k2) (h4 : m ≤ 4) (W : World) (h : Dice W g) => show Calls Try.prog 48 #[.pointer (some ⟨g, 0, none⟩), .string nm, .int .i64 (2 + (k2 : Int)), .slice none 0 0] W fun e w' => ProtRet nm m W e w' ∧ Beside g W w' from by
    have := rounds_any g nm m (by omega) h4 W h
    rwa [show ((m : Nat) : Int) = 2 + (k2 : Int) by omega] at this)
  clear CP
  go_enter Try.func26, Try.ntmps26
  go_upto_region 2 with (first
    | (go_at_call 46; (with_reducible refine CP1.out.mono ?_)
       rintro e w1 ⟨⟨k, hk, hS, rfl⟩, hd1, hb1⟩
       have HSK := Lib.hid hS
       have HD1 := Lib.hid hd1
       have HB1 := Lib.hid (hb1.cut HB0.out)
       have HR1 := Lib.hid (HR0.out.beside hb1 (by omega))
       clear hd1 hb1 hS)
    | fail)
  have hk4 : k = 0 ∨ k = 1 ∨ k = 2 ∨ k = 3 := by omega
  clear hk
  rcases hk4 with rfl | rfl | rfl | rfl
  · go_wp2_with (first
    | (go_at_call 47; (with_reducible refine (CA2.out _ HD1.out).mono ?_)
       rintro e w2 ⟨⟨ra, rc, sa, sn, sc, ps, rfl, hm, hr, hl, hok, h2, h9⟩, hb2⟩
       have HM := Lib.hid hm
       have HRo := Lib.hid hr
       have HB2 := Lib.hid (HB1.out.trans hb2)
       have HR2 := Lib.hid (HR1.out.beside hb2 (by omega))
       have HE := Lib.hid (show ps.length = sn ∧ (∀ x ∈ ps, pointB (rolesL 2) ps.length x = true) ∧ 2 ≤ ps.length ∧ ps.length ≤ 9 from ⟨hl, hok, h2, h9⟩)
       obtain ⟨rc0, rc1, rc2⟩ := HR2.out.cells
       have zf0 := HR2.out.thaw 0
       have zf1 := HR2.out.thaw 1
       have zf2 := HR2.out.thaw 2
       clear hm hr hl hok h2 h9 hb2)
    | fail)
    refine bodyPost_ret (v := .agg #[.string nm, .slice ra 2 rc, .slice sa sn sc]) (by simp [results, go_sem, rc0, rc1, rc2]) rfl ?_
    have hz := HR1.out.lt
    have hbs := (((Beside.refl w.heap.size w2).setCell 0 (.string nm)).setCell 1 (.slice ra 2 rc)).setCell 2 (.slice sa sn sc)
    have hbl : Below w.heap.size w2 (((w2.setCell ⟨w.heap.size, 0, none⟩ (.string nm)).setCell ⟨w.heap.size, 1, none⟩ (.slice ra 2 rc)).setCell ⟨w.heap.size, 2, none⟩ (.slice sa sn sc)) := (((Below.refl w.heap.size w2).setCell (Nat.le_refl _) _).setCell (Nat.le_refl _) _).setCell (Nat.le_refl _) _
    refine ⟨⟨0, 2, HSK.out, .inl ⟨rfl, rfl⟩, ra, rc, sa, sn, sc, ps, rfl, ?_, ?_, HE.out.1, HE.out.2.1, HE.out.2.2.1, HE.out.2.2.2⟩, bes_below HB2.out hbl (Nat.le_refl _)⟩
    · have hm := (HM.out.beside hbs (by omega)).top (Nat.le_refl _)
      exact hm.low (by omega)
    · exact (HRo.out.beside hbs (by omega)).low (by omega)
  · go_wp2_with (first
    | (go_at_call 46; (with_reducible refine (CP3.out _ HD1.out).mono ?_)
       rintro e w5 ⟨⟨k2, hk2, rfl⟩, hd5, hb5⟩
       obtain ⟨m9, hm9⟩ : ∃ m9, m9 = 2 + k2 := ⟨_, rfl⟩
       have HM9 := Lib.hid (show 2 ≤ m9 ∧ m9 ≤ 4 from ⟨by omega, by omega⟩)
       have HK9 := Lib.hid hm9
       have HD5 := Lib.hid hd5
       have HB5 := Lib.hid (HB1.out.trans hb5)
       have HR5 := Lib.hid (HR1.out.beside hb5 (by omega))
       clear hd5 hb5 hm9)
    | (go_at_call 48; (with_reducible refine (CNm.out k2 m9 HK9.out HM9.out.2 _ HD5.out).mono ?_)
       rintro e w2 ⟨⟨ra, rc, sa, sn, sc, ps, rfl, hm, hr, hl, hok, h2, h9⟩, hb2⟩
       have HM := Lib.hid hm
       have HRo := Lib.hid hr
       have HB2 := Lib.hid (HB5.out.trans hb2)
       have HR2 := Lib.hid (HR5.out.beside hb2 (by omega))
       have HE := Lib.hid (show ps.length = sn ∧ (∀ x ∈ ps, pointB (rolesL m9) ps.length x = true) ∧ 2 ≤ ps.length ∧ ps.length ≤ 9 from ⟨hl, hok, h2, h9⟩)
       obtain ⟨rc0, rc1, rc2⟩ := HR2.out.cells
       have zf0 := HR2.out.thaw 0
       have zf1 := HR2.out.thaw 1
       have zf2 := HR2.out.thaw 2
       clear hm hr hl hok h2 h9 hb2)
    | fail)
    refine bodyPost_ret (v := .agg #[.string nm, .slice ra m9 rc, .slice sa sn sc]) (by simp [results, go_sem, rc0, rc1, rc2]) rfl ?_
    have hz := HR5.out.lt
    have hbs := (((Beside.refl w.heap.size w2).setCell 0 (.string nm)).setCell 1 (.slice ra m9 rc)).setCell 2 (.slice sa sn sc)
    have hbl : Below w.heap.size w2 (((w2.setCell ⟨w.heap.size, 0, none⟩ (.string nm)).setCell ⟨w.heap.size, 1, none⟩ (.slice ra m9 rc)).setCell ⟨w.heap.size, 2, none⟩ (.slice sa sn sc)) := (((Below.refl w.heap.size w2).setCell (Nat.le_refl _) _).setCell (Nat.le_refl _) _).setCell (Nat.le_refl _) _
    refine ⟨⟨1, m9, HSK.out, .inr (.inl ⟨rfl, HM9.out⟩), ra, rc, sa, sn, sc, ps, rfl, ?_, ?_, HE.out.1, HE.out.2.1, HE.out.2.2.1, HE.out.2.2.2⟩, bes_below HB2.out hbl (Nat.le_refl _)⟩
    · have hm := (HM.out.beside hbs (by omega)).top (Nat.le_refl _)
      exact hm.low (by omega)
    · exact (HRo.out.beside hbs (by omega)).low (by omega)
  · go_wp2_with (first
    | (go_at_call 47; (with_reducible refine (CA3.out _ HD1.out).mono ?_)
       rintro e w2 ⟨⟨ra, rc, sa, sn, sc, ps, rfl, hm, hr, hl, hok, h2, h9⟩, hb2⟩
       have HM := Lib.hid hm
       have HRo := Lib.hid hr
       have HB2 := Lib.hid (HB1.out.trans hb2)
       have HR2 := Lib.hid (HR1.out.beside hb2 (by omega))
       have HE := Lib.hid (show ps.length = sn ∧ (∀ x ∈ ps, pointB (rolesL 3) ps.length x = true) ∧ 2 ≤ ps.length ∧ ps.length ≤ 9 from ⟨hl, hok, h2, h9⟩)
       obtain ⟨rc0, rc1, rc2⟩ := HR2.out.cells
       have zf0 := HR2.out.thaw 0
       have zf1 := HR2.out.thaw 1
       have zf2 := HR2.out.thaw 2
       clear hm hr hl hok h2 h9 hb2)
    | fail)
    refine bodyPost_ret (v := .agg #[.string nm, .slice ra 3 rc, .slice sa sn sc]) (by simp [results, go_sem, rc0, rc1, rc2]) rfl ?_
    have hz := HR1.out.lt
    have hbs := (((Beside.refl w.heap.size w2).setCell 0 (.string nm)).setCell 1 (.slice ra 3 rc)).setCell 2 (.slice sa sn sc)
    have hbl : Below w.heap.size w2 (((w2.setCell ⟨w.heap.size, 0, none⟩ (.string nm)).setCell ⟨w.heap.size, 1, none⟩ (.slice ra 3 rc)).setCell ⟨w.heap.size, 2, none⟩ (.slice sa sn sc)) := (((Below.refl w.heap.size w2).setCell (Nat.le_refl _) _).setCell (Nat.le_refl _) _).setCell (Nat.le_refl _) _
    refine ⟨⟨2, 3, HSK.out, .inr (.inr (.inl ⟨rfl, rfl⟩)), ra, rc, sa, sn, sc, ps, rfl, ?_, ?_, HE.out.1, HE.out.2.1, HE.out.2.2.1, HE.out.2.2.2⟩, bes_below HB2.out hbl (Nat.le_refl _)⟩
    · have hm := (HM.out.beside hbs (by omega)).top (Nat.le_refl _)
      exact hm.low (by omega)
    · exact (HRo.out.beside hbs (by omega)).low (by omega)
  · go_wp2_with (first
    | (go_at_call 48; (with_reducible refine (CN3.out _ HD1.out).mono ?_)
       rintro e w2 ⟨⟨ra, rc, sa, sn, sc, ps, rfl, hm, hr, hl, hok, h2, h9⟩, hb2⟩
       have HM := Lib.hid hm
       have HRo := Lib.hid hr
       have HB2 := Lib.hid (HB1.out.trans hb2)
       have HR2 := Lib.hid (HR1.out.beside hb2 (by omega))
       have HE := Lib.hid (show ps.length = sn ∧ (∀ x ∈ ps, pointB (rolesL 3) ps.length x = true) ∧ 2 ≤ ps.length ∧ ps.length ≤ 9 from ⟨hl, hok, h2, h9⟩)
       obtain ⟨rc0, rc1, rc2⟩ := HR2.out.cells
       have zf0 := HR2.out.thaw 0
       have zf1 := HR2.out.thaw 1
       have zf2 := HR2.out.thaw 2
       clear hm hr hl hok h2 h9 hb2)
    | fail)
    refine bodyPost_ret (v := .agg #[.string nm, .slice ra 3 rc, .slice sa sn sc]) (by simp [results, go_sem, rc0, rc1, rc2]) rfl ?_
    have hz := HR1.out.lt
    have hbs := (((Beside.refl w.heap.size w2).setCell 0 (.string nm)).setCell 1 (.slice ra 3 rc)).setCell 2 (.slice sa sn sc)
    have hbl : Below w.heap.size w2 (((w2.setCell ⟨w.heap.size, 0, none⟩ (.string nm)).setCell ⟨w.heap.size, 1, none⟩ (.slice ra 3 rc)).setCell ⟨w.heap.size, 2, none⟩ (.slice sa sn sc)) := (((Below.refl w.heap.size w2).setCell (Nat.le_refl _) _).setCell (Nat.le_refl _) _).setCell (Nat.le_refl _) _
    refine ⟨⟨3, 3, HSK.out, .inr (.inr (.inr ⟨rfl, rfl⟩)), ra, rc, sa, sn, sc, ps, rfl, ?_, ?_, HE.out.1, HE.out.2.1, HE.out.2.2.1, HE.out.2.2.2⟩, bes_below HB2.out hbl (Nat.le_refl _)⟩
    · have hm := (HM.out.beside hbs (by omega)).top (Nat.le_refl _)
      exact hm.low (by omega)
    · exact (HRo.out.beside hbs (by omega)).low (by omega)
theorem protX_any (g : Nat) (x : Nat) (hx : x < 4) (nm : ByteArray) (w : World) (hD : DiceX w g (x : Int)) :
    Calls Try.prog 26 #[.pointer (some ⟨g, 0, none⟩), .string nm, .slice none 0 0] w fun e w' => (∃ many, manyBy x many ∧ ProtRet nm many w e w') ∧ Beside g w w' :=
  (protBy_any g nm (fun k => k = x) w hD.lt (fun W hW => (pickX_any g x hx W (hD.on hW)).mono fun e w' h => ⟨⟨x, hx, rfl, h.1⟩, h.2⟩)).mono fun e w' h => by
    obtain ⟨⟨k, many, rfl, hm, hr⟩, hb⟩ := h
    exact ⟨⟨many, hm, hr⟩, hb⟩
theorem law3_any (xa xb : Option Addr) (a : Option Addr) (n c : Nat) (l : List Int) (w : World) (h : Nums w w.heap.size a n (3 :: l)) (hlim : n * 8 ≤ 140737488355328) :
    Calls Try.prog 9 #[.agg #[.string ⟨#[112]⟩, .slice xa 3 3, .slice xb 2 2], .slice a n c] w fun e w' => ProtIn (fun m => 2 ≤ m ∧ m ≤ 4) ⟨#[112]⟩ w e w' ∧ Below w.heap.size w w' :=
  lawProt_any (fun m => 2 ≤ m ∧ m ≤ 4) 3 (fun W g hD => (protX_any g 3 (by omega) ⟨#[112]⟩ W hD).mono fun _ _ h => by
    obtain ⟨⟨many, hm, hr⟩, hb⟩ := h
    exact ⟨⟨many, hm.range, hr⟩, hb⟩) _ ⟨#[112]⟩ xa 3 3 xb 2 2 rfl a n c l w w.heap.size (Nat.le_refl _) h hlim
theorem law1_any (xa xb : Option Addr) (a : Option Addr) (n c : Nat) (l : List Int) (w : World) (h : Nums w w.heap.size a n (1 :: l)) (hlim : n * 8 ≤ 140737488355328) :
    Calls Try.prog 9 #[.agg #[.string ⟨#[112]⟩, .slice xa 3 3, .slice xb 2 2], .slice a n c] w fun e w' => ProtIn (fun m => 2 ≤ m ∧ m ≤ 4) ⟨#[112]⟩ w e w' ∧ Below w.heap.size w w' :=
  lawProt_any (fun m => 2 ≤ m ∧ m ≤ 4) 1 (fun W g hD => (protX_any g 1 (by omega) ⟨#[112]⟩ W hD).mono fun _ _ h => by
    obtain ⟨⟨many, hm, hr⟩, hb⟩ := h
    exact ⟨⟨many, hm.range, hr⟩, hb⟩) _ ⟨#[112]⟩ xa 3 3 xb 2 2 rfl a n c l w w.heap.size (Nat.le_refl _) h hlim
end Go.Proofs.Ytcjanipjgjgjpaa
