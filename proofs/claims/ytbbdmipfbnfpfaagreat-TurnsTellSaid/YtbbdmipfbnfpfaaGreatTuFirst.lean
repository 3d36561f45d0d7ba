/- Contract of the statements' first: the chapter's example comes out as it says. -/
import Derived.Test.YtbbdmipfbnfpfaaGreatTuTrimO
import Derived.Test.YtbbdmipfbnfpfaaGreatTuSame
import Derived.Deep.RegionHeld3
namespace Go.Proofs.YtbbdmipfbnfpfaaGreat
open Go.RowKit

def exA : List ArmL := [⟨[121], 1, [], 2⟩, ⟨[120], 1, [], 0⟩]
def exT : List TurnL := [⟨2, [98], exA⟩, ⟨0, [], []⟩, ⟨0, [], []⟩]
def exB : List ArmL := [⟨[120], 1, [], 0⟩, ⟨[121], 1, [], 1⟩]
theorem exT_ok : locB exT = true := by decide
theorem exT_trim : trimT exT = [⟨2, [98], exB⟩, ⟨0, [], []⟩] := by rfl
theorem exT_trimL : trimL exT = [⟨2, [98], exB⟩, ⟨0, [], []⟩] := by unfold trimL; rw [exT_ok, exT_trim]; rfl
theorem str1 (c : UInt8) : (⟨#[c]⟩ : ByteArray).toList = [c] := by rw [ByteArray.toList_eq]
theorem str0 : (⟨#[]⟩ : ByteArray).toList = [] := by rw [ByteArray.toList_eq]
theorem small1 (c : UInt8) : (⟨#[c]⟩ : ByteArray).size ≤ maxLen := by simp [maxLen, ByteArray.size]
theorem small0 : (⟨#[]⟩ : ByteArray).size ≤ maxLen := by simp [maxLen, ByteArray.size]
/-- Two arms as they are laid. -/
theorem two_arms {W : World} {bound b : Nat} (hb : b < bound) (c c' : UInt8) (k k' n n' : Int) (h : W.heap[b]? = some (.cells #[.string ⟨#[c]⟩, .int .i64 k, .string ⟨#[]⟩, .int .i64 n, .string ⟨#[c']⟩, .int .i64 k', .string ⟨#[]⟩, .int .i64 n'] 41 (0, 0))) :
    Arms W bound (some ⟨b, 0, none⟩) 2 [⟨[c], k, [], n⟩, ⟨[c'], k', [], n'⟩] := by
  refine ⟨rfl, by omega, fun _ => ⟨b, 0, rfl, hb, fun j x hj => ?_⟩⟩
  have hj2 : j = 0 ∨ j = 1 := by
    have := (List.getElem?_eq_some_iff.1 hj).1
    simp at this
    omega
  rcases hj2 with rfl | rfl
  · obtain rfl := Option.some.inj hj
    exact ⟨⟨#[c]⟩, ⟨#[]⟩, ⟨by rw [cell_of_row _ _ _ _ _ _ h]; rfl, by rw [cell_of_row _ _ _ _ _ _ h]; rfl, by rw [cell_of_row _ _ _ _ _ _ h]; rfl, by rw [cell_of_row _ _ _ _ _ _ h]; rfl⟩, str1 c, str0, small1 c, small0⟩
  · obtain rfl := Option.some.inj hj
    exact ⟨⟨#[c']⟩, ⟨#[]⟩, ⟨by rw [cell_of_row _ _ _ _ _ _ h]; rfl, by rw [cell_of_row _ _ _ _ _ _ h]; rfl, by rw [cell_of_row _ _ _ _ _ _ h]; rfl, by rw [cell_of_row _ _ _ _ _ _ h]; rfl⟩, str1 c', str0, small1 c', small0⟩
def exO1 : Obj := .cells #[.int .i64 1, .string ⟨#[]⟩] 39
def exO2 : Obj := .cells #[.string ⟨#[121]⟩, .int .i64 1, .string ⟨#[]⟩, .int .i64 2, .string ⟨#[120]⟩, .int .i64 1, .string ⟨#[]⟩, .int .i64 0] 41
def exO3 (b : Nat) : Obj := .cells #[.int .i64 2, .string ⟨#[98]⟩, .slice (some ⟨b, 0, none⟩) 2 2, .int .i64 0, .string ⟨#[]⟩, .slice none 0 0, .int .i64 0, .string ⟨#[]⟩, .slice none 0 0] 44
theorem ex_turns (w : World) : Turns (((w.alloc exO1).alloc exO2).alloc (exO3 (w.heap.size + 1))) (((w.alloc exO1).alloc exO2).alloc (exO3 (w.heap.size + 1))).heap.size (some ⟨w.heap.size + 2, 0, none⟩) 3 exT := by
  have h3 := heap_alloc_new ((w.alloc exO1).alloc exO2) (exO3 (w.heap.size + 1))
  have h2 := (tu1 ((w.alloc exO1).alloc exO2) (exO3 (w.heap.size + 1))).block (w.heap.size + 1) (by simp)
  have h1 := heap_alloc_new (w.alloc exO1) exO2
  rw [World.size_alloc] at h1 h3
  have hA := two_arms (W := ((w.alloc exO1).alloc exO2).alloc (exO3 (w.heap.size + 1))) (bound := (((w.alloc exO1).alloc exO2).alloc (exO3 (w.heap.size + 1))).heap.size) (b := w.heap.size + 1) (by simp) 121 120 1 1 2 0 (h2.trans h1)
  have hs : ((w.alloc exO1).alloc exO2).heap.size = w.heap.size + 2 := by simp
  have h3 : (((w.alloc exO1).alloc exO2).alloc (exO3 (w.heap.size + 1))).heap[w.heap.size + 2]? = some (.cells #[.int .i64 2, .string ⟨#[98]⟩, .slice (some ⟨w.heap.size + 1, 0, none⟩) 2 2, .int .i64 0, .string ⟨#[]⟩, .slice none 0 0, .int .i64 0, .string ⟨#[]⟩, .slice none 0 0] 44 (0, 0)) := by
    have := heap_alloc_new ((w.alloc exO1).alloc exO2) (exO3 (w.heap.size + 1))
    rw [hs] at this
    exact this
  refine ⟨rfl, by omega, fun _ => ⟨w.heap.size + 2, 0, rfl, by simp, fun j x hj => ?_⟩⟩
  have hj2 : j = 0 ∨ j = 1 ∨ j = 2 := by
    have := (List.getElem?_eq_some_iff.1 hj).1
    simp [exT] at this
    omega
  rcases hj2 with rfl | rfl | rfl
  · obtain rfl := Option.some.inj hj
    exact ⟨⟨#[98]⟩, some ⟨w.heap.size + 1, 0, none⟩, 2, 2, ⟨by rw [cell_of_row _ _ _ _ _ _ h3]; rfl, by rw [cell_of_row _ _ _ _ _ _ h3]; rfl, by rw [cell_of_row _ _ _ _ _ _ h3]; rfl⟩, str1 98, small1 98, hA⟩
  · obtain rfl := Option.some.inj hj
    exact ⟨⟨#[]⟩, none, 0, 0, ⟨by rw [cell_of_row _ _ _ _ _ _ h3]; rfl, by rw [cell_of_row _ _ _ _ _ _ h3]; rfl, by rw [cell_of_row _ _ _ _ _ _ h3]; rfl⟩, str0, small0, Arms.zero _ _ _⟩
  · obtain rfl := Option.some.inj hj
    exact ⟨⟨#[]⟩, none, 0, 0, ⟨by rw [cell_of_row _ _ _ _ _ _ h3]; rfl, by rw [cell_of_row _ _ _ _ _ _ h3]; rfl, by rw [cell_of_row _ _ _ _ _ _ h3]; rfl⟩, str0, small0, Arms.zero _ _ _⟩
set_option maxHeartbeats 16000000 in
set_option maxRecDepth 20000 in
theorem tuFirst_any (w : World) : Calls Tryz.prog 4 #[] w fun e w' => e = .returned (.bool true) ∧ Below w.heap.size w w' := by
  obtain ⟨W3, hW3⟩ : ∃ W3, W3 = ((w.alloc exO1).alloc exO2).alloc (exO3 (w.heap.size + 1)) := ⟨_, rfl⟩
  have hs3 : W3.heap.size = w.heap.size + 3 := by rw [hW3]; simp
  have hB3 : Below w.heap.size w W3 := by rw [hW3]; exact below_on (below_on (tu1 w exO1) (tu1 _ exO2)) (tu1 _ _)
  have hbx : W3.heap[w.heap.size]? = some (.cells #[.int .i64 1, .string ⟨#[]⟩] 39 (0, 0)) := by
    rw [hW3]
    exact ((tu1 ((w.alloc exO1).alloc exO2) _).block w.heap.size (by simp; omega)).trans (((tu1 (w.alloc exO1) exO2).block w.heap.size (by simp)).trans (heap_alloc_new w exO1))
  have CT := Lib.hid (ownTrim_any ⟨#[116]⟩ (some ⟨w.heap.size + 2, 0, none⟩) 3 3 exT W3 W3.heap.size (Nat.le_refl _) (by rw [hW3]; exact ex_turns w))
  have hnm : trimName exT ⟨#[116]⟩ = ⟨#[116]⟩ := by unfold trimName; rw [exT_ok]; rfl
  rw [exT_trimL, hnm] at CT
  have HB3 := Lib.hid hB3
  have HBX := Lib.hid hbx
  have HS3 := Lib.hid hs3
  unfold exO1 exO2 exO3 at hW3
  subst hW3
  clear hB3 hbx hs3 hnm
  go_enter Tryz.func4, Tryz.ntmps4
  go_upto_region 3 with (first
    | (go_at_call 14; (with_reducible refine CT.out.mono ?_)
       rintro e w2 ⟨⟨ra, rn, rc, rfl, ht⟩, hb2⟩
       have HT := Lib.hid ht
       have HB2 := Lib.hid (below_on HB3.out hb2)
       have HX2 := Lib.hid ((hb2.block w.heap.size (by rw [HS3.out]; omega)).trans HBX.out)
       have hs2 : w.heap.size + 3 ≤ w2.heap.size := by have := hb2.size; have := HS3.out; omega
       clear ht hb2)
    | fail)
  have hrn : rn = 2 := HT.out.1.symm
  subst hrn
  obtain ⟨b, off, kd, s, aa, an, ac, l, rfl, hbb, ht, ⟨q0, q1, q2⟩, hs, hal⟩ := HT.out.at_ (k := 0) (by omega)
  obtain ⟨e1, e2, e3⟩ := TurnL.mk.inj (Option.some.inj ht)
  subst e3
  have hal2 : an = 2 := hal.1.symm
  subst hal2
  rw [Nat.zero_mul, Nat.add_zero] at q0 q1 q2
  have c0 : w2.cell? ⟨w.heap.size, 0, none⟩ = some (.int .i64 1) := by rw [cell_of_row _ _ _ _ _ _ HX2.out]; rfl
  have c1 : w2.cell? ⟨w.heap.size, 1, none⟩ = some (.string ⟨#[]⟩) := by rw [cell_of_row _ _ _ _ _ _ HX2.out]; rfl
  have z1 : w.heap.size < w2.heap.size := by omega
  obtain ⟨W4, hW4⟩ : ∃ W4, W4 = ((w2.alloc (.cells #[.string ⟨#[116]⟩, .slice (some ⟨b, off, none⟩) 2 rc] 24)).alloc (.cells #[.string ⟨#[120]⟩, .int .i64 1, .string ⟨#[]⟩, .int .i64 0, .string ⟨#[121]⟩, .int .i64 1, .string ⟨#[]⟩, .int .i64 1] 41)) := ⟨_, rfl⟩
  have hb24 : Below w2.heap.size w2 W4 := by rw [hW4]; exact below_on (tu1 w2 _) (tu1 _ _)
  have HA4 := Lib.hid ((hal.on hb24))
  have HE4 := Lib.hid (show Arms W4 W4.heap.size (some ⟨w2.heap.size + 1, 0, none⟩) 2 exB by
    refine two_arms (b := w2.heap.size + 1) (by rw [hW4]; simp) 120 121 1 1 0 1 ?_
    rw [hW4]
    have := heap_alloc_new (w2.alloc (.cells #[.string ⟨#[116]⟩, .slice (some ⟨b, off, none⟩) 2 rc] 24)) (.cells #[.string ⟨#[120]⟩, .int .i64 1, .string ⟨#[]⟩, .int .i64 0, .string ⟨#[121]⟩, .int .i64 1, .string ⟨#[]⟩, .int .i64 1] 41)
    rw [World.size_alloc] at this
    exact this)
  have HB4 := Lib.hid (below_on HB2.out hb24)
  have CS := Lib.hid (tuSame_any aa (some ⟨w2.heap.size + 1, 0, none⟩) 2 2 ac 2 exB exB W4.drew W4.heap.size (HA4.out.keep fun _ _ => rfl) (HE4.out.keep fun _ _ => rfl))
  rw [sameAs_iff.2 rfl] at CS
  have CM := Lib.hid (fun q => ownMay_any ⟨#[]⟩ none 0 0 [] (W4.drewN (1 + q)) W4.heap.size (Nat.le_refl _) (Turns.zero _ _ _))
  rw [show locB [] = false from rfl] at CM
  have hz4 : w2.heap.size < W4.heap.size := by rw [hW4]; simp; omega
  have g1 : W4.cell? ⟨w2.heap.size, 0, none⟩ = some (.string ⟨#[116]⟩) := by rw [hW4]; simp
  have g2 : W4.cell? ⟨w2.heap.size, 1, none⟩ = some (.slice (some ⟨b, off, none⟩) 2 rc) := by rw [hW4]; simp
  have g3 := (hb24.cell (p := ⟨w.heap.size, 0, none⟩) z1).trans c0
  have g4 := (hb24.cell (p := ⟨w.heap.size, 1, none⟩) z1).trans c1
  have g5 := (hb24.cell (p := ⟨b, off + 2, none⟩) hbb).trans q2
  have G4 := Lib.hid (show W4.drew.cell? ⟨w2.heap.size, 0, none⟩ = some (.string ⟨#[116]⟩) ∧ W4.drew.cell? ⟨w2.heap.size, 1, none⟩ = some (.slice (some ⟨b, off, none⟩) 2 rc) ∧ W4.drew.cell? ⟨w.heap.size, 0, none⟩ = some (.int .i64 1) ∧ W4.drew.cell? ⟨w.heap.size, 1, none⟩ = some (.string ⟨#[]⟩) ∧ W4.drew.cell? ⟨b, off + 2, none⟩ = some (.slice aa 2 ac) from ⟨g1, g2, g3, g4, g5⟩)
  have G5 := Lib.hid (fun q => show (W4.drewN (1 + q)).cell? ⟨w2.heap.size, 0, none⟩ = some (.string ⟨#[116]⟩) ∧ (W4.drewN (1 + q)).cell? ⟨w2.heap.size, 1, none⟩ = some (.slice (some ⟨b, off, none⟩) 2 rc) ∧ (W4.drewN (1 + q)).cell? ⟨w.heap.size, 0, none⟩ = some (.int .i64 1) ∧ (W4.drewN (1 + q)).cell? ⟨w.heap.size, 1, none⟩ = some (.string ⟨#[]⟩) ∧ (W4.drewN (1 + q)).cell? ⟨b, off + 2, none⟩ = some (.slice aa 2 ac) from ⟨g1, g2, g3, g4, g5⟩)
  have hW0 : Below w2.heap.size w2 (w2.alloc (.cells #[.string ⟨#[116]⟩, .slice (some ⟨b, off, none⟩) 2 rc] 24)) := tu1 w2 _
  have G0 := Lib.hid (show (w2.alloc (.cells #[.string ⟨#[116]⟩, .slice (some ⟨b, off, none⟩) 2 rc] 24)).drew.cell? ⟨w2.heap.size, 0, none⟩ = some (.string ⟨#[116]⟩) ∧ (w2.alloc (.cells #[.string ⟨#[116]⟩, .slice (some ⟨b, off, none⟩) 2 rc] 24)).drew.cell? ⟨w2.heap.size, 1, none⟩ = some (.slice (some ⟨b, off, none⟩) 2 rc) ∧ (w2.alloc (.cells #[.string ⟨#[116]⟩, .slice (some ⟨b, off, none⟩) 2 rc] 24)).drew.cell? ⟨w.heap.size, 0, none⟩ = some (.int .i64 1) ∧ (w2.alloc (.cells #[.string ⟨#[116]⟩, .slice (some ⟨b, off, none⟩) 2 rc] 24)).drew.cell? ⟨w.heap.size, 1, none⟩ = some (.string ⟨#[]⟩) ∧ (w2.alloc (.cells #[.string ⟨#[116]⟩, .slice (some ⟨b, off, none⟩) 2 rc] 24)).drew.cell? ⟨b, off + 2, none⟩ = some (.slice aa 2 ac) from
    ⟨by simp, by simp, (hW0.cell (p := ⟨w.heap.size, 0, none⟩) z1).trans c0, (hW0.cell (p := ⟨w.heap.size, 1, none⟩) z1).trans c1, (hW0.cell (p := ⟨b, off + 2, none⟩) hbb).trans q2⟩)
  have hlt5 : w.heap.size < W4.heap.size ∧ b < W4.heap.size := by omega
  have HK := Lib.hid (fun (q : Nat) (W : World) (hb : Below (W4.drewN (1 + q)).heap.size (W4.drewN (1 + q)) W) => show W.cell? ⟨w2.heap.size, 0, none⟩ = some (.string ⟨#[116]⟩) ∧ W.cell? ⟨w2.heap.size, 1, none⟩ = some (.slice (some ⟨b, off, none⟩) 2 rc) ∧ W.cell? ⟨w.heap.size, 0, none⟩ = some (.int .i64 1) ∧ W.cell? ⟨w.heap.size, 1, none⟩ = some (.string ⟨#[]⟩) ∧ W.cell? ⟨b, off + 2, none⟩ = some (.slice aa 2 ac) from
    ⟨(hb.cell (p := ⟨w2.heap.size, 0, none⟩) hz4).trans g1, (hb.cell (p := ⟨w2.heap.size, 1, none⟩) hz4).trans g2, (hb.cell (p := ⟨w.heap.size, 0, none⟩) hlt5.1).trans g3, (hb.cell (p := ⟨w.heap.size, 1, none⟩) hlt5.1).trans g4, (hb.cell (p := ⟨b, off + 2, none⟩) hlt5.2).trans g5⟩)
  subst hW4
  clear ht hal hb24 e1 e2 hs q0 q1 g1 g2 g3 g4 g5 hz4 hlt5
  go_region_held3 (fun W => W.cell? ⟨w2.heap.size, 0, none⟩ = some (.string ⟨#[116]⟩) ∧ W.cell? ⟨w2.heap.size, 1, none⟩ = some (.slice (some ⟨b, off, none⟩) 2 rc) ∧ W.cell? ⟨w.heap.size, 0, none⟩ = some (.int .i64 1) ∧ W.cell? ⟨w.heap.size, 1, none⟩ = some (.string ⟨#[]⟩) ∧ W.cell? ⟨b, off + 2, none⟩ = some (.slice aa 2 ac))
    (first | exact G0.out | exact G4.out | exact G5.out _ | exact HK.out _ _ hb6)
    (first
    | (go_at_call 21; (with_reducible refine CS.out.mono ?_)
       rintro e w5 ⟨rfl, q, rfl⟩)
    | (go_at_call 11; (with_reducible refine (CM.out q).mono ?_)
       rintro e w6 ⟨rfl, hb6⟩
       have HB6 := Lib.hid (below_on (bel_drewN HB4.out (1 + q)) hb6))
    | fail)
  all_goals
    go_wp2_with fail
    go_ret
    exact ⟨rfl, HB6.out⟩
end Go.Proofs.YtbbdmipfbnfpfaaGreat
