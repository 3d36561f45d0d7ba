/- Contract of the program's Read. -/
import Derived.Test.YtnanfmmafmcchaaGreatDoorDtGuess
import Derived.Test.YtnanfmmafmcchaaGreatDoorDtShowO
namespace Go.Proofs.YtnanfmmafmcchaaGreatDoor
open Go.RowKit

theorem okNums_of {s : Str} {v : Val} (h : readV s = some v) : v = guessP s := (guessP_right (readV_is h)).symm
/-- What Read answers. -/
def ReadAns (w' : World) (r : Option Val) (e : Ending) : Prop := match r with
  | some v => ∃ a c, e = .returned (.tuple #[.agg #[.int .i64 v.kind, .int .i64 v.num, .string (lxS v.text), .slice a v.list.length c], .int .i64 0]) ∧ Nums w' w'.heap.size a v.list.length v.list
  | none => e = .returned (.tuple #[.agg #[.int .i64 0, .int .i64 0, .string ⟨#[]⟩, .slice none 0 0], .int .i64 300])
theorem may_nil : mayV (guessP []) = true := rfl
theorem readV_eq (s : Str) : readV s = if showV (guessP s) == s then some (guessP s) else none := by
  rw [readV_shown]
  by_cases h : showV (guessP s) = s
  · have hm : mayV (guessP s) = true := by
      cases hm : mayV (guessP s)
      · rw [showV_may hm] at h
        rw [← h, may_nil] at hm
        cases hm
      · rfl
    rw [if_pos ⟨h, hm⟩, if_pos (by rw [beq_iff_eq]; exact h)]
  · rw [if_neg fun e => h e.1, if_neg (by rw [beq_iff_eq]; exact h)]

set_option maxHeartbeats 4000000 in
set_option maxRecDepth 20000 in
theorem read_any (s : ByteArray) (w : World) (hs : s.size ≤ 1100000) (hm : Met w) : Calls Tryz.prog 9 #[.string s] w fun e w' => ReadAns w' (readV s.toList) e ∧ Below w.heap.size w w' := by
  have HM := Lib.hid hm
  have HB := Lib.hid ((Below.refl w.heap.size w).alloc (Nat.le_refl _) (.cells #[.int .i64 0, .int .i64 0, .string ⟨#[]⟩, .slice none 0 0] 24))
  have CG := Lib.hid (fun W (hW : Below w.heap.size w W) => guess_any s W hs (HM.out.keep hW))
  obtain ⟨ok1, ok2, _⟩ := guessP_ok s.toList
  have hrd := readV_eq s.toList
  generalize guessP s.toList = g at *
  obtain ⟨gk, gn, gt, gl⟩ := g
  dsimp only at *
  have CS := Lib.hid (fun (a : Option Addr) (n c : Nat) (W : World) (hW : Below w.heap.size w W) (hn : Nums W W.heap.size a n gl) =>
    show_any gk gn (lxS gt) a n c gl W W.heap.size (Nat.le_refl _) hn ok1.1 ok1.2 (fun _ h5 => absurd h5 ok2) (HM.out.keep hW).pow)
  rw [lxS_toList] at CS
  obtain ⟨G, hG⟩ : ∃ G, G = lxS gt := ⟨_, rfl⟩
  obtain ⟨S, hS⟩ : ∃ S, S = lxS (showV ⟨gk, gn, gt, gl⟩) := ⟨_, rfl⟩
  have hSl : S.toList = showV ⟨gk, gn, gt, gl⟩ := by rw [hS, lxS_toList]
  rw [← hSl] at hrd
  rw [← hS, ← hG] at CS
  have HG := Lib.hid hG
  clear ok1 ok2 hm hG hS hSl
  cases e1 : (S.toList == s.toList)
  · have HR := Lib.hid (show readV s.toList = none by rw [hrd, e1]; rfl)
    clear hrd
    go_enter Tryz.func9, Tryz.ntmps9
    go_wp2_with (first
      | (go_at_call 21; (with_reducible refine (CG.out _ HB.out).mono ?_)
         rintro e w1 ⟨⟨a, c, rfl, hfr, hn⟩, hb1⟩
         dsimp only at hn hfr
         rw [← HG.out]
         obtain ⟨nl, hnl⟩ : ∃ nl, nl = gl.length := ⟨_, rfl⟩
         rw [← hnl] at hn hfr ⊢
         have HFR := Lib.hid hfr
         have HNL := Lib.hid hnl
         obtain ⟨hcc, hff⟩ := bcell hb1
         have hzz : w.heap.size < w1.heap.size := by have := hb1.size; simp at this; omega
         have HB1 := Lib.hid (HB.out.trans (hb1.mono HB.out.size))
         have o0 : w1.cell? ⟨w.heap.size, 0, none⟩ = some (.int .i64 0) ∧ w1.frozen? ⟨w.heap.size, 0, none⟩ = false := by rw [hcc _ _ (by simp), hff _ _ (by simp)]; simp
         have o1 : w1.cell? ⟨w.heap.size, 1, none⟩ = some (.int .i64 0) ∧ w1.frozen? ⟨w.heap.size, 1, none⟩ = false := by rw [hcc _ _ (by simp), hff _ _ (by simp)]; simp
         have o2 : w1.cell? ⟨w.heap.size, 2, none⟩ = some (.string ⟨#[]⟩) ∧ w1.frozen? ⟨w.heap.size, 2, none⟩ = false := by rw [hcc _ _ (by simp), hff _ _ (by simp)]; simp
         have o3 : w1.cell? ⟨w.heap.size, 3, none⟩ = some (.slice none 0 0) ∧ w1.frozen? ⟨w.heap.size, 3, none⟩ = false := by rw [hcc _ _ (by simp), hff _ _ (by simp)]; simp
         have HO := Lib.hid (And.intro (And.intro o0 o1) (And.intro o2 o3))
         have HB2 := Lib.hid (HB1.out.alloc HB1.out.size (.cells #[.int .i64 gk, .int .i64 gn, .string G, .slice a nl c] 24))
         have HN2 := Lib.hid (show Nums (w1.alloc (.cells #[.int .i64 gk, .int .i64 gn, .string G, .slice a nl c] 24)) (w1.alloc (.cells #[.int .i64 gk, .int .i64 gn, .string G, .slice a nl c] 24)).heap.size a nl gl from (hn.alloc (Nat.le_refl _) _).more (by simp))
         clear hb1 hn hfr hnl hcc hff o0 o1 o2 o3)
      | (go_at_call 17; (with_reducible refine (CS.out _ _ _ _ HB2.out HN2.out).mono ?_)
         rintro e w2 ⟨rfl, hb2⟩
         obtain ⟨hcc, hff⟩ := bcell hb2
         have hz2 : w1.heap.size < w2.heap.size := by have := hb2.size; simp at this; omega
         have HB3 := Lib.hid (HB2.out.trans (hb2.mono HB2.out.size))
         have HN3 := Lib.hid ((HN2.out.below hb2).more hb2.size)
         obtain ⟨⟨o0, o1⟩, o2, o3⟩ := HO.out
         have hlt : ∀ j, (w1.alloc (.cells #[.int .i64 gk, .int .i64 gn, .string G, .slice a nl c] 24)).cell? ⟨w.heap.size, j, none⟩ = w1.cell? ⟨w.heap.size, j, none⟩ := fun j => World.cell?_alloc_lt w1 _ _ hzz
         have hfl : ∀ j, (w1.alloc (.cells #[.int .i64 gk, .int .i64 gn, .string G, .slice a nl c] 24)).frozen? ⟨w.heap.size, j, none⟩ = w1.frozen? ⟨w.heap.size, j, none⟩ := fun j => ((Below.refl w1.heap.size w1).alloc (Nat.le_refl _) _).frozen (p := ⟨w.heap.size, j, none⟩) hzz
         have p0 : w2.cell? ⟨w.heap.size, 0, none⟩ = some (.int .i64 0) := by rw [hcc _ _ (by simp; omega), hlt]; exact o0.1
         have p1 : w2.cell? ⟨w.heap.size, 1, none⟩ = some (.int .i64 0) := by rw [hcc _ _ (by simp; omega), hlt]; exact o1.1
         have p2 : w2.cell? ⟨w.heap.size, 2, none⟩ = some (.string ⟨#[]⟩) := by rw [hcc _ _ (by simp; omega), hlt]; exact o2.1
         have p3 : w2.cell? ⟨w.heap.size, 3, none⟩ = some (.slice none 0 0) := by rw [hcc _ _ (by simp; omega), hlt]; exact o3.1
         have f0 : w2.frozen? ⟨w.heap.size, 0, none⟩ = false := by rw [hff _ _ (by simp; omega), hfl]; exact o0.2
         have f1 : w2.frozen? ⟨w.heap.size, 1, none⟩ = false := by rw [hff _ _ (by simp; omega), hfl]; exact o1.2
         have f2 : w2.frozen? ⟨w.heap.size, 2, none⟩ = false := by rw [hff _ _ (by simp; omega), hfl]; exact o2.2
         have f3 : w2.frozen? ⟨w.heap.size, 3, none⟩ = false := by rw [hff _ _ (by simp; omega), hfl]; exact o3.2
         have q0 : w2.cell? ⟨w1.heap.size, 0, none⟩ = some (.int .i64 gk) := by rw [hcc _ _ (by simp)]; simp
         have q1 : w2.cell? ⟨w1.heap.size, 1, none⟩ = some (.int .i64 gn) := by rw [hcc _ _ (by simp)]; simp
         have q2 : w2.cell? ⟨w1.heap.size, 2, none⟩ = some (.string G) := by rw [hcc _ _ (by simp)]; simp
         have q3 : w2.cell? ⟨w1.heap.size, 3, none⟩ = some (.slice a nl c) := by rw [hcc _ _ (by simp)]; simp
         clear hb2 hcc hff hlt hfl o0 o1 o2 o3)
      | fail)
    refine bodyPost_ret (v := .tuple #[.agg #[.int .i64 0, .int .i64 0, .string ⟨#[]⟩, .slice none 0 0], .int .i64 300]) (by simp [results, go_sem, p0, p1, p2, p3]) rfl ?_
    exact ⟨by rw [HR.out]; rfl, (((HB3.out.setCell (Nat.le_refl _) _).setCell (Nat.le_refl _) _).setCell (Nat.le_refl _) _).setCell (Nat.le_refl _) _⟩
  · have HR := Lib.hid (show readV s.toList = some ⟨gk, gn, gt, gl⟩ by rw [hrd, e1]; rfl)
    clear hrd
    go_enter Tryz.func9, Tryz.ntmps9
    go_wp2_with (first
      | (go_at_call 21; (with_reducible refine (CG.out _ HB.out).mono ?_)
         rintro e w1 ⟨⟨a, c, rfl, hfr, hn⟩, hb1⟩
         dsimp only at hn hfr
         rw [← HG.out]
         obtain ⟨nl, hnl⟩ : ∃ nl, nl = gl.length := ⟨_, rfl⟩
         rw [← hnl] at hn hfr ⊢
         have HFR := Lib.hid hfr
         have HNL := Lib.hid hnl
         obtain ⟨hcc, hff⟩ := bcell hb1
         have hzz : w.heap.size < w1.heap.size := by have := hb1.size; simp at this; omega
         have HB1 := Lib.hid (HB.out.trans (hb1.mono HB.out.size))
         have o0 : w1.cell? ⟨w.heap.size, 0, none⟩ = some (.int .i64 0) ∧ w1.frozen? ⟨w.heap.size, 0, none⟩ = false := by rw [hcc _ _ (by simp), hff _ _ (by simp)]; simp
         have o1 : w1.cell? ⟨w.heap.size, 1, none⟩ = some (.int .i64 0) ∧ w1.frozen? ⟨w.heap.size, 1, none⟩ = false := by rw [hcc _ _ (by simp), hff _ _ (by simp)]; simp
         have o2 : w1.cell? ⟨w.heap.size, 2, none⟩ = some (.string ⟨#[]⟩) ∧ w1.frozen? ⟨w.heap.size, 2, none⟩ = false := by rw [hcc _ _ (by simp), hff _ _ (by simp)]; simp
         have o3 : w1.cell? ⟨w.heap.size, 3, none⟩ = some (.slice none 0 0) ∧ w1.frozen? ⟨w.heap.size, 3, none⟩ = false := by rw [hcc _ _ (by simp), hff _ _ (by simp)]; simp
         have HO := Lib.hid (And.intro (And.intro o0 o1) (And.intro o2 o3))
         have HB2 := Lib.hid (HB1.out.alloc HB1.out.size (.cells #[.int .i64 gk, .int .i64 gn, .string G, .slice a nl c] 24))
         have HN2 := Lib.hid (show Nums (w1.alloc (.cells #[.int .i64 gk, .int .i64 gn, .string G, .slice a nl c] 24)) (w1.alloc (.cells #[.int .i64 gk, .int .i64 gn, .string G, .slice a nl c] 24)).heap.size a nl gl from (hn.alloc (Nat.le_refl _) _).more (by simp))
         clear hb1 hn hfr hnl hcc hff o0 o1 o2 o3)
      | (go_at_call 17; (with_reducible refine (CS.out _ _ _ _ HB2.out HN2.out).mono ?_)
         rintro e w2 ⟨rfl, hb2⟩
         obtain ⟨hcc, hff⟩ := bcell hb2
         have hz2 : w1.heap.size < w2.heap.size := by have := hb2.size; simp at this; omega
         have HB3 := Lib.hid (HB2.out.trans (hb2.mono HB2.out.size))
         have HN3 := Lib.hid ((HN2.out.below hb2).more hb2.size)
         obtain ⟨⟨o0, o1⟩, o2, o3⟩ := HO.out
         have hlt : ∀ j, (w1.alloc (.cells #[.int .i64 gk, .int .i64 gn, .string G, .slice a nl c] 24)).cell? ⟨w.heap.size, j, none⟩ = w1.cell? ⟨w.heap.size, j, none⟩ := fun j => World.cell?_alloc_lt w1 _ _ hzz
         have hfl : ∀ j, (w1.alloc (.cells #[.int .i64 gk, .int .i64 gn, .string G, .slice a nl c] 24)).frozen? ⟨w.heap.size, j, none⟩ = w1.frozen? ⟨w.heap.size, j, none⟩ := fun j => ((Below.refl w1.heap.size w1).alloc (Nat.le_refl _) _).frozen (p := ⟨w.heap.size, j, none⟩) hzz
         have p0 : w2.cell? ⟨w.heap.size, 0, none⟩ = some (.int .i64 0) := by rw [hcc _ _ (by simp; omega), hlt]; exact o0.1
         have p1 : w2.cell? ⟨w.heap.size, 1, none⟩ = some (.int .i64 0) := by rw [hcc _ _ (by simp; omega), hlt]; exact o1.1
         have p2 : w2.cell? ⟨w.heap.size, 2, none⟩ = some (.string ⟨#[]⟩) := by rw [hcc _ _ (by simp; omega), hlt]; exact o2.1
         have p3 : w2.cell? ⟨w.heap.size, 3, none⟩ = some (.slice none 0 0) := by rw [hcc _ _ (by simp; omega), hlt]; exact o3.1
         have f0 : w2.frozen? ⟨w.heap.size, 0, none⟩ = false := by rw [hff _ _ (by simp; omega), hfl]; exact o0.2
         have f1 : w2.frozen? ⟨w.heap.size, 1, none⟩ = false := by rw [hff _ _ (by simp; omega), hfl]; exact o1.2
         have f2 : w2.frozen? ⟨w.heap.size, 2, none⟩ = false := by rw [hff _ _ (by simp; omega), hfl]; exact o2.2
         have f3 : w2.frozen? ⟨w.heap.size, 3, none⟩ = false := by rw [hff _ _ (by simp; omega), hfl]; exact o3.2
         have q0 : w2.cell? ⟨w1.heap.size, 0, none⟩ = some (.int .i64 gk) := by rw [hcc _ _ (by simp)]; simp
         have q1 : w2.cell? ⟨w1.heap.size, 1, none⟩ = some (.int .i64 gn) := by rw [hcc _ _ (by simp)]; simp
         have q2 : w2.cell? ⟨w1.heap.size, 2, none⟩ = some (.string G) := by rw [hcc _ _ (by simp)]; simp
         have q3 : w2.cell? ⟨w1.heap.size, 3, none⟩ = some (.slice a nl c) := by rw [hcc _ _ (by simp)]; simp
         clear hb2 hcc hff hlt hfl o0 o1 o2 o3)
      | fail)
    refine bodyPost_ret (v := .tuple #[.agg #[.int .i64 gk, .int .i64 gn, .string G, .slice a nl c], .int .i64 0]) (by simp [results, go_sem, p0, p1, p2, p3]) rfl ?_
    refine ⟨?_, (((HB3.out.setCell (Nat.le_refl _) _).setCell (Nat.le_refl _) _).setCell (Nat.le_refl _) _).setCell (Nat.le_refl _) _⟩
    have hfr : From (w.heap.size + 1) a nl := by
      have h := HFR.out
      simp only [World.size_alloc] at h
      exact h
    have hn := (((HN3.out.setOther hfr ⟨w.heap.size, 0, none⟩ (.int .i64 gk) (by simp)).setOther hfr ⟨w.heap.size, 1, none⟩ (.int .i64 gn) (by simp)).setOther hfr ⟨w.heap.size, 2, none⟩ (.string G) (by simp)).setOther hfr ⟨w.heap.size, 3, none⟩ (.slice a nl c) (by simp)
    rw [HR.out]
    refine ⟨a, c, ?_, ?_⟩
    · rw [HG.out, HNL.out]
    · show Nums _ _ a gl.length gl
      rw [← HNL.out]
      exact hn.more (by simp)
end Go.Proofs.YtnanfmmafmcchaaGreatDoor
