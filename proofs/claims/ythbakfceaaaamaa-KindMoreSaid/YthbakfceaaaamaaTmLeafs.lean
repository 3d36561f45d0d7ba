/- Contracts of the program's evalTerm: terms without operands. -/
import Derived.Test.YthbakfceaaaamaaTmFits
namespace Go.Proofs.Ythbakfceaaaamaa
open Go.RowKit

theorem Slot.boxed1 (w : World) (A : Array Value) : Slot ((w.alloc (.cells A 49)).alloc (.cells #[.int .i64 0, .int .i64 0, .string ⟨#[]⟩, .slice none 0 0] 33)) (w.heap.size + 1) := by
  have h := Slot.new (w.alloc (.cells A 49))
  rw [World.size_alloc] at h
  exact h
set_option maxHeartbeats 4000000 in
theorem evalLeaf_any (k : Int) (nm : ByteArray) (x : Int) (tx : ByteArray) (l r : Int) (a' : Option Addr) (n' c' : Nat) (ea : Option Addr) (en ec : Nat) (env : List (Str × Val)) (w : World) (bound : Nat) (hb : bound ≤ w.heap.size) (h : Binds w bound ea en env) (hk : k = 0 ∨ k = 1 ∨ k = 2 ∨ k = 3 ∨ k = 4 ∨ k = 5) :
    Calls Try.prog 23 #[.agg #[.int .i64 k, .string nm, .int .i64 x, .string tx, .int .i64 l, .int .i64 r], .slice a' n' c', .slice ea en ec] w (PairRet w (leafV env ⟨k, nm.toList, x, tx.toList, l, r⟩)) := by
  have HB := Lib.hid (((Below.refl w.heap.size w).alloc (Nat.le_refl _) (.cells #[.int .i64 k, .string nm, .int .i64 x, .string tx, .int .i64 l, .int .i64 r] 49)).alloc (by simp) (.cells #[.int .i64 0, .int .i64 0, .string ⟨#[]⟩, .slice none 0 0] 33))
  have HS := Lib.hid (Slot.boxed1 w #[.int .i64 k, .string nm, .int .i64 x, .string tx, .int .i64 l, .int .i64 r])
  have hR : w.heap.size ≤ w.heap.size + 1 := by omega
  have HRR := Lib.hid hR
  clear hR
  rcases hk with rfl | rfl | rfl | rfl | rfl | rfl
  · have HG := Lib.hid (show leafV env ⟨0, nm.toList, x, tx.toList, l, r⟩ = holdV env nm.toList from rfl)
    have cc := variable_any ea en ec env nm ((w.alloc (.cells #[.int .i64 0, .string nm, .int .i64 x, .string tx, .int .i64 l, .int .i64 r] 49)).alloc (.cells #[.int .i64 0, .int .i64 0, .string ⟨#[]⟩, .slice none 0 0] 33)) bound (by simp <;> omega) (h.below (HB.out.mono hb))
    generalize leafV env ⟨0, nm.toList, x, tx.toList, l, r⟩ = R at HG ⊢
    generalize holdV env nm.toList = q at HG cc
    have CC := Lib.hid cc
    clear cc h
    go_enter Try.func23, Try.ntmps23
    go_wp2_with (first
      | (go_at_call 37; (with_reducible refine CC.out.mono ?_)
         rintro e w1 ⟨⟨s', a1, n1, c1, rfl, hv, hf⟩, hb1⟩
         have HS1 := Lib.hid (HS.out.on hb1)
         have HB1 := Lib.hid (below_on HB.out hb1)
         have HV1 := Lib.hid hv
         have HF1 := Lib.hid hf
         obtain ⟨⟨c0, c1', c2', c3⟩, f0, f1, f2, f3⟩ := HS1.out.cells
         clear hv hf hb1)
      | fail)
    (try simp only [Exit.inBlock, Exit.then])
    refine end_pair rfl rfl rfl HS1.out ?_
    exact PairRet.is (PairRet.of_set HB1.out HRR.out HS.out.lt HV1.out HF1.out) HG.out
  · have HG := Lib.hid (show leafV env ⟨1, nm.toList, x, tx.toList, l, r⟩ = (⟨1, x, [], []⟩, 0) from rfl)
    generalize leafV env ⟨1, nm.toList, x, tx.toList, l, r⟩ = R at HG ⊢
    clear h
    go_enter Try.func23, Try.ntmps23
    go_wp2_with (first
      | (go_at_call 38; (with_reducible refine (tNumber_any _ _).mono ?_)
         rintro e w1 ⟨rfl, hb1⟩
         have HS1 := Lib.hid (HS.out.on hb1)
         have HB1 := Lib.hid (below_on HB.out hb1)
         obtain ⟨⟨c0, c1', c2', c3⟩, f0, f1, f2, f3⟩ := HS1.out.cells
         clear hb1)
      | fail)
    (try simp only [Exit.inBlock, Exit.then])
    refine end_pair rfl rfl rfl HS1.out ?_
    exact PairRet.is (PairRet.flat0 (below_set HB1.out HRR.out _ _ _ _)) HG.out
  · obtain ⟨v, hv⟩ : ∃ v : Int, v = (if (x == 1) = true then 1 else 0) := ⟨_, rfl⟩
    have CT := Lib.hid (fun W => truth_any (x == 1) W)
    rw [← hv] at CT
    have HG := Lib.hid (show leafV env ⟨2, nm.toList, x, tx.toList, l, r⟩ = (⟨2, v, [], []⟩, 0) from by rw [hv]; rfl)
    generalize leafV env ⟨2, nm.toList, x, tx.toList, l, r⟩ = R at HG ⊢
    clear h hv
    go_enter Try.func23, Try.ntmps23
    go_wp2_with (first
      | (go_at_call 39; (with_reducible refine (CT.out _).mono ?_)
         rintro e w1 ⟨rfl, hb1⟩
         have HS1 := Lib.hid (HS.out.on hb1)
         have HB1 := Lib.hid (below_on HB.out hb1)
         obtain ⟨⟨c0, c1', c2', c3⟩, f0, f1, f2, f3⟩ := HS1.out.cells
         clear hb1)
      | fail)
    (try simp only [Exit.inBlock, Exit.then])
    refine end_pair rfl rfl rfl HS1.out ?_
    exact PairRet.is (PairRet.flat0 (below_set HB1.out HRR.out _ _ _ _)) HG.out
  · have HG := Lib.hid (show leafV env ⟨3, nm.toList, x, tx.toList, l, r⟩ = (⟨3, 0, tx.toList, []⟩, 0) from rfl)
    generalize leafV env ⟨3, nm.toList, x, tx.toList, l, r⟩ = R at HG ⊢
    clear h
    go_enter Try.func23, Try.ntmps23
    go_wp2_with (first
      | (go_at_call 40; (with_reducible refine (text_any _ _).mono ?_)
         rintro e w1 ⟨rfl, hb1⟩
         have HS1 := Lib.hid (HS.out.on hb1)
         have HB1 := Lib.hid (below_on HB.out hb1)
         obtain ⟨⟨c0, c1', c2', c3⟩, f0, f1, f2, f3⟩ := HS1.out.cells
         clear hb1)
      | fail)
    (try simp only [Exit.inBlock, Exit.then])
    refine end_pair rfl rfl rfl HS1.out ?_
    exact PairRet.is (PairRet.flat (below_set HB1.out HRR.out _ _ _ _)) HG.out
  · have HG := Lib.hid (show leafV env ⟨4, nm.toList, x, tx.toList, l, r⟩ = (⟨4, 0, [], []⟩, 0) from rfl)
    generalize leafV env ⟨4, nm.toList, x, tx.toList, l, r⟩ = R at HG ⊢
    clear h
    go_enter Try.func23, Try.ntmps23
    go_wp2_with (first
      | (go_at_call 41; (with_reducible refine (list_any _ _ _ _).mono ?_)
         rintro e w1 ⟨rfl, hb1⟩
         have HS1 := Lib.hid (HS.out.on hb1)
         have HB1 := Lib.hid (below_on HB.out hb1)
         obtain ⟨⟨c0, c1', c2', c3⟩, f0, f1, f2, f3⟩ := HS1.out.cells
         clear hb1)
      | fail)
    (try simp only [Exit.inBlock, Exit.then])
    refine end_pair rfl rfl rfl HS1.out ?_
    exact PairRet.is (PairRet.flat0 (below_set HB1.out HRR.out _ _ _ _)) HG.out
  · have HG := Lib.hid (show leafV env ⟨5, nm.toList, x, tx.toList, l, r⟩ = (⟨0, 0, [], []⟩, 0) from rfl)
    generalize leafV env ⟨5, nm.toList, x, tx.toList, l, r⟩ = R at HG ⊢
    clear h
    go_enter Try.func23, Try.ntmps23
    go_wp2_with fail
    refine bodyPost_ret (v := .tuple #[.agg #[.int .i64 0, .int .i64 0, .string ⟨#[]⟩, .slice none 0 0], .int .i64 0]) (by simp [results, go_sem]) rfl ?_
    exact PairRet.is (PairRet.flat0 HB.out) HG.out
end Go.Proofs.Ythbakfceaaaamaa
