/- Contract of the reference's tree. -/
import Derived.Test.YthchilnibblbgaaTmRefA
import Derived.Test.YthchilnibblbgaaTmTrees
import Derived.Test.YthchilnibblbgaaTmMay
import Derived.Test.YthchilnibblbgaaTmSteps
import Derived.Test.YthchilnibblbgaaTmGather
import Derived.Test.YthchilnibblbgaaRef2
namespace Go.Proofs.Ythchilnibblbgaa
open Go.RowKit

/-- Block g holds how deep each place stands. -/
def DeepB (W : World) (g n : Nat) (d : Nat → Nat) : Prop := g < W.heap.size ∧ ∀ j, j < n → W.cell? ⟨g, j, none⟩ = some (.int .i64 (d j)) ∧ W.frozen? ⟨g, j, none⟩ = false
theorem DeepB.on {W W' : World} {g n : Nat} {d : Nat → Nat} (h : DeepB W g n d) (hb : Below W.heap.size W W') : DeepB W' g n d :=
  ⟨Nat.lt_of_lt_of_le h.1 hb.size, fun j hj => ⟨(hb.cell (p := ⟨g, j, none⟩) h.1).trans (h.2 j hj).1, (hb.frozen (p := ⟨g, j, none⟩) h.1).trans (h.2 j hj).2⟩⟩
theorem DeepB.set {W : World} {g n : Nat} {d : Nat → Nat} (h : DeepB W g n d) {i : Nat} (hi : i < n) (v : Nat) {u : Value} (hu : u = .int .i64 (v : Int)) : DeepB (W.setCell ⟨g, i, none⟩ u) g n (markD d i v) := by
  subst hu
  refine ⟨by simpa using h.1, fun j hj => ?_⟩
  rw [World.frozen?_setCell]
  refine ⟨?_, (h.2 j hj).2⟩
  by_cases hji : j = i
  · subst hji
    rw [markD_self, World.cell?_setCell_same' _ _ _ (by rw [(h.2 j hj).1]; rfl)]
  · rw [markD_ne _ _ hji, World.cell?_setCell_other _ _ _ _ (fun e => by injection e with _ e _; exact hji e.symm), (h.2 j hj).1]
theorem info_int : (Try.prog.info? 3).map (fun i => (i.zero, i.size, i.bytes)) = some (some (.int .i64 0), 1, 8) := by kernel_rfl
theorem made_ints (n : Nat) (hn : n ≤ 1000) (W : World) : (Instr.makeSlice 44 (.int .i64 (n : Int)) (.int .i64 (n : Int))).run Try.prog W =
    .ok (.slice (some ⟨W.heap.size, 0, none⟩) n n) (W.alloc (.cells (madeCells #[.int .i64 0] n) 3)) := by
  obtain ⟨i, hi, hzz⟩ := Option.map_eq_some_iff.1 info_int
  simp only [Prod.mk.injEq] at hzz
  obtain ⟨hz, hs, hb⟩ := hzz
  have hr := run_make (P := Try.prog) W 44 3 i _ Try.underlying44 hi hz .i64 .i64 (n : Int) (n : Int) (by omega) (by omega) (by rw [hb]; omega) (by omega)
  rw [hs, show ((n : Int).toNat) = n from by omega, Nat.mul_one] at hr
  exact hr
theorem deep_made (w : World) (n : Nat) : DeepB (w.alloc (.cells (madeCells #[.int .i64 0] n) 3)) w.heap.size n (fun _ => 0) := by
  refine ⟨by simp, fun j hj => ⟨?_, ?_⟩⟩
  · rw [cell_of_row _ _ _ _ _ _ (heap_alloc_new w _)]
    simp [madeCells, hj, Nat.mod_one]
  · unfold World.frozen?
    rw [heap_alloc_new w _]
    simp
theorem deep_first (w : World) (n r : Nat) (hr : r < n) : DeepB (w.alloc (.cells ((madeCells #[.int .i64 0] n).setIfInBounds r (.int .i64 1)) 3)) w.heap.size n (markD (fun _ => 0) r 1) := by
  refine ⟨by simp, fun j hj => ⟨?_, ?_⟩⟩
  · rw [cell_of_row _ _ _ _ _ _ (heap_alloc_new w _)]
    by_cases hjr : j = r
    · subst hjr; rw [markD_self]; simp [madeCells, hj]
    · rw [markD_ne _ _ hjr, Array.getElem?_setIfInBounds_ne (fun e => hjr e.symm)]; simp [madeCells, hj, Nat.mod_one]
  · unfold World.frozen?
    rw [heap_alloc_new w _]
    simp
/-- What the reference's tree finds. -/
def treeF (L : List Trm) (root : Int) : Option (Nat → Nat) := if L.length ≤ 160 ∧ 0 ≤ root ∧ root < L.length then treeD L (root.toNat + 1) (markD (fun _ => 0) root.toNat 1) else none
def TreeRet (w : World) (n : Nat) (r : Option (Nat → Nat)) (e : Ending) (w' : World) : Prop :=
  (match r with
    | none => e = .returned (.tuple #[.slice none 0 0, .bool false])
    | some d => ∃ g, e = .returned (.tuple #[.slice (some ⟨g, 0, none⟩) n n, .bool true]) ∧ DeepB w' g n d ∧ w.heap.size ≤ g) ∧ Below w.heap.size w w'
theorem TreeRet.no {w w' : World} {n : Nat} {r : Option (Nat → Nat)} (hr : r = none) (hb : Below w.heap.size w w') : TreeRet w n r (.returned (.tuple #[.slice none 0 0, .bool false])) w' := by
  subst hr; exact ⟨rfl, hb⟩
theorem TreeRet.yes {w w' : World} {n g : Nat} {r : Option (Nat → Nat)} {d : Nat → Nat} (hr : r = some d) (hd : DeepB w' g n d) (hg : w.heap.size ≤ g) (hb : Below w.heap.size w w') : TreeRet w n r (.returned (.tuple #[.slice (some ⟨g, 0, none⟩) n n, .bool true])) w' := by
  subst hr; exact ⟨⟨g, rfl, hd, hg⟩, hb⟩
theorem treeD_at {L : List Trm} {i : Nat} {t : Trm} (h : L[i]? = some t) (d : Nat → Nat) : treeD L (i + 1) d = match stepD t i d with
    | none => none
    | some d' => treeD L i d' := by
  rw [treeD, List.getD_eq_getElem?_getD, h]
  rfl
/-- What is left of a step. -/
def restD (L : List Trm) (i : Nat) (os : List Int) (d : Nat → Nat) : Option (Nat → Nat) := match foldO (opD i) os d with
  | none => none
  | some d' => treeD L i d'
theorem restD_nil (L : List Trm) (i : Nat) (d : Nat → Nat) : restD L i [] d = treeD L i d := rfl
theorem restD_cons (L : List Trm) (i : Nat) (o : Int) (os : List Int) (d : Nat → Nat) : restD L i (o :: os) d = match opD i o d with
    | none => none
    | some d' => restD L i os d' := by
  unfold restD
  rw [foldO]
  cases opD i o d <;> rfl
theorem restD_bad {L : List Trm} {i : Nat} {o : Int} {os : List Int} {d : Nat → Nat} (h : o < 0 ∨ (i : Int) ≤ o ∨ 0 < d o.toNat) : restD L i (o :: os) d = none := by
  rw [restD_cons]
  unfold opD
  rw [if_neg (by omega)]
theorem restD_good {L : List Trm} {i a : Nat} {os : List Int} {d : Nat → Nat} (h1 : a < i) (h2 : d a = 0) : restD L i ((a : Int) :: os) d = restD L i os (markD d a (d i + 1)) := by
  rw [restD_cons, opD_yes h1 h2]
theorem step_none {L : List Trm} {i : Nat} {t : Trm} {d : Nat → Nat} (h : L[i]? = some t) (hd : d i = 0) : treeD L (i + 1) d = treeD L i d := by
  rw [treeD_at h]; unfold stepD; rw [if_pos hd]
theorem step_bad {L : List Trm} {i : Nat} {t : Trm} {d : Nat → Nat} (h : L[i]? = some t) (hd : d i ≠ 0) (hs : soundT t = false ∨ 24 < d i) : treeD L (i + 1) d = none := by
  rw [treeD_at h]; unfold stepD; rw [if_neg hd, if_neg (fun hc => by rcases hs with hs | hs; rw [hs] at hc; exact absurd hc.1 (by simp); omega)]
theorem step_good {L : List Trm} {i : Nat} {t : Trm} {d : Nat → Nat} (h : L[i]? = some t) (hd : d i ≠ 0) (hs : soundT t = true) (h24 : d i ≤ 24) : treeD L (i + 1) d = restD L i (opsT t) d := by
  rw [treeD_at h]; unfold stepD; rw [if_neg hd, if_pos ⟨hs, h24⟩]; rfl
theorem sound_arI {t : Trm} (h : soundT t = true) : arI t.kind = (arT t.kind : Int) := by
  unfold soundT at h
  simp only [Bool.and_eq_true, decide_eq_true_eq] at h
  unfold arI
  rw [if_pos ⟨h.1.1.1.1.1.1, h.1.1.1.1.1.2⟩]
theorem arT_le (k : Int) : arT k ≤ 2 := by rcases arT_ways k with h | h | h <;> omega
theorem opsT_len (t : Trm) : (opsT t).length = arT t.kind := by
  rcases arT_ways t.kind with h | h | h
  · rw [opsT0 h, h]; rfl
  · rw [opsT1 h, h]; rfl
  · rw [opsT2 h, h]; rfl
theorem opsT_get {t : Trm} {q : Nat} (h : q < arT t.kind) : (opsT t).drop q = (if q = 0 then t.l else t.r) :: (opsT t).drop (q + 1) := by
  rcases arT_ways t.kind with ha | ha | ha
  · omega
  · obtain rfl : q = 0 := by omega
    rw [opsT1 ha]; rfl
  · rw [opsT2 ha]
    rcases (show q = 0 ∨ q = 1 by omega) with rfl | rfl <;> rfl

set_option maxHeartbeats 16000000 in
set_option maxRecDepth 20000 in
theorem refTree_any (la : Option Addr) (n c : Nat) (L : List Trm) (root : Int) (w : World) (hT : Trms w w.heap.size la n L) (hn : n ≤ 1000) :
    Calls Try.prog 34 #[.slice la n c, .int .i64 root] w (TreeRet w n (treeF L root)) := by
  have hl := hT.1
  have HL := Lib.hid hT
  have HN := Lib.hid hl
  clear hT
  by_cases h1 : 160 < n
  · have HG := Lib.hid (show treeF L root = none by unfold treeF; rw [if_neg (by omega)])
    have d1 : decide ((160 : Int) < (n : Int)) = true := decide_eq_true (by omega)
    clear hl
    go_enter Try.func34, Try.ntmps34
    go_wp2_with fail
    go_ret2
    exact TreeRet.no HG.out (Below.refl _ _)
  have d1 : decide ((160 : Int) < (n : Int)) = false := decide_eq_false (by omega)
  by_cases h2 : root < 0
  · have HG := Lib.hid (show treeF L root = none by unfold treeF; rw [if_neg (by omega)])
    clear hl
    go_enter Try.func34, Try.ntmps34
    go_wp2_with fail
    go_ret2
    exact TreeRet.no HG.out (Below.refl _ _)
  by_cases h3 : (n : Int) ≤ root
  · have HG := Lib.hid (show treeF L root = none by unfold treeF; rw [if_neg (by omega)])
    clear hl
    go_enter Try.func34, Try.ntmps34
    go_wp2_with fail
    go_ret2
    exact TreeRet.no HG.out (Below.refl _ _)
  obtain ⟨r, rfl⟩ : ∃ r : Nat, root = (r : Int) := ⟨root.toNat, by omega⟩
  have hrn : r < n := by omega
  have HG := Lib.hid (show treeF L (r : Int) = treeD L (r + 1) (markD (fun _ => 0) r 1) by unfold treeF; rw [if_pos (by omega), Int.toNat_natCast])
  generalize treeF L (r : Int) = R at HG ⊢
  have hmk := fun W => made_ints n (by omega) W
  have HD0 := Lib.hid (deep_first w n r hrn)
  obtain ⟨x0, x1⟩ := (deep_made w n).2 r hrn
  have HB0 := Lib.hid (next_alloc w (.cells ((madeCells #[.int .i64 0] n).setIfInBounds r (.int .i64 1)) 3))
  clear hl
  go_enter Try.func34, Try.ntmps34
  go_wp2
  go_loopw [7] (fun i wr => ∃ (z : Int) (k : Nat) (d : Nat → Nat), z < (n : Int) ∧ -1 ≤ z ∧ i = .int .i64 z ∧ Hid (z + 1 = (k : Int)) ∧ Hid (R = treeD L k d) ∧ Hid (DeepB wr w.heap.size n d) ∧ Hid (Below w.heap.size w wr)) (fun i _ => (intOf i + 1).toNat)
  case atStart => exact ⟨(r : Int), r + 1, _, by omega, by omega, rfl, Lib.hid (by omega), HG, HD0, HB0⟩
  case round =>
    obtain ⟨z, k, d, hz1, hz2, rfl, HK, HR, HD, HBr⟩ := hrel
    by_cases hz : 0 ≤ z
    · obtain ⟨i, rfl⟩ : ∃ i : Nat, z = (i : Int) := ⟨z.toNat, by omega⟩
      obtain rfl : k = i + 1 := by have := HK.out; omega
      have hin : i < n := by omega
      obtain ⟨b, off, tk, nm, x, tx, l, rr, rfl, hbb, hget, hns, hxs, p0, p1, p2, p3, p4, p5⟩ := HL.out.part hin
      have HGT := Lib.hid hget
      have HNS := Lib.hid hns
      obtain ⟨c0, c1⟩ := HD.out.2 i hin
      have q0 := (HBr.out.cell (p := ⟨b, off + i * 6, none⟩) hbb).trans p0
      have q1 := (HBr.out.cell (p := ⟨b, off + i * 6 + 1, none⟩) hbb).trans p1
      have q2 := (HBr.out.cell (p := ⟨b, off + i * 6 + 2, none⟩) hbb).trans p2
      have q3 := (HBr.out.cell (p := ⟨b, off + i * 6 + 3, none⟩) hbb).trans p3
      have q4 := (HBr.out.cell (p := ⟨b, off + i * 6 + 4, none⟩) hbb).trans p4
      have q5 := (HBr.out.cell (p := ⟨b, off + i * 6 + 5, none⟩) hbb).trans p5
      have HQ := Lib.hid (And.intro p0 (And.intro p4 p5))
      clear p0 p1 p2 p3 p4 p5 hget hns hxs
      by_cases hdi : d i = 0
      · have HZ := Lib.hid (HR.out.trans (step_none HGT.out hdi))
        rw [hdi] at c0
        clear hdi
        go_wp2_with fail
        go_roundw
        case rel => exact ⟨(i : Int) - 1, i, d, by omega, by omega, by go_num, Lib.hid (by omega), HZ, HD, HBr⟩
        case measure => simp [intOf] <;> omega
      · have e0 : (((d i : Nat) : Int) == 0) = false := by rw [beq_eq_false_iff_ne]; omega
        have ca := fun W => alone_any tk nm x tx l rr W HNS.out
        cases hsd : soundT ⟨tk, nm.toList, x, tx.toList, l, rr⟩
        · rw [hsd] at ca
          have CA := Lib.hid ca
          have HZ := Lib.hid (HR.out.trans (step_bad HGT.out hdi (.inl hsd)))
          clear hsd ca hdi
          go_wp2_with (first
            | (go_at_call 49; (with_reducible refine (CA.out _).mono ?_); rintro e w1 ⟨rfl, hb⟩; have HB1 := Lib.hid hb; clear hb)
            | fail)
          go_ret2
          exact TreeRet.no HZ.out (HBr.out.trans (HB1.out.mono HBr.out.size))
        · rw [hsd] at ca
          have CA := Lib.hid ca
          by_cases h24 : 24 < d i
          · have HZ := Lib.hid (HR.out.trans (step_bad HGT.out hdi (.inr h24)))
            have e24 : decide ((24 : Int) < ((d i : Nat) : Int)) = true := decide_eq_true (by omega)
            have HC0 := Lib.hid (And.intro HD.out.1 c0)
            clear hsd ca hdi
            go_wp2_with (first
              | (go_at_call 49; (with_reducible refine (CA.out _).mono ?_); rintro e w1 ⟨rfl, hb⟩; have HB1 := Lib.hid hb; have c0 := (hb.cell (p := ⟨w.heap.size, i, none⟩) HC0.out.1).trans HC0.out.2; clear hb)
              | fail)
            go_ret2
            exact TreeRet.no HZ.out (HBr.out.trans (HB1.out.mono HBr.out.size))
          · have HZ := Lib.hid (HR.out.trans (step_good HGT.out hdi hsd (by omega)))
            have e24 : decide ((24 : Int) < ((d i : Nat) : Int)) = false := decide_eq_false (by omega)
            have har := sound_arI hsd
            have hle := arT_le tk
            have HOP := Lib.hid (fun q (h : q < arT tk) => opsT_get (t := ⟨tk, nm.toList, x, tx.toList, l, rr⟩) (q := q) h)
            have HOE := Lib.hid (opsT_len ⟨tk, nm.toList, x, tx.toList, l, rr⟩)
            dsimp only at har
            have cr := fun W => arity_any tk W
            rw [har] at cr
            have CR := Lib.hid cr
            generalize opsT ⟨tk, nm.toList, x, tx.toList, l, rr⟩ = ops at HZ HOP HOE
            dsimp only at HOE
            generalize arT tk = ar at hle HOP HOE CR
            obtain ⟨di, hdi2⟩ : ∃ di, di = d i := ⟨_, rfl⟩
            rw [← hdi2] at c0 e0 e24
            have HDI := Lib.hid hdi2
            have hd24 : di ≤ 24 := by omega
            have HC0 := Lib.hid (And.intro HD.out.1 c0)
            clear hsd ca hdi cr har hdi2 h24
            go_wp2_with (first
              | (go_at_call 49; (with_reducible refine (CA.out _).mono ?_)
                 rintro e w1 ⟨rfl, hb⟩
                 have HB1 := Lib.hid (HBr.out.trans (hb.mono HBr.out.size))
                 have HD1 := Lib.hid (HD.out.on hb)
                 have c0 := (hb.cell (p := ⟨w.heap.size, i, none⟩) HC0.out.1).trans HC0.out.2
                 have q0 := (HB1.out.cell (p := ⟨b, off + i * 6, none⟩) hbb).trans HQ.out.1
                 have q4 := (HB1.out.cell (p := ⟨b, off + i * 6 + 4, none⟩) hbb).trans HQ.out.2.1
                 have q5 := (HB1.out.cell (p := ⟨b, off + i * 6 + 5, none⟩) hbb).trans HQ.out.2.2
                 clear hb)
              | (go_at_call 50; (with_reducible refine (CR.out _).mono ?_); rintro e w2 ⟨rfl, rfl⟩)
              | fail)
            go_loopw [9] (fun v wx => ∃ (q : Nat) (dq : Nat → Nat), q ≤ ar ∧ v = .int .i64 q ∧ Hid (dq i = di) ∧ Hid (R = restD L i (ops.drop q) dq) ∧ Hid (DeepB wx w.heap.size n dq) ∧ Hid (Below w.heap.size w wx)) (fun v _ => ar - (intOf v).toNat)
            case atStart => exact ⟨0, d, Nat.zero_le _, rfl, Lib.hid HDI.out.symm, Lib.hid (by rw [List.drop_zero]; exact HZ.out), HD1, HB1⟩
            case round =>
              obtain ⟨q, dq, hq, rfl, HI, HRq, HDq, HBq⟩ := hrel
              by_cases hqa : q < ar
              · have HD9 := Lib.hid (HRq.out.trans (by rw [HOP.out q hqa]))
                obtain ⟨s0, s1⟩ := HDq.out.2 i hin
                rw [HI.out] at s0
                have t4 := (HBq.out.cell (p := ⟨b, off + i * 6 + 4, none⟩) hbb).trans HQ.out.2.1
                have t5 := (HBq.out.cell (p := ⟨b, off + i * 6 + 5, none⟩) hbb).trans HQ.out.2.2
                obtain ⟨o, ho⟩ : ∃ o, (if q = 0 then l else rr) = o := ⟨_, rfl⟩
                rw [show (if q = 0 then (⟨tk, nm.toList, x, tx.toList, l, rr⟩ : Trm).l else (⟨tk, nm.toList, x, tx.toList, l, rr⟩ : Trm).r) = o from ho] at HD9
                have hqq : (q = 0 ∧ l = o) ∨ (q = 1 ∧ rr = o) := by
                  rcases (show q = 0 ∨ q = 1 by omega) with rfl | rfl
                  · exact .inl ⟨rfl, by rw [if_pos rfl] at ho; exact ho⟩
                  · exact .inr ⟨rfl, by rw [if_neg (by decide)] at ho; exact ho⟩
                clear ho
                by_cases ho1 : o < 0
                · have HX := Lib.hid (HD9.out.trans (restD_bad (.inl ho1)))
                  rcases hqq with ⟨rfl, rfl⟩ | ⟨rfl, rfl⟩
                  all_goals
                    go_wp2_with fail
                    go_ret2
                    exact TreeRet.no HX.out HBq.out
                by_cases ho2 : (i : Int) ≤ o
                · have HX := Lib.hid (HD9.out.trans (restD_bad (.inr (.inl ho2))))
                  rcases hqq with ⟨rfl, rfl⟩ | ⟨rfl, rfl⟩
                  all_goals
                    go_wp2_with fail
                    go_ret2
                    exact TreeRet.no HX.out HBq.out
                obtain ⟨y, hy⟩ : ∃ y : Nat, o = (y : Int) := ⟨o.toNat, by omega⟩
                subst hy
                have hyi : y < i := by omega
                have hyn : y < n := by omega
                obtain ⟨z0, z1⟩ := HDq.out.2 y hyn
                by_cases ho3 : 0 < dq y
                · have HX := Lib.hid (HD9.out.trans (restD_bad (.inr (.inr (by rw [Int.toNat_natCast]; exact ho3)))))
                  have e3 : decide ((0 : Int) < ((dq y : Nat) : Int)) = true := decide_eq_true (by omega)
                  rcases hqq with ⟨rfl, rfl⟩ | ⟨rfl, rfl⟩
                  all_goals
                    go_wp2_with fail
                    go_ret2
                    exact TreeRet.no HX.out HBq.out
                · have hd0 : dq y = 0 := by omega
                  have HX := Lib.hid (HD9.out.trans (restD_good hyi hd0))
                  rw [HI.out] at HX
                  rw [hd0] at z0
                  have HNE := Lib.hid (show i ≠ y by omega)
                  clear hd0 ho3
                  rcases hqq with ⟨rfl, rfl⟩ | ⟨rfl, rfl⟩
                  all_goals
                    go_wp2_with fail
                    go_roundw
                    case rel => exact ⟨_, _, by omega, by go_num, Lib.hid ((markD_ne dq (di + 1) HNE.out).trans HI.out), HX, Lib.hid (HDq.out.set hyn (di + 1) (by go_num)), Lib.hid (HBq.out.setCell (Nat.le_refl _) _)⟩
                    case measure => simp [intOf] <;> omega
              · have HX := Lib.hid (show R = treeD L i dq by
                  rw [HRq.out, List.drop_of_length_le (by have := HOE.out; omega), restD_nil])
                go_wp2_with fail
                go_roundw
                case rel => exact ⟨(i : Int) - 1, i, dq, by omega, by omega, by go_num, Lib.hid (by omega), HX, HDq, HBq⟩
                case measure => simp [intOf] <;> omega
    · have hzm : z = -1 := by omega
      have HX := Lib.hid (show R = some d by
        have hk0 : k = 0 := by have := HK.out; omega
        rw [HR.out, hk0, treeD])
      subst hzm
      go_wp2_with fail
      go_ret2
      exact TreeRet.yes HX.out HD.out (Nat.le_refl _) HBr.out
end Go.Proofs.Ythchilnibblbgaa

/- Contracts of the reference's Tree, TermMay and Vars. -/
namespace Go.Proofs.Ythchilnibblbgaa
open Go.RowKit

/-! ### Plain -/
theorem treeF_places {L : List Trm} {root : Int} {d : Nat → Nat} (h : treeF L root = some d) : ∃ e, Good L root e ∧ ∀ p, 0 < d p ↔ p ∈ e.places := by
  unfold treeF at h
  split at h
  · rename_i hc
    obtain ⟨h1, h2, h3⟩ := hc
    obtain ⟨r, rfl⟩ : ∃ r : Nat, root = (r : Int) := ⟨root.toNat, by omega⟩
    rw [Int.toNat_natCast] at h
    exact (tree_root (by omega) h1).2 d h
  · cases h
theorem treeF_good {L : List Trm} {root : Int} {e : Exp} (h : Good L root e) : ∃ d, treeF L root = some d := by
  unfold treeF
  have hlt := h.2.2.1.lt
  have hat := h.2.1
  rw [if_pos ⟨h.1, by omega, by omega⟩, ← hat, Int.toNat_natCast]
  rw [← hat] at h
  exact (tree_root hlt h.1).1 e h
theorem treeF_may (L : List Trm) (root : Int) : (treeF L root).isSome = mayF L root := by
  cases hm : mayF L root
  · cases ht : treeF L root with
    | none => rfl
    | some d =>
      obtain ⟨e, he, _⟩ := treeF_places ht
      rw [(mayF_iff L root).2 ⟨e, he⟩] at hm
      cases hm
  · obtain ⟨e, he⟩ := (mayF_iff L root).1 hm
    obtain ⟨d, hd⟩ := treeF_good he
    rw [hd]; rfl
theorem names_at {L : List Trm} (x : Str) : ∀ {e : Exp}, Fits L e → (x ∈ e.names ↔ ∃ p t, p ∈ e.places ∧ L[p]? = some t ∧ t.kind = 0 ∧ t.name = x) := by
  intro e
  induction e with
  | leaf i t =>
    intro h
    simp only [Exp.names, Exp.places, List.mem_singleton]
    constructor
    · intro hx
      split at hx
      · rename_i hk; exact ⟨i, t, rfl, h.1, hk, (List.mem_singleton.1 hx).symm⟩
      · cases hx
    · rintro ⟨p, u, rfl, hu, hk, hx⟩
      rw [h.1] at hu
      obtain rfl := Option.some.inj hu
      rw [if_pos hk, List.mem_singleton]
      exact hx.symm
  | one i t a ih =>
    intro h
    simp only [Exp.names, Exp.places]
    rw [ih h.2.2.2.2.2]
    constructor
    · rintro ⟨p, u, hp, hr⟩; exact ⟨p, u, List.mem_cons_of_mem _ hp, hr⟩
    · rintro ⟨p, u, hp, hu, hk, hx⟩
      rcases List.mem_cons.1 hp with rfl | hp
      · rw [h.1] at hu
        obtain rfl := Option.some.inj hu
        have := h.2.2.1
        rw [hk] at this
        cases this
      · exact ⟨p, u, hp, hu, hk, hx⟩
  | two i t a b iha ihb =>
    intro h
    obtain ⟨h1, _, h3, _, _, _, _, fa, fb⟩ := h
    simp only [Exp.names, Exp.places]
    rw [List.mem_append, iha fa, ihb fb]
    constructor
    · rintro (⟨p, u, hp, hr⟩ | ⟨p, u, hp, hr⟩)
      · exact ⟨p, u, List.mem_cons_of_mem _ (List.mem_append_left _ hp), hr⟩
      · exact ⟨p, u, List.mem_cons_of_mem _ (List.mem_append_right _ hp), hr⟩
    · rintro ⟨p, u, hp, hu, hk, hx⟩
      rcases List.mem_cons.1 hp with rfl | hp
      · rw [h1] at hu
        obtain rfl := Option.some.inj hu
        rw [hk] at h3
        cases h3
      · rcases List.mem_append.1 hp with hp | hp
        · exact .inl ⟨p, u, hp, hu, hk, hx⟩
        · exact .inr ⟨p, u, hp, hu, hk, hx⟩
/-- The names that the reference has gathered below a place. -/
def gotten (L : List Trm) (d : Nat → Nat) : Nat → List Str
  | 0 => []
  | i + 1 => if 0 < d i ∧ (L.getD i trm0).kind = 0 then putS (gotten L d i) (L.getD i trm0).name else gotten L d i
theorem gotten_rises (L : List Trm) (d : Nat → Nat) : ∀ i, Rises (gotten L d i)
  | 0 => List.Pairwise.nil
  | i + 1 => by
    rw [gotten]
    split
    · exact putS_rises _ _
    · exact gotten_rises L d i
theorem mem_gotten (L : List Trm) (d : Nat → Nat) (x : Str) : ∀ i, x ∈ gotten L d i ↔ ∃ p, p < i ∧ 0 < d p ∧ (L.getD p trm0).kind = 0 ∧ (L.getD p trm0).name = x
  | 0 => by simp [gotten]
  | i + 1 => by
    rw [gotten]
    constructor
    · intro h
      split at h
      · rename_i hc
        rcases (mem_putS _ _ _).1 h with h | h
        · obtain ⟨p, hp, hr⟩ := (mem_gotten L d x i).1 h
          exact ⟨p, by omega, hr⟩
        · exact ⟨i, by omega, hc.1, hc.2, h.symm⟩
      · obtain ⟨p, hp, hr⟩ := (mem_gotten L d x i).1 h
        exact ⟨p, by omega, hr⟩
    · rintro ⟨p, hp, h1, h2, h3⟩
      by_cases hpi : p = i
      · subst hpi
        rw [if_pos ⟨h1, h2⟩, mem_putS]
        exact .inr h3.symm
      · have := (mem_gotten L d x i).2 ⟨p, by omega, h1, h2, h3⟩
        split
        · rw [mem_putS]; exact .inl this
        · exact this
theorem gotten_len (L : List Trm) (d : Nat → Nat) : ∀ i, (gotten L d i).length ≤ i
  | 0 => Nat.le_refl _
  | i + 1 => by
    have := gotten_len L d i
    rw [gotten]
    split
    · have := putS_len (gotten L d i) (L.getD i trm0).name; omega
    · omega
theorem gotten_all {L : List Trm} {root : Int} {d : Nat → Nat} (h : treeF L root = some d) : gotten L d L.length = varsF L root := by
  obtain ⟨e, he, hp⟩ := treeF_places h
  refine sorted_ext _ _ (gotten_rises _ _ _) (vars_rises _ _) (fun x => ?_)
  rw [mem_vars he, names_at x he.2.2.1, mem_gotten]
  constructor
  · rintro ⟨p, hpl, h1, h2, h3⟩
    exact ⟨p, L.getD p trm0, (hp p).1 h1, getD_some hpl, h2, h3⟩
  · rintro ⟨p, t, h1, h2, h3, h4⟩
    obtain ⟨h5, _⟩ := List.getElem?_eq_some_iff.1 h2
    have : L.getD p trm0 = t := by rw [List.getD_eq_getElem?_getD, h2]; rfl
    exact ⟨p, h5, (hp p).2 h1, by rw [this]; exact h3, by rw [this]; exact h4⟩

/-! ### Contracts -/
def inB (d : Nat → Nat) : Nat → Bool := fun j => decide (0 < d j)
def InRet (w : World) (n : Nat) (r : Option (Nat → Nat)) (e : Ending) (w' : World) : Prop :=
  (match r with
    | none => e = .returned (.tuple #[.slice none 0 0, .bool false])
    | some d => ∃ g, e = .returned (.tuple #[.slice (some ⟨g, 0, none⟩) n n, .bool true]) ∧ Seen w' g n (inB d) ∧ w.heap.size ≤ g) ∧ Below w.heap.size w w'
theorem InRet.no {w w' : World} {n : Nat} {r : Option (Nat → Nat)} (hr : r = none) (hb : Below w.heap.size w w') : InRet w n r (.returned (.tuple #[.slice none 0 0, .bool false])) w' := by
  subst hr; exact ⟨rfl, hb⟩
theorem InRet.yes {w w' : World} {n g : Nat} {r : Option (Nat → Nat)} {d : Nat → Nat} (hr : r = some d) (hd : Seen w' g n (inB d)) (hg : w.heap.size ≤ g) (hb : Below w.heap.size w w') : InRet w n r (.returned (.tuple #[.slice (some ⟨g, 0, none⟩) n n, .bool true])) w' := by
  subst hr; exact ⟨⟨g, rfl, hd, hg⟩, hb⟩
theorem Seen.put {W : World} {g n : Nat} {s : Nat → Bool} (h : Seen W g n s) {i : Nat} (hi : i < n) (b : Bool) : Seen (W.setCell ⟨g, i, none⟩ (.bool b)) g n (fun j => if j = i then b else s j) := by
  refine ⟨by simpa using h.1, fun j hj => ?_⟩
  rw [World.frozen?_setCell]
  refine ⟨?_, (h.2 j hj).2⟩
  dsimp only
  by_cases hji : j = i
  · subst hji
    rw [if_pos rfl, World.cell?_setCell_same' _ _ _ (by rw [(h.2 j hj).1]; rfl)]
  · rw [if_neg hji, World.cell?_setCell_other _ _ _ _ (fun e => by injection e with _ e _; exact hji e.symm), (h.2 j hj).1]
theorem Seen.as {W : World} {g n : Nat} {s s' : Nat → Bool} (h : Seen W g n s) (e : ∀ j, j < n → s j = s' j) : Seen W g n s' := ⟨h.1, fun j hj => by rw [← e j hj]; exact h.2 j hj⟩

set_option maxHeartbeats 4000000 in
theorem refIn_any (la : Option Addr) (n c : Nat) (L : List Trm) (root : Int) (w : World) (hT : Trms w w.heap.size la n L) (hn : n ≤ 1000) :
    Calls Try.prog 16 #[.slice la n c, .int .i64 root] w (InRet w n (treeF L root)) := by
  have ct := refTree_any la n c L root w hT hn
  have hmk := fun W => made_bools n hn W
  clear hT
  cases hr : treeF L root with
  | none =>
    rw [hr] at ct
    have CT := Lib.hid ct
    clear ct hmk hr
    go_enter Try.func16, Try.ntmps16
    go_wp2_with (first
      | (go_at_call 34; (with_reducible refine CT.out.mono ?_)
         rintro e w1 ⟨rfl, hb⟩
         have HB := Lib.hid hb
         clear hb)
      | fail)
    go_ret2
    exact InRet.no rfl HB.out
  | some d =>
    rw [hr] at ct
    have CT := Lib.hid ct
    clear ct hr
    go_enter Try.func16, Try.ntmps16
    go_wp2_with (first
      | (go_at_call 34; (with_reducible refine CT.out.mono ?_)
         rintro e w1 ⟨⟨g, rfl, hd, hg⟩, hb⟩
         have HB := Lib.hid hb
         have HD := Lib.hid hd
         have HS0 := Lib.hid (seen_made w1 n)
         have hzw := hb.size
         clear hb hd)
      | fail)
    go_loopw [9] (fun i wr => ∃ k : Nat, k ≤ n ∧ i = .int .i64 k ∧ Hid (Seen wr w1.heap.size n (fun j => decide (j < k) && inB d j)) ∧ Hid (Below w1.heap.size w1 wr)) (fun i _ => n - (intOf i).toNat)
    case atStart => exact ⟨0, Nat.zero_le _, rfl, Lib.hid (HS0.out.as (fun j _ => by simp)), Lib.hid (next_alloc w1 _)⟩
    case round =>
      obtain ⟨k, hk, rfl, HS, HBr⟩ := hrel
      by_cases hlt : k < n
      · obtain ⟨c0, c1⟩ := (HD.out.on HBr.out).2 k hlt
        obtain ⟨s0, s1⟩ := HS.out.2 k hlt
        go_wp2_with fail
        go_roundw
        case rel => exact ⟨k + 1, by omega, by go_num, Lib.hid ((HS.out.put hlt _).as (fun j hj => by
          by_cases hjk : j = k
          · subst hjk; rw [if_pos rfl, decide_eq_true (show j < j + 1 by omega), Bool.true_and]; rfl
          · rw [if_neg hjk]; congr 1; rw [decide_eq_decide]; omega)), Lib.hid (HBr.out.setCell (Nat.le_refl _) _)⟩
        case measure => simp [intOf] <;> omega
      · go_wp2_with fail
        go_ret2
        exact InRet.yes rfl (HS.out.as (fun j hj => by rw [decide_eq_true (by omega), Bool.true_and])) hzw (HB.out.trans (HBr.out.mono hzw))
set_option maxHeartbeats 4000000 in
theorem refTermMay_any (la : Option Addr) (n c : Nat) (L : List Trm) (root : Int) (w : World) (hT : Trms w w.heap.size la n L) (hn : n ≤ 1000) :
    Calls Try.prog 23 #[.slice la n c, .int .i64 root] w fun e w' => e = .returned (.bool (mayF L root)) ∧ Below w.heap.size w w' := by
  have ct := refTree_any la n c L root w hT hn
  have HM := Lib.hid (treeF_may L root)
  clear hT
  cases hr : treeF L root with
  | none =>
    rw [hr] at ct HM
    have CT := Lib.hid ct
    clear ct hr
    go_enter Try.func23, Try.ntmps23
    go_wp2_with (first
      | (go_at_call 34; (with_reducible refine CT.out.mono ?_)
         rintro e w1 ⟨rfl, hb⟩
         have HB := Lib.hid hb
         clear hb)
      | fail)
    go_ret
    exact ⟨ret_bool (by rw [← HM.out]; rfl), HB.out⟩
  | some d =>
    rw [hr] at ct HM
    have CT := Lib.hid ct
    clear ct hr
    go_enter Try.func23, Try.ntmps23
    go_wp2_with (first
      | (go_at_call 34; (with_reducible refine CT.out.mono ?_)
         rintro e w1 ⟨⟨g, rfl, hd, hg⟩, hb⟩
         have HB := Lib.hid hb
         clear hb hd)
      | fail)
    go_ret
    exact ⟨ret_bool (by rw [← HM.out]; rfl), HB.out⟩
end Go.Proofs.Ythchilnibblbgaa
