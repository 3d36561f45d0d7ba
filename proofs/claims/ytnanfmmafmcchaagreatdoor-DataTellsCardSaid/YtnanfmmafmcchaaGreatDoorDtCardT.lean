/- The statement DataTells holds for every argument, with no condition; the listed variables are tied to the program's text. -/
import Derived.Test.YtnanfmmafmcchaaGreatDoorDtLawT
import Derived.Test.YtnanfmmafmcchaaGreatDoorDtSeat
import Derived.Test.YtnanfmmafmcchaaGreatDoorCards
import Derived.Test.YtnanfmmafmcchaaGreatDoorTie
import Derived.SevenTiedAt
import Derived.ChangeOld
import Derived.ShutString
import Derived.SizedLaws
import Derived.Lib.SmallJoins
namespace Go.Proofs.YtnanfmmafmcchaaGreatDoor.dataTells
open Go Go.ChangeShapes Go.WideShapes Go.ChangeAt Go.RowKit
open Go.ChangeMaps (open_string shut_string)

set_option maxRecDepth 100000 in
/-- The text of a value that came in is within the reach. -/
theorem open_sized {H : Type} {enc : TypeId × Value → H} {W : World} {b0 : Nat} {v : Value} {d : DataW H} {p : List MemPlace} (hv : Value.okWide Tryz.prog W .any b0 24 v)
    (h : DataW.Trod enc Tryz.prog W 0 (fun _ => true) true 24 v d p) {k x : Int} {s : ByteArray} {a : Option Addr} {n c : Nat} (hvv : v = .agg #[.int .i64 k, .int .i64 x, .string s, .slice a n c])
    (hw : ∀ m ∈ d.weights Tryz.prog 24, m ≤ reachBytes) : s.size ≤ 1000000000000000 := by
  obtain ⟨v0, v1, v2, v3, y0, y1, y2, y3, m, hva, rfl, rfl, g0, g1, g2, g3⟩ := Go.Joins.open_agg4 Tryz.underlying24 (by kernel_rfl) (by kernel_rfl) hv h
  obtain ⟨s', e2, hy, _⟩ := DataW.trod_string Tryz.underlying9 g2
  rw [hvv] at hva
  injection hva with hva
  injection hva with hva
  simp only [List.cons.injEq, and_true] at hva e2
  rw [e2] at hva
  obtain ⟨_, _, h2, _⟩ := hva
  injection h2 with h2
  subst h2
  have hm := hw s.data.toList.length (by
    rw [hy]
    simp [DataW.weights, DataW.weightsEach, Tryz.underlying24])
  have e : s.data.toList.length = s.size := by simp
  rw [e] at hm
  unfold reachBytes at hm
  omega

set_option maxRecDepth 100000 in
theorem lifted (os : Os) (started : os.Started) (H : Type) (enc : TypeId × Value → H) :
    ReturnsInHanded {} Tryz.checked os 3 .any (fun w args => (Rows.dataTellsSpec.pre enc Tryz.prog Tryz.f3 [] false w args ∧ laidMetH Tryz.prog Rows.dataTellsRow.laid w) ∧ sizedMet enc Tryz.prog Tryz.f3 (OpenSpec.ofChange Rows.dataTellsSpec) false w args)
      (Rows.dataTellsSpec.post enc Tryz.prog Tryz.f3 false true false false) := by
  refine returnsInHanded_of_change_and (C := Tryz.checked) (X := fun w _ => laidMetH Tryz.prog Rows.dataTellsRow.laid w) (fun _ _ _ hh h => h.of_heap hh) seatOwn started (by kernel_rfl) Tryz.func3
    (ChangeSpec.witness_shaped (enc := enc) (C := Tryz.checked) (os := os) (X := fun w _ => laidMetH Tryz.prog Rows.dataTellsRow.laid w) false (World.laidAll Tryz.prog os Rows.dataTellsRow.laid) #[.agg #[.int .i64 0, .int .i64 0, .string ByteArray.empty, .slice none 0 0], .agg #[.int .i64 0, .int .i64 0, .string ByteArray.empty, .slice none 0 0], .string ByteArray.empty] 8 (World.laidAll_os _ _ _)
      (World.shaped_of_ZipB (by kernel_rfl) (by kernel_rfl)) (by kernel_rfl) (by kernel_rfl) (by kernel_rfl) (door_met os _)) ?_
  intro W base args ds gs before hval0 hW _ hsz0 hX0 _
  have hval : ∀ (j : Nat) t v, Tryz.f3.params[j]? = some t → args[j]? = some v → Value.okWide Tryz.prog W .any base t v := hval0
  have hW' := hW
  obtain ⟨p, q, hA0, hV, rfl, hfz, hnd⟩ := hW
  have hA : DataW.TrodAll enc Tryz.prog W 0 (fun _ => true) true Tryz.f3.params.toList args.toList ds p := hA0
  rw [Tryz.params3] at hA hval
  obtain ⟨v0, vs0, d0, ds0, p0, q0, hargs, rfl, rfl, h0, r0⟩ := trodAll_cons hA
  obtain ⟨v1, vs1, d1, ds1, p1, q1, rfl, rfl, rfl, h1, r1⟩ := trodAll_cons r0
  obtain ⟨v2, vs2, d2, ds2, p2, q2, rfl, rfl, rfl, h2, r2⟩ := trodAll_cons r1
  obtain ⟨rfl, rfl, rfl⟩ := trodAll_nil r2
  obtain rfl : args = #[v0, v1, v2] := by cases args; simp_all
  obtain ⟨rfl, rfl⟩ := trodVars_none hV
  have k0 := h0
  have lt0 := args_below k0
  obtain ⟨k0k, x0, s0, a0, n0, c0, l0, rfl, hn0, hk0, hx0, hi0, hc0, hm0, hs0⟩ := open_val (hval 0 24 v0 rfl rfl) h0
  have k1 := h1
  have lt1 := args_below k1
  obtain ⟨k1k, x1, s1, a1, n1, c1, l1, rfl, hn1, hk1, hx1, hi1, hc1, hm1, hs1⟩ := open_val (hval 1 24 v1 rfl rfl) h1
  have k2 := h2
  have lt2 := args_below k2
  obtain ⟨s2, rfl, rfl, rfl, w2⟩ := open_string Tryz.underlying9 (hval 2 9 v2 rfl rfl) h2
  have hsz : (DataW.weightsEach Tryz.prog (Tryz.f3.params.toList ++ Rows.dataTellsSpec.plain.varTypes Tryz.prog) ([d0, d1, .lit (.string s2.data.toList)] ++ [])).all (· ≤ reachBytes) = true := hsz0
  have hz := open_sized (hval 0 24 _ rfl rfl) h0 rfl (fun m hm => by
    have h1 := List.all_eq_true.1 hsz _ (DataW.weights_mem_each (j := 0) (t := 24) (by rw [Tryz.params3]; rfl) rfl m hm)
    exact of_decide_eq_true h1)
  clear hA0 hval0
  refine (dataTells_walk k0k x0 s0 a0 n0 c0 l0 k1k x1 s1 a1 n1 c1 l1 s2 W hn0 hn1 hx0 hi0 (met_of hX0) hz).mono fun e W' ⟨he, bel⟩ => ?_
  subst he
  exact ⟨_, rfl, _, _, _, [], _, [], hW', trodAll_mk1 (shut_bool Tryz.underlying4 _), (trodAll_cons_mk (Below.trod seatLaidOut (by kernel_rfl) (of_decide_eq_true (by kernel_rfl)) k0 bel lt0) (trodAll_cons_mk (Below.trod seatLaidOut (by kernel_rfl) (of_decide_eq_true (by kernel_rfl)) k1 bel lt1) (trodAll_cons_mk (Below.trod seatLaidOut (by kernel_rfl) (of_decide_eq_true (by kernel_rfl)) k2 bel lt2) trodAll_mk0))), rfl, bel.frame _, fun h => by cases h⟩

theorem over : Rows.DataTellsSaid :=
  OpenClaim.holds_of_wide 3 Tryz.f3 rfl rfl rfl rfl rfl rfl rfl ⟨rfl, rfl, rfl, rfl, rfl⟩ rfl rfl rfl rfl rfl (by kernel_rfl) Tryz.func3 (by kernel_rfl)
    (of_decide_eq_true (by kernel_rfl)) (by unfold Func.isWrapper; first | (rw [if_pos (by decide +kernel)]; kernel_rfl) | (rw [if_neg (by decide +kernel)]; exact ⟨rfl, rfl⟩))
    (fun os started H enc _ => lifted os started H enc)

theorem proved : Rows.DataTellsCardSaid :=
  Claim7.holds_tied_plain_at .later [] [.data, .data, .data, .data, .sentinel, .sentinel, .pinned] true _ true
    over (fun _ h => by cases h) (by kernel_rfl) (fun _ h => by cases h) dataTells_row_tie rfl ⟨rfl, rfl⟩ (by kernel_rfl) rfl
    (fun f fn hf hfn => by
      obtain rfl : f = 3 := Option.some.inj ((show Tryz.prog.funcNamed Rows.dataTellsRow.func = some 3 by kernel_rfl).symm.trans hf) |>.symm
      obtain rfl : fn = Tryz.f3 := (Option.some.inj (Tryz.func3.symm.trans hfn)).symm
      exact ⟨by kernel_rfl, fun j t ht => by
        rw [Tryz.params3] at ht
        have hm : t ∈ [24, 24, 9] := by simpa using Array.mem_of_getElem? ht
        have hall : ([24, 24, 9].all fun u => !Tryz.prog.wantsStandIn u) = true := by kernel_rfl
        exact (show Tryz.prog.wantsStandIn t = false by simpa using List.all_eq_true.1 hall t hm)⟩)
    (by kernel_rfl)
end Go.Proofs.YtnanfmmafmcchaaGreatDoor.dataTells
