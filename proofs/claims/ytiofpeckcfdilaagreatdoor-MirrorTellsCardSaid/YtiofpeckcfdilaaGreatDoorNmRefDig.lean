/- Contract of the reference's Digits, at numbers from 1 to 99. -/
import Derived.Test.YtiofpeckcfdilaaGreatDoorRef2
import Derived.RegionTactic
import Derived.BigRegion
import Derived.Deep.RegionHeld3
import Derived.Laws.BytesArg
import Derived.IntWalk
import Derived.OpenShut
namespace Go.Proofs.YtiofpeckcfdilaaGreatDoor
open Go.RowKit Go.Sort

theorem conv_oneM (W : World) (b : Nat) (c : Int) (h : W.cell? ⟨b, 0, none⟩ = some (.int .u8 c)) :
    (convert 143 9 (.slice (some ⟨b, 0, none⟩) 1 1)).run Tryz.prog W = .ok (.string (strOfNums [c])) W :=
  run_convert_bytes_arg W 143 5 Tryz.underlying143 Tryz.underlying5 b 0 1 1 [c] rfl (fun i hi => by
    obtain rfl : i = 0 := by omega
    simpa using h) 9 Tryz.underlying9

theorem one_toListM (c : Int) : (strOfNums [c]).toList = [UInt8.ofNat c.toNat] := by rw [ByteArray.toList_eq, strOfNums_data]; rfl
theorem info5 : (Tryz.prog.info? 5).map (fun i => (i.zero, i.size, i.bytes)) = some (some (.int .u8 0), 1, 1) := by kernel_rfl
theorem own_byte (w : World) (v : Int) : (w.alloc (.cells #[.int .u8 v] 5)).ownsRow w.heap.size 5 1 (.slice (some ⟨w.heap.size, 0, none⟩) 1 1) 1 [.int .u8 v] :=
  ⟨rfl, .inr ⟨w.heap.size, 1, _, rfl, Nat.le_refl _, heap_alloc_new w _, Nat.le_refl _, by unfold maxLen; omega, rfl, rfl⟩⟩
theorem str_one (k : Nat) (h : k < 10) : strOfNums [48 + (k : Int)] = baS (Lib.decDigits k) := by
  apply toList_inj
  rw [baS_toList, one_toListM, dec_one k h]
  rfl
theorem str_two (k : Nat) (h1 : 10 ≤ k) (h2 : k < 100) : strOfNums [48 + ((k / 10 : Nat) : Int), 48 + ((k % 10 : Nat) : Int)] = baS (Lib.decDigits k) := by
  apply toList_inj
  rw [baS_toList, ByteArray.toList_eq, strOfNums_data, dec_two k h1 h2]
  rfl

/-- An append whose run is known, for the walk. -/
theorem wpList_append_run {P : Program} {w w' : World} {ops : Array Oper} {rest : List Oper} {o : Oper} {a : Act} {Q : Exit → Act → World → Prop} (hgd : o.guard = none) (s x : Operand) (t : TypeId)
    (ho : o.op = .call { callee := .builtin .append, args := #[s, x], argTypes := #[t, t] }) (v u v' : Value) (hs : a.eval s = v) (hx : a.eval x = u)
    (hrun : (Builtin.append_ #[t, t] o.type #[v, u]).run P w = .ok v' w') (h : wpList P ops Q rest (a.put o.dst v') w') : wpList P ops Q (o :: rest) a w :=
  wpList_plain hgd fun K hK => by
    unfold Oper.wp execOp
    simp only [ho, resolve, invoke, builtin, Sem.run_bind, Sem.run_pure, Result.andThen_ok, List.map_toArray, List.map_cons, List.map_nil, hs, hx, hrun]
    exact hK _ _ h

set_option maxHeartbeats 1000000 in
theorem digits_one (k : Nat) (h1 : 1 ≤ k) (hk : k < 10) (w : World) :
    Calls Tryz.prog 76 #[.int .i64 k] w fun e w' => e = .returned (.string (baS (Lib.decDigits k))) ∧ Below w.heap.size w w' := by
  have f1 : (k : Int) / 10 = 0 := by omega
  have f2 : (k : Int) % 10 = (k : Int) := by omega
  have f3 : decide ((k : Int) < 0) = false := decide_eq_false (by omega)
  have f4 : 0 < k := h1
  have f5 : decide (0 < k) = true := decide_eq_true f4
  have ec : (convert 143 9 (.slice (some ⟨w.heap.size, 0, none⟩) 1 1)).run Tryz.prog (w.alloc (.cells #[.int .u8 (48 + (k : Int))] 5)) = .ok (.string (baS (Lib.decDigits k))) (w.alloc (.cells #[.int .u8 (48 + (k : Int))] 5)) := by
    rw [← str_one k hk]; exact conv_oneM _ _ _ (by simp)
  go_enter Tryz.func76, Tryz.ntmps76
  go_wp2
  refine wp_loop_rounds 2 ?_
  rw [rounds_succ]
  go_wp2
  rw [rounds_succ]
  go_wp2
  go_ret
  exact ⟨rfl, (Below.refl _ _).alloc (Nat.le_refl _) _⟩

theorem app_two (w : World) (q r : Int) (ty : Nat) : ∃ g cap W3, (Builtin.append_ #[143, 143] ty #[.slice (some ⟨w.heap.size + 1, 0, none⟩) 1 1, .slice (some ⟨w.heap.size, 0, none⟩) 1 1]).run Tryz.prog ((w.alloc (.cells #[.int .u8 r] 5)).alloc (.cells #[.int .u8 q] 5)) = .ok (.slice (some ⟨g, 0, none⟩) 2 cap) W3 ∧
    Below w.heap.size w W3 ∧ (convert 143 9 (.slice (some ⟨g, 0, none⟩) 2 cap)).run Tryz.prog W3 = .ok (.string (strOfNums [q, r])) W3 := by
  obtain ⟨i0, hi0, hzz⟩ := Option.map_eq_some_iff.1 info5
  simp only [Prod.mk.injEq] at hzz
  obtain ⟨hz, hs1, hb1⟩ := hzz
  have ho := own_byte (w.alloc (.cells #[.int .u8 r] 5)) q
  have hsz : (w.alloc (.cells #[.int .u8 r] 5)).heap.size = w.heap.size + 1 := by simp
  rw [hsz] at ho
  obtain ⟨v', w', hrun, hown, hgr, _, hat⟩ := run_append_own_at (P := Tryz.prog) ((w.alloc (.cells #[.int .u8 r] 5)).alloc (.cells #[.int .u8 q] 5)) (w.heap.size + 1) 143 ty 5 i0 _ 1 1 Tryz.underlying143 hi0 hz hs1 hb1 rfl (by omega) _ 1 _ ho ⟨w.heap.size, 0, none⟩ 1 1 [.int .u8 r] rfl
    (fun j u hu => by
      have hj : j = 0 := by
        rcases Nat.eq_zero_or_pos j with h | h
        · exact h
        · rw [List.getElem?_eq_none (by simp; omega)] at hu; cases hu
      subst hj
      have hu' : Value.int .u8 r = u := by simpa using hu
      subst hu'
      rw [Go.WideShapes.add_plain]
      simp) (by simp [Value.oneCell']) (by unfold maxLen; omega) (by omega) (by simp)
  rcases hown.2 with ⟨_, h0⟩ | ⟨g, cap, cur, rfl, hbase, hh, h1, h2, h3, h4⟩
  · omega
  refine ⟨g, cap, w', hrun, ?_, ?_⟩
  · have b1 := ((Below.refl w.heap.size w).alloc (Nat.le_refl _) (.cells #[.int .u8 r] 5)).alloc (by simp) (.cells #[.int .u8 q] 5)
    exact b1.grown hgr b1.size (fun j hj => by simp [Value.ownBlock] at hj; omega)
  · refine run_convert_bytes_arg w' 143 5 Tryz.underlying143 Tryz.underlying5 g 0 2 cap [q, r] rfl (fun i hi => ?_) 9 Tryz.underlying9
    rw [Nat.zero_add, cell_of_row w' g i cur 5 (0, 0) hh]
    have : (cur.toList.take (2 * 1))[i]? = ([Value.int .u8 q] ++ [Value.int .u8 r])[i]? := by rw [h4]
    rw [List.getElem?_take, if_pos (by omega)] at this
    rw [← Array.getElem?_toList, this]
    rcases i with _ | _ | i
    · rfl
    · rfl
    · omega

set_option maxHeartbeats 1000000 in
theorem digits_two (k : Nat) (h1 : 10 ≤ k) (hk : k < 100) (w : World) :
    Calls Tryz.prog 76 #[.int .i64 k] w fun e w' => e = .returned (.string (baS (Lib.decDigits k))) ∧ Below w.heap.size w w' := by
  obtain ⟨q, hq⟩ : ∃ q : Nat, q = k / 10 := ⟨_, rfl⟩
  obtain ⟨r, hr⟩ : ∃ r : Nat, r = k % 10 := ⟨_, rfl⟩
  have f1 : (k : Int) / 10 = (q : Int) := by omega
  have f2 : (k : Int) % 10 = (r : Int) := by omega
  have g1 : (q : Int) / 10 = 0 := by omega
  have g2 : (q : Int) % 10 = (q : Int) := by omega
  have f3 : decide ((k : Int) < 0) = false := decide_eq_false (by omega)
  have f4 : 0 < k := by omega
  have f5 : decide (0 < k) = true := decide_eq_true f4
  have g4 : 0 < q := by omega
  have g5 : decide (0 < q) = true := decide_eq_true g4
  have r1 : (r : Int) ≤ 9 := by omega
  have q1 : (q : Int) ≤ 9 := by omega
  have hst := str_two k h1 hk
  rw [← hq, ← hr] at hst
  have HST := Lib.hid hst
  clear hst hq hr
  obtain ⟨g, cap, W3, hrun, hbel, hcv⟩ := app_two w (48 + (q : Int)) (48 + (r : Int)) 143
  rw [HST.out] at hcv
  have HBL := Lib.hid hbel
  have HR := Lib.hid hrun
  clear hbel hrun
  go_enter Tryz.func76, Tryz.ntmps76
  go_wp2
  refine wp_loop_rounds 3 ?_
  rw [rounds_succ]
  go_wp2
  rw [rounds_succ]
  go_wp2_with (at_builtin; refine wpList_append_run rfl (.tmp 22) (.tmp 23) _ rfl _ _ _ rfl rfl HR.out ?_)
  rw [rounds_succ]
  go_wp2
  go_ret
  exact ⟨rfl, HBL.out⟩

theorem digits_any (k : Nat) (h1 : 1 ≤ k) (hk : k < 100) (w : World) :
    Calls Tryz.prog 76 #[.int .i64 k] w fun e w' => e = .returned (.string (baS (Lib.decDigits k))) ∧ Below w.heap.size w w' := by
  rcases Nat.lt_or_ge k 10 with h | h
  · exact digits_one k h1 h w
  · exact digits_two k h hk w
end Go.Proofs.YtiofpeckcfdilaaGreatDoor
