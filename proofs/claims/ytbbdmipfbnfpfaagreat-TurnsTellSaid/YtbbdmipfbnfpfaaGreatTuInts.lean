/- A slice of ints that the call made: some more, and it may be read; contracts of the reference's placeInt and hasInt. -/
import Derived.Test.YtbbdmipfbnfpfaaGreatTuSort
namespace Go.Proofs.YtbbdmipfbnfpfaaGreat
open Go.RowKit

/-- The slice v, which the call made (its array lies at base or above), holds just these numbers. -/
def IInts (w : World) (base : Nat) (v : Value) (l : List Int) : Prop := w.ownsRow base 3 1 v l.length (l.map encI64)
theorem IInts.zero (w : World) (base : Nat) : IInts w base (.slice none 0 0) [] := World.ownsRow_nil w base 3 1
theorem IInts.alloc {w : World} {base : Nat} {v : Value} {l : List Int} (h : IInts w base v l) (o : Obj) : IInts (w.alloc o) base v l := World.ownsRow.alloc h o
theorem IInts.drewN {w : World} {base : Nat} {v : Value} {l : List Int} (h : IInts w base v l) (k : Nat) : IInts (w.drewN k) base v l := h
theorem IInts.below {w w' : World} {base B : Nat} {v : Value} {l : List Int} (h : IInts w base v l) (hb : Below B w w') (hB : w.heap.size ≤ B) : IInts w' base v l := by
  have hlt := h.lt
  rcases h.2 with h0 | ⟨g, cap, cur, rfl, hbase, hh, h1, h2, h3, h4⟩
  · exact ⟨h.1, .inl h0⟩
  · refine ⟨h.1, .inr ⟨g, cap, cur, rfl, hbase, ?_, h1, h2, h3, h4⟩⟩
    have := (hlt g rfl).2
    rw [hb.block g (by omega)]
    exact hh
theorem IInts.low {w : World} {base base' : Nat} {v : Value} {l : List Int} (h : IInts w base v l) (hb : base' ≤ base) : IInts w base' v l := by
  rcases h.2 with h0 | ⟨g, cap, cur, rfl, hbase, hh, h1, h2, h3, h4⟩
  · exact ⟨h.1, .inl h0⟩
  · exact ⟨h.1, .inr ⟨g, cap, cur, rfl, Nat.le_trans hb hbase, hh, h1, h2, h3, h4⟩⟩
theorem info_int1 : (Tryz.prog.info? 3).map (fun i => (i.zero, i.size, i.bytes)) = some (some (.int .i64 0), 1, 8) := by kernel_rfl
/-- Some numbers more, which the world holds in a new array. -/
theorem IInts.more {w : World} {base : Nat} {v : Value} {l : List Int} (h : IInts w base v l) (hb : base ≤ w.heap.size) (news : List Int) (hlen : l.length + news.length ≤ 7000000000000) (ty : Nat) :
    ∃ v' w', (Builtin.append_ #[25, 25] ty #[v, .slice (some ⟨w.heap.size, 0, none⟩) news.length news.length]).run Tryz.prog (w.alloc (.cells (news.map encI64).toArray 3)) = .ok v' w' ∧
      IInts w' base v' (l ++ news) ∧ ∀ B, B ≤ base → ∀ w0, Below B w0 w → Below B w0 w' := by
  obtain ⟨i0, hi0, hzz⟩ := Option.map_eq_some_iff.1 info_int1
  simp only [Prod.mk.injEq] at hzz
  obtain ⟨hz, hs1, hb1⟩ := hzz
  obtain ⟨v', w', hrun, hown, hgr, _, hat⟩ := run_append_own_at (P := Tryz.prog) (w.alloc (.cells (news.map encI64).toArray 3)) base 25 ty 3 i0 _ 1 8 Tryz.underlying25 hi0 hz hs1 hb1 rfl (by omega) v l.length (l.map encI64) (h.alloc _)
    ⟨w.heap.size, 0, none⟩ news.length news.length (news.map encI64) (by simp)
    (fun j u hu => by
      have hj : j < news.length := by
        rcases Nat.lt_or_ge j news.length with h | h
        · exact h
        · rw [List.getElem?_eq_none (by simpa using h)] at hu; cases hu
      rw [cell_alloc j (by simpa using hj)]
      rw [← hu, List.getElem?_eq_getElem (by simpa using hj)]
      simp)
    (fun u hu => by obtain ⟨c, _, rfl⟩ := List.mem_map.1 hu; rfl) (by unfold maxLen; omega) (by omega) (by simp; omega)
  refine ⟨v', w', hrun, ?_, fun B hB w0 hw0 => ?_⟩
  · unfold IInts
    rw [List.length_append, List.map_append]
    exact hown
  · exact (hw0.alloc (by omega) _).grown hgr (by simp; omega) (fun k hk => by
      have := (h.alloc (.cells (news.map encI64).toArray 3)).lt k hk
      omega)
theorem wpList_append_iints {ops : Array Oper} {rest : List Oper} {o : Oper} {a : Act} {Q : Exit → Act → World → Prop} {W : World} {cells : Array Value} (hgd : o.guard = none) (s x : Operand)
    (ho : o.op = .call { callee := .builtin .append, args := #[s, x], argTypes := #[25, 25] }) (base : Nat) (v : Value) (l : List Int) (n : Int) (hc : cells = #[.int .i64 n])
    (hs : a.eval s = v) {g : Nat} (hx : a.eval x = .slice (some ⟨g, 0, none⟩) 1 1) (hg : g = W.heap.size) (hB : IInts W base v l) (hb : base ≤ W.heap.size) (hlen : l.length ≤ 1000000000000)
    (w0 : World) (hw : Below base w0 W)
    (h : ∀ v' w', IInts w' base v' (l ++ [n]) → Below base w0 w' → wpList Tryz.prog ops Q rest (a.put o.dst v') w') : wpList Tryz.prog ops Q (o :: rest) a (W.alloc (.cells cells 3)) := by
  subst hc hg
  obtain ⟨v', w', hrun, hown, hbel⟩ := hB.more hb [n] (by simp; omega) o.type
  exact wpList_append_lx hgd s x _ ho _ _ _ hs hx hrun (h v' w' hown (hbel base (Nat.le_refl _) w0 hw))
/-- A slice of numbers that the call made may be read. -/
theorem IInts.sees {w : World} {base : Nat} {v : Value} {l : List Int} (h : IInts w base v l) :
    ∃ a cap, v = .slice a l.length cap ∧ l.length ≤ cap ∧ cap ≤ maxLen ∧ From base a l.length ∧ Nums w w.heap.size a l.length l := by
  have hlt := h.lt
  rcases h.2 with ⟨h0, h1⟩ | ⟨g, cap, cur, rfl, hbase, hh, h1, h2, h3, h4⟩
  · have hz : l = [] := by
      cases l with
      | nil => rfl
      | cons x l => simp at h1
    subst hz
    exact ⟨none, 0, h0, Nat.le_refl _, Nat.zero_le _, From.zero _ _, Nums.zero _ _ _⟩
  · refine ⟨_, cap, rfl, h1, h2, fun _ => ⟨g, 0, rfl, hbase⟩, rfl, by unfold maxLen at h2; omega, fun _ => ⟨g, 0, rfl, (hlt g rfl).2, fun j x hj => ?_⟩⟩
    have hj' : j < l.length := by
      rcases Nat.lt_or_ge j l.length with h | h
      · exact h
      · rw [List.getElem?_eq_none h] at hj; cases hj
    rw [cell_of_row w g _ cur 3 (0, 0) hh]
    have : (cur.toList.take (l.length * 1))[j]? = (l.map encI64)[j]? := by rw [h4]
    rw [List.getElem?_take, if_pos (by omega), List.getElem?_map, hj] at this
    rw [Nat.zero_add, ← Array.getElem?_toList, this]
    rfl
/-- A row of numbers that the statement just laid. -/
theorem INums_made (w : World) (cs : Array Value) (l : List Int) (n : Nat) (hc : cs = (l.map encI64).toArray) (hn : l.length = n) (hl : n ≤ 100000) :
    Nums (w.alloc (.cells cs 3)) (w.heap.size + 1) (some ⟨w.heap.size, 0, none⟩) n l := by
  refine ⟨hn, by omega, fun _ => ⟨w.heap.size, 0, rfl, by omega, fun j x hj => ?_⟩⟩
  rw [cell_of_row _ _ _ _ _ _ (heap_alloc_new w _), hc, Nat.zero_add, List.getElem?_toArray, List.getElem?_map, hj]
  rfl
/-- The first place of a number, from a place on. -/
def idxI (x : Int) : List Int → Nat → Int
  | [], _ => -1
  | y :: r, i => if y = x then (i : Int) else idxI x r (i + 1)
theorem idxI_at {x : Int} {l : List Int} {k : Nat} {y : Int} (h : l[k]? = some y) : idxI x (l.drop k) k = if y = x then (k : Int) else idxI x (l.drop (k + 1)) (k + 1) := by
  obtain ⟨h1, e⟩ := List.getElem?_eq_some_iff.1 h
  rw [List.drop_eq_getElem_cons h1, e, idxI]
theorem idxI_nat (x : Nat) : ∀ (row : List Nat) (i : Nat), idxI (x : Int) (row.map fun n : Nat => (n : Int)) i = if x ∈ row then ((i + row.idxOf x : Nat) : Int) else -1
  | [], i => rfl
  | y :: r, i => by
    rw [List.map_cons, idxI]
    by_cases h : y = x
    · subst h
      rw [if_pos rfl, if_pos (by simp)]
      simp
    · rw [if_neg (by omega), idxI_nat x r (i + 1), List.idxOf_cons, beq_eq_false_iff_ne.2 h, cond_false]
      by_cases hx : x ∈ r
      · rw [if_pos hx, if_pos (by simp [hx])]
        congr 1
        omega
      · rw [if_neg hx, if_neg (by simp [hx]; exact fun e => h e.symm)]
theorem idxI_has (x : Nat) (row : List Nat) : decide (0 ≤ idxI (x : Int) (row.map fun n : Nat => (n : Int)) 0) = decide (x ∈ row) := by
  rw [idxI_nat]
  by_cases h : x ∈ row
  · rw [if_pos h, decide_eq_true h, decide_eq_true (by omega)]
  · rw [if_neg h, decide_eq_false h, decide_eq_false (by omega)]

set_option maxHeartbeats 2000000 in
theorem tuPlace_any (a : Option Addr) (n c : Nat) (l : List Int) (x : Int) (w : World) (bound : Nat) (h : Nums w bound a n l) :
    Calls Tryz.prog 54 #[.slice a n c, .int .i64 x] w fun e w' => e = .returned (.int .i64 (idxI x l 0)) ∧ w' = w := by
  have hsz := h.2.1
  have HLEN := Lib.hid h.1
  have HN := Lib.hid h
  obtain ⟨R, hR⟩ : ∃ R, R = idxI x l 0 := ⟨_, rfl⟩
  rw [← hR]
  have HR := Lib.hid hR
  clear h hR
  go_enter Tryz.func54, Tryz.ntmps54
  go_wp2
  go_loop [5] (fun i => ∃ k : Nat, k ≤ n ∧ i = .int .i64 k ∧ Hid (R = idxI x (l.drop k) k)) (fun i => n - (intOf i).toNat)
  case atStart => exact ⟨0, Nat.zero_le _, rfl, Lib.hid HR.out⟩
  case round =>
    obtain ⟨k, hk, rfl, HK⟩ := hrel
    by_cases hlt : k < n
    · obtain ⟨b, off, y, rfl, hbb, hy, q0⟩ := HN.out.at_ hlt
      have hst := HK.out.trans (idxI_at (x := x) hy)
      cases he : (y == x)
      · rw [if_neg (by rw [beq_eq_false_iff_ne] at he; exact he)] at hst
        have HZ := Lib.hid hst
        clear hst hy
        go_wp2_with fail
        go_round
        case rel => exact ⟨k + 1, by omega, by go_num, HZ⟩
        case measure => simp [intOf] <;> omega
      · rw [if_pos (eq_of_beq he)] at hst
        have HZ := Lib.hid hst
        clear hst hy
        go_wp2_with fail
        go_ret
        exact ⟨ret_int HZ.out.symm, rfl⟩
    · have HZ := Lib.hid (show R = -1 by rw [HK.out, List.drop_of_length_le (by rw [HLEN.out]; omega), idxI])
      go_wp2_with fail
      go_ret
      exact ⟨ret_int HZ.out.symm, rfl⟩
theorem tuHas_any (a : Option Addr) (n c : Nat) (row : List Nat) (x : Nat) (w : World) (bound : Nat) (h : Nums w bound a n (row.map fun n : Nat => (n : Int))) :
    Calls Tryz.prog 44 #[.slice a n c, .int .i64 (x : Int)] w fun e w' => e = .returned (.bool (decide (x ∈ row))) ∧ w' = w := by
  have CP := Lib.hid (fun W (h : Nums W bound a n (row.map fun n : Nat => (n : Int))) => tuPlace_any a n c _ (x : Int) W bound h)
  have HZ := Lib.hid (idxI_has x row)
  have HN := Lib.hid h
  generalize decide (x ∈ row) = R at HZ ⊢
  generalize idxI (x : Int) (row.map fun n : Nat => (n : Int)) 0 = i at HZ CP
  clear h
  go_enter Tryz.func44, Tryz.ntmps44
  go_wp2_with (first
    | (go_at_call 54; (with_reducible refine (CP.out _ HN.out).mono ?_); rintro e w1 ⟨rfl, rfl⟩)
    | fail)
  go_ret
  exact ⟨ret_bool HZ.out, rfl⟩
end Go.Proofs.YtbbdmipfbnfpfaaGreat
