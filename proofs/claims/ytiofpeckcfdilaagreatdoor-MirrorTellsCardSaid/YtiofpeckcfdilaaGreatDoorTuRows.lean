/- A slice of ints that the call made: some more, and it may be read; contracts of the reference's placeInt and hasInt. -/
import Derived.Test.YtiofpeckcfdilaaGreatDoorTuOwns
import Derived.Laws.StructEq
import Derived.Laws.OwnMore
import Derived.Laws.MakeOwn
namespace Go.Proofs.YtiofpeckcfdilaaGreatDoor
open Go.RowKit

/-- The slice v, which the call made (its array lies at base or above), holds just these numbers. -/
def IInts (w : World) (base : Nat) (v : Value) (l : List Int) : Prop := w.ownsRow base 3 1 v l.length (l.map encI64)
theorem IInts.zero (w : World) (base : Nat) : IInts w base (.slice none 0 0) [] := World.ownsRow_nil w base 3 1
theorem IInts.alloc {w : World} {base : Nat} {v : Value} {l : List Int} (h : IInts w base v l) (o : Obj) : IInts (w.alloc o) base v l := World.ownsRow.alloc h o
theorem IInts.drewN {w : World} {base : Nat} {v : Value} {l : List Int} (h : IInts w base v l) (k : Nat) : IInts (w.drewN k) base v l := h
theorem IInts.below {w w' : World} {base B : Nat} {v : Value} {l : List Int} (h : IInts w base v l) (hb : Below B w w') (hB : w.heap.size ≤ B) : IInts w' base v l := by
  have hlt := h.lt
  rcases h.2 with h0 | ⟨g, cap, cur, rfl, hbase, hh, h1, h2, h3, h4⟩
  · exact ⟨h.1, .inl h0⟩
  · refine ⟨h.1, .inr ⟨g, cap, cur, rfl, hbase, ?_, h1, h2, h3, h4⟩⟩
    have := (hlt g rfl).2
    rw [hb.block g (by omega)]
    exact hh
theorem IInts.low {w : World} {base base' : Nat} {v : Value} {l : List Int} (h : IInts w base v l) (hb : base' ≤ base) : IInts w base' v l := by
  rcases h.2 with h0 | ⟨g, cap, cur, rfl, hbase, hh, h1, h2, h3, h4⟩
  · exact ⟨h.1, .inl h0⟩
  · exact ⟨h.1, .inr ⟨g, cap, cur, rfl, Nat.le_trans hb hbase, hh, h1, h2, h3, h4⟩⟩
theorem info_int1 : (Tryz.prog.info? 3).map (fun i => (i.zero, i.size, i.bytes)) = some (some (.int .i64 0), 1, 8) := by kernel_rfl
/-- Some numbers more, which the world holds in a new array. -/
theorem IInts.more {w : World} {base : Nat} {v : Value} {l : List Int} (h : IInts w base v l) (hb : base ≤ w.heap.size) (news : List Int) (hlen : l.length + news.length ≤ 7000000000000) (ty : Nat) :
    ∃ v' w', (Builtin.append_ #[25, 25] ty #[v, .slice (some ⟨w.heap.size, 0, none⟩) news.length news.length]).run Tryz.prog (w.alloc (.cells (news.map encI64).toArray 3)) = .ok v' w' ∧
      IInts w' base v' (l ++ news) ∧ ∀ B, B ≤ base → ∀ w0, Below B w0 w → Below B w0 w' := by
  obtain ⟨i0, hi0, hzz⟩ := Option.map_eq_some_iff.1 info_int1
  simp only [Prod.mk.injEq] at hzz
  obtain ⟨hz, hs1, hb1⟩ := hzz
  obtain ⟨v', w', hrun, hown, hgr, _, hat⟩ := run_append_own_at (P := Tryz.prog) (w.alloc (.cells (news.map encI64).toArray 3)) base 25 ty 3 i0 _ 1 8 Tryz.underlying25 hi0 hz hs1 hb1 rfl (by omega) v l.length (l.map encI64) (h.alloc _)
    ⟨w.heap.size, 0, none⟩ news.length news.length (news.map encI64) (by simp)
    (fun j u hu => by
      have hj : j < news.length := by
        rcases Nat.lt_or_ge j news.length with h | h
        · exact h
        · rw [List.getElem?_eq_none (by simpa using h)] at hu; cases hu
      rw [cell_alloc j (by simpa using hj)]
      rw [← hu, List.getElem?_eq_getElem (by simpa using hj)]
      simp)
    (fun u hu => by obtain ⟨c, _, rfl⟩ := List.mem_map.1 hu; rfl) (by unfold maxLen; omega) (by omega) (by simp; omega)
  refine ⟨v', w', hrun, ?_, fun B hB w0 hw0 => ?_⟩
  · unfold IInts
    rw [List.length_append, List.map_append]
    exact hown
  · exact (hw0.alloc (by omega) _).grown hgr (by simp; omega) (fun k hk => by
      have := (h.alloc (.cells (news.map encI64).toArray 3)).lt k hk
      omega)
theorem wpList_append_iints {ops : Array Oper} {rest : List Oper} {o : Oper} {a : Act} {Q : Exit → Act → World → Prop} {W : World} {cells : Array Value} (hgd : o.guard = none) (s x : Operand)
    (ho : o.op = .call { callee := .builtin .append, args := #[s, x], argTypes := #[25, 25] }) (base : Nat) (v : Value) (l : List Int) (n : Int) (hc : cells = #[.int .i64 n])
    (hs : a.eval s = v) {g : Nat} (hx : a.eval x = .slice (some ⟨g, 0, none⟩) 1 1) (hg : g = W.heap.size) (hB : IInts W base v l) (hb : base ≤ W.heap.size) (hlen : l.length ≤ 1000000000000)
    (w0 : World) (hw : Below base w0 W)
    (h : ∀ v' w', IInts w' base v' (l ++ [n]) → Below base w0 w' → wpList Tryz.prog ops Q rest (a.put o.dst v') w') : wpList Tryz.prog ops Q (o :: rest) a (W.alloc (.cells cells 3)) := by
  subst hc hg
  obtain ⟨v', w', hrun, hown, hbel⟩ := hB.more hb [n] (by simp; omega) o.type
  exact wpList_append_lx hgd s x _ ho _ _ _ hs hx hrun (h v' w' hown (hbel base (Nat.le_refl _) w0 hw))
/-- A slice of numbers that the call made may be read. -/
theorem IInts.sees {w : World} {base : Nat} {v : Value} {l : List Int} (h : IInts w base v l) :
    ∃ a cap, v = .slice a l.length cap ∧ l.length ≤ cap ∧ cap ≤ maxLen ∧ From base a l.length ∧ Nums w w.heap.size a l.length l := by
  have hlt := h.lt
  rcases h.2 with ⟨h0, h1⟩ | ⟨g, cap, cur, rfl, hbase, hh, h1, h2, h3, h4⟩
  · have hz : l = [] := by
      cases l with
      | nil => rfl
      | cons x l => simp at h1
    subst hz
    exact ⟨none, 0, h0, Nat.le_refl _, Nat.zero_le _, From.zero _ _, Nums.zero _ _ _⟩
  · refine ⟨_, cap, rfl, h1, h2, fun _ => ⟨g, 0, rfl, hbase⟩, rfl, by unfold maxLen at h2; omega, fun _ => ⟨g, 0, rfl, (hlt g rfl).2, fun j x hj => ?_⟩⟩
    have hj' : j < l.length := by
      rcases Nat.lt_or_ge j l.length with h | h
      · exact h
      · rw [List.getElem?_eq_none h] at hj; cases hj
    rw [cell_of_row w g _ cur 3 (0, 0) hh]
    have : (cur.toList.take (l.length * 1))[j]? = (l.map encI64)[j]? := by rw [h4]
    rw [List.getElem?_take, if_pos (by omega), List.getElem?_map, hj] at this
    rw [Nat.zero_add, ← Array.getElem?_toList, this]
    rfl
/-- A row of numbers that the statement just laid. -/
theorem INums_made (w : World) (cs : Array Value) (l : List Int) (n : Nat) (hc : cs = (l.map encI64).toArray) (hn : l.length = n) (hl : n ≤ 100000) :
    Nums (w.alloc (.cells cs 3)) (w.heap.size + 1) (some ⟨w.heap.size, 0, none⟩) n l := by
  refine ⟨hn, by omega, fun _ => ⟨w.heap.size, 0, rfl, by omega, fun j x hj => ?_⟩⟩
  rw [cell_of_row _ _ _ _ _ _ (heap_alloc_new w _), hc, Nat.zero_add, List.getElem?_toArray, List.getElem?_map, hj]
  rfl
/-- The first place of a number, from a place on. -/
def idxI (x : Int) : List Int → Nat → Int
  | [], _ => -1
  | y :: r, i => if y = x then (i : Int) else idxI x r (i + 1)
theorem idxI_at {x : Int} {l : List Int} {k : Nat} {y : Int} (h : l[k]? = some y) : idxI x (l.drop k) k = if y = x then (k : Int) else idxI x (l.drop (k + 1)) (k + 1) := by
  obtain ⟨h1, e⟩ := List.getElem?_eq_some_iff.1 h
  rw [List.drop_eq_getElem_cons h1, e, idxI]
theorem idxI_nat (x : Nat) : ∀ (row : List Nat) (i : Nat), idxI (x : Int) (row.map fun n : Nat => (n : Int)) i = if x ∈ row then ((i + row.idxOf x : Nat) : Int) else -1
  | [], i => rfl
  | y :: r, i => by
    rw [List.map_cons, idxI]
    by_cases h : y = x
    · subst h
      rw [if_pos rfl, if_pos (by simp)]
      simp
    · rw [if_neg (by omega), idxI_nat x r (i + 1), List.idxOf_cons, beq_eq_false_iff_ne.2 h, cond_false]
      by_cases hx : x ∈ r
      · rw [if_pos hx, if_pos (by simp [hx])]
        congr 1
        omega
      · rw [if_neg hx, if_neg (by simp [hx]; exact fun e => h e.symm)]
theorem idxI_has (x : Nat) (row : List Nat) : decide (0 ≤ idxI (x : Int) (row.map fun n : Nat => (n : Int)) 0) = decide (x ∈ row) := by
  rw [idxI_nat]
  by_cases h : x ∈ row
  · rw [if_pos h, decide_eq_true h, decide_eq_true (by omega)]
  · rw [if_neg h, decide_eq_false h, decide_eq_false (by omega)]

set_option maxHeartbeats 2000000 in
theorem tuPlace_any (a : Option Addr) (n c : Nat) (l : List Int) (x : Int) (w : World) (bound : Nat) (h : Nums w bound a n l) :
    Calls Tryz.prog 105 #[.slice a n c, .int .i64 x] w fun e w' => e = .returned (.int .i64 (idxI x l 0)) ∧ w' = w := by
  have hsz := h.2.1
  have HLEN := Lib.hid h.1
  have HN := Lib.hid h
  obtain ⟨R, hR⟩ : ∃ R, R = idxI x l 0 := ⟨_, rfl⟩
  rw [← hR]
  have HR := Lib.hid hR
  clear h hR
  go_enter Tryz.func105, Tryz.ntmps105
  go_wp2
  go_loop [5] (fun i => ∃ k : Nat, k ≤ n ∧ i = .int .i64 k ∧ Hid (R = idxI x (l.drop k) k)) (fun i => n - (intOf i).toNat)
  case atStart => exact ⟨0, Nat.zero_le _, rfl, Lib.hid HR.out⟩
  case round =>
    obtain ⟨k, hk, rfl, HK⟩ := hrel
    by_cases hlt : k < n
    · obtain ⟨b, off, y, rfl, hbb, hy, q0⟩ := HN.out.at_ hlt
      have hst := HK.out.trans (idxI_at (x := x) hy)
      cases he : (y == x)
      · rw [if_neg (by rw [beq_eq_false_iff_ne] at he; exact he)] at hst
        have HZ := Lib.hid hst
        clear hst hy
        go_wp2_with fail
        go_round
        case rel => exact ⟨k + 1, by omega, by go_num, HZ⟩
        case measure => simp [intOf] <;> omega
      · rw [if_pos (eq_of_beq he)] at hst
        have HZ := Lib.hid hst
        clear hst hy
        go_wp2_with fail
        go_ret
        exact ⟨ret_int HZ.out.symm, rfl⟩
    · have HZ := Lib.hid (show R = -1 by rw [HK.out, List.drop_of_length_le (by rw [HLEN.out]; omega), idxI])
      go_wp2_with fail
      go_ret
      exact ⟨ret_int HZ.out.symm, rfl⟩
theorem tuHas_any (a : Option Addr) (n c : Nat) (row : List Nat) (x : Nat) (w : World) (bound : Nat) (h : Nums w bound a n (row.map fun n : Nat => (n : Int))) :
    Calls Tryz.prog 125 #[.slice a n c, .int .i64 (x : Int)] w fun e w' => e = .returned (.bool (decide (x ∈ row))) ∧ w' = w := by
  have CP := Lib.hid (fun W (h : Nums W bound a n (row.map fun n : Nat => (n : Int))) => tuPlace_any a n c _ (x : Int) W bound h)
  have HZ := Lib.hid (idxI_has x row)
  have HN := Lib.hid h
  generalize decide (x ∈ row) = R at HZ ⊢
  generalize idxI (x : Int) (row.map fun n : Nat => (n : Int)) 0 = i at HZ CP
  clear h
  go_enter Tryz.func125, Tryz.ntmps125
  go_wp2_with (first
    | (go_at_call 105; (with_reducible refine (CP.out _ HN.out).mono ?_); rintro e w1 ⟨rfl, rfl⟩)
    | fail)
  go_ret
  exact ⟨ret_bool HZ.out, rfl⟩
end Go.Proofs.YtiofpeckcfdilaaGreatDoor

/- Rows of slices of arms; contract of the reference's turnArms. -/
namespace Go.Proofs.YtiofpeckcfdilaaGreatDoor
open Go.RowKit

/-- The slice with this address and length reads as these rows of arms. -/
def ArmsR (w : World) (bound : Nat) (a : Option Addr) (n : Nat) (f : List (List ArmL)) : Prop :=
  f.length = n ∧ n ≤ 1000000 ∧ (0 < n → ∃ b off, a = some ⟨b, off, none⟩ ∧ b < bound ∧ ∀ (j : Nat) (l : List ArmL), f[j]? = some l → ∃ (aa : Option Addr) (an ac : Nat), w.cell? ⟨b, off + j, none⟩ = some (.slice aa an ac) ∧ Arms w bound aa an l)
section
variable {w w' : World} {bound bound' : Nat} {a : Option Addr} {n : Nat} {f : List (List ArmL)}
theorem ArmsR.keep (h : ArmsR w bound a n f) (hk : ∀ p : Addr, p.block < bound → w'.cell? p = w.cell? p) : ArmsR w' bound a n f :=
  ⟨h.1, h.2.1, fun hn => by
    obtain ⟨b, off, e, hb, hc⟩ := h.2.2 hn
    refine ⟨b, off, e, hb, fun j x hj => ?_⟩
    obtain ⟨aa, an, ac, c0, h1⟩ := hc j x hj
    exact ⟨aa, an, ac, (hk _ hb).trans c0, h1.keep hk⟩⟩
theorem ArmsR.below (h : ArmsR w bound a n f) (hb : Below bound w w') : ArmsR w' bound a n f := h.keep fun _ hp => hb.cell hp
theorem ArmsR.more (h : ArmsR w bound a n f) (hb : bound ≤ bound') : ArmsR w bound' a n f :=
  ⟨h.1, h.2.1, fun hn => by
    obtain ⟨b, off, e, hlt, hc⟩ := h.2.2 hn
    refine ⟨b, off, e, by omega, fun j x hj => ?_⟩
    obtain ⟨aa, an, ac, c, h1⟩ := hc j x hj
    exact ⟨aa, an, ac, c, h1.more hb⟩⟩
theorem ArmsR.on {W W' : World} {a : Option Addr} {n : Nat} {f : List (List ArmL)} (h : ArmsR W W.heap.size a n f) (hb : Below W.heap.size W W') : ArmsR W' W'.heap.size a n f := (h.below hb).more hb.size
theorem ArmsR.at_ (h : ArmsR w bound a n f) {k : Nat} (hk : k < n) : ∃ (b off : Nat) (aa : Option Addr) (an ac : Nat) (l : List ArmL), a = some ⟨b, off, none⟩ ∧ b < bound ∧ f[k]? = some l ∧ w.cell? ⟨b, off + k, none⟩ = some (.slice aa an ac) ∧ Arms w bound aa an l := by
  obtain ⟨b, off, e, hb, hc⟩ := h.2.2 (by omega)
  have hk' : k < f.length := by rw [h.1]; exact hk
  obtain ⟨aa, an, ac, c, h1⟩ := hc k _ (List.getElem?_eq_getElem hk')
  exact ⟨b, off, aa, an, ac, f[k], e, hb, List.getElem?_eq_getElem hk', c, h1⟩
end
def encS3 (r : Option Addr × Nat × Nat) : Value := .slice r.1 r.2.1 r.2.2
/-- The slice v, which the call made, holds slices that read as these rows of arms; these lie below bound. -/
def ROwn (w : World) (base bound : Nat) (v : Value) (f : List (List ArmL)) : Prop :=
  ∃ rs : List (Option Addr × Nat × Nat), w.ownsRow base 49 1 v f.length (rs.map encS3) ∧ rs.length = f.length ∧ ∀ (j : Nat) (r : Option Addr × Nat × Nat) (l : List ArmL), rs[j]? = some r → f[j]? = some l → Arms w bound r.1 r.2.1 l
theorem ROwn.zero (w : World) (base bound : Nat) : ROwn w base bound (.slice none 0 0) [] := ⟨[], World.ownsRow_nil w base 49 1, rfl, fun j r l h => by simp at h⟩
theorem info_armS : (Tryz.prog.info? 49).map (fun i => (i.zero, i.size, i.bytes)) = some (some (.slice none 0 0), 1, 24) := by kernel_rfl
theorem wpList_append_row {ops : Array Oper} {rest : List Oper} {o : Oper} {a : Act} {Q : Exit → Act → World → Prop} {W : World} {cells : Array Value} (hgd : o.guard = none) (s x : Operand)
    (ho : o.op = .call { callee := .builtin .append, args := #[s, x], argTypes := #[136, 136] }) (base bound : Nat) (v : Value) (f : List (List ArmL)) (aa : Option Addr) (an ac : Nat) (l : List ArmL) (hc : cells = #[.slice aa an ac])
    (hs : a.eval s = v) {g : Nat} (hx : a.eval x = .slice (some ⟨g, 0, none⟩) 1 1) (hg : g = W.heap.size) (hB : ROwn W base bound v f) (hA : Arms W bound aa an l) (hb : base ≤ W.heap.size) (hbb : bound ≤ base) (hlen : f.length ≤ 1000000)
    (w0 : World) (hw : Below base w0 W)
    (h : ∀ v' w', ROwn w' base bound v' (f ++ [l]) → Below base w0 w' → wpList Tryz.prog ops Q rest (a.put o.dst v') w') : wpList Tryz.prog ops Q (o :: rest) a (W.alloc (.cells cells 49)) := by
  subst hc hg
  obtain ⟨i0, hi0, hzz⟩ := Option.map_eq_some_iff.1 info_armS
  simp only [Prod.mk.injEq] at hzz
  obtain ⟨hz, hs1, hb1⟩ := hzz
  obtain ⟨rs, hown, hrl, hrd⟩ := hB
  have hown1 : (W.alloc (.cells #[.slice aa an ac] 49)).ownsRow base 49 1 v f.length (rs.map encS3) := World.ownsRow.alloc hown _
  obtain ⟨v', w', hrun, hown', hgr, _, _⟩ := run_append_own_at (P := Tryz.prog) (W.alloc (.cells #[.slice aa an ac] 49)) base 136 o.type 49 i0 _ 1 24 Tryz.underlying136 hi0 hz hs1 hb1 rfl (by omega) v f.length (rs.map encS3) hown1
    ⟨W.heap.size, 0, none⟩ 1 1 [.slice aa an ac] rfl
    (fun j u hu => by
      have hj : j = 0 := by
        rcases Nat.eq_zero_or_pos j with h | h
        · exact h
        · rw [List.getElem?_eq_none (by simp; omega)] at hu; cases hu
      subst hj
      obtain rfl : (Value.slice aa an ac) = u := by simpa using hu
      rw [Go.WideShapes.add_plain, cell_of_row _ _ _ _ _ _ (heap_alloc_new W _)]
      rfl)
    (fun u hu => by rw [List.mem_singleton.1 hu]; rfl) (by unfold maxLen; omega) (by omega) (by simp; omega)
  have hbel : ∀ B, B ≤ base → ∀ w0, Below B w0 W → Below B w0 w' := fun B hB w0 hw0 => (hw0.alloc (by omega) _).grown hgr (by simp; omega) (fun k hk => by
    have := hown1.lt k hk
    omega)
  refine wpList_append_lx hgd s x _ ho _ _ _ hs hx hrun (h v' w' ⟨rs ++ [(aa, an, ac)], ?_, by simp [hrl], fun j r k hj hk => ?_⟩ (hbel base (Nat.le_refl _) w0 hw))
  · rw [List.length_append, List.map_append]
    exact hown'
  · have hk2 := hbel bound hbb W (Below.refl _ _)
    rcases Nat.lt_or_ge j rs.length with hlt | hge
    · rw [List.getElem?_append_left hlt] at hj
      rw [List.getElem?_append_left (by omega)] at hk
      exact (hrd j r k hj hk).below hk2
    · rw [List.getElem?_append_right hge] at hj
      rw [List.getElem?_append_right (by omega), ← hrl] at hk
      have h0 : j - rs.length = 0 := by
        obtain ⟨h1, _⟩ := List.getElem?_eq_some_iff.1 hj
        simpa using h1
      rw [h0] at hj hk
      obtain rfl : (aa, an, ac) = r := by simpa using hj
      obtain rfl : l = k := by simpa using hk
      exact hA.below hk2
theorem ROwn.sees {w : World} {base bound : Nat} {v : Value} {f : List (List ArmL)} (h : ROwn w base bound v f) (hl : f.length ≤ 1000000) (hb : bound ≤ w.heap.size) : ∃ a c, v = .slice a f.length c ∧ ArmsR w w.heap.size a f.length f := by
  obtain ⟨rs, h, hrl, hrd⟩ := h
  have hlt := h.lt
  rcases h.2 with ⟨h0, h1⟩ | ⟨g, cap, cur, rfl, hbase, hh, h1, h2, h3, h4⟩
  · have hz : f = [] := List.eq_nil_of_length_eq_zero h1
    subst hz
    exact ⟨none, 0, h0, rfl, by simp, fun h => absurd h (Nat.lt_irrefl 0)⟩
  · refine ⟨_, cap, rfl, rfl, hl, fun _ => ⟨g, 0, rfl, (hlt g rfl).2, fun j l hj => ?_⟩⟩
    have hj' : j < f.length := (List.getElem?_eq_some_iff.1 hj).1
    have hr := List.getElem?_eq_getElem (l := rs) (i := j) (by omega)
    refine ⟨(rs[j]'(by omega)).1, (rs[j]'(by omega)).2.1, (rs[j]'(by omega)).2.2, ?_, (hrd j _ l hr hj).more hb⟩
    rw [cell_of_row w g _ cur 49 (0, 0) hh]
    have : (cur.toList.take (f.length * 1))[j]? = (rs.map encS3)[j]? := by rw [h4]
    rw [List.getElem?_take, if_pos (by omega), List.getElem?_map, hr] at this
    rw [Nat.zero_add, ← Array.getElem?_toList, this]
    rfl

set_option maxHeartbeats 8000000 in
theorem tuArr_any (nm : ByteArray) (a : Option Addr) (n c : Nat) (ts : List TurnL) (w : World) (bound : Nat) (hb : bound ≤ w.heap.size) (h : Turns w bound a n ts) (hn : n ≤ 1000) :
    Calls Tryz.prog 102 #[.agg #[.string nm, .slice a n c]] w fun e w' => (∃ ra rc, e = .returned (.slice ra n rc) ∧ ArmsR w' w'.heap.size ra n (ts.map TurnL.arms)) ∧ Below w.heap.size w w' := by
  have HLEN := Lib.hid h.1
  have HN := Lib.hid h
  have HB0 := Lib.hid (tu1 w (.cells #[.string nm, .slice a n c] 24))
  have HL := Lib.hid (LBox.new w nm a n c)
  clear h
  go_enter Tryz.func102, Tryz.ntmps102
  go_wp2
  go_loopw [3, 4] (fun s i wr => ∃ (j : Nat) (v : Value), j ≤ n ∧ i = .int .i64 j ∧ v = s ∧ Hid (ROwn wr (w.heap.size + 1) bound v ((ts.take j).map TurnL.arms)) ∧ Hid (Below (w.heap.size + 1) (w.alloc (.cells #[.string nm, .slice a n c] 24)) wr)) (fun _ i _ => n - (intOf i).toNat)
  case atStart => exact ⟨0, _, Nat.zero_le _, rfl, rfl, Lib.hid (by rw [List.take_zero]; exact ROwn.zero _ _ _), Lib.hid (Below.refl _ _)⟩
  case round =>
    obtain ⟨j, v, hj, rfl, hv, HO, HBr⟩ := hrel
    subst hv
    have hzr := HBr.out.size
    rw [World.size_alloc] at hzr
    have HLr := Lib.hid (HL.out.on (W' := wr) (by rw [World.size_alloc]; exact HBr.out))
    obtain ⟨lc0, lc1⟩ := HLr.out.cells
    have HBW := Lib.hid (HB0.out.trans (HBr.out.mono (by omega)))
    by_cases hlt : j < n
    · obtain ⟨b, off, kd, s, aa, an, ac, l, rfl, hbb, hx, ⟨q0, q1, q2⟩, hs, hal⟩ := HN.out.at_ hlt
      have r2 := (HBW.out.cell (p := ⟨b, off + j * 3 + 2, none⟩) (by show b < _; omega)).trans q2
      have HAL := Lib.hid (hal.below (HBW.out.mono hb))
      have HST := Lib.hid (show (ts.take (j + 1)).map TurnL.arms = (ts.take j).map TurnL.arms ++ [l] by rw [tuTake_at hx, List.map_append]; rfl)
      have hlo : ((ts.take j).map TurnL.arms).length ≤ 1000 := by rw [List.length_map, List.length_take]; omega
      clear q0 q1 q2 hs hal hx
      go_wp2_with (first
        | (at_builtin
           refine wpList_append_row rfl (.tmp 12) (.tmp 19) rfl (w.heap.size + 1) bound v ((ts.take j).map TurnL.arms) aa an ac l rfl rfl rfl rfl HO.out HAL.out hzr (by omega) (by omega) (w.alloc (.cells #[.string nm, .slice (some ⟨b, off, none⟩) n c] 24)) HBr.out ?_
           intro v3 w3 ho hb3
           have HO3 := Lib.hid ho
           have HB3 := Lib.hid hb3
           clear ho hb3)
        | fail)
      go_roundw
      case rel => exact ⟨j + 1, _, by omega, by go_num, rfl, Lib.hid (by rw [HST.out]; exact HO3.out), HB3⟩
      case measure => simp [intOf]; omega
    · have hsees := (show ROwn wr (w.heap.size + 1) bound v (ts.map TurnL.arms) by
        have h := HO.out
        rw [List.take_of_length_le (by have := HLEN.out; omega)] at h
        exact h).sees (by rw [List.length_map, HLEN.out]; omega) (by omega)
      rw [List.length_map, HLEN.out] at hsees
      obtain ⟨ra, rc, hva, hra⟩ := hsees
      subst hva
      have HA := Lib.hid hra
      clear hra
      go_wp2
      go_ret
      exact ⟨⟨ra, rc, rfl, HA.out⟩, HBW.out⟩
end Go.Proofs.YtiofpeckcfdilaaGreatDoor

/- Contract of the reference's reach: the places in the order in which they are first met. -/
namespace Go.Proofs.YtiofpeckcfdilaaGreatDoor
open Go.RowKit

def nextsF (f : List (List ArmL)) (p : Nat) : List Nat := (sortA ((f[p]?).getD [])).map fun a => a.next.toNat
theorem nextsOf_arms (ts : List TurnL) : nextsOf ts = nextsF (ts.map TurnL.arms) := by
  funext p
  unfold nextsOf nextsF armsOf
  rw [List.getElem?_map]
theorem addN_snoc (x : Nat) : ∀ (l o : List Nat), addN o (l ++ [x]) = if x ∈ addN o l then addN o l else addN o l ++ [x]
  | [], o => by by_cases h : x ∈ o <;> simp [addN, h]
  | y :: l, o => by
    rw [List.cons_append, addN, addN]
    split
    · exact addN_snoc x l o
    · exact addN_snoc x l _
def rowI (row : List Nat) : List Int := row.map fun n : Nat => (n : Int)
theorem rowI_len (row : List Nat) : (rowI row).length = row.length := List.length_map _
theorem IInts.one {W : World} {cs : Array Value} {base : Nat} {g : Nat} (x : Int) (hg : g = W.heap.size) (hc : cs = #[.int .i64 x]) (hb : base ≤ W.heap.size) : IInts (W.alloc (.cells cs 3)) base (.slice (some ⟨g, 0, none⟩) 1 1) [x] := by
  subst hg hc
  exact ⟨by simp [encI64], .inr ⟨W.heap.size, 1, _, rfl, hb, heap_alloc_new W _, Nat.le_refl _, by unfold maxLen; omega, by simp, by simp [encI64]⟩⟩
/-- One number more; what lies in other blocks stays, even where the slice's own block is written. -/
theorem IInts.moreB {w : World} {base : Nat} {v : Value} {l : List Int} (h : IInts w base v l) (hb : base ≤ w.heap.size) (n : Int) (hlen : l.length ≤ 1000000) (ty : Nat) :
    ∃ v' w', (Builtin.append_ #[25, 25] ty #[v, .slice (some ⟨w.heap.size, 0, none⟩) 1 1]).run Tryz.prog (w.alloc (.cells #[.int .i64 n] 3)) = .ok v' w' ∧ IInts w' base v' (l ++ [n]) ∧ (∀ B, B ≤ base → ∀ w0, Below B w0 w → Below B w0 w') ∧
      ∀ g0 w3, Beside g0 w3 w → (∀ g, v.ownBlock = some g → g = g0 ∨ w3.heap.size ≤ g) → Beside g0 w3 w' ∧ ∀ g, v'.ownBlock = some g → g = g0 ∨ w3.heap.size ≤ g := by
  obtain ⟨i0, hi0, hzz⟩ := Option.map_eq_some_iff.1 info_int1
  simp only [Prod.mk.injEq] at hzz
  obtain ⟨hz, hs1, hb1⟩ := hzz
  obtain ⟨v', w', hrun, hown, hgr, _, hat⟩ := run_append_own_at (P := Tryz.prog) (w.alloc (.cells #[.int .i64 n] 3)) base 25 ty 3 i0 _ 1 8 Tryz.underlying25 hi0 hz hs1 hb1 rfl (by omega) v l.length (l.map encI64) (h.alloc _)
    ⟨w.heap.size, 0, none⟩ 1 1 [.int .i64 n] rfl
    (fun j u hu => by
      have hj : j = 0 := by
        rcases Nat.eq_zero_or_pos j with h | h
        · exact h
        · rw [List.getElem?_eq_none (by simp; omega)] at hu; cases hu
      subst hj
      obtain rfl : (Value.int .i64 n) = u := by simpa using hu
      rw [Go.WideShapes.add_plain, cell_of_row _ _ _ _ _ _ (heap_alloc_new w _)]
      rfl)
    (fun u hu => by rw [List.mem_singleton.1 hu]; rfl) (by unfold maxLen; omega) (by omega) (by simp; omega)
  refine ⟨v', w', hrun, ?_, fun B hB w0 hw0 => ?_, fun g0 w3 hbs hv => ⟨?_, fun g hg => ?_⟩⟩
  · unfold IInts
    rw [List.length_append, List.map_append]
    exact hown
  · exact (hw0.alloc (by omega) _).grown hgr (by simp; omega) (fun k hk => by
      have := (h.alloc (.cells #[.int .i64 n] 3)).lt k hk
      omega)
  · have h1 : Beside g0 w3 (w.alloc (.cells #[.int .i64 n] 3)) := hbs.trans (Beside.of_below (tu1 w _))
    have hs := h1.size
    exact ⟨hgr.os.trans h1.os, hgr.tape.trans h1.tape, hgr.output.trans h1.output, Nat.le_trans hs hgr.size, fun k hk hne => (hgr.block k (by omega) (fun e => by
      rcases hv k e.symm with e2 | e2
      · exact hne e2
      · omega)).trans (h1.block k hk hne)⟩
  · rcases hat with e | e
    · exact hv g (e.symm.trans hg)
    · rw [e] at hg
      obtain rfl := Option.some.inj hg
      right
      have := hbs.size
      simp
      omega
theorem wpList_append_iintsB {ops : Array Oper} {rest : List Oper} {o : Oper} {a : Act} {Q : Exit → Act → World → Prop} {W : World} {cells : Array Value} (hgd : o.guard = none) (s x : Operand)
    (ho : o.op = .call { callee := .builtin .append, args := #[s, x], argTypes := #[25, 25] }) (base : Nat) (v : Value) (l : List Int) (n : Int) (hc : cells = #[.int .i64 n])
    (hs : a.eval s = v) {g : Nat} (hx : a.eval x = .slice (some ⟨g, 0, none⟩) 1 1) (hg : g = W.heap.size) (hB : IInts W base v l) (hb : base ≤ W.heap.size) (hlen : l.length ≤ 1000000)
    (w0 : World) (hw : Below base w0 W) (g0 : Nat) (w3 : World) (hbs : Beside g0 w3 W) (hv : ∀ g, v.ownBlock = some g → g = g0 ∨ w3.heap.size ≤ g)
    (h : ∀ v' w', IInts w' base v' (l ++ [n]) → Below base w0 w' → Beside g0 w3 w' → (∀ g, v'.ownBlock = some g → g = g0 ∨ w3.heap.size ≤ g) → wpList Tryz.prog ops Q rest (a.put o.dst v') w') : wpList Tryz.prog ops Q (o :: rest) a (W.alloc (.cells cells 3)) := by
  subst hc hg
  obtain ⟨v', w', hrun, hown, hbel, hbes⟩ := hB.moreB hb n hlen o.type
  obtain ⟨h1, h2⟩ := hbes g0 w3 hbs hv
  exact wpList_append_lx hgd s x _ ho _ _ _ hs hx hrun (h v' w' hown (hbel base (Nat.le_refl _) w0 hw) h1 h2)
theorem AOwn.from {w : World} {base : Nat} {v : Value} {l : List ArmL} (h : AOwn w base v l) {b off n c : Nat} (hv : v = .slice (some ⟨b, off, none⟩) n c) : base ≤ b ∧ b < w.heap.size := by
  obtain ⟨ts, h, _⟩ := h
  have hlt := h.lt b (by rw [hv]; rfl)
  exact hlt
theorem Arms.besides {w w' : World} {g0 : Nat} {b off n : Nat} {l : List ArmL} (h : Arms w w.heap.size (some ⟨b, off, none⟩) n l) (hb : Beside g0 w w') (hne : b ≠ g0) : Arms w' w'.heap.size (some ⟨b, off, none⟩) n l :=
  ⟨h.1, h.2.1, fun hn => by
    obtain ⟨b', off', e, hlt, hc⟩ := h.2.2 hn
    injection e with e
    injection e with e1 e2 _
    subst e1 e2
    refine ⟨b, off, rfl, Nat.lt_of_lt_of_le hlt hb.size, fun j x hj => ?_⟩
    obtain ⟨s, u, ⟨c0, c1, c2, c3⟩, h1⟩ := hc j x hj
    exact ⟨s, u, ⟨(hb.cell hlt hne).trans c0, (hb.cell hlt hne).trans c1, (hb.cell hlt hne).trans c2, (hb.cell hlt hne).trans c3⟩, h1⟩⟩

set_option maxHeartbeats 16000000 in
set_option maxRecDepth 20000 in
theorem tuReach_any (a : Option Addr) (n c : Nat) (f : List (List ArmL)) (w : World) (bound : Nat) (hb : bound ≤ w.heap.size) (h : ArmsR w bound a n f) (hn1 : 1 ≤ n) (hn : n ≤ 1000) (hv : ∀ p < n, ∀ x ∈ nextsF f p, x < n)
    (hnx : ∀ l ∈ f, ∀ x ∈ l, 0 ≤ x.next) (hln : ∀ l ∈ f, l.length ≤ 1000) :
    Calls Tryz.prog 101 #[.slice a n c] w fun e w' => (∃ v, e = .returned v ∧ IInts w' w.heap.size v (rowI (bfs (nextsF f) n 0 [0]))) ∧ Below w.heap.size w w' := by
  have HN := Lib.hid h
  have HV := Lib.hid hv
  have HNX := Lib.hid hnx
  have HLN := Lib.hid hln
  obtain ⟨R, hR⟩ : ∃ R, bfs (nextsF f) n 0 [0] = R := ⟨_, rfl⟩
  rw [hR]
  have HR := Lib.hid hR
  clear h hv hnx hln hR
  go_enter Tryz.func101, Tryz.ntmps101
  go_wp2
  go_loopw [3, 4] (fun s i wr => ∃ (j : Nat) (row : List Nat) (v : Value), i = .int .i64 j ∧ v = s ∧ j ≤ n ∧ Hid (row.Nodup ∧ (∀ x ∈ row, x < n) ∧ 1 ≤ row.length) ∧ Hid (bfs (nextsF f) (n - j) j row = R) ∧ Hid (IInts wr w.heap.size v (rowI row)) ∧ Hid (Below w.heap.size w wr)) (fun _ i _ => n - (intOf i).toNat)
  case atStart => exact ⟨0, [0], _, rfl, rfl, Nat.zero_le _, Lib.hid ⟨by simp, by simp; omega, by simp⟩, Lib.hid HR.out, Lib.hid (IInts.one 0 rfl rfl (Nat.le_refl _)), Lib.hid (tu1 w _)⟩
  case round =>
    obtain ⟨j, row, v, rfl, hvs, hjn, HRO, HF, HO, HBr⟩ := hrel
    subst hvs
    obtain ⟨wo, hwo⟩ : ∃ wo : World, wo = wr := ⟨_, rfl⟩
    subst hwo
    have hzr := HBr.out.size
    have hfew := nodup_few HRO.out.1 HRO.out.2.1
    have hrow1 := HRO.out.2.2
    obtain ⟨oa, oc, hva, _, _, hof, hon⟩ := HO.out.sees
    rw [rowI_len] at hva hof hon
    subst hva
    obtain ⟨ob, oo, rfl, hob1⟩ := hof (by omega)
    have HON := Lib.hid hon
    have hob2 : ob < wo.heap.size := (HO.out.lt ob rfl).2
    clear hon hof
    by_cases hlt : j < row.length
    · have hp := List.getElem?_eq_getElem hlt
      obtain ⟨p, hpe⟩ : ∃ p, row[j] = p := ⟨_, rfl⟩
      rw [hpe] at hp
      have hpn := HRO.out.2.1 p (List.mem_of_getElem? hp)
      obtain ⟨b1, o1, y1, e1, _, hy1, k0⟩ := HON.out.at_ hlt
      injection e1 with e1
      injection e1 with e2 e3 _
      subst e2 e3
      have hy2 : y1 = (p : Int) := by
        unfold rowI at hy1
        rw [List.getElem?_map, hp] at hy1
        exact (Option.some.inj hy1).symm
      subst hy2
      obtain ⟨b, off, aa, an, ac, l, rfl, hbb, hfl, c0, hal⟩ := HN.out.at_ hpn
      have r0 := (HBr.out.cell (p := ⟨b, off + p, none⟩) (by show b < _; omega)).trans c0
      have HAL := Lib.hid (hal.below (HBr.out.mono hb))
      have han : an ≤ 1000 := by have h1 := HLN.out l (List.mem_of_getElem? hfl); have h2 := hal.1; omega
      have hng : nextsF f p = (sortA l).map fun a => a.next.toNat := by unfold nextsF; rw [hfl]; rfl
      have hsl : (sortA l).length = an := by rw [sortA_len]; exact hal.1
      have HFL := Lib.hid hfl
      have hstep : bfs (nextsF f) (n - (j + 1)) (j + 1) (addN row (nextsF f p)) = R := by
        have h1 := HF.out
        rw [show n - j = (n - (j + 1)) + 1 by omega, bfs_some _ hp] at h1
        exact h1
      have hnd := addN_nodup (nextsF f p) row HRO.out.1
      have hlt2 : ∀ x ∈ addN row (nextsF f p), x < n := fun x hx => by
        rcases (addN_mem x _ _).1 hx with hx | hx
        · exact HRO.out.2.1 x hx
        · exact HV.out p hpn x hx
      have HNEW := Lib.hid (And.intro hnd (And.intro hlt2 hstep))
      have HNG := Lib.hid hng
      have HSL := Lib.hid hsl
      clear hp hpe hy1 c0 hal hfl hng hstep hnd hlt2 hsl
      go_wp2_with (first
        | (go_at_call 104; (with_reducible refine (tuSorted_any aa an ac l _ bound (by omega) HAL.out han).mono ?_)
           rintro e w3 ⟨⟨vl, he, hvl⟩, hb3⟩
           subst he
           have hfrom : ∀ bb oo nn cc, vl = .slice (some ⟨bb, oo, none⟩) nn cc → wo.heap.size ≤ bb := fun bb oo nn cc e => (hvl.from e).1
           obtain ⟨la, lc, hva, hla, _, _⟩ := hvl.sees (by rw [HSL.out]; omega)
           rw [HSL.out] at hva hla
           subst hva
           have HLA := Lib.hid hla
           have HFR := Lib.hid (fun (bb oo : Nat) (e : la = some ⟨bb, oo, none⟩) => hfrom bb oo an lc (by rw [e]))
           have HO3 := Lib.hid (HO.out.below hb3 (Nat.le_refl _))
           have HB3 := Lib.hid (HBr.out.trans (hb3.mono hzr))
           have hz3 := hb3.size
           clear hvl hfrom hla hb3)
        | fail)
      go_loopw [3, 6] (fun s i wr => ∃ (k : Nat) (v2 : Value), k ≤ an ∧ i = .int .i64 k ∧ v2 = s ∧ Hid (IInts wr w.heap.size v2 (rowI (addN row (((sortA l).take k).map fun a => a.next.toNat)))) ∧ Hid (Beside ob w3 wr) ∧ Hid (∀ g, v2.ownBlock = some g → g = ob ∨ w3.heap.size ≤ g) ∧ Hid (Below w.heap.size w wr)) (fun _ i _ => an - (intOf i).toNat)
      case atStart => exact ⟨0, _, Nat.zero_le _, rfl, rfl, Lib.hid (by rw [List.take_zero]; exact HO3.out), Lib.hid (Beside.refl _ _), Lib.hid (fun g hg => .inl (Option.some.inj hg).symm), HB3⟩
      case round =>
        obtain ⟨k, v2, hk, rfl, hv2, HI, HBe, HOW, HBt⟩ := hrel
        subst hv2
        have hzt := HBt.out.size
        by_cases hki : k < an
        · obtain ⟨lb, lo, s, u, ck, nx, hlae, hlb, hx, ⟨q0, q1, q2, q3⟩, _, _⟩ := HLA.out.at_ hki
          have hlbo : wo.heap.size ≤ lb := HFR.out lb lo hlae
          subst hlae
          have r3 := (HBe.out.cell (p := ⟨lb, lo + k * 4 + 3, none⟩) hlb (by show lb ≠ ob; omega)).trans q3
          have hnx0 : 0 ≤ nx := HNX.out l (List.mem_of_getElem? HFL.out) _ (mem_sortA.1 (List.mem_of_getElem? hx))
          obtain ⟨y, rfl⟩ : ∃ y : Nat, nx = (y : Int) := ⟨nx.toNat, by omega⟩
          have hst : addN row (((sortA l).take (k + 1)).map fun a => a.next.toNat) = if y ∈ addN row (((sortA l).take k).map fun a => a.next.toNat) then addN row (((sortA l).take k).map fun a => a.next.toNat) else addN row (((sortA l).take k).map fun a => a.next.toNat) ++ [y] := by
            rw [tuTake_at hx, List.map_append]
            show addN row (_ ++ [((y : Nat) : Int).toNat]) = _
            rw [Int.toNat_natCast, addN_snoc]
          obtain ⟨rw2, hrw2⟩ : ∃ rw2, addN row (((sortA l).take k).map fun a => a.next.toNat) = rw2 := ⟨_, rfl⟩
          rw [hrw2] at hst HI
          obtain ⟨oa2, oc2, hva2, _, _, _, hon2⟩ := HI.out.sees
          rw [rowI_len] at hva2 hon2
          obtain ⟨m2, hm2⟩ : ∃ m2, rw2.length = m2 := ⟨_, rfl⟩
          have hm2s : m2 ≤ 100000 := by
            have h1 : (addN row (((sortA l).take k).map fun a => a.next.toNat)).length ≤ n := nodup_few (addN_nodup _ _ HRO.out.1) (fun z hz => by
              rcases (addN_mem z _ _).1 hz with hz | hz
              · exact HRO.out.2.1 z hz
              · refine HV.out p hpn z ?_
                rw [HNG.out]
                obtain ⟨q, hq, rfl⟩ := List.mem_map.1 hz
                exact List.mem_map.2 ⟨q, List.mem_of_mem_take hq, rfl⟩)
            rw [hrw2, hm2] at h1
            omega
          rw [hm2] at hva2 hon2
          subst hva2
          have CH := Lib.hid (fun W (h : Nums W wr.heap.size oa2 m2 (rowI rw2)) => tuHas_any oa2 m2 oc2 rw2 y W _ h)
          have HON2 := Lib.hid hon2
          have HM2 := Lib.hid hm2
          clear q0 q1 q2 q3 hx hnx0 hrw2 hon2 hm2
          by_cases hy : y ∈ rw2
          · rw [if_pos hy] at hst
            rw [decide_eq_true hy] at CH
            have HST := Lib.hid hst
            clear hst hy
            go_wp2_with (first
              | (go_at_call 125; (with_reducible refine (CH.out _ HON2.out).mono ?_); rintro e w4 ⟨rfl, rfl⟩)
              | fail)
            go_roundw
            case rel => exact ⟨k + 1, _, by omega, by go_num, rfl, Lib.hid (by rw [HST.out]; exact HI.out), HBe, HOW, HBt⟩
            case measure => simp [intOf]; omega
          · rw [if_neg hy] at hst
            rw [decide_eq_false hy] at CH
            have HST := Lib.hid (show rowI (addN row (((sortA l).take (k + 1)).map fun a => a.next.toNat)) = rowI rw2 ++ [(y : Int)] by rw [hst]; unfold rowI; rw [List.map_append]; rfl)
            clear hst hy
            go_wp2_with (first
              | (go_at_call 125; (with_reducible refine (CH.out _ HON2.out).mono ?_); rintro e w4 ⟨rfl, rfl⟩)
              | (at_builtin
                 refine wpList_append_iintsB rfl (.tmp 36) (.tmp 42) rfl w.heap.size (.slice oa2 m2 oc2) (rowI rw2) (y : Int) rfl rfl rfl rfl HI.out hzt (by rw [rowI_len, HM2.out]; omega) w HBt.out ob w3 HBe.out HOW.out ?_
                 intro v5 w5 ho5 hb5 hbe5 how5
                 have HO5 := Lib.hid ho5
                 have HB5 := Lib.hid hb5
                 have HBe5 := Lib.hid hbe5
                 have HOW5 := Lib.hid how5
                 clear ho5 hb5 hbe5 how5)
              | fail)
            go_roundw
            case rel => exact ⟨k + 1, v5, by omega, by go_num, rfl, Lib.hid (by rw [HST.out]; exact HO5.out), HBe5, HOW5, HB5⟩
            case measure => simp [intOf]; omega
        · have HI2 := Lib.hid (show IInts wr w.heap.size v2 (rowI (addN row (nextsF f p))) by
            have h1 := HI.out
            rw [List.take_of_length_le (by rw [HSL.out]; omega), ← HNG.out] at h1
            exact h1)
          have hlen2 : 1 ≤ (addN row (nextsF f p)).length := Nat.le_trans hrow1 (addN_prefix _ _).length_le
          go_wp2
          go_roundw
          case rel => exact ⟨j + 1, addN row (nextsF f p), v2, by go_num, rfl, by omega, Lib.hid ⟨HNEW.out.1, HNEW.out.2.1, hlen2⟩, Lib.hid HNEW.out.2.2, HI2, HBt⟩
          case measure => simp [intOf]; omega
    · have HZ := Lib.hid (show row = R by have h1 := HF.out; rw [bfs_none _ (by omega)] at h1; exact h1)
      go_wp2
      go_ret
      exact ⟨⟨_, rfl, by rw [← HZ.out]; exact HO.out⟩, HBr.out⟩
end Go.Proofs.YtiofpeckcfdilaaGreatDoor

/- Contracts of the reference's LocalReach, walk and LocalWalk. -/
namespace Go.Proofs.YtiofpeckcfdilaaGreatDoor
open Go.RowKit

def reachL (ts : List TurnL) : List Nat := if locB ts then reachT ts else []
theorem arms_few {ts : List TurnL} (h : locB ts = true) : ∀ l ∈ ts.map TurnL.arms, l.length ≤ 1000 ∧ (∀ x ∈ l, 0 ≤ x.next) := by
  intro l hl
  obtain ⟨t, ht, rfl⟩ := List.mem_map.1 hl
  rcases turnB_arms ((locB_one h).2.2 t ht) with ⟨_, _, e⟩ | ⟨_, _, e⟩
  · rw [e]; exact ⟨by simp, by simp⟩
  · obtain ⟨h1, _, _, h4⟩ := armsB_all e
    exact ⟨by omega, fun x hx => (armB_all (h1 x hx)).2.2.1⟩
set_option maxHeartbeats 4000000 in
theorem tuLReach_any (nm : ByteArray) (a : Option Addr) (n c : Nat) (ts : List TurnL) (w : World) (bound : Nat) (hb : bound ≤ w.heap.size) (h : Turns w bound a n ts) :
    Calls Tryz.prog 71 #[.agg #[.string nm, .slice a n c]] w fun e w' => (∃ v, e = .returned v ∧ IInts w' w.heap.size v (rowI (reachL ts))) ∧ Below w.heap.size w w' := by
  have HB0 := Lib.hid (tu1 w (.cells #[.string nm, .slice a n c] 24))
  have HL := Lib.hid (LBox.new w nm a n c)
  have CL := Lib.hid (fun (W : World) (hW : Below w.heap.size w W) => tuLocal_any nm a n c ts W bound (by have := hW.size; omega) (h.below (hW.mono hb)))
  obtain ⟨lc0, lc1⟩ := HL.out.cells
  cases hv : locB ts
  · rw [hv] at CL
    have HZ := Lib.hid (show reachL ts = [] by unfold reachL; rw [hv]; rfl)
    clear h hv
    go_enter Tryz.func71, Tryz.ntmps71
    go_wp2_with (first
      | (go_at_call 36; (with_reducible refine (CL.out _ HB0.out).mono ?_)
         rintro e w1 ⟨rfl, hb1⟩
         have HB1 := Lib.hid (below_on HB0.out hb1)
         clear hb1)
      | fail)
    go_ret
    exact ⟨⟨_, rfl, by rw [HZ.out]; exact IInts.zero _ _⟩, HB1.out⟩
  · rw [hv] at CL
    have hone := locB_one hv
    have hlen := h.1
    have HZ := Lib.hid (show reachL ts = bfs (nextsF (ts.map TurnL.arms)) n 0 [0] by unfold reachL reachT; rw [hv, nextsOf_arms, hlen]; rfl)
    have CA := Lib.hid (fun (W : World) (hW : Below w.heap.size w W) => tuArr_any nm a n c ts W bound (by have := hW.size; omega) (h.below (hW.mono hb)) (by omega))
    have CR := Lib.hid (fun (ra : Option Addr) (rc : Nat) (W : World) (hA : ArmsR W W.heap.size ra n (ts.map TurnL.arms)) => tuReach_any ra n rc _ W _ (Nat.le_refl _) hA (by omega) (by omega)
      (by rw [← nextsOf_arms, ← hlen]; exact nexts_lt hv) (fun l hl => (arms_few hv l hl).2) (fun l hl => (arms_few hv l hl).1))
    clear h hv hone hlen
    go_enter Tryz.func71, Tryz.ntmps71
    go_wp2_with (first
      | (go_at_call 36; (with_reducible refine (CL.out _ HB0.out).mono ?_)
         rintro e w1 ⟨rfl, hb1⟩
         have HB1 := Lib.hid (below_on HB0.out hb1)
         obtain ⟨mc0, mc1⟩ := (HL.out.on hb1).cells
         clear hb1)
      | (go_at_call 102; (with_reducible refine (CA.out _ HB1.out).mono ?_)
         rintro e w2 ⟨⟨ra, rc, rfl, hra⟩, hb2⟩
         have HB2 := Lib.hid (below_on HB1.out hb2)
         have HRA := Lib.hid hra
         clear hra hb2)
      | (go_at_call 101; (with_reducible refine (CR.out _ _ _ HRA.out).mono ?_)
         rintro e w3 ⟨⟨v, rfl, hiv⟩, hb3⟩
         have HB3 := Lib.hid (below_on HB2.out hb3)
         have HIV := Lib.hid (hiv.low HB2.out.size)
         clear hiv hb3)
      | fail)
    go_ret
    exact ⟨⟨_, rfl, by rw [HZ.out]; exact HIV.out⟩, HB3.out⟩

theorem Strs.part1 {w : World} {bound : Nat} {a : Option Addr} {n : Nat} {ss : List Str} (h : Strs w bound a n ss) {k : Nat} (hk : k < n) : ∃ b off, ∃ t : ByteArray, a = some ⟨b, off, none⟩ ∧ b < bound ∧ ss[k]? = some t.toList ∧ w.cell? ⟨b, off + k, none⟩ = some (.string t) := by
  obtain ⟨b, off, e, hb, hc⟩ := h.2.2.2 (by omega)
  have hk' : k < ss.length := by rw [h.1]; exact hk
  have hg := List.getElem?_eq_getElem hk'
  exact ⟨b, off, baS ss[k], e, hb, by rw [baS_toList]; exact hg, hc k _ hg⟩
/-- Where the last arm of a label leads. -/
def lastN (l : List ArmL) (s : Str) (t : Int) : Int := l.foldl (fun t a => if a.label = s then a.next else t) t
theorem lastN_snoc (l : List ArmL) (x : ArmL) (s : Str) (t : Int) : lastN (l ++ [x]) s t = if x.label = s then x.next else lastN l s t := by
  unfold lastN
  rw [List.foldl_append]
  rfl
theorem lastN_none {s : Str} : ∀ {l : List ArmL} (t : Int), (∀ a ∈ l, a.label ≠ s) → lastN l s t = t
  | [], _, _ => rfl
  | a :: l, t, h => by
    unfold lastN
    rw [List.foldl_cons, if_neg (h a (by simp))]
    exact lastN_none t fun b hb => h b (by simp [hb])
theorem lastN_find {s : Str} : ∀ {l : List ArmL} (t : Int), (l.map ArmL.label).Nodup → lastN l s t = match findA l s with | none => t | some a => a.next
  | [], _, _ => rfl
  | a :: l, t, hn => by
    rw [List.map_cons, List.nodup_cons] at hn
    unfold findA
    rw [List.find?_cons]
    by_cases h : a.label = s
    · rw [beq_iff_eq.2 h]
      unfold lastN
      rw [List.foldl_cons, if_pos h]
      exact lastN_none _ fun b hb e => hn.1 (List.mem_map.2 ⟨b, hb, e.trans h.symm⟩)
    · rw [beq_eq_false_iff_ne.2 h]
      have := lastN_find (s := s) (l := l) t hn.2
      unfold lastN at this ⊢
      rw [List.foldl_cons, if_neg h]
      exact this
def walkV : Option Nat → Value
  | none => .tuple #[.int .i64 0, .bool false]
  | some p => .tuple #[.int .i64 (p : Int), .bool true]

end Go.Proofs.YtiofpeckcfdilaaGreatDoor

/- Contract of the reference's SameArms. -/
namespace Go.Proofs.YtiofpeckcfdilaaGreatDoor
open Go.RowKit

def sameA1 (x y : ArmL) : Bool := x.label == y.label && (x.ck == y.ck && x.cn == y.cn) && x.next == y.next
def sameAs : List ArmL → List ArmL → Bool
  | [], [] => true
  | x :: l, y :: m => sameA1 x y && sameAs l m
  | _, _ => false
theorem sameA1_iff {x y : ArmL} : sameA1 x y = true ↔ x = y := by
  obtain ⟨a, b, c, d⟩ := x
  obtain ⟨e, f, g, h⟩ := y
  simp [sameA1]
  grind
theorem sameAs_iff : ∀ {l m : List ArmL}, sameAs l m = true ↔ l = m
  | [], [] => by simp [sameAs]
  | [], _ :: _ => by simp [sameAs]
  | _ :: _, [] => by simp [sameAs]
  | x :: l, y :: m => by rw [sameAs, Bool.and_eq_true, sameA1_iff, sameAs_iff, List.cons.injEq]
theorem sameAs_len : ∀ {l m : List ArmL}, l.length ≠ m.length → sameAs l m = false := by
  intro l m h
  cases hs : sameAs l m
  · rfl
  · exact absurd (congrArg List.length (sameAs_iff.1 hs)) h
theorem sameAs_at {l m : List ArmL} {k : Nat} {x y : ArmL} (hx : l[k]? = some x) (hy : m[k]? = some y) : sameAs (l.drop k) (m.drop k) = (sameA1 x y && sameAs (l.drop (k + 1)) (m.drop (k + 1))) := by
  obtain ⟨h1, e1⟩ := List.getElem?_eq_some_iff.1 hx
  obtain ⟨h2, e2⟩ := List.getElem?_eq_some_iff.1 hy
  rw [List.drop_eq_getElem_cons h1, e1, List.drop_eq_getElem_cons h2, e2, sameAs]

set_option maxHeartbeats 8000000 in
set_option maxRecDepth 20000 in
theorem tuSame_any (a b : Option Addr) (n m ca cb : Nat) (l l' : List ArmL) (w : World) (bound : Nat) (ha : Arms w bound a n l) (hb : Arms w bound b m l') :
    Calls Tryz.prog 46 #[.slice a n ca, .slice b m cb] w fun e w' => e = .returned (.bool (sameAs l l')) ∧ ∃ q, w' = w.drewN q := by
  have hn := ha.1
  have hm := hb.1
  have hsn := ha.2.1
  have hsm := hb.2.1
  have HA := Lib.hid ha
  have HB := Lib.hid hb
  obtain ⟨R, hR⟩ : ∃ R, R = sameAs l l' := ⟨_, rfl⟩
  rw [← hR]
  have HR := Lib.hid hR
  clear ha hb hR
  by_cases hnm : n = m
  · subst hnm
    have HN := Lib.hid hn
    have HM := Lib.hid hm
    have nn : ((n : Int) != (n : Int)) = false := by simp
    clear hn hm
    go_enter Tryz.func46, Tryz.ntmps46
    go_wp2
    go_loopw [5] (fun i wr => ∃ k : Nat, k ≤ n ∧ i = .int .i64 k ∧ Hid (R = sameAs (l.drop k) (l'.drop k)) ∧ ∃ q, wr = w.drewN q) (fun i _ => n - (intOf i).toNat)
    case atStart => exact ⟨0, Nat.zero_le _, rfl, Lib.hid HR.out, 0, rfl⟩
    case round =>
      obtain ⟨k, hk, rfl, HK, q, rfl⟩ := hrel
      by_cases hlt : k < n
      · obtain ⟨b1, o1, s, u, ck, nx, rfl, _, hx, ⟨x0, x1, x2, x3⟩, _, _⟩ := HA.out.at_ hlt
        obtain ⟨b2, o2, s', u', ck', nx', rfl, _, hy, ⟨y0, y1, y2, y3⟩, _, _⟩ := HB.out.at_ hlt
        have hst := HK.out.trans (sameAs_at hx hy)
        unfold sameA1 at hst
        dsimp only at hst
        clear hx hy
        cases c1 : (s.toList == s'.toList)
        · rw [c1] at hst
          have HZ := Lib.hid hst
          clear hst
          go_wp2
          go_quiet (fail)
          go_wp2
          go_ret
          exact ⟨ret_bool (by rw [HZ.out]; rfl), q + nq, World.drewN_drewN _ _ _⟩
        rw [c1] at hst
        cases c2 : (ck == ck')
        · rw [c2] at hst
          have HZ := Lib.hid hst
          clear hst
          go_wp2
          go_quiet (fail)
          go_wp2
          go_ret
          exact ⟨ret_bool (by rw [HZ.out]; rfl), q + nq, World.drewN_drewN _ _ _⟩
        rw [c2] at hst
        cases c3 : (u.toList == u'.toList)
        · rw [c3] at hst
          have HZ := Lib.hid hst
          clear hst
          go_wp2
          go_quiet (fail)
          go_wp2
          go_ret
          exact ⟨ret_bool (by rw [HZ.out]; rfl), q + nq, World.drewN_drewN _ _ _⟩
        rw [c3] at hst
        cases c4 : (nx == nx')
        · rw [c4] at hst
          have HZ := Lib.hid hst
          clear hst
          go_wp2
          go_quiet (fail)
          go_wp2
          go_ret
          exact ⟨ret_bool (by rw [HZ.out]; rfl), q + nq, World.drewN_drewN _ _ _⟩
        · rw [c4] at hst
          have HZ := Lib.hid (show R = sameAs (l.drop (k + 1)) (l'.drop (k + 1)) from hst)
          clear hst
          go_wp2
          go_quiet (fail)
          go_wp2
          go_roundw
          case rel => exact ⟨k + 1, by omega, by go_num, HZ, q + nq, rfl⟩
          case measure => simp [intOf]; omega
      · have HZ := Lib.hid (show R = true by rw [HK.out, List.drop_of_length_le (by rw [HN.out]; omega), List.drop_of_length_le (by rw [HM.out]; omega)]; rfl)
        go_wp2
        go_ret
        exact ⟨ret_bool HZ.out.symm, q, rfl⟩
  · have HZ := Lib.hid (HR.out.trans (sameAs_len (by rw [hn, hm]; exact hnm)))
    have nn : ((n : Int) != (m : Int)) = true := by rw [bne_iff_ne]; omega
    have nn2 : ((n : Int) == (m : Int)) = false := by rw [beq_eq_false_iff_ne]; omega
    clear hn hm
    go_enter Tryz.func46, Tryz.ntmps46
    go_wp2
    go_ret
    exact ⟨ret_bool HZ.out.symm, 0, rfl⟩
end Go.Proofs.YtiofpeckcfdilaaGreatDoor

/- Contract of the reference's moved: arms in order, each Next replaced by its place in a row. -/
namespace Go.Proofs.YtiofpeckcfdilaaGreatDoor
open Go.RowKit

theorem flatA_set : ∀ (rs : List AR) (j : Nat) (r : AR) (v : Int), rs[j]? = some r → (rs.set j ⟨r.s, r.k, r.u, v⟩).flatMap encAR = (rs.flatMap encAR).set (j * 4 + 3) (.int .i64 v)
  | [], j, r, v, h => by cases h
  | x :: rs, 0, r, v, h => by
    obtain rfl := Option.some.inj h
    rw [List.set_cons_zero, List.flatMap_cons, List.flatMap_cons]
    rfl
  | x :: rs, j + 1, r, v, h => by
    rw [List.set_cons_succ, List.flatMap_cons, List.flatMap_cons, flatA_set rs j r v h]
    have e : (j + 1) * 4 + 3 = (encAR x).length + (j * 4 + 3) := by show _ = 4 + _; omega
    rw [e, List.set_append_right _ _ (by omega), Nat.add_sub_cancel_left]
theorem AOwn.stored {w : World} {base g n c : Nat} {l : List ArmL} (h : AOwn w base (.slice (some ⟨g, 0, none⟩) n c) l) (hn : l.length = n) {j : Nat} {x : ArmL} (hj : l[j]? = some x) (v : Int) :
    AOwn (w.setCell ⟨g, j * 4 + 3, none⟩ (.int .i64 v)) base (.slice (some ⟨g, 0, none⟩) n c) (l.set j ⟨x.label, x.ck, x.cn, v⟩) ∧ w.frozen? ⟨g, j * 4 + 3, none⟩ = false := by
  obtain ⟨rs, h, hl, hok⟩ := h
  subst hn
  have hrl : rs.length = l.length := by rw [← hl, List.length_map]
  have hjl : j < l.length := (List.getElem?_eq_some_iff.1 hj).1
  have hr := List.getElem?_eq_getElem (l := rs) (i := j) (by omega)
  have hx : x = armR (rs[j]'(by omega)) := by
    rw [← hl, List.getElem?_map, hr] at hj
    exact (Option.some.inj hj).symm
  have hst := h.stored (j * 4 + 3) (.int .i64 v)
  refine ⟨⟨rs.set j ⟨(rs[j]'(by omega)).s, (rs[j]'(by omega)).k, (rs[j]'(by omega)).u, v⟩, ?_, ?_, fun t ht => ?_⟩, h.frozenAt _⟩
  · rw [flatA_set rs j _ v hr, List.length_set]
    exact hst.1
  · rw [List.map_set, hl, hx]
    rfl
  · rcases List.mem_or_eq_of_mem_set ht with ht | rfl
    · exact hok t ht
    · have ho := hok _ (List.getElem_mem (by omega : j < rs.length))
      exact ⟨ho.1, ho.2⟩
theorem AOwn.spot {w : World} {base : Nat} {v : Value} {l : List ArmL} (h : AOwn w base v l) (hl : 0 < l.length) : ∃ g c, v = .slice (some ⟨g, 0, none⟩) l.length c ∧ base ≤ g ∧ g < w.heap.size := by
  obtain ⟨rs, h, _, _⟩ := h
  have hlt := h.lt
  rcases h.2 with ⟨_, h0⟩ | ⟨g, cap, cur, rfl, hbase, _⟩
  · omega
  · exact ⟨g, cap, rfl, hbase, (hlt g rfl).2⟩
/-- Some arms moved, the others not yet. -/
def mixA (row : List Nat) (l : List ArmL) (k : Nat) : List ArmL := (l.take k).map (fun a => toA a (row.idxOf a.next.toNat)) ++ l.drop k
theorem mixA_len (row : List Nat) (l : List ArmL) (k : Nat) : (mixA row l k).length = l.length := by
  unfold mixA
  rw [List.length_append, List.length_map, List.length_take, List.length_drop]
  omega
theorem mixA_at {row : List Nat} {l : List ArmL} {k : Nat} {x : ArmL} (h : l[k]? = some x) : (mixA row l k)[k]? = some x ∧ (mixA row l k).set k (toA x (row.idxOf x.next.toNat)) = mixA row l (k + 1) := by
  obtain ⟨h1, e⟩ := List.getElem?_eq_some_iff.1 h
  have hl : ((l.take k).map (fun a => toA a (row.idxOf a.next.toNat))).length = k := by rw [List.length_map, List.length_take]; omega
  unfold mixA
  constructor
  · rw [List.getElem?_append_right (by omega), hl, Nat.sub_self, List.getElem?_drop, Nat.add_zero]
    exact h
  · rw [List.set_append_right _ _ (by omega), hl, Nat.sub_self, tuTake_at h, List.map_append, List.drop_eq_getElem_cons h1, e, List.set_cons_zero, List.append_assoc]
    rfl

set_option maxHeartbeats 8000000 in
set_option maxRecDepth 20000 in
theorem tuMoved_any (a : Option Addr) (n c : Nat) (l : List ArmL) (ra : Option Addr) (rn rc : Nat) (row : List Nat) (w : World) (bound : Nat) (hb : bound ≤ w.heap.size) (h : Arms w bound a n l) (hn : n ≤ 1000) (hr : Nums w bound ra rn (rowI row))
    (hin : ∀ x ∈ l, 0 ≤ x.next ∧ x.next.toNat ∈ row) :
    Calls Tryz.prog 73 #[.slice a n c, .slice ra rn rc] w fun e w' => (∃ v, e = .returned v ∧ AOwn w' w.heap.size v (movedA row l)) ∧ Below w.heap.size w w' := by
  have HSL := Lib.hid (show (sortA l).length = n by rw [sortA_len]; exact h.1)
  have HAL := Lib.hid h
  have HR := Lib.hid hr
  have HIN := Lib.hid (fun (x : ArmL) (hx : x ∈ sortA l) => hin x (mem_sortA.1 hx))
  have HMV := Lib.hid (show mixA row (sortA l) n = movedA row l by
    unfold mixA movedA
    rw [List.take_of_length_le (by rw [HSL.out]; exact Nat.le_refl _), List.drop_of_length_le (by rw [HSL.out]; exact Nat.le_refl _), List.append_nil])
  clear h hr hin
  by_cases hn0 : n = 0
  · subst hn0
    have hs0 : sortA l = [] := List.eq_nil_of_length_eq_zero HSL.out
    have HM0 := Lib.hid (show movedA row l = sortA l by unfold movedA; rw [hs0]; rfl)
    clear hs0
    go_enter Tryz.func73, Tryz.ntmps73
    go_wp2_with (first
      | (go_at_call 104; (with_reducible refine (tuSorted_any a 0 c l _ bound hb HAL.out hn).mono ?_)
         rintro e w2 ⟨⟨vl, he, hvl⟩, hb2⟩
         subst he
         have HVL := Lib.hid hvl
         obtain ⟨la, lc, hva, _, _, _⟩ := hvl.sees (by rw [HSL.out]; omega)
         rw [HSL.out] at hva
         subst hva
         have HB2 := Lib.hid hb2
         clear hvl hb2)
      | fail)
    go_loopw [6] (fun i wr => i = .int .i64 0 ∧ wr = w2) (fun _ _ => 0)
    case atStart => exact ⟨rfl, rfl⟩
    case round =>
      obtain ⟨rfl, rfl⟩ := hrel
      go_wp2
      go_ret
      exact ⟨⟨_, rfl, by rw [HM0.out]; exact HVL.out⟩, HB2.out⟩
  · go_enter Tryz.func73, Tryz.ntmps73
    go_wp2_with (first
      | (go_at_call 104; (with_reducible refine (tuSorted_any a n c l _ bound hb HAL.out hn).mono ?_)
         rintro e w2 ⟨⟨vl, he, hvl⟩, hb2⟩
         subst he
         obtain ⟨lg, lc, hva, hlg, hlg2⟩ := hvl.spot (by rw [HSL.out]; omega)
         rw [HSL.out] at hva
         subst hva
         have HVL := Lib.hid hvl
         have HB2 := Lib.hid hb2
         clear hvl hb2)
      | fail)
    go_loopw [6] (fun i wr => ∃ k : Nat, k ≤ n ∧ i = .int .i64 k ∧ Hid (AOwn wr w.heap.size (.slice (some ⟨lg, 0, none⟩) n lc) (mixA row (sortA l) k)) ∧ Hid (Below w.heap.size w wr)) (fun i _ => n - (intOf i).toNat)
    case atStart => exact ⟨0, Nat.zero_le _, rfl, Lib.hid (by unfold mixA; rw [List.take_zero, List.drop_zero]; exact HVL.out), HB2⟩
    case round =>
      obtain ⟨k, hk, rfl, HO, HBr⟩ := hrel
      have hzr := HBr.out.size
      by_cases hlt : k < n
      · obtain ⟨x, hx⟩ : ∃ x, (sortA l)[k]? = some x := ⟨_, List.getElem?_eq_getElem (by rw [HSL.out]; exact hlt)⟩
        obtain ⟨hm1, hm2⟩ := mixA_at (row := row) hx
        have hmem := HIN.out x (List.mem_of_getElem? hx)
        have hst := HO.out.stored (by rw [mixA_len]; exact HSL.out) hm1 ((row.idxOf x.next.toNat : Nat) : Int)
        obtain ⟨la2, lc2, hva2, hla2, _, _⟩ := HO.out.sees (by rw [mixA_len, HSL.out]; omega)
        rw [mixA_len, HSL.out] at hva2 hla2
        injection hva2 with e1 _ e3
        subst e1 e3
        obtain ⟨b1, o1, s, u, ck, nx, hbe, _, hx1, ⟨q0, q1, q2, q3⟩, _, _⟩ := hla2.at_ hlt
        injection hbe with hbe
        injection hbe with e4 e5 _
        subst e4 e5
        rw [hm1] at hx1
        obtain rfl := Option.some.inj hx1
        dsimp only at hmem hst hm2
        rw [Nat.zero_add] at q3
        obtain ⟨y, hy⟩ : ∃ y : Nat, nx = (y : Int) := ⟨nx.toNat, by omega⟩
        subst hy
        rw [Int.toNat_natCast] at hmem hst hm2
        have CP := Lib.hid (fun W (h : Nums W bound ra rn (rowI row)) => show Calls Tryz.prog 105 #[.slice ra rn rc, .int .i64 (y : Int)] W fun e w' => e = .returned (.int .i64 ((row.idxOf y : Nat) : Int)) ∧ w' = W from
          (tuPlace_any ra rn rc (rowI row) (y : Int) W bound h).mono fun e w' h => ⟨by
            rw [h.1]
            unfold rowI
            rw [idxI_nat, if_pos hmem.2, Nat.zero_add], h.2⟩)
        obtain ⟨pi, hpi⟩ : ∃ pi : Nat, pi = row.idxOf y := ⟨_, rfl⟩
        rw [← hpi] at hst hm2 CP
        have HST := Lib.hid hst.1
        have HM2 := Lib.hid hm2
        have HRr := Lib.hid (HR.out.below (HBr.out.mono hb))
        have fz := hst.2
        have HBS := Lib.hid (HBr.out.setCell (p := ⟨lg, k * 4 + 3, none⟩) hlg (.int .i64 (pi : Int)))
        clear q0 q1 q2 hst hm1 hm2 hx hmem hpi hla2
        go_wp2_with (first
          | (go_at_call 105; (with_reducible refine (CP.out _ HRr.out).mono ?_); rintro e w4 ⟨rfl, rfl⟩)
          | fail)
        go_roundw
        case rel => exact ⟨k + 1, by omega, by go_num, Lib.hid (by rw [← HM2.out]; exact HST.out), HBS⟩
        case measure => simp [intOf]; omega
      · have HZ := Lib.hid (show mixA row (sortA l) k = movedA row l by rw [show k = n by omega]; exact HMV.out)
        go_wp2
        go_ret
        exact ⟨⟨_, rfl, by rw [← HZ.out]; exact HO.out⟩, HBr.out⟩
end Go.Proofs.YtiofpeckcfdilaaGreatDoor

/- Turns that the call makes by append; their arms lie in blocks of their own. -/
namespace Go.Proofs.YtiofpeckcfdilaaGreatDoor
open Go.RowKit

theorem Arms.stay {w w' : World} {bound bound' : Nat} {a : Option Addr} {n : Nat} {l : List ArmL} (h : Arms w bound a n l) (hb : bound ≤ bound') (hk : ∀ b off, a = some ⟨b, off, none⟩ → w'.heap[b]? = w.heap[b]?) : Arms w' bound' a n l :=
  ⟨h.1, h.2.1, fun hn => by
    obtain ⟨b, off, e, hlt, hc⟩ := h.2.2 hn
    refine ⟨b, off, e, by omega, fun j x hj => ?_⟩
    obtain ⟨s, u, ⟨c0, c1, c2, c3⟩, h1⟩ := hc j x hj
    have hq : ∀ o, w'.cell? ⟨b, o, none⟩ = w.cell? ⟨b, o, none⟩ := fun o => World.cell?_of_block (hk b off e)
    exact ⟨s, u, ⟨(hq _).trans c0, (hq _).trans c1, (hq _).trans c2, (hq _).trans c3⟩, h1⟩⟩
/-- A turn as it is laid. -/
structure TR where
  k : Int
  s : ByteArray
  a : Option Addr
  n : Nat
  c : Nat
def encTR (r : TR) : List Value := [.int .i64 r.k, .string r.s, .slice r.a r.n r.c]
/-- What is laid reads as this turn, and its arms lie from base on. -/
def TurnAt (w : World) (base : Nat) (v : Value) (r : TR) (t : TurnL) : Prop :=
  r.k = t.kind ∧ r.s.toList = t.peer ∧ r.s.size ≤ maxLen ∧ Arms w w.heap.size r.a r.n t.arms ∧ ∀ b off, r.a = some ⟨b, off, none⟩ → base ≤ b ∧ b < w.heap.size ∧ v.ownBlock ≠ some b
def TOwn (w : World) (base : Nat) (v : Value) (f : List TurnL) : Prop :=
  ∃ rs : List TR, w.ownsRow base 51 3 v f.length (rs.flatMap encTR) ∧ rs.length = f.length ∧ ∀ (j : Nat) (r : TR) (t : TurnL), rs[j]? = some r → f[j]? = some t → TurnAt w base v r t
theorem TOwn.zero (w : World) (base : Nat) : TOwn w base (.slice none 0 0) [] := ⟨[], World.ownsRow_nil w base 51 3, rfl, fun j r l h => by simp at h⟩
theorem TOwn.beside {w w' : World} {base g : Nat} {v : Value} {f : List TurnL} (h : TOwn w base v f) (hb : Beside g w w') (hg : g < base) : TOwn w' base v f := by
  obtain ⟨rs, h, hrl, hrd⟩ := h
  have hlt := h.lt
  refine ⟨rs, ⟨h.1, ?_⟩, hrl, fun j r t hr ht => ?_⟩
  · rcases h.2 with h0 | ⟨k, cap, cur, rfl, hbase, hh, h1, h2, h3, h4⟩
    · exact .inl h0
    · refine .inr ⟨k, cap, cur, rfl, hbase, ?_, h1, h2, h3, h4⟩
      rw [hb.block k (hlt k rfl).2 (by omega)]
      exact hh
  · obtain ⟨e1, e2, e3, e4, e5⟩ := hrd j r t hr ht
    have hs := hb.size
    exact ⟨e1, e2, e3, e4.stay hs (fun b off e => hb.block b (e5 b off e).2.1 (by have := (e5 b off e).1; omega)), fun b off e => ⟨(e5 b off e).1, by have := (e5 b off e).2.1; omega, (e5 b off e).2.2⟩⟩
theorem TOwn.kept {w w' : World} {base : Nat} {v : Value} {f : List TurnL} (h : TOwn w base v f) (hb : Below w.heap.size w w') (h0 : 0 < base) : TOwn w' base v f := h.beside (g := 0) (Beside.of_below hb) h0
theorem flatT_at : ∀ (l : List TR) (j : Nat) (t : TR), l[j]? = some t → ∀ i, i < 3 → (l.flatMap encTR)[j * 3 + i]? = (encTR t)[i]? := by
  intro l
  induction l with
  | nil => intro j t h; cases h
  | cons x l ih =>
    intro j t h i hi
    rw [List.flatMap_cons]
    cases j with
    | zero =>
      injection h with h
      subst h
      rw [Nat.zero_mul, Nat.zero_add, List.getElem?_append_left hi]
    | succ j =>
      have e : (j + 1) * 3 + i = 3 + (j * 3 + i) := by omega
      rw [e, List.getElem?_append_right (by show 3 ≤ _; omega)]
      show (l.flatMap encTR)[3 + (j * 3 + i) - 3]? = _
      rw [Nat.add_sub_cancel_left]
      exact ih j t h i hi
theorem info_turn : (Tryz.prog.info? 51).map (fun i => (i.zero, i.size, i.bytes)) = some (some (.agg #[.int .i64 0, .string ⟨#[]⟩, .slice none 0 0]), 3, 48) := by kernel_rfl
theorem TOwn.add {W : World} {base : Nat} {v : Value} {f : List TurnL} {r : TR} {t : TurnL} (hB : TOwn W base v f) (hA : TurnAt W base v r t) (hb : base ≤ W.heap.size) (hlen : f.length ≤ 1000000) (ty : Nat) :
    ∃ v' w', (Builtin.append_ #[22, 22] ty #[v, .slice (some ⟨W.heap.size, 0, none⟩) 1 1]).run Tryz.prog (W.alloc (.cells #[.int .i64 r.k, .string r.s, .slice r.a r.n r.c] 51)) = .ok v' w' ∧ TOwn w' base v' (f ++ [t]) ∧ ∀ w0, Below base w0 W → Below base w0 w' := by
  obtain ⟨i0, hi0, hzz⟩ := Option.map_eq_some_iff.1 info_turn
  simp only [Prod.mk.injEq] at hzz
  obtain ⟨hz, hs1, hb1⟩ := hzz
  obtain ⟨rs, hown, hrl, hrd⟩ := hB
  have hown1 : (W.alloc (.cells #[.int .i64 r.k, .string r.s, .slice r.a r.n r.c] 51)).ownsRow base 51 3 v f.length (rs.flatMap encTR) := World.ownsRow.alloc hown _
  obtain ⟨v', w', hrun, hown', hgr, _, hat⟩ := run_append_own_at (P := Tryz.prog) (W.alloc (.cells #[.int .i64 r.k, .string r.s, .slice r.a r.n r.c] 51)) base 22 ty 51 i0 _ 3 48 Tryz.underlying22 hi0 hz hs1 hb1 rfl (by omega) v f.length (rs.flatMap encTR) hown1
    ⟨W.heap.size, 0, none⟩ 1 1 (encTR r) rfl
    (fun j u hu => by
      rw [Go.WideShapes.add_plain, cell_of_row _ _ _ _ _ _ (heap_alloc_new W _), Nat.zero_add, ← hu]
      rw [← Array.getElem?_toList]
      rfl)
    (fun u hu => by
      unfold encTR at hu
      simp only [List.mem_cons, List.not_mem_nil, or_false] at hu
      rcases hu with rfl | rfl | rfl <;> rfl) (by unfold maxLen; omega) (by omega) (by simp; omega)
  have hbel : ∀ B, B ≤ base → ∀ w0, Below B w0 W → Below B w0 w' := fun B hB w0 hw0 => (hw0.alloc (by omega) _).grown hgr (by simp; omega) (fun k hk => by
    have := hown1.lt k hk
    omega)
  have hsz : W.heap.size + 1 ≤ w'.heap.size := by
    have := hgr.size
    simpa using this
  have hblk : ∀ b, b < W.heap.size → v.ownBlock ≠ some b → w'.heap[b]? = W.heap[b]? := fun b hbl hne => (hgr.block b (by simp; omega) (fun e => hne e.symm)).trans ((tu1 W _).block b hbl)
  have hnew : ∀ b, b < W.heap.size → v.ownBlock ≠ some b → v'.ownBlock ≠ some b := fun b hbl hne => by
    rcases hat with e | e
    · rw [e]; exact hne
    · rw [e]
      intro e2
      have := Option.some.inj e2
      simp at this
      omega
  have hmove : ∀ (r : TR) (t : TurnL), TurnAt W base v r t → TurnAt w' base v' r t := fun r t ⟨e1, e2, e3, e4, e5⟩ =>
    ⟨e1, e2, e3, e4.stay (by omega) (fun b off e => hblk b (e5 b off e).2.1 (e5 b off e).2.2), fun b off e => ⟨(e5 b off e).1, by have := (e5 b off e).2.1; omega, hnew b (e5 b off e).2.1 (e5 b off e).2.2⟩⟩
  refine ⟨v', w', hrun, ⟨rs ++ [r], ?_, by simp [hrl], fun j r2 k hj hk => ?_⟩, fun w0 hw0 => hbel base (Nat.le_refl _) w0 hw0⟩
  · rw [List.length_append, List.flatMap_append, List.flatMap_cons, List.flatMap_nil, List.append_nil]
    exact hown'
  · rcases Nat.lt_or_ge j rs.length with hlt | hge
    · rw [List.getElem?_append_left hlt] at hj
      rw [List.getElem?_append_left (by omega)] at hk
      exact hmove _ _ (hrd j r2 k hj hk)
    · rw [List.getElem?_append_right hge] at hj
      rw [List.getElem?_append_right (by omega), ← hrl] at hk
      have h0 : j - rs.length = 0 := by
        obtain ⟨h1, _⟩ := List.getElem?_eq_some_iff.1 hj
        simpa using h1
      rw [h0] at hj hk
      obtain rfl : r = r2 := by simpa using hj
      obtain rfl : t = k := by simpa using hk
      exact hmove _ _ hA
theorem wpList_append_turn {ops : Array Oper} {rest : List Oper} {o : Oper} {a : Act} {Q : Exit → Act → World → Prop} {W : World} {cells : Array Value} (hgd : o.guard = none) (s x : Operand)
    (ho : o.op = .call { callee := .builtin .append, args := #[s, x], argTypes := #[22, 22] }) (base : Nat) (v : Value) (f : List TurnL) (r : TR) (t : TurnL) (hc : cells = #[.int .i64 r.k, .string r.s, .slice r.a r.n r.c])
    (hs : a.eval s = v) {g : Nat} (hx : a.eval x = .slice (some ⟨g, 0, none⟩) 1 1) (hg : g = W.heap.size) (hB : TOwn W base v f) (hA : TurnAt W base v r t) (hb : base ≤ W.heap.size) (hlen : f.length ≤ 1000000)
    (w0 : World) (hw : Below base w0 W)
    (h : ∀ v' w', TOwn w' base v' (f ++ [t]) → Below base w0 w' → wpList Tryz.prog ops Q rest (a.put o.dst v') w') : wpList Tryz.prog ops Q (o :: rest) a (W.alloc (.cells cells 51)) := by
  subst hc hg
  obtain ⟨v', w', hrun, hown, hbel⟩ := hB.add hA hb hlen o.type
  exact wpList_append_lx hgd s x _ ho _ _ _ hs hx hrun (h v' w' hown (hbel w0 hw))
theorem step_append_turn {ops : Array Oper} {o : Oper} {a : Act} {K : Act → World → Prop} {Q : Exit → Act → World → Prop} {E : Prop} {w1 : World} (W : World) (hgd : o.guard = none) (s x : Operand)
    (ho : o.op = .call { callee := .builtin .append, args := #[s, x], argTypes := #[22, 22] }) (base : Nat) (v : Value) (f : List TurnL) (r : TR) (t : TurnL)
    (hw1 : w1 = W.alloc (.cells #[.int .i64 r.k, .string r.s, .slice r.a r.n r.c] 51))
    (hs : a.eval s = v) (hx : a.eval x = .slice (some ⟨W.heap.size, 0, none⟩) 1 1) (hB : TOwn W base v f) (hA : TurnAt W base v r t) (hb : base ≤ W.heap.size) (hlen : f.length ≤ 1000000)
    (w0 : World) (hw : Below base w0 W)
    (h : ∀ v' w', TOwn w' base v' (f ++ [t]) → Below base w0 w' → K (a.put o.dst v') w') : if Region.wanted o (yielded ops a.tmps) = true then Oper.wp Tryz.prog o a w1 K Q else E := by
  have hwant : Region.wanted o (yielded ops a.tmps) = true := by simp [Region.wanted, hgd]
  rw [if_pos hwant]
  subst hw1
  obtain ⟨v', w', hrun, hown, hbel⟩ := hB.add hA hb hlen o.type
  have hrun' : (Builtin.append_ #[22, 22] o.type #[v, .slice (some ⟨W.heap.size, 0, none⟩) 1 1]).run Tryz.prog (W.alloc (.cells #[.int .i64 r.k, .string r.s, .slice r.a r.n r.c] 51)) = .ok v' w' := hrun
  unfold Oper.wp execOp
  simp only [ho, resolve, invoke, builtin, Sem.run_bind, Sem.run_pure, Result.andThen_ok, List.map_toArray, List.map_cons, List.map_nil, hs, hx, hrun']
  exact h v' w' hown (hbel w0 hw)
theorem TOwn.sees {w : World} {base : Nat} {v : Value} {f : List TurnL} (h : TOwn w base v f) (hl : f.length ≤ 1000000) : ∃ a c, v = .slice a f.length c ∧ Turns w w.heap.size a f.length f := by
  obtain ⟨rs, h, hrl, hrd⟩ := h
  have hlt := h.lt
  rcases h.2 with ⟨h0, h1⟩ | ⟨g, cap, cur, rfl, hbase, hh, h1, h2, h3, h4⟩
  · have hz : f = [] := List.eq_nil_of_length_eq_zero h1
    subst hz
    exact ⟨none, 0, h0, Turns.zero _ _ _⟩
  · refine ⟨_, cap, rfl, rfl, by omega, fun _ => ⟨g, 0, rfl, (hlt g rfl).2, fun j t hj => ?_⟩⟩
    have hj' : j < f.length := (List.getElem?_eq_some_iff.1 hj).1
    have hr := List.getElem?_eq_getElem (l := rs) (i := j) (by omega)
    obtain ⟨e1, e2, e3, e4, _⟩ := hrd j _ t hr hj
    have hcell : ∀ i, i < 3 → w.cell? ⟨g, 0 + (j * 3 + i), none⟩ = (encTR (rs[j]'(by omega)))[i]? := fun i hi => by
      rw [cell_of_row w g _ cur 51 (0, 0) hh, Nat.zero_add, ← flatT_at rs j _ hr i hi]
      have : (cur.toList.take (f.length * 3))[j * 3 + i]? = (rs.flatMap encTR)[j * 3 + i]? := by rw [h4]
      rw [List.getElem?_take, if_pos (by omega)] at this
      rw [← Array.getElem?_toList, this]
    have c0 := hcell 0 (by omega)
    have c1 := hcell 1 (by omega)
    have c2 := hcell 2 (by omega)
    exact ⟨(rs[j]'(by omega)).s, (rs[j]'(by omega)).a, (rs[j]'(by omega)).n, (rs[j]'(by omega)).c, ⟨c0.trans (by rw [← e1]; rfl), c1, c2⟩, e2, e3, e4⟩
end Go.Proofs.YtiofpeckcfdilaaGreatDoor

/- Turns that make makes, and stores into a row of turns. -/
namespace Go.Proofs.YtiofpeckcfdilaaGreatDoor
open Go.RowKit

theorem flatT_set : ∀ (rs : List TR) (j : Nat) (r r' : TR) (i : Nat) (u : Value), rs[j]? = some r → i < 3 → encTR r' = (encTR r).set i u → (rs.set j r').flatMap encTR = (rs.flatMap encTR).set (j * 3 + i) u
  | [], j, r, r', i, u, h, _, _ => by simp at h
  | x :: rs, 0, r, r', i, u, h, hi, he => by
    obtain rfl := Option.some.inj h
    rw [List.set_cons_zero, List.flatMap_cons, List.flatMap_cons, he, Nat.zero_mul, Nat.zero_add, List.set_append_left _ _ (show i < (encTR x).length from hi)]
  | x :: rs, j + 1, r, r', i, u, h, hi, he => by
    rw [List.set_cons_succ, List.flatMap_cons, List.flatMap_cons, flatT_set rs j r r' i u h hi he]
    have e : (j + 1) * 3 + i = (encTR x).length + (j * 3 + i) := by show _ = 3 + _; omega
    rw [e, List.set_append_right _ _ (by omega), Nat.add_sub_cancel_left]
def r0T : TR := ⟨0, ⟨#[]⟩, none, 0, 0⟩
theorem made_turns (n : Nat) (hn : n ≤ 1000) (W : World) : (Instr.makeSlice 22 (.int .i64 (n : Int)) (.int .i64 (n : Int))).run Tryz.prog W =
    .ok (.slice (some ⟨W.heap.size, 0, none⟩) n n) (W.alloc (.cells (madeCells #[.int .i64 0, .string ⟨#[]⟩, .slice none 0 0] (n * 3)) 51)) := by
  obtain ⟨i, hi, hzz⟩ := Option.map_eq_some_iff.1 info_turn
  simp only [Prod.mk.injEq] at hzz
  obtain ⟨hz, hs, hb⟩ := hzz
  have hr := run_make (P := Tryz.prog) W 22 51 i _ Tryz.underlying22 hi hz .i64 .i64 (n : Int) (n : Int) (by omega) (by omega) (by rw [hb]; omega) (by omega)
  rw [hs, Int.toNat_natCast] at hr
  exact hr
theorem made_flat (n : Nat) : (madeCells #[.int .i64 0, .string ⟨#[]⟩, .slice none 0 0] (n * 3)).toList = (List.replicate n r0T).flatMap encTR := by
  refine List.ext_getElem? fun i => ?_
  rcases Nat.lt_or_ge i (n * 3) with hi | hi
  · have h1 := flatT_at (List.replicate n r0T) (i / 3) r0T (by rw [List.getElem?_replicate, if_pos (by omega)]) (i % 3) (Nat.mod_lt _ (by omega))
    rw [show i / 3 * 3 + i % 3 = i by omega] at h1
    rw [h1]
    unfold madeCells
    rw [Array.toList_map, List.getElem?_map, Array.toList_range, List.getElem?_range hi, Option.map_some]
    have h3 : i % 3 = 0 ∨ i % 3 = 1 ∨ i % 3 = 2 := by omega
    show some ((#[Value.int .i64 0, .string ⟨#[]⟩, .slice none 0 0] : Array Value)[i % 3]!) = _
    rcases h3 with h | h | h <;> (rw [h]; rfl)
  · rw [List.getElem?_eq_none (by simp [madeCells]; omega), List.getElem?_eq_none]
    have e : ∀ l : List TR, (l.flatMap encTR).length = l.length * 3 := fun l => by
      induction l with
      | nil => rfl
      | cons t l ih => rw [List.flatMap_cons, List.length_append, ih, List.length_cons]; show 3 + _ = _; omega
    rw [e, List.length_replicate]
    exact hi
theorem LBox.thaw {W : World} {g : Nat} {nm : ByteArray} {a : Option Addr} {n c : Nat} (h : LBox W g nm a n c) (o : Nat) : W.frozen? ⟨g, o, none⟩ = false := by
  unfold LBox at h
  unfold World.frozen?
  rw [h]
  simp
theorem heap_setCell_ne {W : World} {g : Nat} {o : Nat} {u : Value} {k : Nat} (h : k ≠ g) : (W.setCell ⟨g, o, none⟩ u).heap[k]? = W.heap[k]? := by
  show (W.heap.modify g _)[k]? = _
  rw [Array.getElem?_modify, if_neg (fun e => h e.symm)]
end Go.Proofs.YtiofpeckcfdilaaGreatDoor
