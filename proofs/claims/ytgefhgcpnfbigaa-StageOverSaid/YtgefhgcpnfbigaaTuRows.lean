/- A slice of ints that the call made: some more, and it may be read; contracts of the reference's placeInt and hasInt. -/
import Derived.Test.YtgefhgcpnfbigaaTuOwns
import Derived.Laws.StructEq
import Derived.Laws.OwnMore
import Derived.Laws.MakeOwn
namespace Go.Proofs.Ytgefhgcpnfbigaa
open Go.RowKit

/-- The slice v, which the call made (its array lies at base or above), holds just these numbers. -/
def IInts (w : World) (base : Nat) (v : Value) (l : List Int) : Prop := w.ownsRow base 3 1 v l.length (l.map encI64)
theorem IInts.zero (w : World) (base : Nat) : IInts w base (.slice none 0 0) [] := World.ownsRow_nil w base 3 1
theorem IInts.alloc {w : World} {base : Nat} {v : Value} {l : List Int} (h : IInts w base v l) (o : Obj) : IInts (w.alloc o) base v l := World.ownsRow.alloc h o
theorem IInts.drewN {w : World} {base : Nat} {v : Value} {l : List Int} (h : IInts w base v l) (k : Nat) : IInts (w.drewN k) base v l := h
theorem IInts.below {w w' : World} {base B : Nat} {v : Value} {l : List Int} (h : IInts w base v l) (hb : Below B w w') (hB : w.heap.size ≤ B) : IInts w' base v l := by
  have hlt := h.lt
  rcases h.2 with h0 | ⟨g, cap, cur, rfl, hbase, hh, h1, h2, h3, h4⟩
  · exact ⟨h.1, .inl h0⟩
  · refine ⟨h.1, .inr ⟨g, cap, cur, rfl, hbase, ?_, h1, h2, h3, h4⟩⟩
    have := (hlt g rfl).2
    rw [hb.block g (by omega)]
    exact hh
theorem IInts.low {w : World} {base base' : Nat} {v : Value} {l : List Int} (h : IInts w base v l) (hb : base' ≤ base) : IInts w base' v l := by
  rcases h.2 with h0 | ⟨g, cap, cur, rfl, hbase, hh, h1, h2, h3, h4⟩
  · exact ⟨h.1, .inl h0⟩
  · exact ⟨h.1, .inr ⟨g, cap, cur, rfl, Nat.le_trans hb hbase, hh, h1, h2, h3, h4⟩⟩
theorem info_int1 : (Try.prog.info? 3).map (fun i => (i.zero, i.size, i.bytes)) = some (some (.int .i64 0), 1, 8) := by kernel_rfl
/-- Some numbers more, which the world holds in a new array. -/
theorem IInts.more {w : World} {base : Nat} {v : Value} {l : List Int} (h : IInts w base v l) (hb : base ≤ w.heap.size) (news : List Int) (hlen : l.length + news.length ≤ 7000000000000) (ty : Nat) :
    ∃ v' w', (Builtin.append_ #[24, 24] ty #[v, .slice (some ⟨w.heap.size, 0, none⟩) news.length news.length]).run Try.prog (w.alloc (.cells (news.map encI64).toArray 3)) = .ok v' w' ∧
      IInts w' base v' (l ++ news) ∧ ∀ B, B ≤ base → ∀ w0, Below B w0 w → Below B w0 w' := by
  obtain ⟨i0, hi0, hzz⟩ := Option.map_eq_some_iff.1 info_int1
  simp only [Prod.mk.injEq] at hzz
  obtain ⟨hz, hs1, hb1⟩ := hzz
  obtain ⟨v', w', hrun, hown, hgr, _, hat⟩ := run_append_own_at (P := Try.prog) (w.alloc (.cells (news.map encI64).toArray 3)) base 24 ty 3 i0 _ 1 8 Try.underlying24 hi0 hz hs1 hb1 rfl (by omega) v l.length (l.map encI64) (h.alloc _)
    ⟨w.heap.size, 0, none⟩ news.length news.length (news.map encI64) (by simp)
    (fun j u hu => by
      have hj : j < news.length := by
        rcases Nat.lt_or_ge j news.length with h | h
        · exact h
        · rw [List.getElem?_eq_none (by simpa using h)] at hu; cases hu
      rw [cell_alloc j (by simpa using hj)]
      rw [← hu, List.getElem?_eq_getElem (by simpa using hj)]
      simp)
    (fun u hu => by obtain ⟨c, _, rfl⟩ := List.mem_map.1 hu; rfl) (by unfold maxLen; omega) (by omega) (by simp; omega)
  refine ⟨v', w', hrun, ?_, fun B hB w0 hw0 => ?_⟩
  · unfold IInts
    rw [List.length_append, List.map_append]
    exact hown
  · exact (hw0.alloc (by omega) _).grown hgr (by simp; omega) (fun k hk => by
      have := (h.alloc (.cells (news.map encI64).toArray 3)).lt k hk
      omega)
theorem wpList_append_iints {ops : Array Oper} {rest : List Oper} {o : Oper} {a : Act} {Q : Exit → Act → World → Prop} {W : World} {cells : Array Value} (hgd : o.guard = none) (s x : Operand)
    (ho : o.op = .call { callee := .builtin .append, args := #[s, x], argTypes := #[24, 24] }) (base : Nat) (v : Value) (l : List Int) (n : Int) (hc : cells = #[.int .i64 n])
    (hs : a.eval s = v) {g : Nat} (hx : a.eval x = .slice (some ⟨g, 0, none⟩) 1 1) (hg : g = W.heap.size) (hB : IInts W base v l) (hb : base ≤ W.heap.size) (hlen : l.length ≤ 1000000000000)
    (w0 : World) (hw : Below base w0 W)
    (h : ∀ v' w', IInts w' base v' (l ++ [n]) → Below base w0 w' → wpList Try.prog ops Q rest (a.put o.dst v') w') : wpList Try.prog ops Q (o :: rest) a (W.alloc (.cells cells 3)) := by
  subst hc hg
  obtain ⟨v', w', hrun, hown, hbel⟩ := hB.more hb [n] (by simp; omega) o.type
  exact wpList_append_lx hgd s x _ ho _ _ _ hs hx hrun (h v' w' hown (hbel base (Nat.le_refl _) w0 hw))
/-- A slice of numbers that the call made may be read. -/
theorem IInts.sees {w : World} {base : Nat} {v : Value} {l : List Int} (h : IInts w base v l) :
    ∃ a cap, v = .slice a l.length cap ∧ l.length ≤ cap ∧ cap ≤ maxLen ∧ From base a l.length ∧ Nums w w.heap.size a l.length l := by
  have hlt := h.lt
  rcases h.2 with ⟨h0, h1⟩ | ⟨g, cap, cur, rfl, hbase, hh, h1, h2, h3, h4⟩
  · have hz : l = [] := by
      cases l with
      | nil => rfl
      | cons x l => simp at h1
    subst hz
    exact ⟨none, 0, h0, Nat.le_refl _, Nat.zero_le _, From.zero _ _, Nums.zero _ _ _⟩
  · refine ⟨_, cap, rfl, h1, h2, fun _ => ⟨g, 0, rfl, hbase⟩, rfl, by unfold maxLen at h2; omega, fun _ => ⟨g, 0, rfl, (hlt g rfl).2, fun j x hj => ?_⟩⟩
    have hj' : j < l.length := by
      rcases Nat.lt_or_ge j l.length with h | h
      · exact h
      · rw [List.getElem?_eq_none h] at hj; cases hj
    rw [cell_of_row w g _ cur 3 (0, 0) hh]
    have : (cur.toList.take (l.length * 1))[j]? = (l.map encI64)[j]? := by rw [h4]
    rw [List.getElem?_take, if_pos (by omega), List.getElem?_map, hj] at this
    rw [Nat.zero_add, ← Array.getElem?_toList, this]
    rfl
/-- A row of numbers that the statement just laid. -/
theorem INums_made (w : World) (cs : Array Value) (l : List Int) (n : Nat) (hc : cs = (l.map encI64).toArray) (hn : l.length = n) (hl : n ≤ 100000) :
    Nums (w.alloc (.cells cs 3)) (w.heap.size + 1) (some ⟨w.heap.size, 0, none⟩) n l := by
  refine ⟨hn, by omega, fun _ => ⟨w.heap.size, 0, rfl, by omega, fun j x hj => ?_⟩⟩
  rw [cell_of_row _ _ _ _ _ _ (heap_alloc_new w _), hc, Nat.zero_add, List.getElem?_toArray, List.getElem?_map, hj]
  rfl
/-- The first place of a number, from a place on. -/
def idxI (x : Int) : List Int → Nat → Int
  | [], _ => -1
  | y :: r, i => if y = x then (i : Int) else idxI x r (i + 1)
theorem idxI_at {x : Int} {l : List Int} {k : Nat} {y : Int} (h : l[k]? = some y) : idxI x (l.drop k) k = if y = x then (k : Int) else idxI x (l.drop (k + 1)) (k + 1) := by
  obtain ⟨h1, e⟩ := List.getElem?_eq_some_iff.1 h
  rw [List.drop_eq_getElem_cons h1, e, idxI]
theorem idxI_nat (x : Nat) : ∀ (row : List Nat) (i : Nat), idxI (x : Int) (row.map fun n : Nat => (n : Int)) i = if x ∈ row then ((i + row.idxOf x : Nat) : Int) else -1
  | [], i => rfl
  | y :: r, i => by
    rw [List.map_cons, idxI]
    by_cases h : y = x
    · subst h
      rw [if_pos rfl, if_pos (by simp)]
      simp
    · rw [if_neg (by omega), idxI_nat x r (i + 1), List.idxOf_cons, beq_eq_false_iff_ne.2 h, cond_false]
      by_cases hx : x ∈ r
      · rw [if_pos hx, if_pos (by simp [hx])]
        congr 1
        omega
      · rw [if_neg hx, if_neg (by simp [hx]; exact fun e => h e.symm)]
theorem idxI_has (x : Nat) (row : List Nat) : decide (0 ≤ idxI (x : Int) (row.map fun n : Nat => (n : Int)) 0) = decide (x ∈ row) := by
  rw [idxI_nat]
  by_cases h : x ∈ row
  · rw [if_pos h, decide_eq_true h, decide_eq_true (by omega)]
  · rw [if_neg h, decide_eq_false h, decide_eq_false (by omega)]

set_option maxHeartbeats 2000000 in
theorem tuPlace_any (a : Option Addr) (n c : Nat) (l : List Int) (x : Int) (w : World) (bound : Nat) (h : Nums w bound a n l) :
    Calls Try.prog 57 #[.slice a n c, .int .i64 x] w fun e w' => e = .returned (.int .i64 (idxI x l 0)) ∧ w' = w := by
  have hsz := h.2.1
  have HLEN := Lib.hid h.1
  have HN := Lib.hid h
  obtain ⟨R, hR⟩ : ∃ R, R = idxI x l 0 := ⟨_, rfl⟩
  rw [← hR]
  have HR := Lib.hid hR
  clear h hR
  go_enter Try.func57, Try.ntmps57
  go_wp2
  go_loop [5] (fun i => ∃ k : Nat, k ≤ n ∧ i = .int .i64 k ∧ Hid (R = idxI x (l.drop k) k)) (fun i => n - (intOf i).toNat)
  case atStart => exact ⟨0, Nat.zero_le _, rfl, Lib.hid HR.out⟩
  case round =>
    obtain ⟨k, hk, rfl, HK⟩ := hrel
    by_cases hlt : k < n
    · obtain ⟨b, off, y, rfl, hbb, hy, q0⟩ := HN.out.at_ hlt
      have hst := HK.out.trans (idxI_at (x := x) hy)
      cases he : (y == x)
      · rw [if_neg (by rw [beq_eq_false_iff_ne] at he; exact he)] at hst
        have HZ := Lib.hid hst
        clear hst hy
        go_wp2_with fail
        go_round
        case rel => exact ⟨k + 1, by omega, by go_num, HZ⟩
        case measure => simp [intOf] <;> omega
      · rw [if_pos (eq_of_beq he)] at hst
        have HZ := Lib.hid hst
        clear hst hy
        go_wp2_with fail
        go_ret
        exact ⟨ret_int HZ.out.symm, rfl⟩
    · have HZ := Lib.hid (show R = -1 by rw [HK.out, List.drop_of_length_le (by rw [HLEN.out]; omega), idxI])
      go_wp2_with fail
      go_ret
      exact ⟨ret_int HZ.out.symm, rfl⟩
end Go.Proofs.Ytgefhgcpnfbigaa

/- Rows of slices of arms; contract of the reference's turnArms. -/
namespace Go.Proofs.Ytgefhgcpnfbigaa
open Go.RowKit

/-- The slice with this address and length reads as these rows of arms. -/
def ArmsR (w : World) (bound : Nat) (a : Option Addr) (n : Nat) (f : List (List ArmL)) : Prop :=
  f.length = n ∧ n ≤ 1000000 ∧ (0 < n → ∃ b off, a = some ⟨b, off, none⟩ ∧ b < bound ∧ ∀ (j : Nat) (l : List ArmL), f[j]? = some l → ∃ (aa : Option Addr) (an ac : Nat), w.cell? ⟨b, off + j, none⟩ = some (.slice aa an ac) ∧ Arms w bound aa an l)
section
variable {w w' : World} {bound bound' : Nat} {a : Option Addr} {n : Nat} {f : List (List ArmL)}
theorem ArmsR.keep (h : ArmsR w bound a n f) (hk : ∀ p : Addr, p.block < bound → w'.cell? p = w.cell? p) : ArmsR w' bound a n f :=
  ⟨h.1, h.2.1, fun hn => by
    obtain ⟨b, off, e, hb, hc⟩ := h.2.2 hn
    refine ⟨b, off, e, hb, fun j x hj => ?_⟩
    obtain ⟨aa, an, ac, c0, h1⟩ := hc j x hj
    exact ⟨aa, an, ac, (hk _ hb).trans c0, h1.keep hk⟩⟩
theorem ArmsR.below (h : ArmsR w bound a n f) (hb : Below bound w w') : ArmsR w' bound a n f := h.keep fun _ hp => hb.cell hp
theorem ArmsR.more (h : ArmsR w bound a n f) (hb : bound ≤ bound') : ArmsR w bound' a n f :=
  ⟨h.1, h.2.1, fun hn => by
    obtain ⟨b, off, e, hlt, hc⟩ := h.2.2 hn
    refine ⟨b, off, e, by omega, fun j x hj => ?_⟩
    obtain ⟨aa, an, ac, c, h1⟩ := hc j x hj
    exact ⟨aa, an, ac, c, h1.more hb⟩⟩
theorem ArmsR.on {W W' : World} {a : Option Addr} {n : Nat} {f : List (List ArmL)} (h : ArmsR W W.heap.size a n f) (hb : Below W.heap.size W W') : ArmsR W' W'.heap.size a n f := (h.below hb).more hb.size
theorem ArmsR.at_ (h : ArmsR w bound a n f) {k : Nat} (hk : k < n) : ∃ (b off : Nat) (aa : Option Addr) (an ac : Nat) (l : List ArmL), a = some ⟨b, off, none⟩ ∧ b < bound ∧ f[k]? = some l ∧ w.cell? ⟨b, off + k, none⟩ = some (.slice aa an ac) ∧ Arms w bound aa an l := by
  obtain ⟨b, off, e, hb, hc⟩ := h.2.2 (by omega)
  have hk' : k < f.length := by rw [h.1]; exact hk
  obtain ⟨aa, an, ac, c, h1⟩ := hc k _ (List.getElem?_eq_getElem hk')
  exact ⟨b, off, aa, an, ac, f[k], e, hb, List.getElem?_eq_getElem hk', c, h1⟩
end
def encS3 (r : Option Addr × Nat × Nat) : Value := .slice r.1 r.2.1 r.2.2
end Go.Proofs.Ytgefhgcpnfbigaa

/- Contract of the reference's reach: the places in the order in which they are first met. -/
namespace Go.Proofs.Ytgefhgcpnfbigaa
open Go.RowKit

def nextsF (f : List (List ArmL)) (p : Nat) : List Nat := (sortA ((f[p]?).getD [])).map fun a => a.next.toNat
theorem nextsOf_arms (ts : List TurnL) : nextsOf ts = nextsF (ts.map TurnL.arms) := by
  funext p
  unfold nextsOf nextsF armsOf
  rw [List.getElem?_map]
theorem addN_snoc (x : Nat) : ∀ (l o : List Nat), addN o (l ++ [x]) = if x ∈ addN o l then addN o l else addN o l ++ [x]
  | [], o => by by_cases h : x ∈ o <;> simp [addN, h]
  | y :: l, o => by
    rw [List.cons_append, addN, addN]
    split
    · exact addN_snoc x l o
    · exact addN_snoc x l _
def rowI (row : List Nat) : List Int := row.map fun n : Nat => (n : Int)
theorem rowI_len (row : List Nat) : (rowI row).length = row.length := List.length_map _
theorem IInts.one {W : World} {cs : Array Value} {base : Nat} {g : Nat} (x : Int) (hg : g = W.heap.size) (hc : cs = #[.int .i64 x]) (hb : base ≤ W.heap.size) : IInts (W.alloc (.cells cs 3)) base (.slice (some ⟨g, 0, none⟩) 1 1) [x] := by
  subst hg hc
  exact ⟨by simp [encI64], .inr ⟨W.heap.size, 1, _, rfl, hb, heap_alloc_new W _, Nat.le_refl _, by unfold maxLen; omega, by simp, by simp [encI64]⟩⟩
/-- One number more; what lies in other blocks stays, even where the slice's own block is written. -/
theorem IInts.moreB {w : World} {base : Nat} {v : Value} {l : List Int} (h : IInts w base v l) (hb : base ≤ w.heap.size) (n : Int) (hlen : l.length ≤ 1000000) (ty : Nat) :
    ∃ v' w', (Builtin.append_ #[24, 24] ty #[v, .slice (some ⟨w.heap.size, 0, none⟩) 1 1]).run Try.prog (w.alloc (.cells #[.int .i64 n] 3)) = .ok v' w' ∧ IInts w' base v' (l ++ [n]) ∧ (∀ B, B ≤ base → ∀ w0, Below B w0 w → Below B w0 w') ∧
      ∀ g0 w3, Beside g0 w3 w → (∀ g, v.ownBlock = some g → g = g0 ∨ w3.heap.size ≤ g) → Beside g0 w3 w' ∧ ∀ g, v'.ownBlock = some g → g = g0 ∨ w3.heap.size ≤ g := by
  obtain ⟨i0, hi0, hzz⟩ := Option.map_eq_some_iff.1 info_int1
  simp only [Prod.mk.injEq] at hzz
  obtain ⟨hz, hs1, hb1⟩ := hzz
  obtain ⟨v', w', hrun, hown, hgr, _, hat⟩ := run_append_own_at (P := Try.prog) (w.alloc (.cells #[.int .i64 n] 3)) base 24 ty 3 i0 _ 1 8 Try.underlying24 hi0 hz hs1 hb1 rfl (by omega) v l.length (l.map encI64) (h.alloc _)
    ⟨w.heap.size, 0, none⟩ 1 1 [.int .i64 n] rfl
    (fun j u hu => by
      have hj : j = 0 := by
        rcases Nat.eq_zero_or_pos j with h | h
        · exact h
        · rw [List.getElem?_eq_none (by simp; omega)] at hu; cases hu
      subst hj
      obtain rfl : (Value.int .i64 n) = u := by simpa using hu
      rw [Go.WideShapes.add_plain, cell_of_row _ _ _ _ _ _ (heap_alloc_new w _)]
      rfl)
    (fun u hu => by rw [List.mem_singleton.1 hu]; rfl) (by unfold maxLen; omega) (by omega) (by simp; omega)
  refine ⟨v', w', hrun, ?_, fun B hB w0 hw0 => ?_, fun g0 w3 hbs hv => ⟨?_, fun g hg => ?_⟩⟩
  · unfold IInts
    rw [List.length_append, List.map_append]
    exact hown
  · exact (hw0.alloc (by omega) _).grown hgr (by simp; omega) (fun k hk => by
      have := (h.alloc (.cells #[.int .i64 n] 3)).lt k hk
      omega)
  · have h1 : Beside g0 w3 (w.alloc (.cells #[.int .i64 n] 3)) := hbs.trans (Beside.of_below (tu1 w _))
    have hs := h1.size
    exact ⟨hgr.os.trans h1.os, hgr.tape.trans h1.tape, hgr.output.trans h1.output, Nat.le_trans hs hgr.size, fun k hk hne => (hgr.block k (by omega) (fun e => by
      rcases hv k e.symm with e2 | e2
      · exact hne e2
      · omega)).trans (h1.block k hk hne)⟩
  · rcases hat with e | e
    · exact hv g (e.symm.trans hg)
    · rw [e] at hg
      obtain rfl := Option.some.inj hg
      right
      have := hbs.size
      simp
      omega
theorem wpList_append_iintsB {ops : Array Oper} {rest : List Oper} {o : Oper} {a : Act} {Q : Exit → Act → World → Prop} {W : World} {cells : Array Value} (hgd : o.guard = none) (s x : Operand)
    (ho : o.op = .call { callee := .builtin .append, args := #[s, x], argTypes := #[24, 24] }) (base : Nat) (v : Value) (l : List Int) (n : Int) (hc : cells = #[.int .i64 n])
    (hs : a.eval s = v) {g : Nat} (hx : a.eval x = .slice (some ⟨g, 0, none⟩) 1 1) (hg : g = W.heap.size) (hB : IInts W base v l) (hb : base ≤ W.heap.size) (hlen : l.length ≤ 1000000)
    (w0 : World) (hw : Below base w0 W) (g0 : Nat) (w3 : World) (hbs : Beside g0 w3 W) (hv : ∀ g, v.ownBlock = some g → g = g0 ∨ w3.heap.size ≤ g)
    (h : ∀ v' w', IInts w' base v' (l ++ [n]) → Below base w0 w' → Beside g0 w3 w' → (∀ g, v'.ownBlock = some g → g = g0 ∨ w3.heap.size ≤ g) → wpList Try.prog ops Q rest (a.put o.dst v') w') : wpList Try.prog ops Q (o :: rest) a (W.alloc (.cells cells 3)) := by
  subst hc hg
  obtain ⟨v', w', hrun, hown, hbel, hbes⟩ := hB.moreB hb n hlen o.type
  obtain ⟨h1, h2⟩ := hbes g0 w3 hbs hv
  exact wpList_append_lx hgd s x _ ho _ _ _ hs hx hrun (h v' w' hown (hbel base (Nat.le_refl _) w0 hw) h1 h2)
theorem Arms.besides {w w' : World} {g0 : Nat} {b off n : Nat} {l : List ArmL} (h : Arms w w.heap.size (some ⟨b, off, none⟩) n l) (hb : Beside g0 w w') (hne : b ≠ g0) : Arms w' w'.heap.size (some ⟨b, off, none⟩) n l :=
  ⟨h.1, h.2.1, fun hn => by
    obtain ⟨b', off', e, hlt, hc⟩ := h.2.2 hn
    injection e with e
    injection e with e1 e2 _
    subst e1 e2
    refine ⟨b, off, rfl, Nat.lt_of_lt_of_le hlt hb.size, fun j x hj => ?_⟩
    obtain ⟨s, u, ⟨c0, c1, c2, c3⟩, h1⟩ := hc j x hj
    exact ⟨s, u, ⟨(hb.cell hlt hne).trans c0, (hb.cell hlt hne).trans c1, (hb.cell hlt hne).trans c2, (hb.cell hlt hne).trans c3⟩, h1⟩⟩

end Go.Proofs.Ytgefhgcpnfbigaa

/- Contracts of the reference's LocalReach, walk and LocalWalk. -/
namespace Go.Proofs.Ytgefhgcpnfbigaa
open Go.RowKit

def reachL (ts : List TurnL) : List Nat := if locB ts then reachT ts else []
theorem arms_few {ts : List TurnL} (h : locB ts = true) : ∀ l ∈ ts.map TurnL.arms, l.length ≤ 1000 ∧ (∀ x ∈ l, 0 ≤ x.next) := by
  intro l hl
  obtain ⟨t, ht, rfl⟩ := List.mem_map.1 hl
  rcases turnB_arms ((locB_one h).2.2 t ht) with ⟨_, _, e⟩ | ⟨_, _, e⟩
  · rw [e]; exact ⟨by simp, by simp⟩
  · obtain ⟨h1, _, _, h4⟩ := armsB_all e
    exact ⟨by omega, fun x hx => (armB_all (h1 x hx)).2.2.1⟩
theorem Strs.part1 {w : World} {bound : Nat} {a : Option Addr} {n : Nat} {ss : List Str} (h : Strs w bound a n ss) {k : Nat} (hk : k < n) : ∃ b off, ∃ t : ByteArray, a = some ⟨b, off, none⟩ ∧ b < bound ∧ ss[k]? = some t.toList ∧ w.cell? ⟨b, off + k, none⟩ = some (.string t) := by
  obtain ⟨b, off, e, hb, hc⟩ := h.2.2.2 (by omega)
  have hk' : k < ss.length := by rw [h.1]; exact hk
  have hg := List.getElem?_eq_getElem hk'
  exact ⟨b, off, baS ss[k], e, hb, by rw [baS_toList]; exact hg, hc k _ hg⟩
/-- Where the last arm of a label leads. -/
def lastN (l : List ArmL) (s : Str) (t : Int) : Int := l.foldl (fun t a => if a.label = s then a.next else t) t
theorem lastN_snoc (l : List ArmL) (x : ArmL) (s : Str) (t : Int) : lastN (l ++ [x]) s t = if x.label = s then x.next else lastN l s t := by
  unfold lastN
  rw [List.foldl_append]
  rfl
theorem lastN_none {s : Str} : ∀ {l : List ArmL} (t : Int), (∀ a ∈ l, a.label ≠ s) → lastN l s t = t
  | [], _, _ => rfl
  | a :: l, t, h => by
    unfold lastN
    rw [List.foldl_cons, if_neg (h a (by simp))]
    exact lastN_none t fun b hb => h b (by simp [hb])
theorem lastN_find {s : Str} : ∀ {l : List ArmL} (t : Int), (l.map ArmL.label).Nodup → lastN l s t = match findA l s with | none => t | some a => a.next
  | [], _, _ => rfl
  | a :: l, t, hn => by
    rw [List.map_cons, List.nodup_cons] at hn
    unfold findA
    rw [List.find?_cons]
    by_cases h : a.label = s
    · rw [beq_iff_eq.2 h]
      unfold lastN
      rw [List.foldl_cons, if_pos h]
      exact lastN_none _ fun b hb e => hn.1 (List.mem_map.2 ⟨b, hb, e.trans h.symm⟩)
    · rw [beq_eq_false_iff_ne.2 h]
      have := lastN_find (s := s) (l := l) t hn.2
      unfold lastN at this ⊢
      rw [List.foldl_cons, if_neg h]
      exact this
def walkV : Option Nat → Value
  | none => .tuple #[.int .i64 0, .bool false]
  | some p => .tuple #[.int .i64 (p : Int), .bool true]

end Go.Proofs.Ytgefhgcpnfbigaa

/- Contract of the reference's SameArms. -/
namespace Go.Proofs.Ytgefhgcpnfbigaa
open Go.RowKit

def sameA1 (x y : ArmL) : Bool := x.label == y.label && (x.ck == y.ck && x.cn == y.cn) && x.next == y.next
def sameAs : List ArmL → List ArmL → Bool
  | [], [] => true
  | x :: l, y :: m => sameA1 x y && sameAs l m
  | _, _ => false
theorem sameA1_iff {x y : ArmL} : sameA1 x y = true ↔ x = y := by
  obtain ⟨a, b, c, d⟩ := x
  obtain ⟨e, f, g, h⟩ := y
  simp [sameA1]
  grind
theorem sameAs_iff : ∀ {l m : List ArmL}, sameAs l m = true ↔ l = m
  | [], [] => by simp [sameAs]
  | [], _ :: _ => by simp [sameAs]
  | _ :: _, [] => by simp [sameAs]
  | x :: l, y :: m => by rw [sameAs, Bool.and_eq_true, sameA1_iff, sameAs_iff, List.cons.injEq]
theorem sameAs_len : ∀ {l m : List ArmL}, l.length ≠ m.length → sameAs l m = false := by
  intro l m h
  cases hs : sameAs l m
  · rfl
  · exact absurd (congrArg List.length (sameAs_iff.1 hs)) h
theorem sameAs_at {l m : List ArmL} {k : Nat} {x y : ArmL} (hx : l[k]? = some x) (hy : m[k]? = some y) : sameAs (l.drop k) (m.drop k) = (sameA1 x y && sameAs (l.drop (k + 1)) (m.drop (k + 1))) := by
  obtain ⟨h1, e1⟩ := List.getElem?_eq_some_iff.1 hx
  obtain ⟨h2, e2⟩ := List.getElem?_eq_some_iff.1 hy
  rw [List.drop_eq_getElem_cons h1, e1, List.drop_eq_getElem_cons h2, e2, sameAs]

end Go.Proofs.Ytgefhgcpnfbigaa

/- Contract of the reference's moved: arms in order, each Next replaced by its place in a row. -/
namespace Go.Proofs.Ytgefhgcpnfbigaa
open Go.RowKit

theorem flatA_set : ∀ (rs : List AR) (j : Nat) (r : AR) (v : Int), rs[j]? = some r → (rs.set j ⟨r.s, r.k, r.u, v⟩).flatMap encAR = (rs.flatMap encAR).set (j * 4 + 3) (.int .i64 v)
  | [], j, r, v, h => by cases h
  | x :: rs, 0, r, v, h => by
    obtain rfl := Option.some.inj h
    rw [List.set_cons_zero, List.flatMap_cons, List.flatMap_cons]
    rfl
  | x :: rs, j + 1, r, v, h => by
    rw [List.set_cons_succ, List.flatMap_cons, List.flatMap_cons, flatA_set rs j r v h]
    have e : (j + 1) * 4 + 3 = (encAR x).length + (j * 4 + 3) := by show _ = 4 + _; omega
    rw [e, List.set_append_right _ _ (by omega), Nat.add_sub_cancel_left]
/-- Some arms moved, the others not yet. -/
def mixA (row : List Nat) (l : List ArmL) (k : Nat) : List ArmL := (l.take k).map (fun a => toA a (row.idxOf a.next.toNat)) ++ l.drop k
theorem mixA_len (row : List Nat) (l : List ArmL) (k : Nat) : (mixA row l k).length = l.length := by
  unfold mixA
  rw [List.length_append, List.length_map, List.length_take, List.length_drop]
  omega
theorem mixA_at {row : List Nat} {l : List ArmL} {k : Nat} {x : ArmL} (h : l[k]? = some x) : (mixA row l k)[k]? = some x ∧ (mixA row l k).set k (toA x (row.idxOf x.next.toNat)) = mixA row l (k + 1) := by
  obtain ⟨h1, e⟩ := List.getElem?_eq_some_iff.1 h
  have hl : ((l.take k).map (fun a => toA a (row.idxOf a.next.toNat))).length = k := by rw [List.length_map, List.length_take]; omega
  unfold mixA
  constructor
  · rw [List.getElem?_append_right (by omega), hl, Nat.sub_self, List.getElem?_drop, Nat.add_zero]
    exact h
  · rw [List.set_append_right _ _ (by omega), hl, Nat.sub_self, tuTake_at h, List.map_append, List.drop_eq_getElem_cons h1, e, List.set_cons_zero, List.append_assoc]
    rfl

end Go.Proofs.Ytgefhgcpnfbigaa

/- Turns that the call makes by append; their arms lie in blocks of their own. -/
namespace Go.Proofs.Ytgefhgcpnfbigaa
open Go.RowKit

theorem Arms.stay {w w' : World} {bound bound' : Nat} {a : Option Addr} {n : Nat} {l : List ArmL} (h : Arms w bound a n l) (hb : bound ≤ bound') (hk : ∀ b off, a = some ⟨b, off, none⟩ → w'.heap[b]? = w.heap[b]?) : Arms w' bound' a n l :=
  ⟨h.1, h.2.1, fun hn => by
    obtain ⟨b, off, e, hlt, hc⟩ := h.2.2 hn
    refine ⟨b, off, e, by omega, fun j x hj => ?_⟩
    obtain ⟨s, u, ⟨c0, c1, c2, c3⟩, h1⟩ := hc j x hj
    have hq : ∀ o, w'.cell? ⟨b, o, none⟩ = w.cell? ⟨b, o, none⟩ := fun o => World.cell?_of_block (hk b off e)
    exact ⟨s, u, ⟨(hq _).trans c0, (hq _).trans c1, (hq _).trans c2, (hq _).trans c3⟩, h1⟩⟩
/-- A turn as it is laid. -/
structure TR where
  k : Int
  s : ByteArray
  a : Option Addr
  n : Nat
  c : Nat
def encTR (r : TR) : List Value := [.int .i64 r.k, .string r.s, .slice r.a r.n r.c]
/-- What is laid reads as this turn, and its arms lie from base on. -/
def TurnAt (w : World) (base : Nat) (v : Value) (r : TR) (t : TurnL) : Prop :=
  r.k = t.kind ∧ r.s.toList = t.peer ∧ r.s.size ≤ maxLen ∧ Arms w w.heap.size r.a r.n t.arms ∧ ∀ b off, r.a = some ⟨b, off, none⟩ → base ≤ b ∧ b < w.heap.size ∧ v.ownBlock ≠ some b
theorem flatT_at : ∀ (l : List TR) (j : Nat) (t : TR), l[j]? = some t → ∀ i, i < 3 → (l.flatMap encTR)[j * 3 + i]? = (encTR t)[i]? := by
  intro l
  induction l with
  | nil => intro j t h; cases h
  | cons x l ih =>
    intro j t h i hi
    rw [List.flatMap_cons]
    cases j with
    | zero =>
      injection h with h
      subst h
      rw [Nat.zero_mul, Nat.zero_add, List.getElem?_append_left hi]
    | succ j =>
      have e : (j + 1) * 3 + i = 3 + (j * 3 + i) := by omega
      rw [e, List.getElem?_append_right (by show 3 ≤ _; omega)]
      show (l.flatMap encTR)[3 + (j * 3 + i) - 3]? = _
      rw [Nat.add_sub_cancel_left]
      exact ih j t h i hi
end Go.Proofs.Ytgefhgcpnfbigaa

/- Turns that make makes, and stores into a row of turns. -/
namespace Go.Proofs.Ytgefhgcpnfbigaa
open Go.RowKit

theorem flatT_set : ∀ (rs : List TR) (j : Nat) (r r' : TR) (i : Nat) (u : Value), rs[j]? = some r → i < 3 → encTR r' = (encTR r).set i u → (rs.set j r').flatMap encTR = (rs.flatMap encTR).set (j * 3 + i) u
  | [], j, r, r', i, u, h, _, _ => by simp at h
  | x :: rs, 0, r, r', i, u, h, hi, he => by
    obtain rfl := Option.some.inj h
    rw [List.set_cons_zero, List.flatMap_cons, List.flatMap_cons, he, Nat.zero_mul, Nat.zero_add, List.set_append_left _ _ (show i < (encTR x).length from hi)]
  | x :: rs, j + 1, r, r', i, u, h, hi, he => by
    rw [List.set_cons_succ, List.flatMap_cons, List.flatMap_cons, flatT_set rs j r r' i u h hi he]
    have e : (j + 1) * 3 + i = (encTR x).length + (j * 3 + i) := by show _ = 3 + _; omega
    rw [e, List.set_append_right _ _ (by omega), Nat.add_sub_cancel_left]
def r0T : TR := ⟨0, ⟨#[]⟩, none, 0, 0⟩
theorem made_flat (n : Nat) : (madeCells #[.int .i64 0, .string ⟨#[]⟩, .slice none 0 0] (n * 3)).toList = (List.replicate n r0T).flatMap encTR := by
  refine List.ext_getElem? fun i => ?_
  rcases Nat.lt_or_ge i (n * 3) with hi | hi
  · have h1 := flatT_at (List.replicate n r0T) (i / 3) r0T (by rw [List.getElem?_replicate, if_pos (by omega)]) (i % 3) (Nat.mod_lt _ (by omega))
    rw [show i / 3 * 3 + i % 3 = i by omega] at h1
    rw [h1]
    unfold madeCells
    rw [Array.toList_map, List.getElem?_map, Array.toList_range, List.getElem?_range hi, Option.map_some]
    have h3 : i % 3 = 0 ∨ i % 3 = 1 ∨ i % 3 = 2 := by omega
    show some ((#[Value.int .i64 0, .string ⟨#[]⟩, .slice none 0 0] : Array Value)[i % 3]!) = _
    rcases h3 with h | h | h <;> (rw [h]; rfl)
  · rw [List.getElem?_eq_none (by simp [madeCells]; omega), List.getElem?_eq_none]
    have e : ∀ l : List TR, (l.flatMap encTR).length = l.length * 3 := fun l => by
      induction l with
      | nil => rfl
      | cons t l ih => rw [List.flatMap_cons, List.length_append, ih, List.length_cons]; show 3 + _ = _; omega
    rw [e, List.length_replicate]
    exact hi
theorem heap_setCell_ne {W : World} {g : Nat} {o : Nat} {u : Value} {k : Nat} (h : k ≠ g) : (W.setCell ⟨g, o, none⟩ u).heap[k]? = W.heap[k]? := by
  show (W.heap.modify g _)[k]? = _
  rw [Array.getElem?_modify, if_neg (fun e => h e.symm)]
end Go.Proofs.Ytgefhgcpnfbigaa
