/- A slice of bytes that the call made: one more, as a text. -/
import Derived.Test.YtifinfmdjbglhaaDoorLxRefD
import Derived.Maps.AppendAt
import Derived.Laws.BytesArg
import Derived.WideShapes
import Derived.RegionTactic
import Derived.OwnWalk
import Derived.Lib.OwnBridge
import Derived.Deep.QuietTactic
import Derived.BigQuiet
namespace Go.Proofs.YtifinfmdjbglhaaDoor
open Go.RowKit

def lxS (l : Str) : ByteArray := ⟨l.toArray⟩
theorem lxS_toList (l : Str) : (lxS l).toList = l := by rw [ByteArray.toList_eq]; simp [lxS]
def encU8 (c : UInt8) : Value := .int .u8 c.toNat
/-- The slice v, which the call made (its array lies at base or above), holds just these bytes. -/
def Bytes (w : World) (base : Nat) (v : Value) (l : Str) : Prop := w.ownsRow base 5 1 v l.length (l.map encU8)

theorem Bytes.zero (w : World) (base : Nat) : Bytes w base (.slice none 0 0) [] := World.ownsRow_nil w base 5 1
theorem Bytes.alloc {w : World} {base : Nat} {v : Value} {l : Str} (h : Bytes w base v l) (o : Obj) : Bytes (w.alloc o) base v l := World.ownsRow.alloc h o
theorem Bytes.drewN {w : World} {base : Nat} {v : Value} {l : Str} (h : Bytes w base v l) (k : Nat) : Bytes (w.drewN k) base v l := h
/-- A slice of just these bytes, newly made. -/
theorem Bytes.made (w : World) (l : Str) (hl : l.length ≤ maxLen) : Bytes (w.alloc (.cells (l.map encU8).toArray 5)) w.heap.size (.slice (some ⟨w.heap.size, 0, none⟩) l.length l.length) l :=
  ⟨by simp, .inr ⟨w.heap.size, l.length, _, rfl, Nat.le_refl _, heap_alloc_new w _, Nat.le_refl _, hl, by simp, by
    rw [Nat.mul_one, List.take_of_length_le (by simp)]⟩⟩

theorem info_byte : (Tryd.prog.info? 5).map (fun i => (i.zero, i.size, i.bytes)) = some (some (.int .u8 0), 1, 1) := by kernel_rfl

theorem cell_alloc {w : World} {cells : Array Value} {e : TypeId} (j : Nat) (hj : j < cells.size) : (w.alloc (.cells cells e)).cell? ((⟨w.heap.size, 0, none⟩ : Addr).add j) = some cells[j] := by
  rw [Go.WideShapes.add_plain, cell_of_row _ w.heap.size (0 + j) cells e (0, 0) (heap_alloc_new w _), Nat.zero_add, Array.getElem?_eq_getElem hj]

/-- Some bytes more, which the world holds in a new array. -/
theorem Bytes.more {w : World} {base : Nat} {v : Value} {l : Str} (h : Bytes w base v l) (hb : base ≤ w.heap.size) (news : Str) (hlen : l.length + news.length ≤ 70000000000000) (ty : Nat) :
    ∃ v' w', (Builtin.append_ #[46, 46] ty #[v, .slice (some ⟨w.heap.size, 0, none⟩) news.length news.length]).run Tryd.prog (w.alloc (.cells (news.map encU8).toArray 5)) = .ok v' w' ∧
      Bytes w' base v' (l ++ news) ∧ ∀ B, B ≤ base → ∀ w0, Below B w0 w → Below B w0 w' := by
  obtain ⟨i0, hi0, hzz⟩ := Option.map_eq_some_iff.1 info_byte
  simp only [Prod.mk.injEq] at hzz
  obtain ⟨hz, hs1, hb1⟩ := hzz
  obtain ⟨v', w', hrun, hown, hgr, _, hat⟩ := run_append_own_at (P := Tryd.prog) (w.alloc (.cells (news.map encU8).toArray 5)) base 46 ty 5 i0 _ 1 1 Tryd.underlying46 hi0 hz hs1 hb1 rfl (by omega) v l.length (l.map encU8) (h.alloc _)
    ⟨w.heap.size, 0, none⟩ news.length news.length (news.map encU8) (by simp)
    (fun j u hu => by
      have hj : j < news.length := by
        rcases Nat.lt_or_ge j news.length with h | h
        · exact h
        · rw [List.getElem?_eq_none (by simpa using h)] at hu; cases hu
      rw [cell_alloc j (by simpa using hj)]
      rw [← hu, List.getElem?_eq_getElem (by simpa using hj)]
      simp)
    (fun u hu => by obtain ⟨c, _, rfl⟩ := List.mem_map.1 hu; rfl) (by unfold maxLen; omega) (by omega) (by simp; omega)
  refine ⟨v', w', hrun, ?_, fun B hB w0 hw0 => ?_⟩
  · unfold Bytes
    rw [List.length_append, List.map_append]
    exact hown
  · exact (hw0.alloc (by omega) _).grown hgr (by simp; omega) (fun k hk => by
      have := (h.alloc (.cells (news.map encU8).toArray 5)).lt k hk
      omega)

/-- An append whose run is known, for the walk. -/
theorem wpList_append_lx {P : Program} {w w' : World} {ops : Array Oper} {rest : List Oper} {o : Oper} {a : Act} {Q : Exit → Act → World → Prop} (hgd : o.guard = none) (s x : Operand) (t : TypeId)
    (ho : o.op = .call { callee := .builtin .append, args := #[s, x], argTypes := #[t, t] }) (v u v' : Value) (hs : a.eval s = v) (hx : a.eval x = u)
    (hrun : (Builtin.append_ #[t, t] o.type #[v, u]).run P w = .ok v' w') (h : wpList P ops Q rest (a.put o.dst v') w') : wpList P ops Q (o :: rest) a w :=
  wpList_plain hgd fun K hK => by
    unfold Oper.wp execOp
    simp only [ho, resolve, invoke, builtin, Sem.run_bind, Sem.run_pure, Result.andThen_ok, List.map_toArray, List.map_cons, List.map_nil, hs, hx, hrun]
    exact hK _ _ h

/-- An append of some bytes that the statement just laid into a new array. -/
theorem wpList_append_bytes {ops : Array Oper} {rest : List Oper} {o : Oper} {a : Act} {Q : Exit → Act → World → Prop} {W : World} {cells : Array Value} (hgd : o.guard = none) (s x : Operand)
    (ho : o.op = .call { callee := .builtin .append, args := #[s, x], argTypes := #[46, 46] }) (base : Nat) (v : Value) (l news : Str) (hc : cells = (news.map encU8).toArray)
    (hs : a.eval s = v) (hx : a.eval x = .slice (some ⟨W.heap.size, 0, none⟩) news.length news.length) (hB : Bytes W base v l) (hb : base ≤ W.heap.size) (hlen : l.length + news.length ≤ 70000000000000)
    (w0 : World) (hw : Below base w0 W)
    (h : ∀ v' w', Bytes w' base v' (l ++ news) → Below base w0 w' → wpList Tryd.prog ops Q rest (a.put o.dst v') w') : wpList Tryd.prog ops Q (o :: rest) a (W.alloc (.cells cells 5)) := by
  subst hc
  obtain ⟨v', w', hrun, hown, hbel⟩ := hB.more hb news hlen o.type
  exact wpList_append_lx hgd s x _ ho _ _ _ hs hx hrun (h v' w' hown (hbel base (Nat.le_refl _) w0 hw))

/-- The same at a step of a region that draws its order. -/
theorem step_append_bytes {ops : Array Oper} {o : Oper} {a : Act} {K : Act → World → Prop} {Q : Exit → Act → World → Prop} {E : Prop} {w1 : World} (W : World) (hgd : o.guard = none) (s x : Operand)
    (ho : o.op = .call { callee := .builtin .append, args := #[s, x], argTypes := #[46, 46] }) (base : Nat) (v : Value) (l news : Str) (cells : Array Value) (hc : cells = (news.map encU8).toArray)
    (hw1 : w1 = W.alloc (.cells cells 5))
    (hs : a.eval s = v) (hx : a.eval x = .slice (some ⟨W.heap.size, 0, none⟩) news.length news.length) (hB : Bytes W base v l) (hb : base ≤ W.heap.size) (hlen : l.length + news.length ≤ 70000000000000)
    (w0 : World) (hw : Below base w0 W)
    (h : ∀ v' w', Bytes w' base v' (l ++ news) → Below base w0 w' → K (a.put o.dst v') w') : if Region.wanted o (yielded ops a.tmps) = true then Oper.wp Tryd.prog o a w1 K Q else E := by
  have hwant : Region.wanted o (yielded ops a.tmps) = true := by simp [Region.wanted, hgd]
  rw [if_pos hwant]
  subst hc hw1
  obtain ⟨v', w', hrun, hown, hbel⟩ := hB.more hb news hlen o.type
  unfold Oper.wp execOp
  simp only [ho, resolve, invoke, builtin, Sem.run_bind, Sem.run_pure, Result.andThen_ok, List.map_toArray, List.map_cons, List.map_nil, hs, hx, hrun]
  exact h v' w' hown (hbel base (Nat.le_refl _) w0 hw)

/-- The bytes as a text. -/
theorem Bytes.text {w : World} {base : Nat} {v : Value} {l : Str} (h : Bytes w base v l) : (convert 46 9 v).run Tryd.prog w = .ok (.string (lxS l)) w := by
  rcases h.2 with ⟨rfl, h0⟩ | ⟨g, cap, cur, rfl, hbase, hh, h1, h2, h3, h4⟩
  · have hl : l = [] := List.eq_nil_of_length_eq_zero h0
    subst hl
    exact run_convert_bytes_nil w 46 5 Tryd.underlying46 Tryd.underlying5 0 0 9 Tryd.underlying9
  · have e : lxS l = strOfNums (l.map fun c => (c.toNat : Int)) := by
      unfold strOfNums lxS
      congr 1
      rw [List.map_map, show ((fun n : Int => UInt8.ofNat n.toNat) ∘ fun c : UInt8 => (c.toNat : Int)) = id from by funext c; simp, List.map_id]
    rw [e]
    refine run_convert_bytes_arg w 46 5 Tryd.underlying46 Tryd.underlying5 g 0 l.length cap _ (by simp) (fun i hi => ?_) 9 Tryd.underlying9
    rw [Nat.zero_add, cell_of_row w g i cur 5 (0, 0) hh]
    have : (cur.toList.take (l.length * 1))[i]? = (l.map encU8)[i]? := by rw [h4]
    rw [List.getElem?_take, if_pos (by omega)] at this
    rw [← Array.getElem?_toList, this, List.getElem?_map, List.getElem?_eq_getElem hi, List.getD_eq_getElem?_getD, List.getElem?_map, List.getElem?_eq_getElem hi]
    rfl
end Go.Proofs.YtifinfmdjbglhaaDoor
