/- Contracts of the leaves: Keyword, letter, digit, May, of the project and of the reference. -/
import Derived.Test.YtgefhgcpnfbigaaChecked
import Derived.Test.YtgefhgcpnfbigaaPlain
import Derived.WalkKit
import Derived.Below
import Derived.Lib.Hide
import Derived.Deep.QuietTactic
import Derived.BigQuiet
import Derived.Maps.AppendAt
import Derived.Laws.BytesArg
import Derived.WideShapes
import Derived.RegionTactic
import Derived.OwnWalk
import Derived.Lib.OwnBridge
namespace Go.Proofs.Ytgefhgcpnfbigaa
open Go.RowKit

theorem isKw_mem {s : Str} {k : Str} (h : (s == k) = true) (hk : kws.contains k = true) : true = isKw s := by
  rw [beq_iff_eq] at h; subst h; exact hk.symm
theorem isKw_not {s : Str} (h : kws.all (fun k => !(s == k)) = true) : false = isKw s := by
  unfold isKw
  cases hc : kws.contains s
  · rfl
  · rw [List.contains_iff_mem] at hc
    have := List.all_eq_true.1 h s hc
    simp at this

set_option maxHeartbeats 2000000 in
set_option maxRecDepth 100000 in
theorem keyword_any (s : ByteArray) (w : World) : Calls Try.prog 102 #[.string s] w fun e w' => e = .returned (.bool (isKw s.toList)) ∧ w = w' := by
  go_enter Try.func102, Try.ntmps102
  go_wp2
  all_goals first
    | (rename_i a b; exact absurd (a.symm.trans b) (by decide))
    | (go_ret; exact ⟨ret_bool (isKw_mem (by assumption) rfl), rfl⟩)
    | (exfalso; simp_all; done)
    | (go_ret; exact ⟨ret_bool (isKw_not (by simp [kws, *])), rfl⟩)

set_option maxHeartbeats 2000000 in
set_option maxRecDepth 100000 in
theorem refKeyword_any (s : ByteArray) (w : World) : Calls Try.prog 105 #[.string s] w fun e w' => e = .returned (.bool (isKw s.toList)) ∧ w = w' := by
  go_enter Try.func105, Try.ntmps105
  go_wp2
  all_goals first
    | (rename_i a b; exact absurd (a.symm.trans b) (by decide))
    | (go_ret; exact ⟨ret_bool (isKw_mem (by assumption) rfl), rfl⟩)
    | (exfalso; simp_all; done)
    | (go_ret; exact ⟨ret_bool (isKw_not (by simp [kws, *])), rfl⟩)

theorem letter_any (n : Int) (w : World) : Calls Try.prog 100 #[.int .u8 n] w fun e w' => e = .returned (.bool (isLet n)) ∧ w = w' := by
  by_cases h1 : 97 ≤ n
  · by_cases h2 : n ≤ 122
    · go_enter Try.func100, Try.ntmps100
      go_wp2
      go_ret
      exact ⟨ret_bool (by simp [isLet, h1, h2]), rfl⟩
    · go_enter Try.func100, Try.ntmps100
      go_wp2
      go_ret
      exact ⟨ret_bool (by simp [isLet, h1, h2]), rfl⟩
  · go_enter Try.func100, Try.ntmps100
    go_wp2
    go_ret
    exact ⟨ret_bool (by simp [isLet]; omega), rfl⟩

theorem digit_any (n : Int) (w : World) : Calls Try.prog 101 #[.int .u8 n] w fun e w' => e = .returned (.bool (isDig n)) ∧ w = w' := by
  by_cases h1 : 48 ≤ n
  · by_cases h2 : n ≤ 57
    · go_enter Try.func101, Try.ntmps101
      go_wp2
      go_ret
      exact ⟨ret_bool (by simp [isDig, h1, h2]), rfl⟩
    · go_enter Try.func101, Try.ntmps101
      go_wp2
      go_ret
      exact ⟨ret_bool (by simp [isDig, h1, h2]), rfl⟩
  · go_enter Try.func101, Try.ntmps101
    go_wp2
    go_ret
    exact ⟨ret_bool (by simp [isDig]; omega), rfl⟩

theorem refLetter_any (n : Int) (w : World) : Calls Try.prog 104 #[.int .u8 n] w fun e w' => e = .returned (.bool (isLet n)) ∧ w = w' := by
  by_cases h1 : 97 ≤ n
  · by_cases h2 : n ≤ 122
    · go_enter Try.func104, Try.ntmps104
      go_wp2
      go_ret
      exact ⟨ret_bool (by simp [isLet, h1, h2]), rfl⟩
    · go_enter Try.func104, Try.ntmps104
      go_wp2
      go_ret
      exact ⟨ret_bool (by simp [isLet, h1, h2]), rfl⟩
  · go_enter Try.func104, Try.ntmps104
    go_wp2
    go_ret
    exact ⟨ret_bool (by simp [isLet]; omega), rfl⟩

theorem refDigit_any (n : Int) (w : World) : Calls Try.prog 106 #[.int .u8 n] w fun e w' => e = .returned (.bool (isDig n)) ∧ w = w' := by
  by_cases h1 : 48 ≤ n
  · by_cases h2 : n ≤ 57
    · go_enter Try.func106, Try.ntmps106
      go_wp2
      go_ret
      exact ⟨ret_bool (by simp [isDig, h1, h2]), rfl⟩
    · go_enter Try.func106, Try.ntmps106
      go_wp2
      go_ret
      exact ⟨ret_bool (by simp [isDig, h1, h2]), rfl⟩
  · go_enter Try.func106, Try.ntmps106
    go_wp2
    go_ret
    exact ⟨ret_bool (by simp [isDig]; omega), rfl⟩

end Go.Proofs.Ytgefhgcpnfbigaa

/- Contracts of the reference's blank, skip, run, hex. -/
namespace Go.Proofs.Ytgefhgcpnfbigaa
open Go.RowKit

theorem lxLen (s : ByteArray) : s.toList.length = s.size := by rw [ByteArray.toList_eq]; simp
theorem lxDrop (s : ByteArray) (k : Nat) (hk : k < s.size) : s.toList.drop k = s[k] :: s.toList.drop (k + 1) := by
  have h : k < s.toList.length := by rw [lxLen]; exact hk
  rw [List.drop_eq_getElem_cons h]
  congr 1
  have e : s.toList = s.data.toList := ByteArray.toList_eq s
  have : s.toList[k]? = s.data.toList[k]? := by rw [e]
  rw [List.getElem?_eq_getElem h, List.getElem?_eq_getElem (by simpa using hk)] at this
  injection this
theorem lxEnd (s : ByteArray) (k : Nat) (hk : s.size ≤ k) : s.toList.drop k = [] := List.drop_of_length_le (by rw [lxLen]; exact hk)
theorem byte_is (c : UInt8) (n : Nat) (hn : n < 256) : ((c.toNat : Int) == (n : Int)) = (c == UInt8.ofNat n) := by
  rw [Bool.eq_iff_iff, beq_iff_eq, beq_iff_eq]
  constructor
  · intro h
    have h' : c.toNat = n := by omega
    rw [← h', UInt8.ofNat_toNat]
  · rintro rfl
    rw [UInt8.toNat_ofNat']
    omega

theorem below_drewN {B : Nat} {a w : World} (h : Below B a w) (q : Nat) : Below B a (w.drewN q) := ⟨h.os, h.tape, h.output, h.size, h.block⟩
end Go.Proofs.Ytgefhgcpnfbigaa

/- Contracts of the reference's run, hex, sign. -/
namespace Go.Proofs.Ytgefhgcpnfbigaa
open Go.RowKit

/-- The bytes that a run of letters and digits (of digits alone) may have. -/
def runB (b : Bool) (c : UInt8) : Bool := digB c || (b && letB c)
theorem runB_true : runB true = okB := by
  funext c
  unfold runB okB letB digB
  cases isLet c.toNat <;> cases isDig c.toNat <;> rfl
theorem runB_false : runB false = digB := by
  funext c
  unfold runB
  cases digB c <;> rfl

/-- A digit's value, or -1. -/
def hexI (c : UInt8) : Int := match hexV c with | some v => (v : Int) | none => -1
end Go.Proofs.Ytgefhgcpnfbigaa

/- Contracts of the reference's sign and numeral. -/
namespace Go.Proofs.Ytgefhgcpnfbigaa
open Go.RowKit

/-- The signs of one byte, as the text that the code searches. -/
def signsB : ByteArray := ⟨#[40, 41, 123, 125, 44, 59, 58, 46, 61, 60, 43, 45, 42, 47]⟩
theorem signsB_get : ∀ k, (h : k < 14) → signsB[k]'(by show k < 14; exact h) = signs.getD k 0 := by decide
theorem lxGet (s : ByteArray) (k : Nat) (hk : k < s.size) : s.toList.drop k = s[k] :: s.toList.drop (k + 1) := lxDrop s k hk
theorem two_bytes (s : ByteArray) (p : Nat) (h : p + 1 < s.size) : (s.extract p (p + 2)).toList = [s[p], s[p + 1]] := by
  have e : (s.extract p (p + 2)).toList = (s.toList.drop p).take 2 := by
    rw [ByteArray.toList_eq, ByteArray.toList_eq, ByteArray.data_extract]
    simp [List.extract_eq_take_drop]
  rw [e, lxDrop s p (by omega), lxDrop s (p + 1) h]
  rfl

/-- A part of a string, from one place to another. -/
theorem run_cut {P : Program} (t : TypeId) (ht : P.underlying t = some .string) (s : ByteArray) (l h : Int) (L H : Nat) (hl : l = (L : Int)) (hh : h = (H : Int)) (h1 : L ≤ H) (h2 : H ≤ s.size) (W : World) :
    (Instr.slice t (.string s) (some (.int .i64 l)) (some (.int .i64 h)) none).run P W = .ok (.string (s.extract L H)) W := by
  subst hl hh
  simp [Instr.slice, run_underlying ht, Instr.sliceBounds, run_sliceBound, *, (by omega : (L : Int) ≤ (H : Int)), (by omega : (H : Int) ≤ (s.size : Int))]

end Go.Proofs.Ytgefhgcpnfbigaa

/- Contract of the reference's numeral. -/
namespace Go.Proofs.Ytgefhgcpnfbigaa
open Go.RowKit

theorem valU_snoc (l : Str) (c : UInt8) : valU (l ++ [c]) = valU l * 10 + (c.toNat - 48) := by
  unfold valU; rw [List.foldl_append]; rfl
theorem valU_lt : ∀ (n : Nat) (l : Str), l.length = n → l.all digB = true → valU l < 10 ^ n
  | 0, l, h, _ => by rw [List.eq_nil_of_length_eq_zero h]; exact Nat.one_pos
  | n + 1, l, h, hd => by
    have hne : l ≠ [] := fun e => by rw [e] at h; cases h
    have e : l = l.dropLast ++ [l.getLast hne] := (List.dropLast_concat_getLast hne).symm
    have hl : l.dropLast.length = n := by rw [List.length_dropLast, h]; rfl
    rw [e, List.all_append, Bool.and_eq_true] at hd
    have ih := valU_lt n l.dropLast hl hd.1
    rw [e, valU_snoc, Nat.pow_succ]
    have hc : digB (l.getLast hne) = true := by simpa using hd.2
    unfold digB isDig at hc
    simp only [Bool.and_eq_true, decide_eq_true_eq] at hc
    omega
theorem take_snocB (s : ByteArray) (k : Nat) (hk : k < s.size) : s.toList.take (k + 1) = s.toList.take k ++ [s[k]] := by
  have h : k < s.toList.length := by rw [lxLen]; exact hk
  rw [List.take_succ_eq_append_getElem h]
  congr 2
  have := lxDrop s k hk
  rw [List.drop_eq_getElem_cons h] at this
  injection this
theorem numeral_no {s : Str} {d : Str} (hd : d = if s.head? == some 45 then s.tail else s) (h : (decide (1 ≤ d.length) && decide (d.length ≤ 19) && !(d.head? == some 48 && decide (1 < s.length)) && d.all digB) = false) : numeral s = false := by
  unfold numeral
  dsimp only
  rw [← hd, h, Bool.false_and]
theorem numeral_yes {s : Str} {d : Str} (hd : d = if s.head? == some 45 then s.tail else s) (h : (decide (1 ≤ d.length) && decide (d.length ≤ 19) && !(d.head? == some 48 && decide (1 < s.length)) && d.all digB) = true) :
    numeral s = if d.length < s.length then decide (valU d ≤ 9223372036854775808) else decide (valU d < 9223372036854775808) := by
  unfold numeral
  dsimp only
  rw [← hd, h, Bool.true_and]

/-- The rest of the function, once the minus is off: d is what is left. -/
def numRest (d : Str) (n : Nat) : Bool :=
  decide (1 ≤ d.length) && decide (d.length ≤ 19) && !(d.head? == some 48 && decide (1 < n)) && d.all digB && (if d.length < n then decide (valU d ≤ 9223372036854775808) else decide (valU d < 9223372036854775808))
theorem numeral_rest (s : Str) : numeral s = numRest (if s.head? == some 45 then s.tail else s) s.length := rfl

theorem rest_empty (n : Nat) : numRest [] n = false := rfl
theorem rest_long {d : Str} {n : Nat} (h : 19 < d.length) : numRest d n = false := by
  unfold numRest
  rw [decide_eq_false (show ¬ d.length ≤ 19 by omega)]
  simp
theorem rest_zero {d : Str} {n : Nat} (h : d.head? = some 48) (hn : 1 < n) : numRest d n = false := by
  unfold numRest
  rw [h, decide_eq_true hn]
  simp
theorem rest_bad {d : Str} {n k : Nat} (hk : k < d.length) (h : digB (d.getD k 0) = false) : numRest d n = false := by
  have : d.all digB = false := by
    rw [Bool.eq_false_iff]
    intro ha
    have := List.all_eq_true.1 ha d[k] (List.getElem_mem hk)
    rw [List.getD_eq_getElem?_getD, List.getElem?_eq_getElem hk, Option.getD_some] at h
    rw [h] at this
    cases this
  unfold numRest
  rw [this]
  simp
theorem rest_good {d : Str} {n : Nat} (h1 : 1 ≤ d.length) (h2 : d.length ≤ 19) (h3 : (d.head? == some 48 && decide (1 < n)) = false) (h4 : d.all digB = true) :
    numRest d n = if d.length < n then decide (valU d ≤ 9223372036854775808) else decide (valU d < 9223372036854775808) := by
  unfold numRest
  rw [decide_eq_true h1, decide_eq_true h2, h3, h4]
  rfl
theorem lxHead (s : ByteArray) (h : 0 < s.size) : s.toList.head? = some s[0] := by
  have := lxDrop s 0 h
  rw [List.drop_zero] at this
  rw [this]; rfl
theorem lxGetD (s : ByteArray) (k : Nat) (hk : k < s.size) : s.toList.getD k 0 = s[k] := by
  have h : k < s.toList.length := by rw [lxLen]; exact hk
  have := lxDrop s k hk
  rw [List.drop_eq_getElem_cons h] at this
  injection this with e
  rw [List.getD_eq_getElem?_getD, List.getElem?_eq_getElem h, Option.getD_some, e]

end Go.Proofs.Ytgefhgcpnfbigaa

/- A slice of bytes that the call made: one more, as a text. -/
namespace Go.Proofs.Ytgefhgcpnfbigaa
open Go.RowKit

def lxS (l : Str) : ByteArray := ⟨l.toArray⟩
theorem lxS_toList (l : Str) : (lxS l).toList = l := by rw [ByteArray.toList_eq]; simp [lxS]
def encU8 (c : UInt8) : Value := .int .u8 c.toNat
/-- The slice v, which the call made (its array lies at base or above), holds just these bytes. -/
def Bytes (w : World) (base : Nat) (v : Value) (l : Str) : Prop := w.ownsRow base 5 1 v l.length (l.map encU8)

theorem Bytes.zero (w : World) (base : Nat) : Bytes w base (.slice none 0 0) [] := World.ownsRow_nil w base 5 1
theorem Bytes.alloc {w : World} {base : Nat} {v : Value} {l : Str} (h : Bytes w base v l) (o : Obj) : Bytes (w.alloc o) base v l := World.ownsRow.alloc h o
theorem Bytes.drewN {w : World} {base : Nat} {v : Value} {l : Str} (h : Bytes w base v l) (k : Nat) : Bytes (w.drewN k) base v l := h
/-- A slice of just these bytes, newly made. -/
theorem Bytes.made (w : World) (l : Str) (hl : l.length ≤ maxLen) : Bytes (w.alloc (.cells (l.map encU8).toArray 5)) w.heap.size (.slice (some ⟨w.heap.size, 0, none⟩) l.length l.length) l :=
  ⟨by simp, .inr ⟨w.heap.size, l.length, _, rfl, Nat.le_refl _, heap_alloc_new w _, Nat.le_refl _, hl, by simp, by
    rw [Nat.mul_one, List.take_of_length_le (by simp)]⟩⟩

theorem info_byte : (Try.prog.info? 5).map (fun i => (i.zero, i.size, i.bytes)) = some (some (.int .u8 0), 1, 1) := by kernel_rfl

theorem cell_alloc {w : World} {cells : Array Value} {e : TypeId} (j : Nat) (hj : j < cells.size) : (w.alloc (.cells cells e)).cell? ((⟨w.heap.size, 0, none⟩ : Addr).add j) = some cells[j] := by
  rw [Go.WideShapes.add_plain, cell_of_row _ w.heap.size (0 + j) cells e (0, 0) (heap_alloc_new w _), Nat.zero_add, Array.getElem?_eq_getElem hj]

/-- Some bytes more, which the world holds in a new array. -/
theorem Bytes.more {w : World} {base : Nat} {v : Value} {l : Str} (h : Bytes w base v l) (hb : base ≤ w.heap.size) (news : Str) (hlen : l.length + news.length ≤ 70000000000000) (ty : Nat) :
    ∃ v' w', (Builtin.append_ #[69, 69] ty #[v, .slice (some ⟨w.heap.size, 0, none⟩) news.length news.length]).run Try.prog (w.alloc (.cells (news.map encU8).toArray 5)) = .ok v' w' ∧
      Bytes w' base v' (l ++ news) ∧ ∀ B, B ≤ base → ∀ w0, Below B w0 w → Below B w0 w' := by
  obtain ⟨i0, hi0, hzz⟩ := Option.map_eq_some_iff.1 info_byte
  simp only [Prod.mk.injEq] at hzz
  obtain ⟨hz, hs1, hb1⟩ := hzz
  obtain ⟨v', w', hrun, hown, hgr, _, hat⟩ := run_append_own_at (P := Try.prog) (w.alloc (.cells (news.map encU8).toArray 5)) base 69 ty 5 i0 _ 1 1 Try.underlying69 hi0 hz hs1 hb1 rfl (by omega) v l.length (l.map encU8) (h.alloc _)
    ⟨w.heap.size, 0, none⟩ news.length news.length (news.map encU8) (by simp)
    (fun j u hu => by
      have hj : j < news.length := by
        rcases Nat.lt_or_ge j news.length with h | h
        · exact h
        · rw [List.getElem?_eq_none (by simpa using h)] at hu; cases hu
      rw [cell_alloc j (by simpa using hj)]
      rw [← hu, List.getElem?_eq_getElem (by simpa using hj)]
      simp)
    (fun u hu => by obtain ⟨c, _, rfl⟩ := List.mem_map.1 hu; rfl) (by unfold maxLen; omega) (by omega) (by simp; omega)
  refine ⟨v', w', hrun, ?_, fun B hB w0 hw0 => ?_⟩
  · unfold Bytes
    rw [List.length_append, List.map_append]
    exact hown
  · exact (hw0.alloc (by omega) _).grown hgr (by simp; omega) (fun k hk => by
      have := (h.alloc (.cells (news.map encU8).toArray 5)).lt k hk
      omega)

/-- An append whose run is known, for the walk. -/
theorem wpList_append_lx {P : Program} {w w' : World} {ops : Array Oper} {rest : List Oper} {o : Oper} {a : Act} {Q : Exit → Act → World → Prop} (hgd : o.guard = none) (s x : Operand) (t : TypeId)
    (ho : o.op = .call { callee := .builtin .append, args := #[s, x], argTypes := #[t, t] }) (v u v' : Value) (hs : a.eval s = v) (hx : a.eval x = u)
    (hrun : (Builtin.append_ #[t, t] o.type #[v, u]).run P w = .ok v' w') (h : wpList P ops Q rest (a.put o.dst v') w') : wpList P ops Q (o :: rest) a w :=
  wpList_plain hgd fun K hK => by
    unfold Oper.wp execOp
    simp only [ho, resolve, invoke, builtin, Sem.run_bind, Sem.run_pure, Result.andThen_ok, List.map_toArray, List.map_cons, List.map_nil, hs, hx, hrun]
    exact hK _ _ h

/-- An append of some bytes that the statement just laid into a new array. -/
theorem wpList_append_bytes {ops : Array Oper} {rest : List Oper} {o : Oper} {a : Act} {Q : Exit → Act → World → Prop} {W : World} {cells : Array Value} (hgd : o.guard = none) (s x : Operand)
    (ho : o.op = .call { callee := .builtin .append, args := #[s, x], argTypes := #[69, 69] }) (base : Nat) (v : Value) (l news : Str) (hc : cells = (news.map encU8).toArray)
    (hs : a.eval s = v) (hx : a.eval x = .slice (some ⟨W.heap.size, 0, none⟩) news.length news.length) (hB : Bytes W base v l) (hb : base ≤ W.heap.size) (hlen : l.length + news.length ≤ 70000000000000)
    (w0 : World) (hw : Below base w0 W)
    (h : ∀ v' w', Bytes w' base v' (l ++ news) → Below base w0 w' → wpList Try.prog ops Q rest (a.put o.dst v') w') : wpList Try.prog ops Q (o :: rest) a (W.alloc (.cells cells 5)) := by
  subst hc
  obtain ⟨v', w', hrun, hown, hbel⟩ := hB.more hb news hlen o.type
  exact wpList_append_lx hgd s x _ ho _ _ _ hs hx hrun (h v' w' hown (hbel base (Nat.le_refl _) w0 hw))

/-- The same at a step of a region that draws its order. -/
theorem step_append_bytes {ops : Array Oper} {o : Oper} {a : Act} {K : Act → World → Prop} {Q : Exit → Act → World → Prop} {E : Prop} {w1 : World} (W : World) (hgd : o.guard = none) (s x : Operand)
    (ho : o.op = .call { callee := .builtin .append, args := #[s, x], argTypes := #[69, 69] }) (base : Nat) (v : Value) (l news : Str) (cells : Array Value) (hc : cells = (news.map encU8).toArray)
    (hw1 : w1 = W.alloc (.cells cells 5))
    (hs : a.eval s = v) (hx : a.eval x = .slice (some ⟨W.heap.size, 0, none⟩) news.length news.length) (hB : Bytes W base v l) (hb : base ≤ W.heap.size) (hlen : l.length + news.length ≤ 70000000000000)
    (w0 : World) (hw : Below base w0 W)
    (h : ∀ v' w', Bytes w' base v' (l ++ news) → Below base w0 w' → K (a.put o.dst v') w') : if Region.wanted o (yielded ops a.tmps) = true then Oper.wp Try.prog o a w1 K Q else E := by
  have hwant : Region.wanted o (yielded ops a.tmps) = true := by simp [Region.wanted, hgd]
  rw [if_pos hwant]
  subst hc hw1
  obtain ⟨v', w', hrun, hown, hbel⟩ := hB.more hb news hlen o.type
  unfold Oper.wp execOp
  simp only [ho, resolve, invoke, builtin, Sem.run_bind, Sem.run_pure, Result.andThen_ok, List.map_toArray, List.map_cons, List.map_nil, hs, hx, hrun]
  exact h v' w' hown (hbel base (Nat.le_refl _) w0 hw)

/-- The bytes as a text. -/
theorem Bytes.text {w : World} {base : Nat} {v : Value} {l : Str} (h : Bytes w base v l) : (convert 69 9 v).run Try.prog w = .ok (.string (lxS l)) w := by
  rcases h.2 with ⟨rfl, h0⟩ | ⟨g, cap, cur, rfl, hbase, hh, h1, h2, h3, h4⟩
  · have hl : l = [] := List.eq_nil_of_length_eq_zero h0
    subst hl
    exact run_convert_bytes_nil w 69 5 Try.underlying69 Try.underlying5 0 0 9 Try.underlying9
  · have e : lxS l = strOfNums (l.map fun c => (c.toNat : Int)) := by
      unfold strOfNums lxS
      congr 1
      rw [List.map_map, show ((fun n : Int => UInt8.ofNat n.toNat) ∘ fun c : UInt8 => (c.toNat : Int)) = id from by funext c; simp, List.map_id]
    rw [e]
    refine run_convert_bytes_arg w 69 5 Try.underlying69 Try.underlying5 g 0 l.length cap _ (by simp) (fun i hi => ?_) 9 Try.underlying9
    rw [Nat.zero_add, cell_of_row w g i cur 5 (0, 0) hh]
    have : (cur.toList.take (l.length * 1))[i]? = (l.map encU8)[i]? := by rw [h4]
    rw [List.getElem?_take, if_pos (by omega)] at this
    rw [← Array.getElem?_toList, this, List.getElem?_map, List.getElem?_eq_getElem hi, List.getD_eq_getElem?_getD, List.getElem?_map, List.getElem?_eq_getElem hi]
    rfl
end Go.Proofs.Ytgefhgcpnfbigaa
