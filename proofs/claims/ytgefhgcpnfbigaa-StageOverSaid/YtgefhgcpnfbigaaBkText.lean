/- Contracts of equal's appendClass, appendSeen, appendOnward. -/
import Derived.Test.YtgefhgcpnfbigaaBkNOwn
import Derived.Test.YtgefhgcpnfbigaaBkCls
import Derived.Test.YtgefhgcpnfbigaaBkInts
import Derived.Test.YtgefhgcpnfbigaaTuOwnV
import Derived.Lib.AppendStr
namespace Go.Proofs.Ytgefhgcpnfbigaa
open Go.RowKit

/-- A block of another type is not the own one of a slice of bytes. -/
theorem Bytes.other {w : World} {base : Nat} {v : Value} {l : Str} (h : Bytes w base v l) {b : Nat} {cs : Array Value} {t : TypeId} {r : Nat × Nat} (hb : w.heap[b]? = some (.cells cs t r)) (ht : t ≠ 5) : v.ownBlock ≠ some b := by
  intro e
  rcases h.2 with ⟨h0, _⟩ | ⟨g, cap, cur, rfl, _, hh, _⟩
  · rw [h0] at e; cases e
  · obtain rfl := Option.some.inj e
    rw [hb] at hh
    exact ht (Obj.cells.inj (Option.some.inj hh)).2.1
theorem Bytes.on {w w' : World} {base : Nat} {v : Value} {l : Str} (h : Bytes w base v l) (hb : Below w.heap.size w w') : Bytes w' base v l := ownsRow_on h hb (Nat.le_refl _)
theorem Bytes.low10 {w : World} {base base' : Nat} {v : Value} {l : Str} (h : Bytes w base v l) (hb : base' ≤ base) : Bytes w base' v l := by
  rcases h.2 with h0 | ⟨g, cap, cur, rfl, hbase, hh, h1, h2, h3, h4⟩
  · exact ⟨h.1, .inl h0⟩
  · exact ⟨h.1, .inr ⟨g, cap, cur, rfl, Nat.le_trans hb hbase, hh, h1, h2, h3, h4⟩⟩
/-- Bytes that the call made, and some more that the statement just laid. -/
theorem wpList_append_bytes10 {ops : Array Oper} {rest : List Oper} {o : Oper} {a : Act} {Q : Exit → Act → World → Prop} {W : World} {cells : Array Value} (hgd : o.guard = none) (s x : Operand)
    (ho : o.op = .call { callee := .builtin .append, args := #[s, x], argTypes := #[69, 69] }) (base : Nat) (v : Value) (l news : Str) (hc : cells = (news.map encU8).toArray)
    (hs : a.eval s = v) {g : Nat} (hx : a.eval x = .slice (some ⟨g, 0, none⟩) news.length news.length) (hg : g = W.heap.size) (hB : Bytes W base v l) (hb : base ≤ W.heap.size) (hlen : l.length + news.length ≤ 1000000)
    (w0 : World) (hw : Below base w0 W)
    (h : ∀ v' w', Bytes w' base v' (l ++ news) → Below base w0 w' → Keeps v W w' → wpList Try.prog ops Q rest (a.put o.dst v') w') : wpList Try.prog ops Q (o :: rest) a (W.alloc (.cells cells 5)) := by
  subst hc hg
  obtain ⟨i0, hi0, hzz⟩ := Option.map_eq_some_iff.1 info_byte
  simp only [Prod.mk.injEq] at hzz
  obtain ⟨hz, hs1, hb1⟩ := hzz
  obtain ⟨v', w', hrun, hown, hgr, _, hat⟩ := run_append_own_at (P := Try.prog) (W.alloc (.cells (news.map encU8).toArray 5)) base 69 o.type 5 i0 _ 1 1 Try.underlying69 hi0 hz hs1 hb1 rfl (by omega) v l.length (l.map encU8) (hB.alloc _)
    ⟨W.heap.size, 0, none⟩ news.length news.length (news.map encU8) (by simp)
    (fun j u hu => by
      have hj : j < news.length := by
        rcases Nat.lt_or_ge j news.length with h | h
        · exact h
        · rw [List.getElem?_eq_none (by simpa using h)] at hu; cases hu
      rw [cell_alloc j (by simpa using hj)]
      rw [← hu, List.getElem?_eq_getElem (by simpa using hj)]
      simp)
    (fun u hu => by obtain ⟨c, _, rfl⟩ := List.mem_map.1 hu; rfl) (by unfold maxLen; omega) (by omega) (by simp; omega)
  have hbel : Below base w0 w' := (hw.alloc hb _).grown hgr (by simp; omega) (fun k hk => (World.ownsRow.lt hB k hk).1)
  refine wpList_append_lx hgd s x _ ho _ _ _ hs hx hrun (h v' w' ?_ hbel ⟨?_, fun b hb hne => ?_⟩)
  · unfold Bytes
    rw [List.length_append, List.map_append]
    exact hown
  · have := hgr.size
    simp at this
    omega
  · exact (hgr.block b (by simp; omega) (fun e => hne e.symm)).trans ((tu1 W _).block b hb)
/-- Bytes that the call made, and a text behind them. -/
theorem wpList_append_str10 {ops : Array Oper} {rest : List Oper} {o : Oper} {a : Act} {Q : Exit → Act → World → Prop} {W : World} (hgd : o.guard = none) (s x : Operand)
    (ho : o.op = .call { callee := .builtin .append, args := #[s, x], argTypes := #[69, 9] }) (base : Nat) (v : Value) (l : Str) (u : ByteArray)
    (hs : a.eval s = v) (hx : a.eval x = .string u) (hB : Bytes W base v l) (hb : base ≤ W.heap.size) (hlen : l.length + u.size ≤ 1000000) (w0 : World) (hw : Below base w0 W)
    (h : ∀ v' w', Bytes w' base v' (l ++ u.toList) → Below base w0 w' → Keeps v W w' → wpList Try.prog ops Q rest (a.put o.dst v') w') : wpList Try.prog ops Q (o :: rest) a W := by
  obtain ⟨i0, hi0, hzz⟩ := Option.map_eq_some_iff.1 info_byte
  simp only [Prod.mk.injEq] at hzz
  obtain ⟨hz, hs1, hb1⟩ := hzz
  obtain ⟨v', w', hrun, hown, hgr, _⟩ := Lib.run_append_own_string (P := Try.prog) (w := W) base 69 9 o.type 5 i0 Try.underlying69 Try.underlying9 hi0 hz hs1 hb1 v l.length (l.map encU8) hB u (by unfold maxLen; omega) (by omega) hb
  have hown2 : Bytes w' base v' (l ++ u.toList) := by
    unfold Bytes
    rw [List.length_append, List.map_append, len_toList]
    rw [ByteArray.toList_eq]
    exact hown
  have hbel := hw.grown hgr hb (fun k e => (World.ownsRow.lt hB k e).1)
  exact wpList_plain hgd fun K hK => by
    unfold Oper.wp execOp
    simp only [ho, resolve, invoke, builtin, Sem.run_bind, Sem.run_pure, Result.andThen_ok, List.map_toArray, List.map_cons, List.map_nil, hs, hx, hrun]
    exact hK _ _ (h v' w' hown2 hbel ⟨hgr.size, fun b hb hne => hgr.block b hb (fun e => hne e.symm)⟩)
theorem low_cells {k : Int} (h0 : 0 ≤ k) (h5 : k ≤ 5) : (#[.int .u8 (k % 256)] : Array Value) = (([UInt8.ofNat k.toNat] : Str).map encU8).toArray := by
  have : k = 0 ∨ k = 1 ∨ k = 2 ∨ k = 3 ∨ k = 4 ∨ k = 5 := by omega
  rcases this with rfl | rfl | rfl | rfl | rfl | rfl <;> rfl
theorem clsS_cells (c : Nat) : (#[.int .u8 ((c : Int) / 256 % 256), .int .u8 ((c : Int) % 256)] : Array Value) = ((clsS c).map encU8).toArray := by
  have e1 : ((UInt8.ofNat (c / 256)).toNat : Int) = (c : Int) / 256 % 256 := by rw [UInt8.toNat_ofNat']; simp
  have e2 : ((UInt8.ofNat (c % 256)).toNat : Int) = (c : Int) % 256 := by rw [UInt8.toNat_ofNat']; simp
  unfold clsS encU8
  rw [List.map_cons, List.map_cons, List.map_nil, e1, e2]
theorem clsS_len (c : Nat) : (clsS c).length = 2 := rfl
set_option maxHeartbeats 4000000 in
theorem appendClass_any (v : Value) (l : Str) (c : Nat) (w : World) (base : Nat) (hB : Bytes w base v l) (hb : base ≤ w.heap.size) (hl : l.length ≤ 100000) :
    Calls Try.prog 47 #[v, .int .i64 (c : Int)] w fun e w' => (∃ v', e = .returned v' ∧ Bytes w' base v' (l ++ clsS c)) ∧ Below base w w' ∧ Keeps v w w' := by
  have HB := Lib.hid hB
  have HC := Lib.hid (clsS_cells c)
  clear hB
  go_enter Try.func47, Try.ntmps47
  go_wp2_with (first
    | (at_builtin
       refine wpList_append_bytes10 rfl (.tmp 5) (.tmp 11) rfl base v l (clsS c) HC.out rfl rfl rfl HB.out hb (by rw [clsS_len]; omega) w (Below.refl _ _) ?_
       intro v2 w2 ho2 hb2 hk2
       have HO2 := Lib.hid ho2
       have HB2 := Lib.hid (And.intro hb2 hk2)
       clear ho2 hb2 hk2)
    | fail)
  go_ret
  exact ⟨⟨_, rfl, HO2.out⟩, HB2.out⟩
/-- The text of the first edges. -/
def seenE (l : List EdgeL) : Str := l.flatMap fun e => UInt8.ofNat e.sk.toNat :: e.label
theorem seenE_snoc {l : List EdgeL} {k : Nat} {e : EdgeL} (he : l[k]? = some e) : seenE (l.take (k + 1)) = (seenE (l.take k) ++ [UInt8.ofNat e.sk.toNat]) ++ e.label := by
  unfold seenE
  rw [tuTake_at he, List.flatMap_append, List.flatMap_cons, List.flatMap_nil, List.append_nil, List.append_assoc]
  rfl
theorem seenE_len {l : List EdgeL} {m : Nat} (h : ∀ e ∈ l, e.label.length ≤ 12) (hm : l.length ≤ m) : (seenE l).length ≤ 13 * m := by
  have h1 : ∀ l : List EdgeL, (∀ e ∈ l, e.label.length ≤ 12) → (seenE l).length ≤ 13 * l.length := fun l => by
    induction l with
    | nil => intro _; exact Nat.le_refl _
    | cons e l ih =>
      intro h
      have := ih fun x hx => h x (by simp [hx])
      have h0 := h e (by simp)
      unfold seenE at this ⊢
      rw [List.flatMap_cons, List.length_append, List.length_cons, List.length_cons]
      omega
  have := h1 l h
  omega
/-- A box of the call's own holds this node. -/
def NBox (W : World) (g : Nat) (kd : Int) (s : ByteArray) (aa : Option Addr) (an ac : Nat) : Prop := W.heap[g]? = some (.cells #[.int .i64 kd, .string s, .slice aa an ac] 62 (0, 0))
theorem NBox.keeps {W W' : World} {g : Nat} {kd : Int} {s : ByteArray} {aa : Option Addr} {an ac : Nat} (h : NBox W g kd s aa an ac) {base : Nat} {v : Value} {l : Str} (hv : Bytes W base v l) (hk : Keeps v W W') : NBox W' g kd s aa an ac :=
  (hk.2 g (Array.getElem?_eq_some_iff.1 h).1 (hv.other h (by decide))).trans h
theorem NBox.alloc {W : World} {g : Nat} {kd : Int} {s : ByteArray} {aa : Option Addr} {an ac : Nat} (h : NBox W g kd s aa an ac) (o : Obj) : NBox (W.alloc o) g kd s aa an ac := ((tu1 W o).block g (Array.getElem?_eq_some_iff.1 h).1).trans h
theorem NBox.cells {W : World} {g : Nat} {kd : Int} {s : ByteArray} {aa : Option Addr} {an ac : Nat} (h : NBox W g kd s aa an ac) : W.cell? ⟨g, 0, none⟩ = some (.int .i64 kd) ∧ W.cell? ⟨g, 1, none⟩ = some (.string s) ∧ W.cell? ⟨g, 2, none⟩ = some (.slice aa an ac) :=
  ⟨by rw [cell_of_row _ _ _ _ _ _ h]; rfl, by rw [cell_of_row _ _ _ _ _ _ h]; rfl, by rw [cell_of_row _ _ _ _ _ _ h]; rfl⟩
/-- A box of the call's own holds this edge. -/
def EBox (W : World) (g : Nat) (s : ByteArray) (sk ta nx : Int) : Prop := W.heap[g]? = some (.cells #[.string s, .int .i64 sk, .int .i64 ta, .int .i64 nx] 82 (0, 0))
theorem EBox.keeps {W W' : World} {g : Nat} {s : ByteArray} {sk ta nx : Int} (h : EBox W g s sk ta nx) {base : Nat} {v : Value} {l : Str} (hv : Bytes W base v l) (hk : Keeps v W W') : EBox W' g s sk ta nx :=
  (hk.2 g (Array.getElem?_eq_some_iff.1 h).1 (hv.other h (by decide))).trans h
theorem EBox.cells {W : World} {g : Nat} {s : ByteArray} {sk ta nx : Int} (h : EBox W g s sk ta nx) : W.cell? ⟨g, 0, none⟩ = some (.string s) ∧ W.cell? ⟨g, 1, none⟩ = some (.int .i64 sk) ∧ W.cell? ⟨g, 2, none⟩ = some (.int .i64 ta) ∧ W.cell? ⟨g, 3, none⟩ = some (.int .i64 nx) :=
  ⟨by rw [cell_of_row _ _ _ _ _ _ h]; rfl, by rw [cell_of_row _ _ _ _ _ _ h]; rfl, by rw [cell_of_row _ _ _ _ _ _ h]; rfl, by rw [cell_of_row _ _ _ _ _ _ h]; rfl⟩
set_option maxHeartbeats 4000000 in
set_option maxRecDepth 20000 in
theorem appendSeen_any (v : Value) (l : Str) (kd : Int) (s : ByteArray) (aa : Option Addr) (an ac : Nat) (es : List EdgeL) (w : World) (base : Nat) (bound : Nat) (hB : Bytes w base v l) (hb : base ≤ w.heap.size) (hbo : bound ≤ base) (hl : l.length ≤ 1000)
    (hk0 : 0 ≤ kd) (hk5 : kd ≤ 5) (hs : s.size ≤ 12) (hE : Edges w bound aa an es) (hn : an ≤ 6) (he : ∀ e ∈ es, e.label.length ≤ 12 ∧ 0 ≤ e.sk ∧ e.sk ≤ 5) :
    Calls Try.prog 44 #[v, .agg #[.int .i64 kd, .string s, .slice aa an ac]] w fun e w' => (∃ v', e = .returned v' ∧ Bytes w' base v' (l ++ seenS ⟨kd, s.toList, es⟩)) ∧ Below base w w' := by
  have HB0 := Lib.hid ((Below.refl base w).alloc hb (.cells #[.int .i64 kd, .string s, .slice aa an ac] 62))
  have HB := Lib.hid (hB.alloc (.cells #[.int .i64 kd, .string s, .slice aa an ac] 62))
  have HBX := Lib.hid (show NBox (w.alloc (.cells #[.int .i64 kd, .string s, .slice aa an ac] 62)) w.heap.size kd s aa an ac from heap_alloc_new w _)
  have HE := Lib.hid hE
  have HES := Lib.hid he
  have HLEN := Lib.hid hE.1
  have HC := Lib.hid (low_cells hk0 hk5)
  have HSL := Lib.hid (show s.toList.length ≤ 12 by rw [len_toList]; exact hs)
  obtain ⟨L0, hL0⟩ : ∃ L0, L0 = (l ++ [UInt8.ofNat kd.toNat]) ++ s.toList := ⟨_, rfl⟩
  have HL0 := Lib.hid (show L0.length ≤ 1013 by rw [hL0]; have := HSL.out; simp; omega)
  have HX := Lib.hid (show l ++ seenS ⟨kd, s.toList, es⟩ = L0 ++ seenE es by
    rw [hL0]
    unfold seenS seenE
    rw [List.append_assoc, List.append_assoc]
    rfl)
  rw [HX.out]
  have HLE := Lib.hid hL0
  clear hL0
  clear hB hE he hk0 hk5
  go_enter Try.func44, Try.ntmps44
  go_wp2_with (first
    | (at_builtin
       refine wpList_append_bytes10 rfl (.tmp 7) (.tmp 11) rfl base v l [UInt8.ofNat kd.toNat] HC.out rfl rfl (by simp) HB.out (by simp; omega) (by simp; omega) w HB0.out ?_
       intro v2 w2 ho2 hb2 hk2
       have HBX2 := Lib.hid (HBX.out.keeps HB.out hk2)
       obtain ⟨c20, c21, c22⟩ := HBX2.out.cells
       have HO2 := Lib.hid ho2
       have HB2 := Lib.hid hb2
       have hz2 := hb2.size
       clear ho2 hb2 hk2)
    | (at_builtin
       refine wpList_append_str10 rfl (.tmp 13) (.tmp 15) rfl base v2 (l ++ [UInt8.ofNat kd.toNat]) s rfl rfl HO2.out (by omega) (by simp; omega) w HB2.out ?_
       intro v3 w3 ho3 hb3 hk3
       have HBX3 := Lib.hid (HBX2.out.keeps HO2.out hk3)
       obtain ⟨c30, c31, c32⟩ := HBX3.out.cells
       have HO3 := Lib.hid ho3
       have HB3 := Lib.hid hb3
       have hz3 := hb3.size
       clear ho3 hb3 hk3 c20 c21 c22)
    | fail)
  rw [← HLE.out] at HO3
  clear c30 c31 c32
  go_loopw [0, 20] (fun o i wr => ∃ (k : Nat) (v : Value), k ≤ an ∧ i = .int .i64 k ∧ v = o ∧ Hid (Bytes wr base v (L0 ++ seenE (es.take k))) ∧ Hid (Below base w wr)) (fun _ i _ => an - (intOf i).toNat)
  case atStart => exact ⟨0, _, Nat.zero_le _, rfl, rfl, Lib.hid (by rw [List.take_zero]; show Bytes _ _ _ (L0 ++ []); rw [List.append_nil]; exact HO3.out), HB3⟩
  case round =>
    obtain ⟨k, tv, hk, rfl, hvo, HO, HBr⟩ := hrel
    subst hvo
    have hzr := HBr.out.size
    by_cases hlt : k < an
    · obtain ⟨b, off, u, sk, ta, nx, rfl, hbb, hx, ⟨q0, q1, q2, q3⟩, hu⟩ := (HE.out.below (HBr.out.mono hbo)).at_ hlt
      have i1 : (k : Int) < (an : Int) := by omega
      have i2 : (0 : Int) ≤ (k : Int) := by omega
      obtain ⟨f1, f2, f3⟩ := HES.out _ (List.mem_of_getElem? hx)
      have HF1 := Lib.hid (show u.size ≤ 12 by rw [← len_toList]; exact f1)
      have HCK := Lib.hid (low_cells f2 f3)
      have HST := Lib.hid (seenE_snoc hx)
      obtain ⟨L1, hL1⟩ : ∃ L1, L1 = L0 ++ seenE (es.take k) := ⟨_, rfl⟩
      have HL1 := Lib.hid (show L1.length ≤ 1100 by
        have h1 := seenE_len (l := es.take k) (m := 6) (fun e he => (HES.out e (List.mem_of_mem_take he)).1) (by rw [List.length_take]; omega)
        have h2 := HL0.out
        rw [hL1, List.length_append]
        omega)
      have HST2 := Lib.hid (show L0 ++ seenE (es.take (k + 1)) = (L1 ++ [UInt8.ofNat sk.toNat]) ++ u.toList by
        rw [HST.out, hL1, List.append_assoc, List.append_assoc, List.append_assoc])
      rw [← hL1] at HO
      have HEB := Lib.hid (show EBox (wr.alloc (.cells #[.string u, .int .i64 sk, .int .i64 ta, .int .i64 nx] 82)) wr.heap.size u sk ta nx from heap_alloc_new wr _)
      have HOA := Lib.hid (HO.out.alloc (.cells #[.string u, .int .i64 sk, .int .i64 ta, .int .i64 nx] 82))
      have HBA := Lib.hid (HBr.out.alloc (by omega) (.cells #[.string u, .int .i64 sk, .int .i64 ta, .int .i64 nx] 82))
      clear hx f1 f2 f3 hL1
      go_wp2_with (first
        | (at_builtin
           refine wpList_append_bytes10 rfl (.tmp 24) (.tmp 29) rfl base tv L1 [UInt8.ofNat sk.toNat] HCK.out rfl rfl (by simp) HOA.out (by simp; omega) (by have := HL1.out; simp; omega) w HBA.out ?_
           intro v4 w4 ho4 hb4 hk4
           have HEB4 := Lib.hid (HEB.out.keeps HOA.out hk4)
           obtain ⟨c40, c41, c42, c43⟩ := HEB4.out.cells
           have HO4 := Lib.hid ho4
           have HB4 := Lib.hid hb4
           have hz4 := hb4.size
           clear ho4 hb4 hk4)
        | (at_builtin
           refine wpList_append_str10 rfl (.tmp 31) (.tmp 33) rfl base v4 (L1 ++ [UInt8.ofNat sk.toNat]) u rfl rfl HO4.out (by omega) (by have := HL1.out; have := HF1.out; simp; omega) w HB4.out ?_
           intro v5 w5 ho5 hb5 hk5
           have HO5 := Lib.hid ho5
           have HB5 := Lib.hid hb5
           clear ho5 hb5 hk5)
        | fail)
      go_roundw
      case rel => exact ⟨k + 1, _, by omega, by go_num, rfl, Lib.hid (by rw [HST2.out]; exact HO5.out), HB5⟩
      case measure => simp [intOf]; omega
    · have hall : es.take k = es := List.take_of_length_le (by have := HLEN.out; omega)
      rw [hall] at HO
      have d1 : decide ((k : Int) < (an : Int)) = false := decide_eq_false (by omega)
      clear hall
      go_wp2_with fail
      go_ret
      exact ⟨⟨_, rfl, HO.out⟩, HBr.out⟩
/-- The text of the classes that the first edges lead to. -/
def onwE (cl : List Nat) (l : List EdgeL) : Str := l.flatMap fun e => clsS (cl.getD e.at_.toNat 0) ++ clsS (cl.getD e.next.toNat 0)
theorem onwE_snoc {cl : List Nat} {l : List EdgeL} {k : Nat} {e : EdgeL} (he : l[k]? = some e) : onwE cl (l.take (k + 1)) = (onwE cl (l.take k) ++ clsS (cl.getD e.at_.toNat 0)) ++ clsS (cl.getD e.next.toNat 0) := by
  unfold onwE
  rw [tuTake_at he, List.flatMap_append, List.flatMap_cons, List.flatMap_nil, List.append_nil, List.append_assoc]
theorem onwE_len {cl : List Nat} {l : List EdgeL} {m : Nat} (hm : l.length ≤ m) : (onwE cl l).length ≤ 4 * m := by
  have h1 : ∀ l : List EdgeL, (onwE cl l).length = 4 * l.length := fun l => by
    induction l with
    | nil => rfl
    | cons e l ih =>
      unfold onwE at ih ⊢
      rw [List.flatMap_cons, List.length_append, List.length_append, clsS_len, clsS_len, ih, List.length_cons]
      omega
  rw [h1]
  omega
theorem cls_at {w : World} {bound : Nat} {a : Option Addr} {n : Nat} {cl : List Nat} (h : Nums w bound a n (rowI cl)) {k : Nat} (hk : k < n) : ∃ b off, a = some ⟨b, off, none⟩ ∧ b < bound ∧ w.cell? ⟨b, off + k, none⟩ = some (.int .i64 ((cl.getD k 0 : Nat) : Int)) := by
  obtain ⟨b, off, x, e, hb, hx, hc⟩ := h.at_ hk
  have hl : k < cl.length := by have := h.1; rw [rowI_len] at this; omega
  have hg : (rowI cl)[k]? = some ((cl.getD k 0 : Nat) : Int) := by
    unfold rowI
    rw [List.getElem?_map, List.getD_eq_getElem?_getD, List.getElem?_eq_getElem hl]
    rfl
  rw [hg] at hx
  obtain rfl := Option.some.inj hx
  exact ⟨b, off, e, hb, hc⟩
set_option maxHeartbeats 4000000 in
set_option maxRecDepth 20000 in
theorem appendOnward_any (v : Value) (l : Str) (kd : Int) (s : ByteArray) (aa : Option Addr) (an ac : Nat) (es : List EdgeL) (ca : Option Addr) (cn cc : Nat) (cl : List Nat) (w : World) (base : Nat) (bound : Nat) (hB : Bytes w base v l) (hb : base ≤ w.heap.size) (hbo : bound ≤ base) (hl : l.length ≤ 1000)
    (hE : Edges w bound aa an es) (hn : an ≤ 6) (hC : Nums w bound ca cn (rowI cl)) (he : ∀ e ∈ es, (0 ≤ e.at_ ∧ e.at_.toNat < cn) ∧ 0 ≤ e.next ∧ e.next.toNat < cn) :
    Calls Try.prog 46 #[v, .agg #[.int .i64 kd, .string s, .slice aa an ac], .slice ca cn cc] w fun e w' => (∃ v', e = .returned v' ∧ Bytes w' base v' (l ++ onwE cl es)) ∧ Below base w w' := by
  have HB0 := Lib.hid ((Below.refl base w).alloc hb (.cells #[.int .i64 kd, .string s, .slice aa an ac] 62))
  have HB := Lib.hid (hB.alloc (.cells #[.int .i64 kd, .string s, .slice aa an ac] 62))
  have HE := Lib.hid hE
  have HCL := Lib.hid hC
  have HES := Lib.hid he
  have HLEN := Lib.hid hE.1
  clear hB hE he hC
  go_enter Try.func46, Try.ntmps46
  go_wp2_with fail
  go_loopw [0, 12] (fun o i wr => ∃ (k : Nat) (v : Value), k ≤ an ∧ i = .int .i64 k ∧ v = o ∧ Hid (Bytes wr base v (l ++ onwE cl (es.take k))) ∧ Hid (Below base w wr)) (fun _ i _ => an - (intOf i).toNat)
  case atStart => exact ⟨0, _, Nat.zero_le _, rfl, rfl, Lib.hid (by rw [List.take_zero]; show Bytes _ _ _ (l ++ []); rw [List.append_nil]; exact HB.out), HB0⟩
  case round =>
    obtain ⟨k, tv, hk, rfl, hvo, HO, HBr⟩ := hrel
    subst hvo
    have hzr := HBr.out.size
    by_cases hlt : k < an
    · obtain ⟨b, off, u, sk, ta, nx, rfl, hbb, hx, ⟨q0, q1, q2, q3⟩, hu⟩ := (HE.out.below (HBr.out.mono hbo)).at_ hlt
      have i1 : (k : Int) < (an : Int) := by omega
      have i2 : (0 : Int) ≤ (k : Int) := by omega
      obtain ⟨⟨f1, f2⟩, f3, f4⟩ := HES.out _ (List.mem_of_getElem? hx)
      obtain ⟨ta', rfl⟩ : ∃ m : Nat, ta = (m : Int) := ⟨ta.toNat, (Int.toNat_of_nonneg f1).symm⟩
      obtain ⟨nx', rfl⟩ : ∃ m : Nat, nx = (m : Int) := ⟨nx.toNat, (Int.toNat_of_nonneg f3).symm⟩
      have f2' : ta' < cn := by simpa using f2
      have f4' : nx' < cn := by simpa using f4
      obtain ⟨cb, co, rfl, hcb, ct⟩ := cls_at (HCL.out.below (HBr.out.mono hbo)) f2'
      obtain ⟨cb', co', e, _, cx⟩ := cls_at (HCL.out.below (HBr.out.mono hbo)) f4'
      obtain ⟨e1, e2, _⟩ := Addr.mk.inj (Option.some.inj e)
      subst e1 e2
      have hcz : cb < wr.heap.size := by omega
      have j1 : (ta' : Int) < (cn : Int) := by omega
      have j2 : (0 : Int) ≤ (ta' : Int) := by omega
      have j3 : (nx' : Int) < (cn : Int) := by omega
      have j4 : (0 : Int) ≤ (nx' : Int) := by omega
      have HST := Lib.hid (onwE_snoc (cl := cl) hx)
      obtain ⟨L1, hL1⟩ : ∃ L1, L1 = l ++ onwE cl (es.take k) := ⟨_, rfl⟩
      have HL1 := Lib.hid (show L1.length ≤ 1024 by
        have h1 := onwE_len (cl := cl) (l := es.take k) (m := 6) (by rw [List.length_take]; omega)
        rw [hL1, List.length_append]
        omega)
      have HST2 := Lib.hid (show l ++ onwE cl (es.take (k + 1)) = (L1 ++ clsS (cl.getD ta' 0)) ++ clsS (cl.getD nx' 0) by
        rw [HST.out, hL1, List.append_assoc, List.append_assoc, List.append_assoc]
        rfl)
      rw [← hL1] at HO
      obtain ⟨x1, hx1⟩ : ∃ x, x = cl.getD ta' 0 := ⟨_, rfl⟩
      obtain ⟨x2, hx2⟩ : ∃ x, x = cl.getD nx' 0 := ⟨_, rfl⟩
      rw [← hx1, ← hx2] at HST2
      rw [← hx1] at ct
      rw [← hx2] at cx
      have HEB := Lib.hid (show EBox (wr.alloc (.cells #[.string u, .int .i64 sk, .int .i64 (ta' : Int), .int .i64 (nx' : Int)] 82)) wr.heap.size u sk (ta' : Int) (nx' : Int) from heap_alloc_new wr _)
      have HOA := Lib.hid (HO.out.alloc (.cells #[.string u, .int .i64 sk, .int .i64 (ta' : Int), .int .i64 (nx' : Int)] 82))
      have HBA := Lib.hid (HBr.out.alloc (by omega) (.cells #[.string u, .int .i64 sk, .int .i64 (ta' : Int), .int .i64 (nx' : Int)] 82))
      have CA := Lib.hid (appendClass_any tv L1 x1 _ base HOA.out (by simp; omega) (by have := HL1.out; omega))
      have CB := Lib.hid (fun (W : World) (v : Value) (h : Bytes W base v (L1 ++ clsS x1)) (hz : base ≤ W.heap.size) => appendClass_any v _ x2 W base h hz (by rw [List.length_append, clsS_len]; have := HL1.out; omega))
      clear hx f1 f2 f3 f4 hL1 e hx1 hx2
      go_wp2_with (first
        | (go_at_call 47; (with_reducible refine CA.out.mono ?_)
           rintro e w4 ⟨⟨v4, rfl, ho4⟩, hb4, hk4⟩
           have HEB4 := Lib.hid (HEB.out.keeps HOA.out hk4)
           obtain ⟨c40, c41, c42, c43⟩ := HEB4.out.cells
           have HO4 := Lib.hid ho4
           have HB4 := Lib.hid (HBA.out.trans hb4)
           have hz4 := HB4.out.size
           have cx4 := (hb4.cell (p := ⟨cb, co + nx', none⟩) (by show cb < _; omega)).trans ((HBA.out.cell (p := ⟨cb, co + nx', none⟩) (by show cb < _; omega)).trans ((HBr.out.cell (p := ⟨cb, co + nx', none⟩) (by show cb < _; omega)).symm.trans cx))
           clear ho4 hb4 hk4)
        | (go_at_call 47; (with_reducible refine (CB.out _ _ HO4.out (by omega)).mono ?_)
           rintro e w5 ⟨⟨v5, rfl, ho5⟩, hb5, hk5⟩
           have HO5 := Lib.hid ho5
           have HB5 := Lib.hid (HB4.out.trans hb5)
           clear ho5 hb5 hk5)
        | fail)
      go_roundw
      case rel => exact ⟨k + 1, _, by omega, by go_num, rfl, Lib.hid (by rw [HST2.out]; exact HO5.out), HB5⟩
      case measure => simp [intOf]; omega
    · have hall : es.take k = es := List.take_of_length_le (by have := HLEN.out; omega)
      rw [hall] at HO
      have d1 : decide ((k : Int) < (an : Int)) = false := decide_eq_false (by omega)
      clear hall
      go_wp2_with fail
      go_ret
      exact ⟨⟨_, rfl, HO.out⟩, HBr.out⟩
end Go.Proofs.Ytgefhgcpnfbigaa
