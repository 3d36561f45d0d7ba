/- A slice of typings that the call makes by append; the statements' typings. -/
import Derived.Test.YthbakfceaaaamaaKdOfs
import Derived.Test.YthbakfceaaaamaaTmBind
import Derived.Test.YthbakfceaaaamaaTmSome
namespace Go.Proofs.Ythbakfceaaaamaa
open Go.RowKit

/-- The slice v, which the call made (its array lies at base or above), holds just these typings. -/
def YOwn (w : World) (base : Nat) (v : Value) (env : List (Str × Int)) : Prop := ∃ ts : List TT, w.ownsRow base 46 3 v env.length (ts.flatMap encTT) ∧ envT ts = env
/-- The slice at this address holds these typings. -/
def YRow (w : World) (ad : Option Addr) (m : Nat) (env : List (Str × Int)) : Prop :=
  ∃ ts : List TT, ts.length = m ∧ envT ts = env ∧ (0 < m → ∃ a', ad = some a' ∧ ∀ (j : Nat) (u : Value), (ts.flatMap encTT)[j]? = some u → w.cell? (a'.add j) = some u)
theorem encTTs_len (l : List TT) : (l.flatMap encTT).length = l.length * 3 := by
  induction l with
  | nil => rfl
  | cons t l ih => rw [List.flatMap_cons, List.length_append, ih, List.length_cons]; show 3 + _ = _; omega
theorem encTT_cell {u : Value} {l : List TT} (h : u ∈ l.flatMap encTT) : u.oneCell' = true := by
  obtain ⟨t, _, ht⟩ := List.mem_flatMap.1 h
  unfold encTT at ht
  simp only [List.mem_cons, List.not_mem_nil, or_false] at ht
  rcases ht with rfl | rfl | rfl <;> rfl
theorem envT_len (ts : List TT) : (envT ts).length = ts.length := List.length_map _
theorem envT_app (a b : List TT) : envT (a ++ b) = envT a ++ envT b := List.map_append
theorem YRow.of_typs {w : World} {bound : Nat} {ad : Option Addr} {m : Nat} {env : List (Str × Int)} (h : Typs w bound ad m env) : YRow w ad m env := by
  obtain ⟨h1, _, hc⟩ := h
  rcases Nat.eq_zero_or_pos m with h0 | h0
  · subst h0
    have hn : env = [] := List.eq_nil_of_length_eq_zero h1
    subst hn
    exact ⟨[], rfl, rfl, fun h => absurd h (Nat.lt_irrefl 0)⟩
  obtain ⟨b, off, rfl, _, hcell⟩ := hc h0
  have each : ∀ i, i < m → ∃ y : TT, env[i]? = some (y.nm.toList, y.k) ∧ w.cell? ⟨b, off + i * 3, none⟩ = some (.string y.nm) ∧ w.cell? ⟨b, off + i * 3 + 1, none⟩ = some (.int .i64 y.k) ∧ w.cell? ⟨b, off + i * 3 + 2, none⟩ = some (.int .i64 y.z) := fun i hi => by
    have hx := List.getElem?_eq_getElem (l := env) (i := i) (by omega)
    obtain ⟨s, z, ⟨q0, q1, q2⟩, z1⟩ := hcell i _ hx
    exact ⟨⟨s, env[i].2, z⟩, by rw [hx]; simp only [z1], q0, q1, q2⟩
  haveI : Inhabited TT := ⟨⟨⟨#[]⟩, 0, 0⟩⟩
  obtain ⟨f, hf⟩ := Go.Deep.choose_lt each
  refine ⟨(List.range m).map f, by simp, ?_, fun _ => ⟨_, rfl, fun j u hu => ?_⟩⟩
  · refine List.ext_getElem? fun i => ?_
    unfold envT
    rw [List.map_map, List.getElem?_map]
    rcases Nat.lt_or_ge i m with hi | hi
    · rw [List.getElem?_range hi, (hf i hi).1]; rfl
    · rw [List.getElem?_eq_none (by simpa using hi), List.getElem?_eq_none (by omega)]; rfl
  · have hj : j < m * 3 := by
      obtain ⟨h2, _⟩ := List.getElem?_eq_some_iff.1 hu
      rw [encTTs_len] at h2
      simpa using h2
    have hjm : j / 3 < m := by omega
    have ht : ((List.range m).map f)[j / 3]? = some (f (j / 3)) := by rw [List.getElem?_map, List.getElem?_range hjm]; rfl
    have hu2 := flat_at (f := encTT) (m := 3) (fun _ => rfl) _ (j / 3) _ ht (j % 3) (by omega)
    rw [show j / 3 * 3 + j % 3 = j by omega] at hu2
    have hu3 : (encTT (f (j / 3)))[j % 3]? = some u := hu2.symm.trans hu
    obtain ⟨_, c0, c1, c2⟩ := hf (j / 3) hjm
    rw [Go.WideShapes.add_plain]
    have hj3 : j % 3 = 0 ∨ j % 3 = 1 ∨ j % 3 = 2 := by omega
    rcases hj3 with e | e | e
    · rw [e] at hu3; rw [show off + j = off + j / 3 * 3 by omega, c0]; exact hu3
    · rw [e] at hu3; rw [show off + j = off + j / 3 * 3 + 1 by omega, c1]; exact hu3
    · rw [e] at hu3; rw [show off + j = off + j / 3 * 3 + 2 by omega, c2]; exact hu3
/-- One typing, made for an append. -/
theorem YRow.one {W : World} {cs : Array Value} (t : TT) {g : Nat} (hg : g = W.heap.size) (hc : cs = (encTT t).toArray) : YRow (W.alloc (.cells cs 46)) (some ⟨g, 0, none⟩) 1 [(t.nm.toList, t.k)] := by
  subst hg hc
  refine ⟨[t], rfl, rfl, fun _ => ⟨_, rfl, fun j u hu => ?_⟩⟩
  rw [Go.WideShapes.add_plain, cell_of_row _ _ _ _ _ _ (heap_alloc_new W _), List.getElem?_toArray, Nat.zero_add]
  rw [show ([t].flatMap encTT) = encTT t by simp] at hu
  exact hu
theorem YOwn.zero (w : World) (base : Nat) : YOwn w base (.slice none 0 0) [] := ⟨[], World.ownsRow_nil w base 46 3, rfl⟩
theorem YOwn.alloc {w : World} {base : Nat} {v : Value} {l : List (Str × Int)} (h : YOwn w base v l) (o : Obj) : YOwn (w.alloc o) base v l := by
  obtain ⟨ts, h1, h2⟩ := h
  exact ⟨ts, World.ownsRow.alloc h1 o, h2⟩
theorem info_typ : (Try.prog.info? 46).map (fun i => (i.zero, i.size, i.bytes)) = some (some (.agg #[.string ⟨#[]⟩, .int .i64 0, .int .i64 0]), 3, 32) := by kernel_rfl
/-- The typings of a slice, whichever, behind those that the call made. -/
theorem YOwn.add {w : World} {base : Nat} {v : Value} {l : List (Str × Int)} (h : YOwn w base v l) (hb : base ≤ w.heap.size) {a : Option Addr} {m : Nat} (c : Nat) {l2 : List (Str × Int)} (hr : YRow w a m l2) (hlen : l.length + m ≤ 1000000) (ty : Nat) :
    ∃ v' w', (Builtin.append_ #[23, 23] ty #[v, .slice a m c]).run Try.prog w = .ok v' w' ∧ YOwn w' base v' (l ++ l2) ∧ ∀ B, B ≤ base → ∀ w0, Below B w0 w → Below B w0 w' := by
  obtain ⟨i0, hi0, hzz⟩ := Option.map_eq_some_iff.1 info_typ
  simp only [Prod.mk.injEq] at hzz
  obtain ⟨hz, hs1, hb1⟩ := hzz
  obtain ⟨bs, ho, hl⟩ := h
  obtain ⟨bs2, hl2, hl2', hc⟩ := hr
  have hlen2 : l2.length = m := by rw [← hl2', envT_len, hl2]
  rcases a with _ | ad
  · have hm : m = 0 := by
      rcases Nat.eq_zero_or_pos m with h0 | h0
      · exact h0
      · obtain ⟨_, h, _⟩ := hc h0; cases h
    subst hm
    have hn : l2 = [] := List.eq_nil_of_length_eq_zero hlen2
    subst hn
    refine ⟨v, w, ?_, by rw [List.append_nil]; exact ⟨bs, ho, hl⟩, fun B _ w0 hw => hw⟩
    rcases ho.2 with ⟨h0, _⟩ | ⟨g, cap, cur, rfl, _, hh, h1, h2, h3, h4⟩
    · rw [h0]; simp [Builtin.append_, run_underlying Try.underlying23, sizeOf, typeInfo, hi0, Builtin.lenOf, Builtin.firstCells]
    · simp [Builtin.append_, run_underlying Try.underlying23, sizeOf, typeInfo, hi0, Builtin.lenOf, Builtin.firstCells, storeCells]
      intro hx
      omega
  · have hcells : ∀ (j : Nat) (u : Value), (bs2.flatMap encTT)[j]? = some u → w.cell? (ad.add j) = some u := fun j u hu => by
      rcases Nat.eq_zero_or_pos m with h0 | h0
      · rw [List.eq_nil_of_length_eq_zero (hl2.trans h0)] at hu; cases hu
      · obtain ⟨a', e, hcc⟩ := hc h0
        obtain rfl := Option.some.inj e
        exact hcc j u hu
    obtain ⟨v', w', hrun, hown, hgr, _, hat⟩ := run_append_own_at (P := Try.prog) w base 23 ty 46 i0 _ 3 32 Try.underlying23 hi0 hz hs1 hb1 rfl (by omega) v l.length (bs.flatMap encTT) ho ad m c (bs2.flatMap encTT) (by rw [encTTs_len, hl2]) hcells
      (fun u hu => encTT_cell hu) (by unfold maxLen; omega) (by omega) hb
    have hbel : ∀ B, B ≤ base → ∀ w0, Below B w0 w → Below B w0 w' := fun B hB w0 hw0 => hw0.grown hgr (by omega) (fun k hk => by
      have := ho.lt k hk
      omega)
    refine ⟨v', w', hrun, ⟨bs ++ bs2, ?_, by rw [envT_app, hl, hl2']⟩, hbel⟩
    rw [List.length_append, List.flatMap_append, hlen2]
    exact hown
theorem wpList_append_typs {ops : Array Oper} {rest : List Oper} {o : Oper} {a : Act} {Q : Exit → Act → World → Prop} {W : World} (hgd : o.guard = none) (s x : Operand)
    (ho : o.op = .call { callee := .builtin .append, args := #[s, x], argTypes := #[23, 23] }) (base : Nat) (v : Value) (l : List (Str × Int)) (ad : Option Addr) (m c : Nat) (l2 : List (Str × Int))
    (hs : a.eval s = v) (hx : a.eval x = .slice ad m c) (hB : YOwn W base v l) (hr : YRow W ad m l2) (hb : base ≤ W.heap.size) (hlen : l.length + m ≤ 1000000)
    (h : ∀ v' w', YOwn w' base v' (l ++ l2) → Below base W w' → wpList Try.prog ops Q rest (a.put o.dst v') w') : wpList Try.prog ops Q (o :: rest) a W := by
  obtain ⟨v', w', hrun, hown, hbel⟩ := hB.add hb c hr hlen o.type
  exact wpList_append_lx hgd s x _ ho _ _ _ hs hx hrun (h v' w' hown (hbel base (Nat.le_refl _) W (Below.refl _ _)))
theorem step_append_typs {ops : Array Oper} {o : Oper} {a : Act} {K : Act → World → Prop} {Q : Exit → Act → World → Prop} {E : Prop} {W : World} (hgd : o.guard = none) (s x : Operand)
    (ho : o.op = .call { callee := .builtin .append, args := #[s, x], argTypes := #[23, 23] }) (base : Nat) (v : Value) (l : List (Str × Int)) (ad : Option Addr) (m c : Nat) (l2 : List (Str × Int))
    (hs : a.eval s = v) (hx : a.eval x = .slice ad m c) (hB : YOwn W base v l) (hr : YRow W ad m l2) (hb : base ≤ W.heap.size) (hlen : l.length + m ≤ 1000000)
    (h : ∀ v' w', YOwn w' base v' (l ++ l2) → Below base W w' → K (a.put o.dst v') w') : if Region.wanted o (yielded ops a.tmps) = true then Oper.wp Try.prog o a W K Q else E := by
  have hwant : Region.wanted o (yielded ops a.tmps) = true := by simp [Region.wanted, hgd]
  rw [if_pos hwant]
  obtain ⟨v', w', hrun, hown, hbel⟩ := hB.add hb c hr hlen o.type
  unfold Oper.wp execOp
  simp only [ho, resolve, invoke, builtin, Sem.run_bind, Sem.run_pure, Result.andThen_ok, List.map_toArray, List.map_cons, List.map_nil, hs, hx, hrun]
  exact h v' w' hown (hbel base (Nat.le_refl _) W (Below.refl _ _))
/-- Such a slice reads as its typings. -/
theorem YOwn.sees {w : World} {base : Nat} {v : Value} {l : List (Str × Int)} (h : YOwn w base v l) (hl : l.length ≤ 1000000) : ∃ a c, v = .slice a l.length c ∧ Typs w w.heap.size a l.length l := by
  obtain ⟨bs, h, hbl⟩ := h
  have hlen : bs.length = l.length := by rw [← hbl, envT_len]
  have hlt := h.lt
  rcases h.2 with ⟨h0, h1⟩ | ⟨g, cap, cur, rfl, hbase, hh, h1, h2, h3, h4⟩
  · have hz : l = [] := List.eq_nil_of_length_eq_zero h1
    subst hz
    exact ⟨none, 0, h0, Typs.zero _ _ _⟩
  · refine ⟨_, cap, rfl, rfl, by omega, fun _ => ⟨g, 0, rfl, (hlt g rfl).2, fun j x hj => ?_⟩⟩
    have hj' : j < l.length := (List.getElem?_eq_some_iff.1 hj).1
    have hb' := List.getElem?_eq_getElem (l := bs) (i := j) (by omega)
    have hx : x = ((bs[j]'(by omega)).nm.toList, (bs[j]'(by omega)).k) := by
      rw [← hbl] at hj
      unfold envT at hj
      rw [List.getElem?_map, hb'] at hj
      exact (Option.some.inj hj).symm
    have hc : ∀ i, i < 3 → w.cell? ⟨g, 0 + j * 3 + i, none⟩ = (encTT (bs[j]'(by omega)))[i]? := fun i hi => by
      rw [cell_of_row w g _ cur 46 (0, 0) hh]
      have : (cur.toList.take (l.length * 3))[j * 3 + i]? = (bs.flatMap encTT)[j * 3 + i]? := by rw [h4]
      rw [List.getElem?_take, if_pos (by omega)] at this
      rw [Nat.zero_add, ← Array.getElem?_toList, this]
      exact flat_at (f := encTT) (m := 3) (fun _ => rfl) bs j _ hb' i hi
    refine ⟨(bs[j]'(by omega)).nm, (bs[j]'(by omega)).z, ⟨?_, ?_, ?_⟩, by rw [hx]⟩
    · have := hc 0 (by omega); rw [Nat.add_zero] at this; rw [this]; rfl
    · rw [hc 1 (by omega), hx]; rfl
    · rw [hc 2 (by omega)]; rfl

theorem Below.undrew1 {B : Nat} {w w' : World} (h : Below B w.drew w') : Below B w w' := ⟨h.os, h.tape, h.output, h.size, h.block⟩
theorem kinds_at {env : List (Str × Val)} {k : Nat} {x : Str × Val} (h : env[k]? = some x) : kindsOf (env.take (k + 1)) = kindsOf (env.take k) ++ [(x.1, x.2.kind)] := by
  obtain ⟨h1, e⟩ := List.getElem?_eq_some_iff.1 h
  rw [List.take_succ_eq_append_getElem h1, e]
  unfold kindsOf
  rw [List.map_append]
  rfl
set_option maxHeartbeats 4000000 in
theorem typings_any (a : Option Addr) (n c : Nat) (env : List (Str × Val)) (w : World) (hE : Binds w w.heap.size a n env) (hn : n ≤ 1000) :
    Calls Try.prog 12 #[.slice a n c] w fun e w' => (∃ a' c', e = .returned (.slice a' n c') ∧ Typs w' w'.heap.size a' n (kindsOf env)) ∧ Below w.heap.size w w' := by
  have HL := Lib.hid hE.1
  have HE := Lib.hid hE
  clear hE
  go_enter Try.func12, Try.ntmps12
  go_wp2
  go_loopw [3, 4] (fun s i wr => ∃ (j : Nat) (v : Value), j ≤ n ∧ i = .int .i64 j ∧ v = s ∧ Hid (YOwn wr w.heap.size v (kindsOf (env.take j))) ∧ Hid (Below w.heap.size w wr)) (fun _ i _ => n - (intOf i).toNat)
  case atStart => exact ⟨0, _, Nat.zero_le _, rfl, rfl, Lib.hid (by rw [List.take_zero]; exact YOwn.zero _ _), Lib.hid (Below.refl _ _)⟩
  case round =>
    obtain ⟨j, v, hj, rfl, hv, HO, HBr⟩ := hrel
    subst hv
    have hzr := HBr.out.size
    by_cases hlt : j < n
    · obtain ⟨b, off, x, s, t, la, ln, lc, rfl, hbb, hx, ⟨q0, q1, q2, q3, q4⟩, hs, ht, hnums⟩ := HE.out.at_ hlt
      have r0 := (HBr.out.cell (p := ⟨b, off + j * 5, none⟩) hbb).trans q0
      have r1 := (HBr.out.cell (p := ⟨b, off + j * 5 + 1, none⟩) hbb).trans q1
      have hat := kinds_at hx
      rw [← hs] at hat
      have HAT := Lib.hid hat
      obtain ⟨xk, hxk⟩ : ∃ xk, xk = x.2.kind := ⟨_, rfl⟩
      rw [← hxk] at r1 HAT
      have hlo : (kindsOf (env.take j)).length ≤ 1000 := by unfold kindsOf; rw [List.length_map, List.length_take]; omega
      have HOD := Lib.hid (show YOwn wr.drew w.heap.size v (kindsOf (env.take j)) from HO.out)
      clear hat hx q0 q1 q2 q3 q4 hs ht hnums hxk
      go_wp2
      go_region_law (first
        | (refine step_append_typs (by rfl) (.tmp 11) (.tmp 25) (by rfl) w.heap.size v (kindsOf (env.take j)) _ 1 1 [(s.toList, xk)] (by rfl) (by rfl) (HOD.out.alloc _) (YRow.one ⟨s, xk, 0⟩ rfl rfl) (by simp; omega) (by omega) ?_
           intro v3 w3 ho hb
           have HO3 := Lib.hid ho
           have HB3 := Lib.hid (HBr.out.trans (Below.undrew1 (((up1 wr.drew _).mono hzr).trans hb)))
           clear ho hb)
        | fail)
      all_goals
        go_wp2
        go_roundw
        case rel => exact ⟨j + 1, _, by omega, by go_num, rfl, Lib.hid (by rw [HAT.out]; exact HO3.out), HB3⟩
        case measure => simp [intOf]; omega
    · have hsees := (show YOwn wr w.heap.size v (kindsOf env) by
        have h := HO.out
        rw [List.take_of_length_le (by have := HL.out; omega)] at h
        exact h).sees (by unfold kindsOf; rw [List.length_map, HL.out]; omega)
      have hlen : (kindsOf env).length = n := by unfold kindsOf; rw [List.length_map, HL.out]
      rw [hlen] at hsees
      obtain ⟨aa, ac, hua, hab⟩ := hsees
      subst hua
      have HA := Lib.hid hab
      clear hab hlen
      go_wp2
      go_ret
      exact ⟨⟨aa, ac, rfl, HA.out⟩, HBr.out⟩
end Go.Proofs.Ythbakfceaaaamaa
