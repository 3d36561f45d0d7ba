/- Rows of slices of arms; contract of the reference's turnArms. -/
import Derived.Test.YtbbdmipfbnfpfaaGreatTuInts
namespace Go.Proofs.YtbbdmipfbnfpfaaGreat
open Go.RowKit

/-- The slice with this address and length reads as these rows of arms. -/
def ArmsR (w : World) (bound : Nat) (a : Option Addr) (n : Nat) (f : List (List ArmL)) : Prop :=
  f.length = n ∧ n ≤ 1000000 ∧ (0 < n → ∃ b off, a = some ⟨b, off, none⟩ ∧ b < bound ∧ ∀ (j : Nat) (l : List ArmL), f[j]? = some l → ∃ (aa : Option Addr) (an ac : Nat), w.cell? ⟨b, off + j, none⟩ = some (.slice aa an ac) ∧ Arms w bound aa an l)
section
variable {w w' : World} {bound bound' : Nat} {a : Option Addr} {n : Nat} {f : List (List ArmL)}
theorem ArmsR.keep (h : ArmsR w bound a n f) (hk : ∀ p : Addr, p.block < bound → w'.cell? p = w.cell? p) : ArmsR w' bound a n f :=
  ⟨h.1, h.2.1, fun hn => by
    obtain ⟨b, off, e, hb, hc⟩ := h.2.2 hn
    refine ⟨b, off, e, hb, fun j x hj => ?_⟩
    obtain ⟨aa, an, ac, c0, h1⟩ := hc j x hj
    exact ⟨aa, an, ac, (hk _ hb).trans c0, h1.keep hk⟩⟩
theorem ArmsR.below (h : ArmsR w bound a n f) (hb : Below bound w w') : ArmsR w' bound a n f := h.keep fun _ hp => hb.cell hp
theorem ArmsR.more (h : ArmsR w bound a n f) (hb : bound ≤ bound') : ArmsR w bound' a n f :=
  ⟨h.1, h.2.1, fun hn => by
    obtain ⟨b, off, e, hlt, hc⟩ := h.2.2 hn
    refine ⟨b, off, e, by omega, fun j x hj => ?_⟩
    obtain ⟨aa, an, ac, c, h1⟩ := hc j x hj
    exact ⟨aa, an, ac, c, h1.more hb⟩⟩
theorem ArmsR.on {W W' : World} {a : Option Addr} {n : Nat} {f : List (List ArmL)} (h : ArmsR W W.heap.size a n f) (hb : Below W.heap.size W W') : ArmsR W' W'.heap.size a n f := (h.below hb).more hb.size
theorem ArmsR.at_ (h : ArmsR w bound a n f) {k : Nat} (hk : k < n) : ∃ (b off : Nat) (aa : Option Addr) (an ac : Nat) (l : List ArmL), a = some ⟨b, off, none⟩ ∧ b < bound ∧ f[k]? = some l ∧ w.cell? ⟨b, off + k, none⟩ = some (.slice aa an ac) ∧ Arms w bound aa an l := by
  obtain ⟨b, off, e, hb, hc⟩ := h.2.2 (by omega)
  have hk' : k < f.length := by rw [h.1]; exact hk
  obtain ⟨aa, an, ac, c, h1⟩ := hc k _ (List.getElem?_eq_getElem hk')
  exact ⟨b, off, aa, an, ac, f[k], e, hb, List.getElem?_eq_getElem hk', c, h1⟩
end
def encS3 (r : Option Addr × Nat × Nat) : Value := .slice r.1 r.2.1 r.2.2
/-- The slice v, which the call made, holds slices that read as these rows of arms; these lie below bound. -/
def ROwn (w : World) (base bound : Nat) (v : Value) (f : List (List ArmL)) : Prop :=
  ∃ rs : List (Option Addr × Nat × Nat), w.ownsRow base 42 1 v f.length (rs.map encS3) ∧ rs.length = f.length ∧ ∀ (j : Nat) (r : Option Addr × Nat × Nat) (l : List ArmL), rs[j]? = some r → f[j]? = some l → Arms w bound r.1 r.2.1 l
theorem ROwn.zero (w : World) (base bound : Nat) : ROwn w base bound (.slice none 0 0) [] := ⟨[], World.ownsRow_nil w base 42 1, rfl, fun j r l h => by simp at h⟩
theorem info_armS : (Tryz.prog.info? 42).map (fun i => (i.zero, i.size, i.bytes)) = some (some (.slice none 0 0), 1, 24) := by kernel_rfl
theorem wpList_append_row {ops : Array Oper} {rest : List Oper} {o : Oper} {a : Act} {Q : Exit → Act → World → Prop} {W : World} {cells : Array Value} (hgd : o.guard = none) (s x : Operand)
    (ho : o.op = .call { callee := .builtin .append, args := #[s, x], argTypes := #[52, 52] }) (base bound : Nat) (v : Value) (f : List (List ArmL)) (aa : Option Addr) (an ac : Nat) (l : List ArmL) (hc : cells = #[.slice aa an ac])
    (hs : a.eval s = v) {g : Nat} (hx : a.eval x = .slice (some ⟨g, 0, none⟩) 1 1) (hg : g = W.heap.size) (hB : ROwn W base bound v f) (hA : Arms W bound aa an l) (hb : base ≤ W.heap.size) (hbb : bound ≤ base) (hlen : f.length ≤ 1000000)
    (w0 : World) (hw : Below base w0 W)
    (h : ∀ v' w', ROwn w' base bound v' (f ++ [l]) → Below base w0 w' → wpList Tryz.prog ops Q rest (a.put o.dst v') w') : wpList Tryz.prog ops Q (o :: rest) a (W.alloc (.cells cells 42)) := by
  subst hc hg
  obtain ⟨i0, hi0, hzz⟩ := Option.map_eq_some_iff.1 info_armS
  simp only [Prod.mk.injEq] at hzz
  obtain ⟨hz, hs1, hb1⟩ := hzz
  obtain ⟨rs, hown, hrl, hrd⟩ := hB
  have hown1 : (W.alloc (.cells #[.slice aa an ac] 42)).ownsRow base 42 1 v f.length (rs.map encS3) := World.ownsRow.alloc hown _
  obtain ⟨v', w', hrun, hown', hgr, _, _⟩ := run_append_own_at (P := Tryz.prog) (W.alloc (.cells #[.slice aa an ac] 42)) base 52 o.type 42 i0 _ 1 24 Tryz.underlying52 hi0 hz hs1 hb1 rfl (by omega) v f.length (rs.map encS3) hown1
    ⟨W.heap.size, 0, none⟩ 1 1 [.slice aa an ac] rfl
    (fun j u hu => by
      have hj : j = 0 := by
        rcases Nat.eq_zero_or_pos j with h | h
        · exact h
        · rw [List.getElem?_eq_none (by simp; omega)] at hu; cases hu
      subst hj
      obtain rfl : (Value.slice aa an ac) = u := by simpa using hu
      rw [Go.WideShapes.add_plain, cell_of_row _ _ _ _ _ _ (heap_alloc_new W _)]
      rfl)
    (fun u hu => by rw [List.mem_singleton.1 hu]; rfl) (by unfold maxLen; omega) (by omega) (by simp; omega)
  have hbel : ∀ B, B ≤ base → ∀ w0, Below B w0 W → Below B w0 w' := fun B hB w0 hw0 => (hw0.alloc (by omega) _).grown hgr (by simp; omega) (fun k hk => by
    have := hown1.lt k hk
    omega)
  refine wpList_append_lx hgd s x _ ho _ _ _ hs hx hrun (h v' w' ⟨rs ++ [(aa, an, ac)], ?_, by simp [hrl], fun j r k hj hk => ?_⟩ (hbel base (Nat.le_refl _) w0 hw))
  · rw [List.length_append, List.map_append]
    exact hown'
  · have hk2 := hbel bound hbb W (Below.refl _ _)
    rcases Nat.lt_or_ge j rs.length with hlt | hge
    · rw [List.getElem?_append_left hlt] at hj
      rw [List.getElem?_append_left (by omega)] at hk
      exact (hrd j r k hj hk).below hk2
    · rw [List.getElem?_append_right hge] at hj
      rw [List.getElem?_append_right (by omega), ← hrl] at hk
      have h0 : j - rs.length = 0 := by
        obtain ⟨h1, _⟩ := List.getElem?_eq_some_iff.1 hj
        simpa using h1
      rw [h0] at hj hk
      obtain rfl : (aa, an, ac) = r := by simpa using hj
      obtain rfl : l = k := by simpa using hk
      exact hA.below hk2
theorem ROwn.sees {w : World} {base bound : Nat} {v : Value} {f : List (List ArmL)} (h : ROwn w base bound v f) (hl : f.length ≤ 1000000) (hb : bound ≤ w.heap.size) : ∃ a c, v = .slice a f.length c ∧ ArmsR w w.heap.size a f.length f := by
  obtain ⟨rs, h, hrl, hrd⟩ := h
  have hlt := h.lt
  rcases h.2 with ⟨h0, h1⟩ | ⟨g, cap, cur, rfl, hbase, hh, h1, h2, h3, h4⟩
  · have hz : f = [] := List.eq_nil_of_length_eq_zero h1
    subst hz
    exact ⟨none, 0, h0, rfl, by simp, fun h => absurd h (Nat.lt_irrefl 0)⟩
  · refine ⟨_, cap, rfl, rfl, hl, fun _ => ⟨g, 0, rfl, (hlt g rfl).2, fun j l hj => ?_⟩⟩
    have hj' : j < f.length := (List.getElem?_eq_some_iff.1 hj).1
    have hr := List.getElem?_eq_getElem (l := rs) (i := j) (by omega)
    refine ⟨(rs[j]'(by omega)).1, (rs[j]'(by omega)).2.1, (rs[j]'(by omega)).2.2, ?_, (hrd j _ l hr hj).more hb⟩
    rw [cell_of_row w g _ cur 42 (0, 0) hh]
    have : (cur.toList.take (f.length * 1))[j]? = (rs.map encS3)[j]? := by rw [h4]
    rw [List.getElem?_take, if_pos (by omega), List.getElem?_map, hr] at this
    rw [Nat.zero_add, ← Array.getElem?_toList, this]
    rfl

set_option maxHeartbeats 8000000 in
theorem tuArr_any (nm : ByteArray) (a : Option Addr) (n c : Nat) (ts : List TurnL) (w : World) (bound : Nat) (hb : bound ≤ w.heap.size) (h : Turns w bound a n ts) (hn : n ≤ 1000) :
    Calls Tryz.prog 27 #[.agg #[.string nm, .slice a n c]] w fun e w' => (∃ ra rc, e = .returned (.slice ra n rc) ∧ ArmsR w' w'.heap.size ra n (ts.map TurnL.arms)) ∧ Below w.heap.size w w' := by
  have HLEN := Lib.hid h.1
  have HN := Lib.hid h
  have HB0 := Lib.hid (tu1 w (.cells #[.string nm, .slice a n c] 24))
  have HL := Lib.hid (LBox.new w nm a n c)
  clear h
  go_enter Tryz.func27, Tryz.ntmps27
  go_wp2
  go_loopw [3, 4] (fun s i wr => ∃ (j : Nat) (v : Value), j ≤ n ∧ i = .int .i64 j ∧ v = s ∧ Hid (ROwn wr (w.heap.size + 1) bound v ((ts.take j).map TurnL.arms)) ∧ Hid (Below (w.heap.size + 1) (w.alloc (.cells #[.string nm, .slice a n c] 24)) wr)) (fun _ i _ => n - (intOf i).toNat)
  case atStart => exact ⟨0, _, Nat.zero_le _, rfl, rfl, Lib.hid (by rw [List.take_zero]; exact ROwn.zero _ _ _), Lib.hid (Below.refl _ _)⟩
  case round =>
    obtain ⟨j, v, hj, rfl, hv, HO, HBr⟩ := hrel
    subst hv
    have hzr := HBr.out.size
    rw [World.size_alloc] at hzr
    have HLr := Lib.hid (HL.out.on (W' := wr) (by rw [World.size_alloc]; exact HBr.out))
    obtain ⟨lc0, lc1⟩ := HLr.out.cells
    have HBW := Lib.hid (HB0.out.trans (HBr.out.mono (by omega)))
    by_cases hlt : j < n
    · obtain ⟨b, off, kd, s, aa, an, ac, l, rfl, hbb, hx, ⟨q0, q1, q2⟩, hs, hal⟩ := HN.out.at_ hlt
      have r2 := (HBW.out.cell (p := ⟨b, off + j * 3 + 2, none⟩) (by show b < _; omega)).trans q2
      have HAL := Lib.hid (hal.below (HBW.out.mono hb))
      have HST := Lib.hid (show (ts.take (j + 1)).map TurnL.arms = (ts.take j).map TurnL.arms ++ [l] by rw [tuTake_at hx, List.map_append]; rfl)
      have hlo : ((ts.take j).map TurnL.arms).length ≤ 1000 := by rw [List.length_map, List.length_take]; omega
      clear q0 q1 q2 hs hal hx
      go_wp2_with (first
        | (at_builtin
           refine wpList_append_row rfl (.tmp 12) (.tmp 19) rfl (w.heap.size + 1) bound v ((ts.take j).map TurnL.arms) aa an ac l rfl rfl rfl rfl HO.out HAL.out hzr (by omega) (by omega) (w.alloc (.cells #[.string nm, .slice (some ⟨b, off, none⟩) n c] 24)) HBr.out ?_
           intro v3 w3 ho hb3
           have HO3 := Lib.hid ho
           have HB3 := Lib.hid hb3
           clear ho hb3)
        | fail)
      go_roundw
      case rel => exact ⟨j + 1, _, by omega, by go_num, rfl, Lib.hid (by rw [HST.out]; exact HO3.out), HB3⟩
      case measure => simp [intOf]; omega
    · have hsees := (show ROwn wr (w.heap.size + 1) bound v (ts.map TurnL.arms) by
        have h := HO.out
        rw [List.take_of_length_le (by have := HLEN.out; omega)] at h
        exact h).sees (by rw [List.length_map, HLEN.out]; omega) (by omega)
      rw [List.length_map, HLEN.out] at hsees
      obtain ⟨ra, rc, hva, hra⟩ := hsees
      subst hva
      have HA := Lib.hid hra
      clear hra
      go_wp2
      go_ret
      exact ⟨⟨ra, rc, rfl, HA.out⟩, HBW.out⟩
end Go.Proofs.YtbbdmipfbnfpfaaGreat
