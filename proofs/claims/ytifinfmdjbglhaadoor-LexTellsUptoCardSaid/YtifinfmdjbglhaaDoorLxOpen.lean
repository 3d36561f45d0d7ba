/- A slice of tokens that came in reads as some tokens; the bound on what came in bounds their texts. -/
import Derived.Test.YtifinfmdjbglhaaDoorRows
import Derived.Test.YtifinfmdjbglhaaDoorLxSame
import Derived.Test.YtifinfmdjbglhaaDoorLxDoor
import Derived.Deep.Slices
import Derived.Deep.Strs
import Derived.ChangeSame
namespace Go.Proofs.YtifinfmdjbglhaaDoor
open Go.ChangeShapes Go.WideShapes Go.ChangeAt Go.RowKit Go.Deep

theorem bulk_part {H : Type} {d : DataW H} : ∀ {l : List (DataW H)}, d ∈ l → Rows.uptoBulk d ≤ Rows.uptoBulkAll l
  | [], h => by cases h
  | x :: r, h => by
    simp only [Rows.uptoBulkAll]
    rcases List.mem_cons.1 h with rfl | h
    · omega
    · have := bulk_part h; omega
theorem bulk_pos {H : Type} (d : DataW H) : 1 ≤ Rows.uptoBulk d := by
  cases d with
  | lit l => cases l <;> simp [Rows.uptoBulk]
  | nil => simp [Rows.uptoBulk]
  | ptr d => simp [Rows.uptoBulk]
  | slice elems spare => simp [Rows.uptoBulk]
  | agg parts => simp [Rows.uptoBulk]
  | iface t d => simp [Rows.uptoBulk]
  | map entries => simp [Rows.uptoBulk]
  | held h => simp [Rows.uptoBulk]
theorem bulk_count {H : Type} : ∀ l : List (DataW H), l.length ≤ Rows.uptoBulkAll l
  | [] => by simp [Rows.uptoBulkAll]
  | x :: r => by
    have h1 := bulk_pos x
    have h2 := bulk_count r
    simp only [Rows.uptoBulkAll, List.length_cons]
    omega

theorem tok_cells : Tryd.prog.cellsOf 35 = 3 := by kernel_rfl
theorem int_cells : Tryd.prog.cellsOf 3 = 1 := by kernel_rfl
theorem str_cells : Tryd.prog.cellsOf 9 = 1 := by kernel_rfl

theorem list3 {α : Type _} : ∀ {l : List α}, l.length = 3 → ∃ a b c, l = [a, b, c]
  | [a, b, c], _ => ⟨a, b, c, rfl⟩
  | [], h => by simp at h
  | [_], h => by simp at h
  | [_, _], h => by simp at h
  | _ :: _ :: _ :: _ :: _, h => by simp at h
theorem open_tok {H : Type} {enc : TypeId × Value → H} {W : World} {fuel : Nat} {cs : List Value} {x : DataW H × List MemPlace}
    (h : DataW.trod enc Tryd.prog W 0 (fun _ => true) true fuel 35 cs = some x) :
    ∃ (k p : Int) (s : ByteArray), cs = [.int .i64 k, .string s, .int .i64 p] ∧ s.size + 1 ≤ Rows.uptoBulk x.1 := by
  obtain ⟨y0, y1, y2, n, rfl, hl, h0, h1, h2⟩ := trod_struct3 Tryd.underlying35 h
  rw [tok_cells] at hl
  have g0 : DataW.trod enc Tryd.prog W 0 (fun _ => true) true n 3 ((cs.drop 0).take (Tryd.prog.cellsOf 3)) = some y0 := h0
  have g1 : DataW.trod enc Tryd.prog W 0 (fun _ => true) true n 9 ((cs.drop 1).take (Tryd.prog.cellsOf 9)) = some y1 := h1
  have g2 : DataW.trod enc Tryd.prog W 0 (fun _ => true) true n 3 ((cs.drop 2).take (Tryd.prog.cellsOf 3)) = some y2 := h2
  rw [int_cells] at g0 g2
  rw [str_cells] at g1
  clear h0 h1 h2
  obtain ⟨v0, v1, v2, rfl⟩ := list3 hl
  simp only [List.drop_zero, List.drop_succ_cons, List.take_succ_cons, List.take_zero] at g0 g1 g2
  obtain ⟨k, e0, f0, _⟩ := DataW.trod_int Tryd.underlying3 g0
  obtain ⟨s, e1, f1, _⟩ := DataW.trod_string Tryd.underlying9 g1
  obtain ⟨p, e2, f2, _⟩ := DataW.trod_int Tryd.underlying3 g2
  injection e0 with e0 _
  injection e1 with e1 _
  injection e2 with e2 _
  subst e0 e1 e2 f0 f1 f2
  refine ⟨k, p, s, rfl, ?_⟩
  show _ ≤ Rows.uptoBulk (DataW.agg [_, DataW.lit (.string s.data.toList), _])
  simp only [Rows.uptoBulk, Rows.uptoBulkAll]
  simp
  omega

/-- The tokens of a slice that came in. -/
theorem open_toks {H : Type} {enc : TypeId × Value → H} {W : World} {a0 : Option Addr} {len cap : Nat} {d0 : DataW H} {p : List MemPlace}
    (h0 : DataW.Trod enc Tryd.prog W 0 (fun _ => true) true 22 (.slice a0 len cap) d0 p) (hk : Rows.uptoBulk d0 ≤ 1048576) :
    ∃ l : List TokI, Sees W W.heap.size a0 len l ∧ len ≤ cap ∧ cap ≤ maxLen ∧ ∀ x ∈ l, x.text.length ≤ 1100000 := by
  obtain ⟨fuel, hf⟩ := h0
  rcases open_slice Tryd.underlying22 hf with ⟨hcs, hx⟩ | ⟨a, len', cap', m, n, D, Pl, hcs, _, hl, hm, hmm, hx, hel⟩
  · simp [Value.cells] at hcs
    obtain ⟨rfl, rfl, rfl⟩ := hcs
    exact ⟨[], Sees.zero _ _ _, Nat.le_refl 0, Nat.zero_le _, fun x hx => by cases hx⟩
  · simp [Value.cells] at hcs
    obtain ⟨rfl, rfl, rfl⟩ := hcs
    simp only [Prod.mk.injEq] at hx
    obtain ⟨rfl, _⟩ := hx
    simp only [if_true] at hmm
    have hbulk : Rows.uptoBulkAll ((List.range len).map D) ≤ 1048576 := by
      simp only [Rows.uptoBulk] at hk
      omega
    have hcount := bulk_count ((List.range len).map D)
    rw [List.length_map, List.length_range] at hcount
    have each : ∀ i, i < len → ∃ t : TokI, W.cell? (a.add (i * 3)) = some (.int .i64 t.kind) ∧ W.cell? (a.add (i * 3 + 1)) = some (.string (lxS t.text)) ∧ W.cell? (a.add (i * 3 + 2)) = some (.int .i64 t.place) ∧ t.text.length ≤ 1100000 := by
      intro i hi
      obtain ⟨cs', h1, h2⟩ := hel i (by omega)
      rw [tok_cells] at h1
      obtain ⟨_, hlen, hcell⟩ := World.cells?_some h1
      obtain ⟨k, pl, s, rfl, hs⟩ := open_tok h2
      have hle := bulk_part (d := D i) (l := (List.range len).map D) (List.mem_map.2 ⟨i, List.mem_range.2 hi, rfl⟩)
      have e0 := hcell 0 (by omega)
      have e1 := hcell 1 (by omega)
      have e2 := hcell 2 (by omega)
      rw [add_add] at e0 e1 e2
      refine ⟨⟨k, s.toList, pl⟩, by simpa using e0, ?_, by simpa using e2, ?_⟩
      · have : lxS s.toList = s := lxS_inj (by rw [lxS_toList])
        show _ = some (Value.string (lxS s.toList))
        rw [this]
        simpa using e1
      · show s.toList.length ≤ _
        rw [lxLen]
        have hs' : s.size + 1 ≤ Rows.uptoBulk (D i) := hs
        omega
    haveI : Inhabited TokI := ⟨⟨0, [], 0⟩⟩
    obtain ⟨f, hfn⟩ := choose_lt each
    refine ⟨(List.range len).map f, ⟨by simp, by omega, fun hpos => ?_⟩, hl, hm, ?_⟩
    · obtain ⟨b, off, spot⟩ := a
      have hspot : spot = none := by
        have := (hfn 0 hpos).1
        simpa [Addr.add] using World.cell?_spot this
      subst hspot
      refine ⟨b, off, rfl, ?_, fun j t hj => ?_⟩
      · have := (hfn 0 hpos).1
        rw [add_plain] at this
        exact cell_lt2 this
      · rw [List.getElem?_map] at hj
        obtain ⟨i, hi, rfl⟩ := Option.map_eq_some_iff.1 hj
        have hj' : j < len := by
          rcases Nat.lt_or_ge j len with h | h
          · exact h
          · rw [List.getElem?_eq_none (by simpa using h)] at hi; cases hi
        rw [List.getElem?_range hj'] at hi
        injection hi with hi
        subst hi
        obtain ⟨c0, c1, c2, _⟩ := hfn j hj'
        rw [add_plain] at c0 c1 c2
        exact ⟨c0, by rw [Nat.add_assoc]; exact c1, by rw [Nat.add_assoc]; exact c2⟩
    · intro x hx
      obtain ⟨i, hi, rfl⟩ := List.mem_map.1 hx
      exact (hfn i (List.mem_range.1 hi)).2.2.2
end Go.Proofs.YtifinfmdjbglhaaDoor
