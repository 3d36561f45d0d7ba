/- Contract of the reference's moved: arms in order, each Next replaced by its place in a row. -/
import Derived.Test.YtbbdmipfbnfpfaaTuSame
import Derived.Laws.OwnMore
namespace Go.Proofs.Ytbbdmipfbnfpfaa
open Go.RowKit

theorem flatA_set : ∀ (rs : List AR) (j : Nat) (r : AR) (v : Int), rs[j]? = some r → (rs.set j ⟨r.s, r.k, r.u, v⟩).flatMap encAR = (rs.flatMap encAR).set (j * 4 + 3) (.int .i64 v)
  | [], j, r, v, h => by cases h
  | x :: rs, 0, r, v, h => by
    obtain rfl := Option.some.inj h
    rw [List.set_cons_zero, List.flatMap_cons, List.flatMap_cons]
    rfl
  | x :: rs, j + 1, r, v, h => by
    rw [List.set_cons_succ, List.flatMap_cons, List.flatMap_cons, flatA_set rs j r v h]
    have e : (j + 1) * 4 + 3 = (encAR x).length + (j * 4 + 3) := by show _ = 4 + _; omega
    rw [e, List.set_append_right _ _ (by omega), Nat.add_sub_cancel_left]
theorem AOwn.stored {w : World} {base g n c : Nat} {l : List ArmL} (h : AOwn w base (.slice (some ⟨g, 0, none⟩) n c) l) (hn : l.length = n) {j : Nat} {x : ArmL} (hj : l[j]? = some x) (v : Int) :
    AOwn (w.setCell ⟨g, j * 4 + 3, none⟩ (.int .i64 v)) base (.slice (some ⟨g, 0, none⟩) n c) (l.set j ⟨x.label, x.ck, x.cn, v⟩) ∧ w.frozen? ⟨g, j * 4 + 3, none⟩ = false := by
  obtain ⟨rs, h, hl, hok⟩ := h
  subst hn
  have hrl : rs.length = l.length := by rw [← hl, List.length_map]
  have hjl : j < l.length := (List.getElem?_eq_some_iff.1 hj).1
  have hr := List.getElem?_eq_getElem (l := rs) (i := j) (by omega)
  have hx : x = armR (rs[j]'(by omega)) := by
    rw [← hl, List.getElem?_map, hr] at hj
    exact (Option.some.inj hj).symm
  have hst := h.stored (j * 4 + 3) (.int .i64 v)
  refine ⟨⟨rs.set j ⟨(rs[j]'(by omega)).s, (rs[j]'(by omega)).k, (rs[j]'(by omega)).u, v⟩, ?_, ?_, fun t ht => ?_⟩, h.frozenAt _⟩
  · rw [flatA_set rs j _ v hr, List.length_set]
    exact hst.1
  · rw [List.map_set, hl, hx]
    rfl
  · rcases List.mem_or_eq_of_mem_set ht with ht | rfl
    · exact hok t ht
    · have ho := hok _ (List.getElem_mem (by omega : j < rs.length))
      exact ⟨ho.1, ho.2⟩
theorem AOwn.spot {w : World} {base : Nat} {v : Value} {l : List ArmL} (h : AOwn w base v l) (hl : 0 < l.length) : ∃ g c, v = .slice (some ⟨g, 0, none⟩) l.length c ∧ base ≤ g ∧ g < w.heap.size := by
  obtain ⟨rs, h, _, _⟩ := h
  have hlt := h.lt
  rcases h.2 with ⟨_, h0⟩ | ⟨g, cap, cur, rfl, hbase, _⟩
  · omega
  · exact ⟨g, cap, rfl, hbase, (hlt g rfl).2⟩
/-- Some arms moved, the others not yet. -/
def mixA (row : List Nat) (l : List ArmL) (k : Nat) : List ArmL := (l.take k).map (fun a => toA a (row.idxOf a.next.toNat)) ++ l.drop k
theorem mixA_len (row : List Nat) (l : List ArmL) (k : Nat) : (mixA row l k).length = l.length := by
  unfold mixA
  rw [List.length_append, List.length_map, List.length_take, List.length_drop]
  omega
theorem mixA_at {row : List Nat} {l : List ArmL} {k : Nat} {x : ArmL} (h : l[k]? = some x) : (mixA row l k)[k]? = some x ∧ (mixA row l k).set k (toA x (row.idxOf x.next.toNat)) = mixA row l (k + 1) := by
  obtain ⟨h1, e⟩ := List.getElem?_eq_some_iff.1 h
  have hl : ((l.take k).map (fun a => toA a (row.idxOf a.next.toNat))).length = k := by rw [List.length_map, List.length_take]; omega
  unfold mixA
  constructor
  · rw [List.getElem?_append_right (by omega), hl, Nat.sub_self, List.getElem?_drop, Nat.add_zero]
    exact h
  · rw [List.set_append_right _ _ (by omega), hl, Nat.sub_self, tuTake_at h, List.map_append, List.drop_eq_getElem_cons h1, e, List.set_cons_zero, List.append_assoc]
    rfl

end Go.Proofs.Ytbbdmipfbnfpfaa
