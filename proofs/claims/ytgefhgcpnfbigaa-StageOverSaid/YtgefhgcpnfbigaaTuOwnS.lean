/- Contract of the program's sorted: a copy of the arms, by ascending labels (slices.SortFunc with a closure). -/
import Derived.Test.YtgefhgcpnfbigaaTuOwnV
import Derived.Test.YtgefhgcpnfbigaaTuOwns
import Derived.Test.YtgefhgcpnfbigaaTuRows
import Derived.Test.YtgefhgcpnfbigaaShelfS
namespace Go.Proofs.Ytgefhgcpnfbigaa
open Go.RowKit Go.Sort Go.Proofs

instance : Inhabited AR := ⟨⟨⟨#[]⟩, 0, ⟨#[]⟩, 0⟩⟩
def cmpAR (x y : AR) : Int := cmpS x.s.toList y.s.toList
theorem ltAR (x y : AR) : ltOf cmpAR x y = decide (x.s.toList < y.s.toList) := by
  unfold ltOf cmpAR
  rw [cmpS_less, bytesLess_eq]
theorem swoAR : SWO (ltOf cmpAR) where
  irrefl x := by rw [ltAR]; simp [List.lt_irrefl]
  trans x y z h1 h2 := by
    rw [ltAR, decide_eq_true_eq] at *
    exact List.lt_trans h1 h2
  ntrans x y z h1 h2 := by
    rw [ltAR, decide_eq_false_iff_not] at *
    exact List.not_lt.2 (List.le_trans (List.not_lt.1 h2) (List.not_lt.1 h1))
theorem alloc_grow (w : World) (o : Obj) : w.alloc o = grow w #[o] := by
  unfold grow World.alloc
  rw [Array.push_eq_append]
theorem flatAR (rs : List AR) : flatK encAR 4 rs.toArray = (rs.flatMap encAR).toArray := by
  have hs : (flatK encAR 4 rs.toArray).size = (rs.flatMap encAR).toArray.size := by rw [size_flatK, List.size_toArray, List.size_toArray, encARs_len]
  refine ext_get! hs fun t ht => ?_
  rw [size_flatK] at ht
  have ht2 : t / 4 < rs.length := by simp at ht; omega
  rw [get_flatK _ _ _ _ ht]
  have h1 := flatA_at rs (t / 4) _ (List.getElem?_eq_getElem ht2) (t % 4) (by omega)
  rw [show t / 4 * 4 + t % 4 = t by omega] at h1
  have e : rs.toArray[t / 4]! = rs[t / 4] := by simp [getElem!_pos, ht2]
  rw [e]
  rw [Array.getElem!_eq_getD, Array.getD_eq_getD_getElem?, List.getElem?_toArray, h1, List.getElem!_eq_getElem?_getD]
theorem below_grow {B : Nat} {w0 w : World} (h : Below B w0 w) (hB : B ≤ w.heap.size) (os : Array Obj) : Below B w0 (grow w os) :=
  ⟨h.os, h.tape, h.output, by have := h.size; unfold grow; simp; omega, fun k hk => by
    rw [← h.block k hk]
    unfold grow
    rw [Array.getElem?_append_left (by omega)]⟩
theorem ownsRow_grow {w : World} {base : Nat} {e : TypeId} {size : Nat} {v : Value} {n : Nat} {xs : List Value} (h : w.ownsRow base e size v n xs) (os : Array Obj) : (grow w os).ownsRow base e size v n xs :=
  ownsRow_on h (below_grow (Below.refl _ _) (Nat.le_refl _) os) (Nat.le_refl _)
theorem below_putRowAR {B : Nat} {w0 w : World} {g q : Nat} {d : Array AR} (h : Below B w0 w) (hg : B ≤ g) : Below B w0 (putRowK encAR 4 (Sort.ahead w q) g 0 d) := Lib.below_putRow h hg
/-- What is sorted by its labels is the sorted list. -/
theorem sortAR {rs : List AR} {d : Array AR} (hn : ((rs.map armR).map ArmL.label).Nodup) (hp : PermIn 0 rs.toArray.size rs.toArray d) (hs : SortedIn (ltOf cmpAR) 0 rs.toArray.size d) : d.toList.map armR = sortA (rs.map armR) := by
  obtain ⟨h1, _, h3⟩ := hp
  have e1 : (d.extract 0 rs.toArray.size).toList = d.toList := by rw [← h1]; simp
  have e2 : (rs.toArray.extract 0 rs.toArray.size).toList = rs := by simp
  rw [e1, e2] at h3
  have hp2 : (d.toList.map armR).Perm (sortA (rs.map armR)) := (h3.map armR).trans (sortA_perm _).symm
  refine upA_ext _ _ ?_ (sortA_up _) ((hp2.map ArmL.label).nodup_iff.2 (labels_sort hn)) hp2
  unfold UpA
  rw [List.pairwise_map, List.pairwise_iff_getElem]
  intro i j hi hj hij
  have hsz : d.toList.length = rs.toArray.size := by rw [Array.length_toList, h1]
  have := hs i j (Nat.zero_le _) hij (by omega)
  rw [ltAR, decide_eq_false_iff_not, List.not_lt] at this
  have hi2 : i < d.size := by simpa using hi
  have hj2 : j < d.size := by simpa using hj
  rw [getElem!_pos d i hi2, getElem!_pos d j hj2] at this
  exact this
end Go.Proofs.Ytgefhgcpnfbigaa
