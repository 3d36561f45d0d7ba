/- Contracts of the reference's LocalReach, walk and LocalWalk. -/
import Derived.Test.YtbbdmipfbnfpfaaTuReach
namespace Go.Proofs.Ytbbdmipfbnfpfaa
open Go.RowKit

def reachL (ts : List TurnL) : List Nat := if locB ts then reachT ts else []
theorem arms_few {ts : List TurnL} (h : locB ts = true) : ∀ l ∈ ts.map TurnL.arms, l.length ≤ 1000 ∧ (∀ x ∈ l, 0 ≤ x.next) := by
  intro l hl
  obtain ⟨t, ht, rfl⟩ := List.mem_map.1 hl
  rcases turnB_arms ((locB_one h).2.2 t ht) with ⟨_, _, e⟩ | ⟨_, _, e⟩
  · rw [e]; exact ⟨by simp, by simp⟩
  · obtain ⟨h1, _, _, h4⟩ := armsB_all e
    exact ⟨by omega, fun x hx => (armB_all (h1 x hx)).2.2.1⟩
theorem Strs.part1 {w : World} {bound : Nat} {a : Option Addr} {n : Nat} {ss : List Str} (h : Strs w bound a n ss) {k : Nat} (hk : k < n) : ∃ b off, ∃ t : ByteArray, a = some ⟨b, off, none⟩ ∧ b < bound ∧ ss[k]? = some t.toList ∧ w.cell? ⟨b, off + k, none⟩ = some (.string t) := by
  obtain ⟨b, off, e, hb, hc⟩ := h.2.2.2 (by omega)
  have hk' : k < ss.length := by rw [h.1]; exact hk
  have hg := List.getElem?_eq_getElem hk'
  exact ⟨b, off, baS ss[k], e, hb, by rw [baS_toList]; exact hg, hc k _ hg⟩
/-- Where the last arm of a label leads. -/
def lastN (l : List ArmL) (s : Str) (t : Int) : Int := l.foldl (fun t a => if a.label = s then a.next else t) t
theorem lastN_snoc (l : List ArmL) (x : ArmL) (s : Str) (t : Int) : lastN (l ++ [x]) s t = if x.label = s then x.next else lastN l s t := by
  unfold lastN
  rw [List.foldl_append]
  rfl
theorem lastN_none {s : Str} : ∀ {l : List ArmL} (t : Int), (∀ a ∈ l, a.label ≠ s) → lastN l s t = t
  | [], _, _ => rfl
  | a :: l, t, h => by
    unfold lastN
    rw [List.foldl_cons, if_neg (h a (by simp))]
    exact lastN_none t fun b hb => h b (by simp [hb])
theorem lastN_find {s : Str} : ∀ {l : List ArmL} (t : Int), (l.map ArmL.label).Nodup → lastN l s t = match findA l s with | none => t | some a => a.next
  | [], _, _ => rfl
  | a :: l, t, hn => by
    rw [List.map_cons, List.nodup_cons] at hn
    unfold findA
    rw [List.find?_cons]
    by_cases h : a.label = s
    · rw [beq_iff_eq.2 h]
      unfold lastN
      rw [List.foldl_cons, if_pos h]
      exact lastN_none _ fun b hb e => hn.1 (List.mem_map.2 ⟨b, hb, e.trans h.symm⟩)
    · rw [beq_eq_false_iff_ne.2 h]
      have := lastN_find (s := s) (l := l) t hn.2
      unfold lastN at this ⊢
      rw [List.foldl_cons, if_neg h]
      exact this
def walkV : Option Nat → Value
  | none => .tuple #[.int .i64 0, .bool false]
  | some p => .tuple #[.int .i64 (p : Int), .bool true]

end Go.Proofs.Ytbbdmipfbnfpfaa
