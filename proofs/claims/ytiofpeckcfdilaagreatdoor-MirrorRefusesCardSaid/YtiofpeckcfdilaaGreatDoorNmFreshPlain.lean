/- Plain facts on fresh names: among 42 numbers of two digits one makes a string that a list of 41 lacks. -/
import Derived.Test.YtiofpeckcfdilaaGreatDoorNmNum
namespace Go.Proofs.YtiofpeckcfdilaaGreatDoor
open Go.RowKit Go.Sort

def freshFrom (ss : List Str) (s : Str) : Nat → Nat → Str
  | k, 0 => numS s k
  | k, f + 1 => if hasS ss (numS s k) then freshFrom ss s (k + 1) f else numS s k
/-- What Fresh returns. -/
def freshS (ss : List Str) (s : Str) : Str := if hasS ss s then freshFrom ss s 2 50 else s

theorem fresh_step {ss : List Str} {s : Str} {k : Nat} (hk : k ≤ 51) (h : hasS ss (numS s k) = true) : freshFrom ss s k (52 - k) = freshFrom ss s (k + 1) (52 - (k + 1)) := by
  obtain ⟨f, hf⟩ : ∃ f, 52 - k = f + 1 := ⟨51 - k, by omega⟩
  rw [hf, show 52 - (k + 1) = f from by omega, freshFrom, if_pos h]
theorem fresh_stop {ss : List Str} {s : Str} {k : Nat} (h : hasS ss (numS s k) = false) : freshFrom ss s k (52 - k) = numS s k := by
  cases 52 - k with
  | zero => rfl
  | succ f => rw [freshFrom, h]; rfl

theorem dec_two (k : Nat) (h1 : 10 ≤ k) (h2 : k < 100) : Lib.decDigits k = [UInt8.ofNat (48 + k / 10), UInt8.ofNat (48 + k % 10)] := by
  unfold Lib.decDigits
  rw [dif_neg (by omega)]
  unfold Lib.decDigits
  rw [dif_pos (by omega)]
  rfl
theorem num_inj {s : Str} {j k : Nat} (hj : 10 ≤ j) (hj2 : j < 100) (hk : 10 ≤ k) (hk2 : k < 100) (h : numS s j = numS s k) : j = k := by
  unfold numS at h
  rw [dec_two j hj hj2, dec_two k hk hk2] at h
  have h1 := List.append_cancel_left h
  injection h1 with ha hb
  injection hb with hb _
  have ha' := congrArg UInt8.toNat ha
  have hb' := congrArg UInt8.toNat hb
  simp only [UInt8.toNat_ofNat'] at ha' hb'
  omega
theorem len_of_sub : ∀ (l ss : List Str), l.Nodup → (∀ x ∈ l, x ∈ ss) → l.length ≤ ss.length
  | [], _, _, _ => Nat.zero_le _
  | x :: l, ss, hn, hs => by
    have hx := hs x (by simp)
    have hn' := List.nodup_cons.1 hn
    have := len_of_sub l (ss.erase x) hn'.2 (fun y hy => (List.mem_erase_of_ne (fun e : y = x => hn'.1 (by rw [← e]; exact hy))).2 (hs y (by simp [hy])))
    rw [List.length_erase_of_mem hx] at this
    have h0 : 0 < ss.length := List.length_pos_of_mem hx
    simp only [List.length_cons]
    omega
theorem nodup_nums (s : Str) : ∀ (n b : Nat), 10 ≤ b → b + n ≤ 100 → ((List.range' b n).map (numS s)).Nodup
  | 0, _, _, _ => List.nodup_nil
  | n + 1, b, h1, h2 => by
    rw [List.range'_succ, List.map_cons, List.nodup_cons]
    refine ⟨fun hm => ?_, nodup_nums s n (b + 1) (by omega) (by omega)⟩
    obtain ⟨j, hj, he⟩ := List.mem_map.1 hm
    rw [List.mem_range'_1] at hj
    have := num_inj (by omega) (by omega) h1 (by omega) he
    omega
theorem hasS_iff (ss : List Str) (x : Str) : hasS ss x = true ↔ x ∈ ss := List.contains_iff_mem
/-- Not all of the numbers from 10 to 51 are taken by a list of at most 41 strings. -/
theorem not_all {ss : List Str} {s : Str} (hn : ss.length ≤ 41) (h : ∀ j, 2 ≤ j → j < 52 → hasS ss (numS s j) = true) : False := by
  have hl := len_of_sub ((List.range' 10 42).map (numS s)) ss (nodup_nums s 42 10 (by omega) (by omega)) (fun x hx => by
    obtain ⟨j, hj, rfl⟩ := List.mem_map.1 hx
    rw [List.mem_range'_1] at hj
    exact (hasS_iff _ _).1 (h j (by omega) (by omega)))
  simp at hl
  omega
/-- What Fresh returns is not in the list. -/
theorem freshFrom_new {ss : List Str} {s : Str} (hn : ss.length ≤ 41) : ∀ (f k : Nat), k + f = 52 → (∀ j, 2 ≤ j → j < k → hasS ss (numS s j) = true) → ∃ m, k ≤ m ∧ m ≤ 51 ∧ freshFrom ss s k f = numS s m ∧ hasS ss (numS s m) = false
  | 0, k, hk, h => absurd (not_all (s := s) hn (by obtain rfl : k = 52 := by omega
                                                   exact h)) id
  | f + 1, k, hk, h => by
    rw [freshFrom]
    cases hc : hasS ss (numS s k)
    · exact ⟨k, Nat.le_refl _, by omega, rfl, hc⟩
    · obtain ⟨m, h1, h2, h3, h4⟩ := freshFrom_new (s := s) hn f (k + 1) (by omega) (fun j a b => by
        rcases Nat.lt_or_ge j k with hjk | hjk
        · exact h j a hjk
        · obtain rfl : j = k := by omega
          exact hc)
      exact ⟨m, by omega, h2, h3, h4⟩
theorem freshS_cases (ss : List Str) (s : Str) (hn : ss.length ≤ 41) : (hasS ss s = false ∧ freshS ss s = s) ∨ ∃ m, 2 ≤ m ∧ m ≤ 51 ∧ hasS ss s = true ∧ freshS ss s = numS s m ∧ hasS ss (numS s m) = false := by
  unfold freshS
  cases hc : hasS ss s
  · exact .inl ⟨rfl, rfl⟩
  · obtain ⟨m, h1, h2, h3, h4⟩ := freshFrom_new (s := s) hn 50 2 rfl (fun j a b => by omega)
    exact .inr ⟨m, h1, h2, rfl, h3, h4⟩
theorem num_len (s : Str) (k : Nat) (h : k < 100) : (numS s k).length ≤ 12 := by
  unfold numS
  rw [List.length_append, List.length_take]
  rcases dec_len k h with e | e <;> rw [e] <;> omega
end Go.Proofs.YtiofpeckcfdilaaGreatDoor
