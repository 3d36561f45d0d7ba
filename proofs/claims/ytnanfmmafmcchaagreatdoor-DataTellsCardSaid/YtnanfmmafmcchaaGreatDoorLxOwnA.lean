/- Contracts of the program's kinds of bytes: letter, digit, space, printable; the closures; follow. -/
import Derived.Test.YtnanfmmafmcchaaGreatDoorRef0
import Derived.Laws.NewBlocks
import Derived.Shelf.Abstract
namespace Go.Proofs.YtnanfmmafmcchaaGreatDoor
open Go.RowKit

theorem ownLetter_any (n : Int) (w : World) : Calls Tryz.prog 70 #[.int .u8 n] w fun e w' => e = .returned (.bool (isLet n)) ∧ w = w' := by
  by_cases h1 : 97 ≤ n
  · by_cases h2 : n ≤ 122
    · go_enter Tryz.func70, Tryz.ntmps70
      go_wp2
      go_ret
      exact ⟨ret_bool (by simp [isLet, h1, h2]), rfl⟩
    · go_enter Tryz.func70, Tryz.ntmps70
      go_wp2
      go_ret
      exact ⟨ret_bool (by simp [isLet, h1, h2]), rfl⟩
  · go_enter Tryz.func70, Tryz.ntmps70
    go_wp2
    go_ret
    exact ⟨ret_bool (by simp [isLet]; omega), rfl⟩

theorem ownDigit_any (n : Int) (w : World) : Calls Tryz.prog 71 #[.int .u8 n] w fun e w' => e = .returned (.bool (isDig n)) ∧ w = w' := by
  by_cases h1 : 48 ≤ n
  · by_cases h2 : n ≤ 57
    · go_enter Tryz.func71, Tryz.ntmps71
      go_wp2
      go_ret
      exact ⟨ret_bool (by simp [isDig, h1, h2]), rfl⟩
    · go_enter Tryz.func71, Tryz.ntmps71
      go_wp2
      go_ret
      exact ⟨ret_bool (by simp [isDig, h1, h2]), rfl⟩
  · go_enter Tryz.func71, Tryz.ntmps71
    go_wp2
    go_ret
    exact ⟨ret_bool (by simp [isDig]; omega), rfl⟩

/-- The bytes that stand for themselves, but for two. -/
def isPrn (n : Int) : Bool := decide (32 ≤ n) && decide (n ≤ 126)
theorem ownPrintable_any (n : Int) (w : World) : Calls Tryz.prog 36 #[.int .u8 n] w fun e w' => e = .returned (.bool (isPrn n)) ∧ w = w' := by
  by_cases h1 : 32 ≤ n
  · by_cases h2 : n ≤ 126
    · go_enter Tryz.func36, Tryz.ntmps36
      go_wp2
      go_ret
      exact ⟨ret_bool (by simp [isPrn, h1, h2]), rfl⟩
    · go_enter Tryz.func36, Tryz.ntmps36
      go_wp2
      go_ret
      exact ⟨ret_bool (by simp [isPrn, h1, h2]), rfl⟩
  · go_enter Tryz.func36, Tryz.ntmps36
    go_wp2
    go_ret
    exact ⟨ret_bool (by simp [isPrn]; omega), rfl⟩

theorem ownSpace_any (c : UInt8) (w : World) : Calls Tryz.prog 51 #[.int .u8 c.toNat] w fun e w' => e = .returned (.bool (blankB c)) ∧ w = w' := by
  have e1 : ((c.toNat : Int) == 32) = (c == UInt8.ofNat 32) := byte_is c 32 (by omega)
  have e2 : ((c.toNat : Int) == 9) = (c == UInt8.ofNat 9) := byte_is c 9 (by omega)
  have e3 : ((c.toNat : Int) == 10) = (c == UInt8.ofNat 10) := byte_is c 10 (by omega)
  have H : Hid (blankB c = ((c == UInt8.ofNat 32) || (c == UInt8.ofNat 9) || (c == UInt8.ofNat 10))) := Lib.hid rfl
  cases h1 : c == UInt8.ofNat 32
  · cases h2 : c == UInt8.ofNat 9
    · cases h3 : c == UInt8.ofNat 10
      all_goals
        rw [h1, h2, h3] at H
        rw [h1] at e1
        rw [h2] at e2
        rw [h3] at e3
        clear h1 h2 h3
        go_enter Tryz.func51, Tryz.ntmps51
        go_wp2
        go_ret
        exact ⟨ret_bool H.out.symm, rfl⟩
    · rw [h1, h2] at H
      rw [h1] at e1
      rw [h2] at e2
      clear h1 h2 e3
      go_enter Tryz.func51, Tryz.ntmps51
      go_wp2
      go_ret
      exact ⟨ret_bool H.out.symm, rfl⟩
  · rw [h1] at H e1
    clear h1 e2 e3
    go_enter Tryz.func51, Tryz.ntmps51
    go_wp2
    go_ret
    exact ⟨ret_bool H.out.symm, rfl⟩

/-- The value v, called on a byte, reports p of it, in every world in which what was there is as it was. -/
def Asks (w : World) (v : Value) (p : UInt8 → Bool) : Prop :=
  ∃ (k : FuncId) (caps : Array Value), v = .func (.func k) #[] caps ∧ Enters Tryz.prog k ∧ ∀ w', Below w.heap.size w w' → ∀ c : UInt8, Calls Tryz.prog k (#[.int .u8 c.toNat] ++ caps) w' fun e w2 => e = .returned (.bool (p c)) ∧ w' = w2

theorem asks_digit (w : World) : Asks w (.func (.func 71) #[] #[]) digB := ⟨_, _, rfl, enters_of Tryz.func71 (by kernel_rfl) rfl, fun w' _ c => ownDigit_any c.toNat w'⟩
theorem asks_letter (w : World) : Asks w (.func (.func 70) #[] #[]) letB := ⟨_, _, rfl, enters_of Tryz.func70 (by kernel_rfl) rfl, fun w' _ c => ownLetter_any c.toNat w'⟩
theorem asks_space (w : World) : Asks w (.func (.func 51) #[] #[]) blankB := ⟨_, _, rfl, enters_of Tryz.func51 (by kernel_rfl) rfl, fun w' _ c => ownSpace_any c w'⟩
theorem asks_none (w : World) : Asks w (.func (.func 86) #[] #[]) (fun _ => false) := ⟨_, _, rfl, enters_of Tryz.func86 (by kernel_rfl) rfl, fun w' _ c => by
  show Calls Tryz.prog 86 #[.int .u8 c.toNat] w' _
  go_enter Tryz.func86, Tryz.ntmps86
  go_wp2
  go_ret
  exact ⟨rfl, rfl⟩⟩

theorem either1_any (c : UInt8) (A B : Nat) (w : World) (hA : w.cell? ⟨A, 0, none⟩ = some (.func (.func 70) #[] #[])) (hB : w.cell? ⟨B, 0, none⟩ = some (.func (.func 71) #[] #[])) :
    Calls Tryz.prog 105 #[.int .u8 c.toNat, .pointer (some ⟨A, 0, none⟩), .pointer (some ⟨B, 0, none⟩)] w fun e w' => e = .returned (.bool (okB c)) ∧ w = w' := by
  have cl : ∀ W, Calls Tryz.prog 70 #[.int .u8 c.toNat] W fun e w' => e = .returned (.bool (letB c)) ∧ W = w' := fun W => ownLetter_any c.toNat W
  have cd : ∀ W, Calls Tryz.prog 71 #[.int .u8 c.toNat] W fun e w' => e = .returned (.bool (digB c)) ∧ W = w' := fun W => ownDigit_any c.toNat W
  have HF := Lib.hid (show (letB c || digB c) = okB c by unfold okB letB digB; rfl)
  cases h1 : letB c <;> cases h2 : digB c
  all_goals
    rw [h1] at cl
    rw [h2] at cd
    rw [h1, h2] at HF
    have CL := Lib.hid cl
    have CD := Lib.hid cd
    clear cl cd h1 h2
    go_enter Tryz.func105, Tryz.ntmps105
    go_wp2_with (first
      | (go_at_call 70; (with_reducible refine (CL.out _).mono ?_); rintro e w1 ⟨rfl, rfl⟩)
      | (go_at_call 71; (with_reducible refine (CD.out _).mono ?_); rintro e w1 ⟨rfl, rfl⟩)
      | fail)
    go_ret
    exact ⟨ret_bool HF.out, rfl⟩

theorem except1_any (c : UInt8) (A : Nat) (w : World) (hA : w.cell? ⟨A, 0, none⟩ = some (.int .u8 10)) :
    Calls Tryz.prog 106 #[.int .u8 c.toNat, .pointer (some ⟨A, 0, none⟩)] w fun e w' => e = .returned (.bool (c != 10)) ∧ w = w' := by
  have e1 : (((c.toNat : Nat) : Int) != 10) = (c != 10) := by
    have : (((c.toNat : Nat) : Int) == 10) = (c == UInt8.ofNat 10) := byte_is c 10 (by omega)
    unfold bne
    rw [this]; rfl
  have HF := Lib.hid e1
  clear e1
  go_enter Tryz.func106, Tryz.ntmps106
  go_wp2
  go_ret
  exact ⟨ret_bool HF.out, rfl⟩

theorem Asks.keep {w w1 : World} {v : Value} {p : UInt8 → Bool} (h : Asks w v p) (hb : Below w.heap.size w w1) : Asks w1 v p := by
  obtain ⟨k, caps, e, he, hc⟩ := h
  exact ⟨k, caps, e, he, fun w' hb' c => hc w' (hb.trans (hb'.mono hb.size)) c⟩

theorem either_any (w : World) : Calls Tryz.prog 84 #[.func (.func 70) #[] #[], .func (.func 71) #[] #[]] w fun e w' => ∃ v, e = .returned v ∧ Below w.heap.size w w' ∧ Asks w' v okB := by
  have hmf : ∀ (fn : Fn) (first cap : Array Value) (w : World), (Instr.makeFunc fn first cap).run Tryz.prog w = .ok (.func fn first cap) w := fun _ _ _ _ => rfl
  go_enter Tryz.func84, Tryz.ntmps84
  go_wp2
  go_ret
  refine ⟨_, rfl, ((Below.refl _ w).alloc (Nat.le_refl _) _).alloc (by simp) _, ⟨105, _, rfl, enters_of Tryz.func105 (by kernel_rfl) rfl, fun w' hb c => either1_any c _ _ w' ?_ ?_⟩⟩
  · rw [hb.cell (by simp; omega)]; simp
  · rw [hb.cell (by simp)]; simp

theorem except_any (w : World) : Calls Tryz.prog 85 #[.int .u8 10] w fun e w' => ∃ v, e = .returned v ∧ Below w.heap.size w w' ∧ Asks w' v (fun c => c != 10) := by
  have hmf : ∀ (fn : Fn) (first cap : Array Value) (w : World), (Instr.makeFunc fn first cap).run Tryz.prog w = .ok (.func fn first cap) w := fun _ _ _ _ => rfl
  go_enter Tryz.func85, Tryz.ntmps85
  go_wp2
  go_ret
  refine ⟨_, rfl, (Below.refl _ w).alloc (Nat.le_refl _) _, ⟨106, _, rfl, enters_of Tryz.func106 (by kernel_rfl) rfl, fun w' hb c => except1_any c _ w' ?_⟩⟩
  rw [hb.cell (by simp)]; simp

/-- The bytes that may follow this one within a word, a number, a comment, white space. -/
def mayAfter (c : UInt8) : UInt8 → Bool :=
  if letB c then okB else if digB c || c == 45 then digB else if c == 35 then (fun d => d != 10) else if blankB c then blankB else fun _ => false

theorem follow_any (c : UInt8) (w : World) : Calls Tryz.prog 68 #[.int .u8 c.toNat] w fun e w' => ∃ v, e = .returned v ∧ Below w.heap.size w w' ∧ Asks w' v (mayAfter c) := by
  have hmf : ∀ (fn : Fn) (first cap : Array Value) (w : World), (Instr.makeFunc fn first cap).run Tryz.prog w = .ok (.func fn first cap) w := fun _ _ _ _ => rfl
  have cl : ∀ W, Calls Tryz.prog 70 #[.int .u8 c.toNat] W fun e w' => e = .returned (.bool (letB c)) ∧ W = w' := fun W => ownLetter_any c.toNat W
  have cd : ∀ W, Calls Tryz.prog 71 #[.int .u8 c.toNat] W fun e w' => e = .returned (.bool (digB c)) ∧ W = w' := fun W => ownDigit_any c.toNat W
  have cs : ∀ W, Calls Tryz.prog 51 #[.int .u8 c.toNat] W fun e w' => e = .returned (.bool (blankB c)) ∧ W = w' := fun W => ownSpace_any c W
  have m45 : ((c.toNat : Int) == 45) = (c == 45) := byte_is c 45 (by omega)
  have m35 : ((c.toNat : Int) == 35) = (c == 35) := byte_is c 35 (by omega)
  cases h1 : letB c
  · rw [h1] at cl
    have CL := Lib.hid cl
    cases h2 : digB c
    · rw [h2] at cd
      have CD := Lib.hid cd
      cases h3 : c == 45
      · rw [h3] at m45
        cases h4 : c == 35
        · rw [h4] at m35
          cases h5 : blankB c
          · rw [h5] at cs
            have CS := Lib.hid cs
            have HF := Lib.hid (show (fun _ => false) = mayAfter c by unfold mayAfter; rw [h1, h2, h3, h4, h5]; rfl)
            clear cl cd cs h1 h2 h3 h4 h5
            go_enter Tryz.func68, Tryz.ntmps68
            go_wp2_with (first
              | (go_at_call 70; (with_reducible refine (CL.out _).mono ?_); rintro e w1 ⟨rfl, rfl⟩)
              | (go_at_call 71; (with_reducible refine (CD.out _).mono ?_); rintro e w1 ⟨rfl, rfl⟩)
              | (go_at_call 51; (with_reducible refine (CS.out _).mono ?_); rintro e w1 ⟨rfl, rfl⟩)
              | fail)
            go_ret
            exact ⟨_, rfl, Below.refl _ _, HF.out ▸ asks_none w⟩
          · rw [h5] at cs
            have CS := Lib.hid cs
            have HF := Lib.hid (show blankB = mayAfter c by unfold mayAfter; rw [h1, h2, h3, h4, h5]; rfl)
            clear cl cd cs h1 h2 h3 h4 h5
            go_enter Tryz.func68, Tryz.ntmps68
            go_wp2_with (first
              | (go_at_call 70; (with_reducible refine (CL.out _).mono ?_); rintro e w1 ⟨rfl, rfl⟩)
              | (go_at_call 71; (with_reducible refine (CD.out _).mono ?_); rintro e w1 ⟨rfl, rfl⟩)
              | (go_at_call 51; (with_reducible refine (CS.out _).mono ?_); rintro e w1 ⟨rfl, rfl⟩)
              | fail)
            go_ret
            exact ⟨_, rfl, Below.refl _ _, HF.out ▸ asks_space w⟩
        · rw [h4] at m35
          have HF := Lib.hid (show (fun d => d != 10) = mayAfter c by unfold mayAfter; rw [h1, h2, h3, h4]; rfl)
          clear cl cd cs h1 h2 h3 h4
          go_enter Tryz.func68, Tryz.ntmps68
          go_wp2_with (first
            | (go_at_call 70; (with_reducible refine (CL.out _).mono ?_); rintro e w1 ⟨rfl, rfl⟩)
            | (go_at_call 71; (with_reducible refine (CD.out _).mono ?_); rintro e w1 ⟨rfl, rfl⟩)
            | (go_at_call 85; (with_reducible refine (except_any _).mono ?_); rintro e w1 ⟨v1, rfl, hb1, ha1⟩)
            | fail)
          go_ret
          exact ⟨_, rfl, hb1, HF.out ▸ ha1⟩
      · rw [h3] at m45
        have HF := Lib.hid (show digB = mayAfter c by unfold mayAfter; rw [h1, h2, h3]; rfl)
        clear cl cd cs h1 h2 h3 m35
        go_enter Tryz.func68, Tryz.ntmps68
        go_wp2_with (first
          | (go_at_call 70; (with_reducible refine (CL.out _).mono ?_); rintro e w1 ⟨rfl, rfl⟩)
          | (go_at_call 71; (with_reducible refine (CD.out _).mono ?_); rintro e w1 ⟨rfl, rfl⟩)
          | fail)
        go_ret
        exact ⟨_, rfl, Below.refl _ _, HF.out ▸ asks_digit w⟩
    · rw [h2] at cd
      have CD := Lib.hid cd
      have HF := Lib.hid (show digB = mayAfter c by unfold mayAfter; rw [h1, h2]; rfl)
      clear cl cd cs h1 h2 m35 m45
      go_enter Tryz.func68, Tryz.ntmps68
      go_wp2_with (first
        | (go_at_call 70; (with_reducible refine (CL.out _).mono ?_); rintro e w1 ⟨rfl, rfl⟩)
        | (go_at_call 71; (with_reducible refine (CD.out _).mono ?_); rintro e w1 ⟨rfl, rfl⟩)
        | fail)
      go_ret
      exact ⟨_, rfl, Below.refl _ _, HF.out ▸ asks_digit w⟩
  · rw [h1] at cl
    have CL := Lib.hid cl
    have HF := Lib.hid (show okB = mayAfter c by unfold mayAfter; rw [h1]; rfl)
    clear cl cd cs h1 m35 m45
    go_enter Tryz.func68, Tryz.ntmps68
    go_wp2_with (first
      | (go_at_call 70; (with_reducible refine (CL.out _).mono ?_); rintro e w1 ⟨rfl, rfl⟩)
      | (go_at_call 84; (with_reducible refine (either_any _).mono ?_); rintro e w1 ⟨v1, rfl, hb1, ha1⟩)
      | fail)
    go_ret
    exact ⟨_, rfl, hb1, HF.out ▸ ha1⟩

end Go.Proofs.YtnanfmmafmcchaaGreatDoor
