/- The law TermLists returns true, whatever its arguments. -/
import Derived.Test.YthchilnibblbgaaTmLawS
namespace Go.Proofs.Ythchilnibblbgaa
open Go.RowKit

def listE (l : List Int) (x : Int) : List (Str × Val) := [([108], listV l), ([110], intV x)]
def puT : List Trm := [varT [108], varT [110], twoT 18 0 1]
def atT (k : Int) : List Trm := [varT [108], varT [110], twoT 18 0 1, numT k, twoT 17 2 3]
def ouT (k : Int) : List Trm := [varT [108], numT k, twoT 17 0 1]
def leT : List Trm := [varT [108], varT [110], twoT 18 0 1, ⟨16, [], 0, [], 2, -1⟩]
def puE : Exp := .two 2 (twoT 18 0 1) (.leaf 0 (varT [108])) (.leaf 1 (varT [110]))
theorem may_l : may [108] = true := by decide
theorem may_n : may [110] = true := by decide
theorem fits_pu {L : List Trm} (h0 : L[0]? = some (varT [108])) (h1 : L[1]? = some (varT [110])) (h2 : L[2]? = some (twoT 18 0 1)) : Fits L puE :=
  ⟨h2, sound_two _ _ rfl (by omega) (by omega), rfl, rfl, rfl, by decide, by decide, ⟨h0, sound_var may_l, rfl⟩, ⟨h1, sound_var may_n, rfl⟩⟩
section
variable {l : List Int} {x : Int}
theorem list_hold (h : l.length ≤ 16) : holdV (listE l x) [108] = (listV l, 0) ∧ holdV (listE l x) [110] = (intV x, 0) := by
  constructor <;> simp [listE, holdV, mayV_list, mayV_int, h]
theorem pu_exp (h : l.length ≤ 16) : evalE (listE l x) puE = pushV l x := by
  obtain ⟨h1, h2⟩ := list_hold (x := x) h
  simp only [puE, evalE, leaf_var, h1, h2, if_true]
  rfl
theorem pu_val (h : l.length ≤ 16) : evalF puT 2 (listE l x) = pushV l x := by
  rw [evalF_good (L := puT) (root := 2) (e := puE) ⟨by simp [puT], rfl, fits_pu rfl rfl rfl, by decide, by decide⟩, pu_exp h]
theorem at_val (h : l.length < 16) (k : Nat) (hk : k ≤ l.length) : evalF (atT k) 4 (listE l x) = (⟨1, (l ++ [x]).getD k 0, [], []⟩, 0) := by
  rw [evalF_good (L := atT k) (root := 4) (e := .two 4 (twoT 17 2 3) puE (.leaf 3 (numT k))) ⟨by simp [atT], rfl, ⟨rfl, sound_two _ _ rfl (by omega) (by omega), rfl, rfl, rfl, by decide, by simp [Exp.at_], fits_pu rfl rfl rfl, ⟨rfl, sound_num _, rfl⟩⟩, by simp [Exp.places, puE], by simp [Exp.deep, puE]⟩]
  have hp : pushV l x = (listV (l ++ [x]), 0) := by unfold pushV; rw [if_neg (by omega)]
  simp only [evalE, pu_exp (by omega : l.length ≤ 16), hp, if_true]
  show (if (leafV (listE l x) (numT k)).2 = 0 then elemV (l ++ [x]) k else _) = _
  show elemV (l ++ [x]) k = _
  unfold elemV
  rw [if_pos ⟨by omega, by simp; omega⟩, Int.toNat_natCast]
  rfl
theorem ou_val (h : l.length ≤ 16) (k : Int) (hk : (l.length : Int) ≤ k) : evalF (ouT k) 2 (listE l x) = (⟨0, 0, [], []⟩, 404) := by
  obtain ⟨h1, h2⟩ := list_hold (x := x) h
  rw [ouT, evalF_two _ (sound_var may_l) rfl (sound_num _) rfl rfl (by omega) (by omega)]
  simp only [evalE, leaf_var, h1, if_true]
  show elemV l k = _
  unfold elemV
  rw [if_neg (by omega)]
  rfl
theorem le_val (h : l.length < 16) : evalF leT 3 (listE l x) = (⟨1, (l.length : Int) + 1, [], []⟩, 0) := by
  rw [evalF_good (L := leT) (root := 3) (e := .one 3 ⟨16, [], 0, [], 2, -1⟩ puE) ⟨by simp [leT], rfl, ⟨rfl, rfl, rfl, rfl, by decide, fits_pu rfl rfl rfl⟩, by simp [Exp.places, puE], by simp [Exp.deep, puE]⟩]
  have hp : pushV l x = (listV (l ++ [x]), 0) := by unfold pushV; rw [if_neg (by omega)]
  simp only [evalE, pu_exp (by omega : l.length ≤ 16), hp, if_true]
  show oneV 16 (listV (l ++ [x])) = _
  simp [oneV, listV, intV]
end
theorem list_made (a : Option Addr) (n c : Nat) (l : List Int) (x : Int) (W : World) (h : Nums W W.heap.size a n l) :
    Binds (W.alloc (.cells #[.string ⟨#[108]⟩, .int .i64 4, .int .i64 0, .string ⟨#[]⟩, .slice a n c, .string ⟨#[110]⟩, .int .i64 1, .int .i64 x, .string ⟨#[]⟩, .slice none 0 0] 43)) (W.alloc (.cells #[.string ⟨#[108]⟩, .int .i64 4, .int .i64 0, .string ⟨#[]⟩, .slice a n c, .string ⟨#[110]⟩, .int .i64 1, .int .i64 x, .string ⟨#[]⟩, .slice none 0 0] 43)).heap.size (some ⟨W.heap.size, 0, none⟩) 2 (listE l x) :=
  Binds.made W _ [⟨⟨#[108]⟩, 4, 0, ⟨#[]⟩, a, n, c⟩, ⟨⟨#[110]⟩, 1, x, ⟨#[]⟩, none, 0, 0⟩] _ 2 _ rfl rfl rfl rfl (by omega) fun j b y e1 e2 => by
    have h0 : j < 2 := (List.getElem?_eq_some_iff.1 e2).1
    have e112 : (⟨#[108]⟩ : ByteArray).toList = [108] := by simp [ByteArray.toList_eq]
    have e113 : (⟨#[110]⟩ : ByteArray).toList = [110] := by simp [ByteArray.toList_eq]
    rcases (show j = 0 ∨ j = 1 by omega) with rfl | rfl
    · obtain rfl := Option.some.inj e1
      obtain rfl := Option.some.inj e2
      exact ⟨e112, rfl, rfl, empty_toList, h⟩
    · obtain rfl := Option.some.inj e1
      obtain rfl := Option.some.inj e2
      exact ⟨e113, rfl, rfl, empty_toList, Nums.zero _ _ _⟩
theorem pu_made (W : World) : Trms (W.alloc (.cells #[.int .i64 0, .string ⟨#[108]⟩, .int .i64 0, .string ⟨#[]⟩, .int .i64 (-1), .int .i64 (-1), .int .i64 0, .string ⟨#[110]⟩, .int .i64 0, .string ⟨#[]⟩, .int .i64 (-1), .int .i64 (-1), .int .i64 18, .string ⟨#[]⟩, .int .i64 0, .string ⟨#[]⟩, .int .i64 0, .int .i64 1] 38)) (W.alloc (.cells #[.int .i64 0, .string ⟨#[108]⟩, .int .i64 0, .string ⟨#[]⟩, .int .i64 (-1), .int .i64 (-1), .int .i64 0, .string ⟨#[110]⟩, .int .i64 0, .string ⟨#[]⟩, .int .i64 (-1), .int .i64 (-1), .int .i64 18, .string ⟨#[]⟩, .int .i64 0, .string ⟨#[]⟩, .int .i64 0, .int .i64 1] 38)).heap.size (some ⟨W.heap.size, 0, none⟩) 3 puT := Trms.made W _ puT 3 _ rfl rfl rfl (by omega) (short_trms rfl)
theorem at_made (k : Int) (W : World) : Trms (W.alloc (.cells #[.int .i64 0, .string ⟨#[108]⟩, .int .i64 0, .string ⟨#[]⟩, .int .i64 (-1), .int .i64 (-1), .int .i64 0, .string ⟨#[110]⟩, .int .i64 0, .string ⟨#[]⟩, .int .i64 (-1), .int .i64 (-1), .int .i64 18, .string ⟨#[]⟩, .int .i64 0, .string ⟨#[]⟩, .int .i64 0, .int .i64 1, .int .i64 1, .string ⟨#[]⟩, .int .i64 k, .string ⟨#[]⟩, .int .i64 (-1), .int .i64 (-1), .int .i64 17, .string ⟨#[]⟩, .int .i64 0, .string ⟨#[]⟩, .int .i64 2, .int .i64 3] 38)) (W.alloc (.cells #[.int .i64 0, .string ⟨#[108]⟩, .int .i64 0, .string ⟨#[]⟩, .int .i64 (-1), .int .i64 (-1), .int .i64 0, .string ⟨#[110]⟩, .int .i64 0, .string ⟨#[]⟩, .int .i64 (-1), .int .i64 (-1), .int .i64 18, .string ⟨#[]⟩, .int .i64 0, .string ⟨#[]⟩, .int .i64 0, .int .i64 1, .int .i64 1, .string ⟨#[]⟩, .int .i64 k, .string ⟨#[]⟩, .int .i64 (-1), .int .i64 (-1), .int .i64 17, .string ⟨#[]⟩, .int .i64 0, .string ⟨#[]⟩, .int .i64 2, .int .i64 3] 38)).heap.size (some ⟨W.heap.size, 0, none⟩) 5 (atT k) := Trms.made W _ (atT k) 5 _ rfl rfl rfl (by omega) (short_trms rfl)
theorem ou_made (k : Int) (W : World) : Trms (W.alloc (.cells #[.int .i64 0, .string ⟨#[108]⟩, .int .i64 0, .string ⟨#[]⟩, .int .i64 (-1), .int .i64 (-1), .int .i64 1, .string ⟨#[]⟩, .int .i64 k, .string ⟨#[]⟩, .int .i64 (-1), .int .i64 (-1), .int .i64 17, .string ⟨#[]⟩, .int .i64 0, .string ⟨#[]⟩, .int .i64 0, .int .i64 1] 38)) (W.alloc (.cells #[.int .i64 0, .string ⟨#[108]⟩, .int .i64 0, .string ⟨#[]⟩, .int .i64 (-1), .int .i64 (-1), .int .i64 1, .string ⟨#[]⟩, .int .i64 k, .string ⟨#[]⟩, .int .i64 (-1), .int .i64 (-1), .int .i64 17, .string ⟨#[]⟩, .int .i64 0, .string ⟨#[]⟩, .int .i64 0, .int .i64 1] 38)).heap.size (some ⟨W.heap.size, 0, none⟩) 3 (ouT k) := Trms.made W _ (ouT k) 3 _ rfl rfl rfl (by omega) (short_trms rfl)
theorem le_made (W : World) : Trms (W.alloc (.cells #[.int .i64 0, .string ⟨#[108]⟩, .int .i64 0, .string ⟨#[]⟩, .int .i64 (-1), .int .i64 (-1), .int .i64 0, .string ⟨#[110]⟩, .int .i64 0, .string ⟨#[]⟩, .int .i64 (-1), .int .i64 (-1), .int .i64 18, .string ⟨#[]⟩, .int .i64 0, .string ⟨#[]⟩, .int .i64 0, .int .i64 1, .int .i64 16, .string ⟨#[]⟩, .int .i64 0, .string ⟨#[]⟩, .int .i64 2, .int .i64 (-1)] 38)) (W.alloc (.cells #[.int .i64 0, .string ⟨#[108]⟩, .int .i64 0, .string ⟨#[]⟩, .int .i64 (-1), .int .i64 (-1), .int .i64 0, .string ⟨#[110]⟩, .int .i64 0, .string ⟨#[]⟩, .int .i64 (-1), .int .i64 (-1), .int .i64 18, .string ⟨#[]⟩, .int .i64 0, .string ⟨#[]⟩, .int .i64 0, .int .i64 1, .int .i64 16, .string ⟨#[]⟩, .int .i64 0, .string ⟨#[]⟩, .int .i64 2, .int .i64 (-1)] 38)).heap.size (some ⟨W.heap.size, 0, none⟩) 4 leT := Trms.made W _ leT 4 _ rfl rfl rfl (by omega) (short_trms rfl)
/-- A number, taken modulo a list's length and one more. -/
theorem place_mod (p : Int) (n : Nat) (hn : n ≤ 16) : ∃ k : Nat, k ≤ n ∧ wrap64 ((IntKind.u64.wrap p).tmod ((n : Int) + 1)) = (k : Int) := by
  have h0 : 0 ≤ IntKind.u64.wrap p := by rw [IntKind.wrap_u64]; omega
  rw [Int.tmod_eq_emod_of_nonneg h0]
  have h2 := Int.emod_nonneg (IntKind.u64.wrap p) (b := (n : Int) + 1) (by omega)
  have h3 := Int.emod_lt_of_pos (IntKind.u64.wrap p) (b := (n : Int) + 1) (by omega)
  generalize IntKind.u64.wrap p % ((n : Int) + 1) = m at h2 h3
  exact ⟨m.toNat, by omega, by unfold wrap64; omega⟩

set_option maxHeartbeats 8000000 in
set_option maxRecDepth 20000 in
theorem termLists_walk (a : Option Addr) (n c : Nat) (l : List Int) (x p : Int) (w : World) (h : Nums w w.heap.size a n l) : Calls Try.prog 10 #[.slice a n c, .int .i64 x, .int .i64 p] w fun e w' => e = .returned (.bool true) ∧ Below w.heap.size w w' := by
  have CF := Lib.hid (first_any w)
  have hl := h.1
  by_cases h16 : 16 < n
  · have d1 : decide ((16 : Int) < (n : Int)) = true := decide_eq_true (by omega)
    clear h hl
    go_enter Try.func10, Try.ntmps10
    go_wp2_with (first | (go_at_call 13; (with_reducible refine CF.out.mono ?_); rintro e w1 ⟨rfl, hb1⟩; have HB := Lib.hid hb1; clear hb1) | fail)
    go_ret
    exact ⟨rfl, HB.out⟩
  have d1 : decide ((16 : Int) < (n : Int)) = false := decide_eq_false (by omega)
  have HN := Lib.hid h
  have HL := Lib.hid hl
  by_cases hfull : n = 16
  · subst hfull
    have hp := pu_val (l := l) (x := x) (by omega)
    have hz : pushV l x = (⟨0, 0, [], []⟩, 405) := by unfold pushV; rw [if_pos (by omega)]; rfl
    have CEP := Lib.hid (fun (g ge : Nat) (W : World) (hT : Trms W W.heap.size (some ⟨g, 0, none⟩) 3 puT) (hE : Binds W W.heap.size (some ⟨ge, 0, none⟩) 2 (listE l x)) =>
      show Calls Try.prog 17 #[.slice (some ⟨g, 0, none⟩) 3 3, .int .i64 2, .slice (some ⟨ge, 0, none⟩) 2 2] W (PairRet W (⟨0, 0, [], []⟩, 405)) from (hp.trans hz) ▸ termEval_any (some ⟨g, 0, none⟩) 3 3 puT 2 (some ⟨ge, 0, none⟩) 2 2 _ W W.heap.size (Nat.le_refl _) hT hE)
    clear h hl hp hz
    go_enter Try.func10, Try.ntmps10
    go_wp2_with (first
      | (go_at_call 13; (with_reducible refine CF.out.mono ?_)
         rintro e w1 ⟨rfl, hb1⟩
         have HB := Lib.hid (below_on hb1 (next_alloc w1 (.cells #[.string ⟨#[108]⟩, .int .i64 4, .int .i64 0, .string ⟨#[]⟩, .slice a 16 c, .string ⟨#[110]⟩, .int .i64 1, .int .i64 x, .string ⟨#[]⟩, .slice none 0 0] 43)))
         have HE := Lib.hid (list_made a 16 c l x w1 (HN.out.on hb1))
         clear hb1)
      | (go_at_call 20; (with_reducible refine (var_any _ _).mono ?_)
         rintro e wn ⟨rfl, hb1⟩
         have HB := Lib.hid (below_on HB.out hb1)
         have HE := Lib.hid (HE.out.on hb1)
         clear hb1)
      | (go_at_call 21; (with_reducible refine (two_any _ _ _ _).mono ?_)
         rintro e wn ⟨rfl, hb1⟩
         have HB := Lib.hid (below_on HB.out hb1)
         have HE := Lib.hid (HE.out.on hb1)
         clear hb1)
      | (go_at_call 17; (with_reducible refine (CEP.out _ _ _ ?_ ?_).mono ?_)
         · exact pu_made _
         · exact HE.out.on (next_alloc _ _)
         rintro e wv ⟨⟨sv, av, nv, cv, rfl, hv, hf⟩, hbv⟩
         have HB := Lib.hid (below_on (below_on HB.out (next_alloc _ _)) hbv)
         have hnv : nv = 0 := by have := hv.2.1; simpa using this.symm
         subst hnv
         clear hv hf hbv)
      | fail)
    go_ret
    exact ⟨rfl, below_on HB.out (next_alloc _ _)⟩
  · have d2 : ((n : Int) == 16) = false := by rw [beq_eq_false_iff_ne]; omega
    obtain ⟨k, hk, hkm⟩ := place_mod p n (by omega)
    have hp := (pu_val (l := l) (x := x) (by omega)).trans (show pushV l x = (⟨4, 0, [], l ++ [x]⟩, 0) by unfold pushV; rw [if_neg (by omega)]; rfl)
    have ha := at_val (l := l) (x := x) (by omega) k (by omega)
    have ho := ou_val (l := l) (x := x) (by omega) ((n : Int) + (k : Int)) (by omega)
    have hle := le_val (l := l) (x := x) (by omega)
    rw [hl] at hle
    obtain ⟨y, hy⟩ : ∃ y, y = (l ++ [x]).getD k 0 := ⟨_, rfl⟩
    rw [← hy] at ha
    have CEP := Lib.hid (fun (g ge : Nat) (W : World) (hT : Trms W W.heap.size (some ⟨g, 0, none⟩) 3 puT) (hE : Binds W W.heap.size (some ⟨ge, 0, none⟩) 2 (listE l x)) =>
      show Calls Try.prog 17 #[.slice (some ⟨g, 0, none⟩) 3 3, .int .i64 2, .slice (some ⟨ge, 0, none⟩) 2 2] W (PairRet W (⟨4, 0, [], l ++ [x]⟩, 0)) from hp ▸ termEval_any (some ⟨g, 0, none⟩) 3 3 puT 2 (some ⟨ge, 0, none⟩) 2 2 _ W W.heap.size (Nat.le_refl _) hT hE)
    have CEA := Lib.hid (fun (g ge : Nat) (W : World) (hT : Trms W W.heap.size (some ⟨g, 0, none⟩) 5 (atT k)) (hE : Binds W W.heap.size (some ⟨ge, 0, none⟩) 2 (listE l x)) =>
      show Calls Try.prog 17 #[.slice (some ⟨g, 0, none⟩) 5 5, .int .i64 4, .slice (some ⟨ge, 0, none⟩) 2 2] W (PairRet W (⟨1, y, [], []⟩, 0)) from ha ▸ termEval_any (some ⟨g, 0, none⟩) 5 5 (atT k) 4 (some ⟨ge, 0, none⟩) 2 2 _ W W.heap.size (Nat.le_refl _) hT hE)
    have CEO := Lib.hid (fun (g ge : Nat) (W : World) (hT : Trms W W.heap.size (some ⟨g, 0, none⟩) 3 (ouT ((n : Int) + (k : Int)))) (hE : Binds W W.heap.size (some ⟨ge, 0, none⟩) 2 (listE l x)) =>
      show Calls Try.prog 17 #[.slice (some ⟨g, 0, none⟩) 3 3, .int .i64 2, .slice (some ⟨ge, 0, none⟩) 2 2] W (PairRet W (⟨0, 0, [], []⟩, 404)) from ho ▸ termEval_any (some ⟨g, 0, none⟩) 3 3 (ouT ((n : Int) + (k : Int))) 2 (some ⟨ge, 0, none⟩) 2 2 _ W W.heap.size (Nat.le_refl _) hT hE)
    have CEL := Lib.hid (fun (g ge : Nat) (W : World) (hT : Trms W W.heap.size (some ⟨g, 0, none⟩) 4 leT) (hE : Binds W W.heap.size (some ⟨ge, 0, none⟩) 2 (listE l x)) =>
      show Calls Try.prog 17 #[.slice (some ⟨g, 0, none⟩) 4 4, .int .i64 3, .slice (some ⟨ge, 0, none⟩) 2 2] W (PairRet W (⟨1, (n : Int) + 1, [], []⟩, 0)) from hle ▸ termEval_any (some ⟨g, 0, none⟩) 4 4 leT 3 (some ⟨ge, 0, none⟩) 2 2 _ W W.heap.size (Nat.le_refl _) hT hE)
    by_cases hkn : k < n
    · obtain ⟨b0, o0, y', hab, hb0, hyl, x00⟩ := h.at_ hkn
      have hyy : y = y' := by
        rw [hy, List.getD_eq_getElem?_getD, List.getElem?_append_left (by omega), hyl]; rfl
      subst hyy
      subst hab
      have dk : decide ((k : Int) < (n : Int)) = true := decide_eq_true (by omega)
      have HX00 := Lib.hid x00
      have HB00 := Lib.hid hb0
      clear h hl hp ha ho hle hy hyl x00 hb0
      go_enter Try.func10, Try.ntmps10
      go_wp2_with (first
        | (go_at_call 13; (with_reducible refine CF.out.mono ?_)
           rintro e w1 ⟨rfl, hb1⟩
           have HB := Lib.hid (below_on hb1 (next_alloc w1 (.cells #[.string ⟨#[108]⟩, .int .i64 4, .int .i64 0, .string ⟨#[]⟩, .slice (some ⟨b0, o0, none⟩) n c, .string ⟨#[110]⟩, .int .i64 1, .int .i64 x, .string ⟨#[]⟩, .slice none 0 0] 43)))
           have HE := Lib.hid (list_made _ n c l x w1 (HN.out.on hb1))
           clear hb1)
        | (go_at_call 20; (with_reducible refine (var_any _ _).mono ?_)
           rintro e wn ⟨rfl, hb1⟩
           have HXA := Lib.hid (HXA.out.on hb1)
           have HXP := Lib.hid (HXP.out.on hb1)
           have HNP := Lib.hid (HNP.out.on hb1)
           have HB := Lib.hid (below_on HB.out hb1)
           have HE := Lib.hid (HE.out.on hb1)
           clear hb1)
        | (go_at_call 20; (with_reducible refine (var_any _ _).mono ?_)
           rintro e wn ⟨rfl, hb1⟩
           have HXP := Lib.hid (HXP.out.on hb1)
           have HNP := Lib.hid (HNP.out.on hb1)
           have HB := Lib.hid (below_on HB.out hb1)
           have HE := Lib.hid (HE.out.on hb1)
           clear hb1)
        | (go_at_call 20; (with_reducible refine (var_any _ _).mono ?_)
           rintro e wn ⟨rfl, hb1⟩
           have HB := Lib.hid (below_on HB.out hb1)
           have HE := Lib.hid (HE.out.on hb1)
           clear hb1)
        | (go_at_call 21; (with_reducible refine (two_any _ _ _ _).mono ?_)
           rintro e wn ⟨rfl, hb1⟩
           have HXA := Lib.hid (HXA.out.on hb1)
           have HXP := Lib.hid (HXP.out.on hb1)
           have HNP := Lib.hid (HNP.out.on hb1)
           have HB := Lib.hid (below_on HB.out hb1)
           have HE := Lib.hid (HE.out.on hb1)
           clear hb1)
        | (go_at_call 21; (with_reducible refine (two_any _ _ _ _).mono ?_)
           rintro e wn ⟨rfl, hb1⟩
           have HXP := Lib.hid (HXP.out.on hb1)
           have HNP := Lib.hid (HNP.out.on hb1)
           have HB := Lib.hid (below_on HB.out hb1)
           have HE := Lib.hid (HE.out.on hb1)
           clear hb1)
        | (go_at_call 21; (with_reducible refine (two_any _ _ _ _).mono ?_)
           rintro e wn ⟨rfl, hb1⟩
           have HB := Lib.hid (below_on HB.out hb1)
           have HE := Lib.hid (HE.out.on hb1)
           clear hb1)
        | (go_at_call 30; (with_reducible refine (num_any _ _).mono ?_)
           rintro e wn ⟨rfl, hb1⟩
           have HXA := Lib.hid (HXA.out.on hb1)
           have HXP := Lib.hid (HXP.out.on hb1)
           have HNP := Lib.hid (HNP.out.on hb1)
           have HB := Lib.hid (below_on HB.out hb1)
           have HE := Lib.hid (HE.out.on hb1)
           clear hb1)
        | (go_at_call 30; (with_reducible refine (num_any _ _).mono ?_)
           rintro e wn ⟨rfl, hb1⟩
           have HXP := Lib.hid (HXP.out.on hb1)
           have HNP := Lib.hid (HNP.out.on hb1)
           have HB := Lib.hid (below_on HB.out hb1)
           have HE := Lib.hid (HE.out.on hb1)
           clear hb1)
        | (go_at_call 30; (with_reducible refine (num_any _ _).mono ?_)
           rintro e wn ⟨rfl, hb1⟩
           have HB := Lib.hid (below_on HB.out hb1)
           have HE := Lib.hid (HE.out.on hb1)
           clear hb1)
        | (go_at_call 17; (with_reducible refine (CEP.out _ _ _ ?_ ?_).mono ?_)
           · exact pu_made _
           · exact HE.out.on (next_alloc _ _)
           rintro e wp ⟨⟨sp, ap, np, cp, rfl, hv, hf⟩, hbv⟩
           have HE := Lib.hid (((HE.out.on (next_alloc _ _)).on hbv).on (next_alloc wp (.cells #[.int .i64 4, .int .i64 0, .string sp, .slice ap np cp] 33)))
           have HB := Lib.hid (below_on (below_on (below_on HB.out (next_alloc _ _)) hbv) (next_alloc wp (.cells #[.int .i64 4, .int .i64 0, .string sp, .slice ap np cp] 33)))
           have HXP := Lib.hid (BoxV.new wp (.int .i64 4) (.int .i64 0) (.string sp) (.slice ap np cp))
           have HNP := Lib.hid ((show Nums wp wp.heap.size ap np (l ++ [x]) from hv.2).on (next_alloc wp (.cells #[.int .i64 4, .int .i64 0, .string sp, .slice ap np cp] 33)))
           clear hv hf hbv)
        | (go_at_call 17; (with_reducible refine (CEA.out _ _ _ ?_ ?_).mono ?_)
           · exact at_made _ _
           · exact HE.out.on (next_alloc _ _)
           rintro e wa ⟨⟨sa, aa, na, ca, rfl, hv, hf⟩, hbv⟩
           have HE := Lib.hid (((HE.out.on (next_alloc _ _)).on hbv).on (next_alloc wa (.cells #[.int .i64 1, .int .i64 y, .string sa, .slice aa na ca] 33)))
           have HXP := Lib.hid (((HXP.out.on (next_alloc _ _)).on hbv).on (next_alloc wa (.cells #[.int .i64 1, .int .i64 y, .string sa, .slice aa na ca] 33)))
           have HNP := Lib.hid (((HNP.out.on (next_alloc _ _)).on hbv).on (next_alloc wa (.cells #[.int .i64 1, .int .i64 y, .string sa, .slice aa na ca] 33)))
           have HB := Lib.hid (below_on (below_on (below_on HB.out (next_alloc _ _)) hbv) (next_alloc wa (.cells #[.int .i64 1, .int .i64 y, .string sa, .slice aa na ca] 33)))
           have HXA := Lib.hid (BoxV.new wa (.int .i64 1) (.int .i64 y) (.string sa) (.slice aa na ca))
           clear hv hf hbv)
        | (go_at_call 17; (with_reducible refine (CEO.out _ _ _ ?_ ?_).mono ?_)
           · exact ou_made _ _
           · exact HE.out.on (next_alloc _ _)
           rintro e wo ⟨⟨so, ao, no, co, rfl, hv, hf⟩, hbv⟩
           have HE := Lib.hid (((HE.out.on (next_alloc _ _)).on hbv).on (next_alloc wo (.cells #[.int .i64 0, .int .i64 0, .string so, .slice ao no co] 33)))
           have HXA := Lib.hid (((HXA.out.on (next_alloc _ _)).on hbv).on (next_alloc wo (.cells #[.int .i64 0, .int .i64 0, .string so, .slice ao no co] 33)))
           have HXP := Lib.hid (((HXP.out.on (next_alloc _ _)).on hbv).on (next_alloc wo (.cells #[.int .i64 0, .int .i64 0, .string so, .slice ao no co] 33)))
           have HNP := Lib.hid (((HNP.out.on (next_alloc _ _)).on hbv).on (next_alloc wo (.cells #[.int .i64 0, .int .i64 0, .string so, .slice ao no co] 33)))
           have HB := Lib.hid (below_on (below_on (below_on HB.out (next_alloc _ _)) hbv) (next_alloc wo (.cells #[.int .i64 0, .int .i64 0, .string so, .slice ao no co] 33)))
           clear hv hf hbv)
        | (go_at_call 17; (with_reducible refine (CEL.out _ _ _ ?_ ?_).mono ?_)
           · exact le_made _
           · exact HE.out.on (next_alloc _ _)
           rintro e wl ⟨⟨sl, al, nl, cl, rfl, hv, hf⟩, hbv⟩
           have HE := Lib.hid (((HE.out.on (next_alloc _ _)).on hbv).on (next_alloc wl (.cells #[.int .i64 1, .int .i64 ((n : Int) + 1), .string sl, .slice al nl cl] 33)))
           have HXA := Lib.hid (((HXA.out.on (next_alloc _ _)).on hbv).on (next_alloc wl (.cells #[.int .i64 1, .int .i64 ((n : Int) + 1), .string sl, .slice al nl cl] 33)))
           have HXP := Lib.hid (((HXP.out.on (next_alloc _ _)).on hbv).on (next_alloc wl (.cells #[.int .i64 1, .int .i64 ((n : Int) + 1), .string sl, .slice al nl cl] 33)))
           have HNP := Lib.hid (((HNP.out.on (next_alloc _ _)).on hbv).on (next_alloc wl (.cells #[.int .i64 1, .int .i64 ((n : Int) + 1), .string sl, .slice al nl cl] 33)))
           have HB := Lib.hid (below_on (below_on (below_on HB.out (next_alloc _ _)) hbv) (next_alloc wl (.cells #[.int .i64 1, .int .i64 ((n : Int) + 1), .string sl, .slice al nl cl] 33)))
           have HBL := HB
           have HNX := Lib.hid (HN.out.below HB.out)
           have hnp : np = n + 1 := by have h1 := HNP.out.1; have h2 := HL.out; simp at h1; omega
           subst hnp
           obtain ⟨⟨p0, p1, p2, p3⟩, _⟩ := HXP.out.cells
           obtain ⟨⟨y0, y1, y2, y3⟩, _⟩ := HXA.out.cells
           have x00 := (HBL.out.cell (p := ⟨b0, o0 + k, none⟩) HB00.out).trans HX00.out
           obtain ⟨bp, op, xp, hap, hbp, hxp, z0⟩ := HNP.out.at_ (k := n) (by omega)
           have hxx : x = xp := by
             rw [List.getElem?_append_right (by rw [HL.out]; omega), HL.out, Nat.sub_self] at hxp
             simpa using hxp
           subst hap hxx
           clear hbp hxp
           clear hv hf hbv)
        | fail)
      go_ret
      exact ⟨rfl, HBL.out⟩
    · obtain rfl : k = n := by omega
      have hyy : y = x := by
        rw [hy, List.getD_eq_getElem?_getD, List.getElem?_append_right (by omega), hl, Nat.sub_self]; rfl
      subst hyy
      have dk : decide ((k : Int) < (k : Int)) = false := decide_eq_false (by omega)
      clear h hl hp ha ho hle hy
      go_enter Try.func10, Try.ntmps10
      go_wp2_with (first
        | (go_at_call 13; (with_reducible refine CF.out.mono ?_)
           rintro e w1 ⟨rfl, hb1⟩
           have HB := Lib.hid (below_on hb1 (next_alloc w1 (.cells #[.string ⟨#[108]⟩, .int .i64 4, .int .i64 0, .string ⟨#[]⟩, .slice a k c, .string ⟨#[110]⟩, .int .i64 1, .int .i64 y, .string ⟨#[]⟩, .slice none 0 0] 43)))
           have HE := Lib.hid (list_made a k c l y w1 (HN.out.on hb1))
           clear hb1)
        | (go_at_call 20; (with_reducible refine (var_any _ _).mono ?_)
           rintro e wn ⟨rfl, hb1⟩
           have HXA := Lib.hid (HXA.out.on hb1)
           have HXP := Lib.hid (HXP.out.on hb1)
           have HNP := Lib.hid (HNP.out.on hb1)
           have HB := Lib.hid (below_on HB.out hb1)
           have HE := Lib.hid (HE.out.on hb1)
           clear hb1)
        | (go_at_call 20; (with_reducible refine (var_any _ _).mono ?_)
           rintro e wn ⟨rfl, hb1⟩
           have HXP := Lib.hid (HXP.out.on hb1)
           have HNP := Lib.hid (HNP.out.on hb1)
           have HB := Lib.hid (below_on HB.out hb1)
           have HE := Lib.hid (HE.out.on hb1)
           clear hb1)
        | (go_at_call 20; (with_reducible refine (var_any _ _).mono ?_)
           rintro e wn ⟨rfl, hb1⟩
           have HB := Lib.hid (below_on HB.out hb1)
           have HE := Lib.hid (HE.out.on hb1)
           clear hb1)
        | (go_at_call 21; (with_reducible refine (two_any _ _ _ _).mono ?_)
           rintro e wn ⟨rfl, hb1⟩
           have HXA := Lib.hid (HXA.out.on hb1)
           have HXP := Lib.hid (HXP.out.on hb1)
           have HNP := Lib.hid (HNP.out.on hb1)
           have HB := Lib.hid (below_on HB.out hb1)
           have HE := Lib.hid (HE.out.on hb1)
           clear hb1)
        | (go_at_call 21; (with_reducible refine (two_any _ _ _ _).mono ?_)
           rintro e wn ⟨rfl, hb1⟩
           have HXP := Lib.hid (HXP.out.on hb1)
           have HNP := Lib.hid (HNP.out.on hb1)
           have HB := Lib.hid (below_on HB.out hb1)
           have HE := Lib.hid (HE.out.on hb1)
           clear hb1)
        | (go_at_call 21; (with_reducible refine (two_any _ _ _ _).mono ?_)
           rintro e wn ⟨rfl, hb1⟩
           have HB := Lib.hid (below_on HB.out hb1)
           have HE := Lib.hid (HE.out.on hb1)
           clear hb1)
        | (go_at_call 30; (with_reducible refine (num_any _ _).mono ?_)
           rintro e wn ⟨rfl, hb1⟩
           have HXA := Lib.hid (HXA.out.on hb1)
           have HXP := Lib.hid (HXP.out.on hb1)
           have HNP := Lib.hid (HNP.out.on hb1)
           have HB := Lib.hid (below_on HB.out hb1)
           have HE := Lib.hid (HE.out.on hb1)
           clear hb1)
        | (go_at_call 30; (with_reducible refine (num_any _ _).mono ?_)
           rintro e wn ⟨rfl, hb1⟩
           have HXP := Lib.hid (HXP.out.on hb1)
           have HNP := Lib.hid (HNP.out.on hb1)
           have HB := Lib.hid (below_on HB.out hb1)
           have HE := Lib.hid (HE.out.on hb1)
           clear hb1)
        | (go_at_call 30; (with_reducible refine (num_any _ _).mono ?_)
           rintro e wn ⟨rfl, hb1⟩
           have HB := Lib.hid (below_on HB.out hb1)
           have HE := Lib.hid (HE.out.on hb1)
           clear hb1)
        | (go_at_call 17; (with_reducible refine (CEP.out _ _ _ ?_ ?_).mono ?_)
           · exact pu_made _
           · exact HE.out.on (next_alloc _ _)
           rintro e wp ⟨⟨sp, ap, np, cp, rfl, hv, hf⟩, hbv⟩
           have HE := Lib.hid (((HE.out.on (next_alloc _ _)).on hbv).on (next_alloc wp (.cells #[.int .i64 4, .int .i64 0, .string sp, .slice ap np cp] 33)))
           have HB := Lib.hid (below_on (below_on (below_on HB.out (next_alloc _ _)) hbv) (next_alloc wp (.cells #[.int .i64 4, .int .i64 0, .string sp, .slice ap np cp] 33)))
           have HXP := Lib.hid (BoxV.new wp (.int .i64 4) (.int .i64 0) (.string sp) (.slice ap np cp))
           have HNP := Lib.hid ((show Nums wp wp.heap.size ap np (l ++ [y]) from hv.2).on (next_alloc wp (.cells #[.int .i64 4, .int .i64 0, .string sp, .slice ap np cp] 33)))
           clear hv hf hbv)
        | (go_at_call 17; (with_reducible refine (CEA.out _ _ _ ?_ ?_).mono ?_)
           · exact at_made _ _
           · exact HE.out.on (next_alloc _ _)
           rintro e wa ⟨⟨sa, aa, na, ca, rfl, hv, hf⟩, hbv⟩
           have HE := Lib.hid (((HE.out.on (next_alloc _ _)).on hbv).on (next_alloc wa (.cells #[.int .i64 1, .int .i64 y, .string sa, .slice aa na ca] 33)))
           have HXP := Lib.hid (((HXP.out.on (next_alloc _ _)).on hbv).on (next_alloc wa (.cells #[.int .i64 1, .int .i64 y, .string sa, .slice aa na ca] 33)))
           have HNP := Lib.hid (((HNP.out.on (next_alloc _ _)).on hbv).on (next_alloc wa (.cells #[.int .i64 1, .int .i64 y, .string sa, .slice aa na ca] 33)))
           have HB := Lib.hid (below_on (below_on (below_on HB.out (next_alloc _ _)) hbv) (next_alloc wa (.cells #[.int .i64 1, .int .i64 y, .string sa, .slice aa na ca] 33)))
           have HXA := Lib.hid (BoxV.new wa (.int .i64 1) (.int .i64 y) (.string sa) (.slice aa na ca))
           clear hv hf hbv)
        | (go_at_call 17; (with_reducible refine (CEO.out _ _ _ ?_ ?_).mono ?_)
           · exact ou_made _ _
           · exact HE.out.on (next_alloc _ _)
           rintro e wo ⟨⟨so, ao, no, co, rfl, hv, hf⟩, hbv⟩
           have HE := Lib.hid (((HE.out.on (next_alloc _ _)).on hbv).on (next_alloc wo (.cells #[.int .i64 0, .int .i64 0, .string so, .slice ao no co] 33)))
           have HXA := Lib.hid (((HXA.out.on (next_alloc _ _)).on hbv).on (next_alloc wo (.cells #[.int .i64 0, .int .i64 0, .string so, .slice ao no co] 33)))
           have HXP := Lib.hid (((HXP.out.on (next_alloc _ _)).on hbv).on (next_alloc wo (.cells #[.int .i64 0, .int .i64 0, .string so, .slice ao no co] 33)))
           have HNP := Lib.hid (((HNP.out.on (next_alloc _ _)).on hbv).on (next_alloc wo (.cells #[.int .i64 0, .int .i64 0, .string so, .slice ao no co] 33)))
           have HB := Lib.hid (below_on (below_on (below_on HB.out (next_alloc _ _)) hbv) (next_alloc wo (.cells #[.int .i64 0, .int .i64 0, .string so, .slice ao no co] 33)))
           clear hv hf hbv)
        | (go_at_call 17; (with_reducible refine (CEL.out _ _ _ ?_ ?_).mono ?_)
           · exact le_made _
           · exact HE.out.on (next_alloc _ _)
           rintro e wl ⟨⟨sl, al, nl, cl, rfl, hv, hf⟩, hbv⟩
           have HE := Lib.hid (((HE.out.on (next_alloc _ _)).on hbv).on (next_alloc wl (.cells #[.int .i64 1, .int .i64 ((k : Int) + 1), .string sl, .slice al nl cl] 33)))
           have HXA := Lib.hid (((HXA.out.on (next_alloc _ _)).on hbv).on (next_alloc wl (.cells #[.int .i64 1, .int .i64 ((k : Int) + 1), .string sl, .slice al nl cl] 33)))
           have HXP := Lib.hid (((HXP.out.on (next_alloc _ _)).on hbv).on (next_alloc wl (.cells #[.int .i64 1, .int .i64 ((k : Int) + 1), .string sl, .slice al nl cl] 33)))
           have HNP := Lib.hid (((HNP.out.on (next_alloc _ _)).on hbv).on (next_alloc wl (.cells #[.int .i64 1, .int .i64 ((k : Int) + 1), .string sl, .slice al nl cl] 33)))
           have HB := Lib.hid (below_on (below_on (below_on HB.out (next_alloc _ _)) hbv) (next_alloc wl (.cells #[.int .i64 1, .int .i64 ((k : Int) + 1), .string sl, .slice al nl cl] 33)))
           have HBL := HB
           have HNX := Lib.hid (HN.out.below HB.out)
           have hnp : np = k + 1 := by have h1 := HNP.out.1; have h2 := HL.out; simp at h1; omega
           subst hnp
           obtain ⟨⟨p0, p1, p2, p3⟩, _⟩ := HXP.out.cells
           obtain ⟨⟨y0, y1, y2, y3⟩, _⟩ := HXA.out.cells
           obtain ⟨bp, op, xp, hap, hbp, hxp, z0⟩ := HNP.out.at_ (k := k) (by omega)
           have hxx : y = xp := by
             rw [List.getElem?_append_right (by rw [HL.out]; omega), HL.out, Nat.sub_self] at hxp
             simpa using hxp
           subst hap hxx
           clear hbp hxp
           clear hv hf hbv)
        | fail)
      go_ret
      exact ⟨rfl, HBL.out⟩
end Go.Proofs.Ythchilnibblbgaa
