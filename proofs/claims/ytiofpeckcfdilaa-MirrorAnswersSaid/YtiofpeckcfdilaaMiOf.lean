/- Contract of mirror's Of. -/
import Derived.Test.YtiofpeckcfdilaaMiPlain
import Derived.Test.YtiofpeckcfdilaaMiRow
import Derived.Test.YtiofpeckcfdilaaTuTrimO
import Derived.Test.YtiofpeckcfdilaaTuOwnRW
namespace Go.Proofs.Ytiofpeckcfdilaa
open Go.RowKit

/-- What the peer does at a turn, as it is laid. -/
def mirR (me : ByteArray) (r : TR) : TR := if r.k = 1 then ⟨2, me, r.a, r.n, r.c⟩ else if r.k = 2 then ⟨1, me, r.a, r.n, r.c⟩ else ⟨0, ⟨#[]⟩, none, 0, 0⟩
theorem mirR_reads {w : World} {lo0 lo : Nat} {r : TR} {t : TurnL} {me : ByteArray} (hm : me.size ≤ maxLen) (h : VFact w lo0 lo r t) : VFact w lo0 lo (mirR me r) (mirT me.toList t) := by
  obtain ⟨h1, _, _, h2, h3⟩ := h
  unfold mirR mirT
  rw [h1]
  by_cases k1 : t.kind = 1
  · rw [if_pos k1, if_pos k1]
    exact ⟨rfl, rfl, hm, h2, h3⟩
  · rw [if_neg k1, if_neg k1]
    by_cases k2 : t.kind = 2
    · rw [if_pos k2, if_pos k2]
      exact ⟨rfl, rfl, hm, h2, h3⟩
    · rw [if_neg k2, if_neg k2]
      exact ⟨rfl, by rw [ByteArray.toList_eq], by simp [maxLen, ByteArray.size], Arms.zero _ _ _, fun b off e => by cases e⟩
set_option maxHeartbeats 4000000 in
theorem opposite_any (r : TR) (me : ByteArray) (w : World) :
    Calls Try.prog 50 #[.agg #[.int .i64 r.k, .string r.s, .slice r.a r.n r.c], .string me] w fun e w' =>
      e = .returned (.agg #[.int .i64 (mirR me r).k, .string (mirR me r).s, .slice (mirR me r).a (mirR me r).n (mirR me r).c]) ∧ Below w.heap.size w w' := by
  obtain ⟨k, s, a, n, c⟩ := r
  by_cases k1 : k = 1
  · subst k1
    have HR := Lib.hid (show mirR me ⟨1, s, a, n, c⟩ = ⟨2, me, a, n, c⟩ from rfl)
    rw [HR.out]
    dsimp only
    go_enter Try.func50, Try.ntmps50
    go_wp2
    refine bodyPost_ret (v := .agg #[.int .i64 2, .string me, .slice a n c]) (by simp [results, go_sem]) rfl ?_
    exact ⟨rfl, below_on (tu1 w _) (tu1 _ _)⟩
  · by_cases k2 : k = 2
    · subst k2
      have HR := Lib.hid (show mirR me ⟨2, s, a, n, c⟩ = ⟨1, me, a, n, c⟩ from rfl)
      rw [HR.out]
      dsimp only
      go_enter Try.func50, Try.ntmps50
      go_wp2
      refine bodyPost_ret (v := .agg #[.int .i64 1, .string me, .slice a n c]) (by simp [results, go_sem]) rfl ?_
      exact ⟨rfl, below_on (tu1 w _) (tu1 _ _)⟩
    · have HR := Lib.hid (show mirR me ⟨k, s, a, n, c⟩ = ⟨0, ⟨#[]⟩, none, 0, 0⟩ by unfold mirR; rw [if_neg k1, if_neg k2])
      rw [HR.out]
      dsimp only
      have e1 : (k == 1) = false := beq_eq_false_iff_ne.2 k1
      have e2 : (k == 2) = false := beq_eq_false_iff_ne.2 k2
      go_enter Try.func50, Try.ntmps50
      go_wp2
      refine bodyPost_ret (v := .agg #[.int .i64 0, .string ⟨#[]⟩, .slice none 0 0]) (by simp [results, go_sem]) rfl ?_
      exact ⟨rfl, below_on (tu1 w _) (tu1 _ _)⟩
set_option maxHeartbeats 4000000 in
theorem ofClo_any (r : TR) (me : ByteArray) (A : Nat) (w : World) (hA : w.cell? ⟨A, 0, none⟩ = some (.string me)) (hlt : A < w.heap.size) :
    Calls Try.prog 49 #[.agg #[.int .i64 r.k, .string r.s, .slice r.a r.n r.c], .pointer (some ⟨A, 0, none⟩)] w fun e w' =>
      e = .returned (.agg #[.int .i64 (mirR me r).k, .string (mirR me r).s, .slice (mirR me r).a (mirR me r).n (mirR me r).c]) ∧ Below w.heap.size w w' := by
  obtain ⟨q, hq⟩ : ∃ q, q = mirR me r := ⟨_, rfl⟩
  have CO := Lib.hid (fun (W : World) => opposite_any r me W)
  rw [← hq] at CO ⊢
  clear hq
  obtain ⟨k, s, a, n, c⟩ := r
  obtain ⟨k', s', a', n', c'⟩ := q
  dsimp only at CO ⊢
  have HB0 := Lib.hid (below_on (tu1 w (.cells #[.int .i64 k, .string s, .slice a n c] 52)) (tu1 (w.alloc (.cells #[.int .i64 k, .string s, .slice a n c] 52)) (.cells #[.int .i64 0, .string ⟨#[]⟩, .slice none 0 0] 52)))
  have hA2 := (HB0.out.cell (p := ⟨A, 0, none⟩) hlt).trans hA
  have HT0 := Lib.hid (TBox.new (w.alloc (.cells #[.int .i64 k, .string s, .slice a n c] 52)) 0 ⟨#[]⟩ none 0 0)
  rw [World.size_alloc] at HT0
  go_enter Try.func49, Try.ntmps49
  go_wp2_with (first
    | (go_at_call 50; (with_reducible refine (CO.out _).mono ?_)
       rintro e w1 ⟨rfl, hb1⟩
       have HB1 := Lib.hid (below_on HB0.out hb1)
       have HT1 := Lib.hid (show TBox w1 (w.heap.size + 1) 0 ⟨#[]⟩ none 0 0 from (hb1.block (w.heap.size + 1) (by simp)).trans HT0.out)
       obtain ⟨_, _, _⟩ := HT1.out.cells
       have f0 := HT1.out.thaw 0
       have f1 := HT1.out.thaw 1
       have f2 := HT1.out.thaw 2
       clear hb1)
    | fail)
  refine bodyPost_ret (v := .agg #[.int .i64 k', .string s', .slice a' n' c']) (by simp [results, go_sem, *]) rfl ?_
  exact ⟨rfl, ((HB1.out.setCell (by simp) _).setCell (by simp) _).setCell (by simp) _⟩
set_option maxHeartbeats 8000000 in
set_option maxRecDepth 20000 in
theorem each_any (a : Option Addr) (n c : Nat) (us : List TurnL) (me : ByteArray) (A : Nat) (w w0 : World) (lo0 : Nat) (h0 : TOwn w0 lo0 (.slice a n c) us) (hw0 : Below w0.heap.size w0 w) (hul : us.length = n) (hA : w.cell? ⟨A, 0, none⟩ = some (.string me)) (hlt : A < w.heap.size) (hm : me.size ≤ maxLen) (hn : n ≤ 1000) :
    Calls Try.prog 48 #[.slice a n c, .func (.func 49) #[] #[.pointer (some ⟨A, 0, none⟩)]] w fun e w' => (∃ v, e = .returned v ∧ VOwn w' lo0 w0.heap.size w.heap.size v (mirL me.toList us)) ∧ Below w.heap.size w w' := by
  have HN := Lib.hid h0
  have HA := Lib.hid hA
  have HLEN := Lib.hid hul
  have HW0 := Lib.hid hw0
  have hlo := hw0.size
  clear h0 hA hw0
  go_enter Try.func48, Try.ntmps48
  go_wp2
  go_loopw [5, 10] (fun o i wr => ∃ (k : Nat) (v : Value), k ≤ n ∧ i = .int .i64 k ∧ v = o ∧ Hid (VOwn wr lo0 w0.heap.size w.heap.size v ((us.take k).map (mirT me.toList))) ∧ Hid (Below w.heap.size w wr)) (fun _ i _ => n - (intOf i).toNat)
  case atStart => exact ⟨0, _, Nat.zero_le _, rfl, rfl, Lib.hid (VOwn.zero _ _ _ _), Lib.hid (Below.refl _ _)⟩
  case round =>
    obtain ⟨k, v, hk, rfl, hvo, HO, HBr⟩ := hrel
    subst hvo
    by_cases hkn : k < n
    · obtain ⟨b, ⟨kd, s, aa, an, ac⟩, t, rfl, hbb, ht, ⟨q0, q1, q2⟩, hvf⟩ := HN.out.at2 hkn
      dsimp only at q0 q1 q2
      have HBW := Lib.hid (below_on HW0.out HBr.out)
      have r0 := (HBW.out.cell (p := ⟨b, k * 3, none⟩) hbb).trans q0
      have r1 := (HBW.out.cell (p := ⟨b, k * 3 + 1, none⟩) hbb).trans q1
      have r2 := (HBW.out.cell (p := ⟨b, k * 3 + 2, none⟩) hbb).trans q2
      have HST := Lib.hid (show (us.take (k + 1)).map (mirT me.toList) = (us.take k).map (mirT me.toList) ++ [mirT me.toList t] by rw [take_snoc ht, List.map_append]; rfl)
      have hzr := HBr.out.size
      have HB0 := Lib.hid (tu1 wr (.cells #[.int .i64 kd, .string s, .slice aa an ac] 52))
      have HB1 := Lib.hid (below_on HBr.out HB0.out)
      have HRD := Lib.hid (fun (W : World) (hW : Below w0.heap.size w0 W) => mirR_reads (me := me) hm (hvf.below hW))
      have CN := Lib.hid (fun (W : World) (hW : Below w.heap.size w W) => ofClo_any ⟨kd, s, aa, an, ac⟩ me A W ((hW.cell (p := ⟨A, 0, none⟩) hlt).trans HA.out) (by have := hW.size; omega))
      obtain ⟨T, hT⟩ : ∃ T, T = mirT me.toList t := ⟨_, rfl⟩
      obtain ⟨q, hq⟩ : ∃ q, q = mirR me ⟨kd, s, aa, an, ac⟩ := ⟨_, rfl⟩
      rw [← hT] at HST HRD
      rw [← hq] at CN HRD
      clear hT hq
      obtain ⟨k', s', a', n', c'⟩ := q
      dsimp only at CN
      have HFL := Lib.hid (show ((us.take k).map (mirT me.toList)).length ≤ 1000000 by rw [List.length_map, List.length_take]; omega)
      have i1 : (k : Int) < (n : Int) := by omega
      have z1 : b < wr.heap.size := by omega
      clear ht hvf q0 q1 q2
      go_wp2_with (first
        | (at_builtin
           refine wpList_append_vturn rfl (.tmp 14) (.tmp 18) rfl lo0 w0.heap.size w.heap.size v ((us.take k).map (mirT me.toList)) ⟨k', s', a', n', c'⟩ T rfl rfl rfl rfl HO3.out HR3.out hlo hz3 HFL.out w HB3.out ?_
           intro v4 w4 hown hbel
           have HO4 := Lib.hid hown
           have HB4 := Lib.hid hbel
           clear hown hbel)
        | (go_at_call 49; (with_reducible refine (CN.out _ HB1.out).mono ?_)
           rintro e w3 ⟨rfl, hb3⟩
           have HB3 := Lib.hid (below_on HB1.out hb3)
           have HR3 := Lib.hid (HRD.out _ (below_on HBW.out (below_on HB0.out hb3)))
           have HO3 := Lib.hid (HO.out.below (below_on HB0.out hb3) (Nat.le_refl _) (by omega))
           have hz3 : w.heap.size ≤ w3.heap.size := HB3.out.size
           clear hb3)
        | fail)
      go_roundw
      case rel => exact ⟨k + 1, v4, by omega, by go_num, rfl, Lib.hid (by rw [HST.out]; exact HO4.out), HB4⟩
      case measure => simp [intOf]; omega
    · have HE := Lib.hid (show VOwn wr lo0 w0.heap.size w.heap.size v (mirL me.toList us) by
        have := HO.out
        rw [List.take_of_length_le (by rw [HLEN.out]; omega)] at this
        exact this)
      go_wp2
      go_ret
      exact ⟨⟨v, rfl, HE.out⟩, HBr.out⟩
set_option maxHeartbeats 8000000 in
theorem fault_any (nm me : ByteArray) (a : Option Addr) (n c : Nat) (ts : List TurnL) (w : World) (bound : Nat) (hb : bound ≤ w.heap.size) (h : Turns w bound a n ts) (hm : me.size ≤ maxLen) :
    Calls Try.prog 47 #[.agg #[.string nm, .slice a n c], .string me] w fun e w' => e = .returned (.int .i64 (mirE ts me.toList)) ∧ Below w.heap.size w w' := by
  have HB0 := Lib.hid (tu1 w (.cells #[.string nm, .slice a n c] 38))
  have HL := Lib.hid (LBox.new w nm a n c)
  have CM := Lib.hid (fun (W : World) (hW : Below w.heap.size w W) => ownMay_any nm a n c ts W bound (by have := hW.size; omega) (h.below (hW.mono hb)))
  have CP := Lib.hid (fun (W : World) (hW : Below w.heap.size w W) => ownPeers_any nm a n c ts W bound (by have := hW.size; omega) (h.below (hW.mono hb)))
  have CK := Lib.hid (fun (W : World) => may_any me W hm)
  have CH := Lib.hid (fun (W : World) (ra : Option Addr) (rn rc : Nat) (hs : Strs W W.heap.size ra rn (peersT ts)) => has_any ra rn rc (peersT ts) me W _ hs)
  obtain ⟨lc0, lc1⟩ := HL.out.cells
  clear h
  cases hv : locB ts
  · have HE := Lib.hid (show mirE ts me.toList = 1200 by unfold mirE; rw [hv]; rfl)
    rw [hv] at CM
    rw [HE.out]
    clear hv
    go_enter Try.func47, Try.ntmps47
    go_wp2_with (first
      | (go_at_call 20; (with_reducible refine (CM.out _ HB0.out).mono ?_)
         rintro e w1 ⟨rfl, hb1⟩
         have HB1 := Lib.hid (below_on HB0.out hb1)
         clear hb1)
      | fail)
    go_ret
    exact ⟨rfl, HB1.out⟩
  · rw [hv] at CM
    cases hk : may me.toList
    · have HE := Lib.hid (show mirE ts me.toList = 1200 by unfold mirE; rw [hv, hk]; rfl)
      rw [hk] at CK
      rw [HE.out]
      clear hv hk
      go_enter Try.func47, Try.ntmps47
      go_wp2_with (first
        | (go_at_call 20; (with_reducible refine (CM.out _ HB0.out).mono ?_)
           rintro e w1 ⟨rfl, hb1⟩
           have HB1 := Lib.hid (below_on HB0.out hb1)
           clear hb1)
        | (go_at_call 70; (with_reducible refine (CK.out _).mono ?_)
           rintro e w2 ⟨rfl, rfl⟩)
        | fail)
      go_ret
      exact ⟨rfl, HB1.out⟩
    · rw [hk] at CK
      have HE := Lib.hid (show mirE ts me.toList = if decide (1 < (peersT ts).length) || hasS (peersT ts) me.toList then 1201 else 0 by unfold mirE; rw [hv, hk]; rfl)
      clear hv hk
      by_cases h1 : 1 < (peersT ts).length
      · have HQ := Lib.hid (show mirE ts me.toList = 1201 by rw [HE.out, decide_eq_true h1]; rfl)
        have H1 := Lib.hid h1
        rw [HQ.out]
        clear h1
        go_enter Try.func47, Try.ntmps47
        go_wp2_with (first
          | (go_at_call 20; (with_reducible refine (CM.out _ HB0.out).mono ?_)
             rintro e w1 ⟨rfl, hb1⟩
             have HB1 := Lib.hid (below_on HB0.out hb1)
             obtain ⟨_, _⟩ := (HL.out.on hb1).cells
             clear hb1)
          | (go_at_call 70; (with_reducible refine (CK.out _).mono ?_)
             rintro e w2 ⟨rfl, rfl⟩)
          | (go_at_call 21; (with_reducible refine (CP.out _ HB1.out).mono ?_)
             rintro e w3 ⟨⟨ra, rn, rc, rfl, hss⟩, hb3⟩
             have HB3 := Lib.hid (below_on HB1.out hb3)
             have d1 : decide ((1 : Int) < (rn : Int)) = true := decide_eq_true (by have := hss.1; have := H1.out; omega)
             clear hb3 hss)
          | fail)
        go_ret
        exact ⟨rfl, HB3.out⟩
      · have H1 := Lib.hid h1
        cases hh : hasS (peersT ts) me.toList
        all_goals
          have HQ := Lib.hid HE.out
          rw [decide_eq_false h1, hh] at HQ
          rw [HQ.out]
          rw [hh] at CH
          clear h1 hh
          go_enter Try.func47, Try.ntmps47
          go_wp2_with (first
            | (go_at_call 20; (with_reducible refine (CM.out _ HB0.out).mono ?_)
               rintro e w1 ⟨rfl, hb1⟩
               have HB1 := Lib.hid (below_on HB0.out hb1)
               obtain ⟨_, _⟩ := (HL.out.on hb1).cells
               clear hb1)
            | (go_at_call 70; (with_reducible refine (CK.out _).mono ?_)
               rintro e w2 ⟨rfl, rfl⟩)
            | (go_at_call 21; (with_reducible refine (CP.out _ HB1.out).mono ?_)
               rintro e w3 ⟨⟨ra, rn, rc, rfl, hss⟩, hb3⟩
               have HB3 := Lib.hid (below_on HB1.out hb3)
               have d1 : decide ((1 : Int) < (rn : Int)) = false := decide_eq_false (by have := hss.1; have := H1.out; omega)
               have HS := Lib.hid hss
               clear hb3 hss)
            | (go_at_call 71; (with_reducible refine (CH.out _ _ _ _ HS.out).mono ?_)
               rintro e w4 ⟨rfl, rfl⟩)
            | fail)
          go_ret
          exact ⟨rfl, HB3.out⟩
/-- What Of answers: its type's name and turns. -/
def mirN (ts : List TurnL) (nm : ByteArray) (me : Str) : ByteArray := if mirE ts me = 0 then nm else ⟨#[]⟩
def mirQ (ts : List TurnL) (me : Str) : List TurnL := if mirE ts me = 0 then mirL me (trimT ts) else []
def OfRet (nm : ByteArray) (ts : List TurnL) (me : Str) (w : World) (e : Ending) (w' : World) : Prop :=
  (∃ ra rn rc, e = .returned (.tuple #[.agg #[.string (mirN ts nm me), .slice ra rn rc], .int .i64 (mirE ts me)]) ∧ Turns w' w'.heap.size ra rn (mirQ ts me)) ∧ Below w.heap.size w w'
theorem mirE_ok {ts : List TurnL} {me : Str} (h : mirE ts me = 0) : locB ts = true ∧ may me = true := by
  unfold mirE at h
  cases hv : locB ts
  · rw [hv] at h; simp at h
  · cases hk : may me
    · rw [hv, hk] at h; simp at h
    · exact ⟨rfl, rfl⟩
set_option maxHeartbeats 8000000 in
theorem of_any (nm me : ByteArray) (a : Option Addr) (n c : Nat) (ts : List TurnL) (w : World) (bound : Nat) (hb : bound ≤ w.heap.size) (h : Turns w bound a n ts) (hm : me.size ≤ maxLen) :
    Calls Try.prog 19 #[.agg #[.string nm, .slice a n c], .string me] w fun e w' => OfRet nm ts me.toList w e w' := by
  obtain ⟨w0, hw0⟩ : ∃ w0, w0 = ((w.alloc (.cells #[.string nm, .slice a n c] 38)).alloc (.cells #[.string me] 9)).alloc (.cells #[.string ⟨#[]⟩, .slice none 0 0] 38) := ⟨_, rfl⟩
  have hsz0 : w0.heap.size = w.heap.size + 3 := by rw [hw0]; simp
  have HB0 := Lib.hid (show Below w.heap.size w w0 by rw [hw0]; exact below_on (below_on (tu1 w _) (tu1 _ _)) (tu1 _ _))
  have HL0 := Lib.hid (show LBox w0 w.heap.size nm a n c by rw [hw0]; exact ((LBox.new w nm a n c).on (tu1 _ _)).on (tu1 _ _))
  have HX0 := Lib.hid (show LBox w0 (w.heap.size + 2) ⟨#[]⟩ none 0 0 by
    rw [hw0]
    have := LBox.new ((w.alloc (.cells #[.string nm, .slice a n c] 38)).alloc (.cells #[.string me] 9)) ⟨#[]⟩ none 0 0
    rw [World.size_alloc, World.size_alloc] at this
    exact this)
  have hme : w0.cell? ⟨w.heap.size + 1, 0, none⟩ = some (.string me) := by
    have h1 := heap_alloc_new (w.alloc (.cells #[.string nm, .slice a n c] 38)) (.cells #[.string me] 9)
    rw [World.size_alloc] at h1
    rw [hw0]
    refine ((tu1 _ _).cell (p := ⟨w.heap.size + 1, 0, none⟩) (by simp)).trans ?_
    rw [cell_of_row _ _ _ _ _ _ h1]
    rfl
  have HME := Lib.hid hme
  have CF := Lib.hid (fault_any nm me a n c ts w0 bound (by omega) (h.below (HB0.out.mono hb)) hm)
  have CT := Lib.hid (fun (W : World) (hW : Below w0.heap.size w0 W) => ownTrimO_any nm a n c ts W bound (by have := hW.size; omega) ((h.below (HB0.out.mono hb)).below (hW.mono (by omega))))
  obtain ⟨lc0, lc1⟩ := HL0.out.cells
  obtain ⟨xc0, xc1⟩ := HX0.out.cells
  clear h
  by_cases he : mirE ts me.toList = 0
  · have HN := Lib.hid (show mirN ts nm me.toList = nm by unfold mirN; rw [if_pos he])
    have HQ := Lib.hid (show mirQ ts me.toList = mirL me.toList (trimT ts) by unfold mirQ; rw [if_pos he])
    have HV := Lib.hid (mirE_ok he).1
    have HE := Lib.hid he
    rw [he] at CF
    rw [trimL_of HV.out, trimName_of HV.out] at CT
    clear he
    have H40 := Lib.hid (show (trimT ts).length ≤ 40 by have := trimL_few ts; rw [trimL_of HV.out] at this; exact this)
    subst hw0
    go_enter Try.func19, Try.ntmps19
    go_wp2_with (first
      | (go_at_call 47; (with_reducible refine CF.out.mono ?_)
         rintro e w1 ⟨rfl, hb1⟩
         have HB1 := Lib.hid hb1
         have HL1 := Lib.hid (HL0.out.on hb1)
         have HX1 := Lib.hid (HX0.out.on hb1)
         have hm1 := (hb1.cell (p := ⟨w.heap.size + 1, 0, none⟩) (by show w.heap.size + 1 < _; omega)).trans HME.out
         obtain ⟨_, _⟩ := HL1.out.cells
         clear hb1)
      | (go_at_call 23; (with_reducible refine (CT.out _ HB1.out).mono ?_)
         rintro e w2 ⟨⟨ra, rn, rc, rfl, ht2⟩, hb2⟩
         have HB2 := Lib.hid (below_on HB1.out hb2)
         have HT2 := Lib.hid ht2
         have HX2 := Lib.hid (HX1.out.on hb2)
         have hz1 : w.heap.size + 3 ≤ w1.heap.size := by have := HB1.out.size; omega
         have hz2 := hb2.size
         obtain ⟨ra', rc', hsl, _⟩ := ht2.sees (by have := H40.out; omega)
         have HRN := Lib.hid (show (trimT ts).length = rn from (Value.slice.inj hsl).2.1.symm)
         have HM2 := Lib.hid ((hb2.cell (p := ⟨w.heap.size + 1, 0, none⟩) (by show w.heap.size + 1 < _; omega)).trans hm1)
         have HM3 := Lib.hid (((tu1 w2 (.cells #[.string nm, .slice ra rn rc] 38)).cell (p := ⟨w.heap.size + 1, 0, none⟩) (by show w.heap.size + 1 < _; omega)).trans HM2.out)
         have HL3 := Lib.hid (LBox.new w2 nm ra rn rc)
         have hr40 : rn ≤ 1000 := by have := H40.out; have := HRN.out; omega
         clear hb2 hm1 hsl ht2)
      | (go_at_call 48; (with_reducible refine (each_any ra rn rc (trimT ts) me (w.heap.size + 1) _ w2 w1.heap.size HT2.out (tu1 w2 _) HRN.out HM3.out (by simp; omega) hm hr40).mono ?_)
         rintro e w4 ⟨⟨v, rfl, hv4⟩, hb4⟩
         have HB4 := Lib.hid (below_on HB2.out (below_on (tu1 w2 _) hb4))
         have HX4 := Lib.hid ((HX2.out.on (tu1 w2 _)).on hb4)
         have HL4 := Lib.hid (HL3.out.on hb4)
         have hz4 := hb4.size
         rw [World.size_alloc] at hz4
         obtain ⟨xa, xc, hxv, _⟩ := hv4.sees (by rw [mir_len]; have := HRN.out; omega) (by omega)
         rw [mir_len, HRN.out] at hxv
         subst hxv
         rw [World.size_alloc] at hv4
         have HV4 := Lib.hid hv4
         obtain ⟨_, _⟩ := HL4.out.cells
         have f1 := HL4.out.thaw 1
         obtain ⟨_, _⟩ := HX4.out.cells
         have f2 := HX4.out.thaw 0
         have f3 := HX4.out.thaw 1
         clear hb4 hv4)
      | fail)
    have hq0 : w.heap.size + 1 + 1 < w1.heap.size := by omega
    have HF := Lib.hid (((HV4.out.beside ((Beside.refl w2.heap.size w4).setCell 1 (.slice xa rn xc)) (by omega) (by omega) (by omega)).beside ((Beside.refl (w.heap.size + 1 + 1) _).setCell 0 (.string nm)) (by omega) (by omega) (by simp; omega)).beside ((Beside.refl (w.heap.size + 1 + 1) _).setCell 1 (.slice xa rn xc)) (by omega) (by omega) (by simp; omega))
    refine bodyPost_ret (v := .tuple #[.agg #[.string nm, .slice xa rn xc], .int .i64 0]) (by simp [results, go_sem, *]) rfl ?_
    refine ⟨⟨xa, rn, xc, by rw [HN.out, HE.out], ?_⟩, (((below_on HB0.out HB4.out).setCell (by show w.heap.size ≤ w2.heap.size; omega) _).setCell (by show w.heap.size ≤ w.heap.size + 1 + 1; omega) _).setCell (by show w.heap.size ≤ w.heap.size + 1 + 1; omega) _⟩
    obtain ⟨ya, yc, hyv, hyt⟩ := HF.out.sees (by rw [mir_len]; have := HRN.out; omega) (by simp; omega)
    rw [mir_len, HRN.out] at hyv hyt
    obtain ⟨e1, _, _⟩ := Value.slice.inj hyv
    subst e1
    rw [HQ.out]
    exact hyt
  · have HN := Lib.hid (show mirN ts nm me.toList = ⟨#[]⟩ by unfold mirN; rw [if_neg he])
    have HQ := Lib.hid (show mirQ ts me.toList = [] by unfold mirQ; rw [if_neg he])
    obtain ⟨E, hE⟩ : ∃ E, E = mirE ts me.toList := ⟨_, rfl⟩
    rw [← hE] at CF he
    have HE := Lib.hid hE
    have en : (E != 0) = true := bne_iff_ne.2 he
    clear he hE
    subst hw0
    go_enter Try.func19, Try.ntmps19
    go_wp2_with (first
      | (go_at_call 47; (with_reducible refine CF.out.mono ?_)
         rintro e w1 ⟨rfl, hb1⟩
         have HB1 := Lib.hid (below_on HB0.out hb1)
         have HX1 := Lib.hid (HX0.out.on hb1)
         obtain ⟨_, _⟩ := HX1.out.cells
         have f2 := HX1.out.thaw 0
         have f3 := HX1.out.thaw 1
         clear hb1)
      | fail)
    refine bodyPost_ret (v := .tuple #[.agg #[.string ⟨#[]⟩, .slice none 0 0], .int .i64 E]) (by simp [results, go_sem, *]) rfl ?_
    refine ⟨⟨none, 0, 0, by rw [HN.out, ← HE.out], by rw [HQ.out]; exact Turns.zero _ _ _⟩, (HB1.out.setCell (by show w.heap.size ≤ w.heap.size + 1 + 1; omega) _).setCell (by show w.heap.size ≤ w.heap.size + 1 + 1; omega) _⟩
end Go.Proofs.Ytiofpeckcfdilaa
