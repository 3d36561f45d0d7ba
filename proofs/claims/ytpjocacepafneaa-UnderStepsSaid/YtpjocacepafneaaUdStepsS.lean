/- Law: UnderSteps. (Printed by gen/gen11.py.) -/
import Derived.Test.YtpjocacepafneaaUdAll
import Derived.Deep.RegionHeld3
import Derived.Deep.DeepCutAuto
import Derived.Deep.CutBlock
import Derived.Test.YtpjocacepafneaaTuSeat
import Derived.ShutString
namespace Go.Proofs.Ytpjocacepafneaa
open Go.RowKit Go.Sort

theorem LB10.isU {w W : World} {g : Nat} {na sa ra : Option Addr} {nn nc sc rc : Nat} {b : BookL} (h : LB10 w W g na nn nc sa sc ra rc b) (x y : Int) :
    Calls Try.prog 26 #[bkV na nn nc sa 2 sc ra 2 rc, .int .i64 x, .int .i64 y] W fun e w' => e = .returned (.bool (isQ b (x, y))) ∧ Below W.heap.size W w' :=
  is_any na nn nc sa 2 sc ra 2 rc b x y W _ (Nat.le_refl _) h.bk
theorem isQ_refl {b : BookL} (hb : bookB b = true) {p : Nat} (hp : p < b.nodes.length) : isQ b ((p : Int), (p : Int)) = true := (isQ_iff hb).2 (und_refl (bookB_ok hb).1 (inBk_iff.2 ⟨by omega, by simpa using hp⟩))
theorem isQ_trans {b : BookL} (hb : bookB b = true) {x y z : Int} (h1 : isQ b (x, y) = true) (h2 : isQ b (y, z) = true) : isQ b (x, z) = true := (isQ_iff hb).2 (und_trans (bookB_ok hb).1 ((isQ_iff hb).1 h1) ((isQ_iff hb).1 h2))
theorem stepU_at {b : BookL} (hb : bookB b = true) {p q : Nat} (h : isQ b ((p : Int), (q : Int)) = true) : ∃ a c : NodeL, b.nodes[p]? = some a ∧ b.nodes[q]? = some c ∧ LV a c ∧ ∀ r, Obl a c r → isQ b r = true := by
  obtain ⟨_, a, c, ha, hc, hl, ho⟩ := und_at (bookB_ok hb).1 ((isQ_iff hb).1 h)
  exact ⟨a, c, by simpa using ha, by simpa using hc, hl, fun r hr => (isQ_iff hb).2 (ho r hr)⟩
theorem nodeB_kinds {n : Nat} {t : NodeL} (h : nodeB n t = true) : t.kind = 0 ∧ t.arms = [] ∨ (t.kind = 1 ∨ t.kind = 2) ∧ 1 ≤ t.arms.length := by
  unfold nodeB at h
  split at h
  · rename_i h0
    simp only [Bool.and_eq_true, List.isEmpty_iff] at h
    exact .inl ⟨h0, h.2⟩
  · split at h
    · rename_i h1
      rw [Bool.and_eq_true] at h
      have h2 := h.2
      unfold edgesB at h2
      simp only [Bool.and_eq_true, decide_eq_true_eq] at h2
      exact .inr ⟨h1, h2.1.2⟩
    · cases h
def lessU (a c : NodeL) : NodeL := if a.kind = 1 then c else a
def moreU (a c : NodeL) : NodeL := if a.kind = 1 then a else c
theorem steps_has {n m : Nat} {a c : NodeL} (ha : nodeB n a = true) (hc : nodeB m c = true) (h : LV a c) : ((lessU a c).arms = [] → a.kind = 0) ∧ (∀ e ∈ (lessU a c).arms, ∃ f ∈ (moreU a c).arms, f.label = e.label) ∧ ∀ e ∈ (lessU a c).arms, ∀ f ∈ (moreU a c).arms, f.label = e.label → f.sk = e.sk ∧ (a.kind = 1 → Obl a c (f.next, e.next)) ∧ (a.kind ≠ 1 → Obl a c (e.next, f.next)) := by
  unfold lessU moreU
  by_cases hk : a.kind = 1
  · rw [if_pos hk, if_pos hk]
    refine ⟨fun h0 => ?_, fun e he => ?_, fun e he f hf hl => ⟨h.2.2.2.2 f hf e he hl, fun _ => ⟨f, hf, e, he, hl, .inl rfl⟩, fun h2 => absurd hk h2⟩⟩
    · rcases nodeB_kinds hc with ⟨h1, _⟩ | ⟨_, h2⟩
      · rw [← h.1, hk] at h1; omega
      · rw [h0] at h2; simp at h2
    · obtain ⟨f, hf, hl⟩ := h.2.2.2.1 (by omega) e he
      exact ⟨f, hf, hl⟩
  · rw [if_neg hk, if_neg hk]
    refine ⟨fun h0 => ?_, fun e he => ?_, fun e he f hf hl => ⟨(h.2.2.2.2 e he f hf hl.symm).symm, fun h2 => absurd h2 hk, fun _ => ⟨e, he, f, hf, hl.symm, .inl rfl⟩⟩⟩
    · rcases nodeB_kinds ha with ⟨h1, _⟩ | ⟨_, h2⟩
      · exact h1
      · rw [h0] at h2; simp at h2
    · rcases nodeB_kinds ha with ⟨_, h2⟩ | ⟨h1, _⟩
      · rw [h2] at he; cases he
      · have h2 : a.kind = 2 := by rcases h1 with h1 | h1; exact absurd h1 hk; exact h1
        obtain ⟨f, hf, hl⟩ := h.2.2.1 h2 e he
        exact ⟨f, hf, hl.symm⟩
/-- The last place, of so many, with this label. -/
def lastI (s : Str) (l : List EdgeL) : Nat → Int
  | 0 => -1
  | j + 1 => if (l[j]?.map EdgeL.label) = some s then (j : Int) else lastI s l j
theorem lastI_ex {s : Str} {l : List EdgeL} : ∀ n, (∃ i, i < n ∧ l[i]?.map EdgeL.label = some s) → ∃ m : Nat, m < n ∧ lastI s l n = (m : Int) ∧ l[m]?.map EdgeL.label = some s
  | 0, h => by obtain ⟨i, hi, _⟩ := h; omega
  | n + 1, h => by
    by_cases hn : l[n]?.map EdgeL.label = some s
    · exact ⟨n, by omega, by rw [lastI, if_pos hn], hn⟩
    · obtain ⟨i, hi, he⟩ := h
      have hin : i ≠ n := fun e => hn (by rw [← e]; exact he)
      obtain ⟨m, h1, h2, h3⟩ := lastI_ex n ⟨i, by omega, he⟩
      exact ⟨m, by omega, by rw [lastI, if_neg hn]; exact h2, h3⟩
theorem NBox.thawU {W : World} {g : Nat} {kd : Int} {s : ByteArray} {aa : Option Addr} {an ac : Nat} (h : NBox W g kd s aa an ac) (j : Nat) : W.frozen? ⟨g, j, none⟩ = false := by
  unfold World.frozen?
  rw [show W.heap[g]? = _ from h]
  simp
theorem NBox.drewU {W : World} {g : Nat} {kd : Int} {s : ByteArray} {aa : Option Addr} {an ac : Nat} (h : NBox W g kd s aa an ac) : NBox W.drew g kd s aa an ac := h
theorem NBox.puts {W : World} {g : Nat} {kd kd' : Int} {s s' : ByteArray} {aa aa' : Option Addr} {an ac an' ac' : Nat} (h : NBox W g kd s aa an ac) : NBox (((W.setCell ⟨g, 0, none⟩ (.int .i64 kd')).setCell ⟨g, 1, none⟩ (.string s')).setCell ⟨g, 2, none⟩ (.slice aa' an' ac')) g kd' s' aa' an' ac' := by
  have h0 : (W.setCell ⟨g, 0, none⟩ (.int .i64 kd')).heap[g]? = some (.cells #[.int .i64 kd', .string s, .slice aa an ac] 39 (0, 0)) := by rw [heap_setCell_same W g 0 _ _ _ h]; rfl
  have h1 : ((W.setCell ⟨g, 0, none⟩ (.int .i64 kd')).setCell ⟨g, 1, none⟩ (.string s')).heap[g]? = some (.cells #[.int .i64 kd', .string s', .slice aa an ac] 39 (0, 0)) := by rw [heap_setCell_same _ g 1 _ _ _ h0]; rfl
  unfold NBox
  rw [heap_setCell_same _ g 2 _ _ _ h1]
  rfl
set_option maxHeartbeats 32000000 in
set_option maxRecDepth 40000 in
theorem underSteps_walk (a : Option Addr) (n c : Nat) (l : List Int) (x y : Int) (a' : Option Addr) (n' c' : Nat) (l' : List Int) (w : World) (h : Nums w w.heap.size a n l) (hlim : n * 8 ≤ 140737488351232) (h' : Nums w w.heap.size a' n' l') (_hlim' : n' * 8 ≤ 140737488351232) :
    Calls Try.prog 8 #[.slice a n c, .int .i64 x, .int .i64 y, .slice a' n' c'] w fun e w' => e = .returned (.bool true) ∧ Below w.heap.size w w' := by
  have HN := Lib.hid h
  have HF := Lib.hid (first11_any w)
  have HLP := Lib.hid given11_any
  have hn0 := h.1
  have HLN := Lib.hid hn0
  clear h hn0
  go_enter Try.func8, Try.ntmps8
  go_upto_region 4 with (first
    | (go_at_call 22; (with_reducible refine HF.out.mono ?_)
       rintro e w1 ⟨rfl, hb1⟩
       have HB1 := Lib.hid hb1
       clear hb1)
    | (go_at_call 24; (with_reducible refine (HLP.out w1).mono ?_)
       rintro e w2 ⟨⟨pa, pn, pc, qa, qn, qc, ua, un, uc, rfl, _⟩, hb2⟩
       have HB2 := Lib.hid (below_on HB1.out hb2)
       clear hb2)
    | (at_builtin
       refine wpList_append_plus10 rfl (.tmp 23) (.tmp 24) rfl w2.heap.size w.heap.size (.slice (some ⟨w2.heap.size, 0, none⟩) 1 1) a n c [6] l rfl rfl (IInts.one (W := w2) (cs := #[.int .i64 6]) (base := w2.heap.size) (g := w2.heap.size) 6 rfl rfl (Nat.le_refl _)) ((HN.out.below HB2.out).alloc HB2.out.size _) (by show (1 + n) * 8 ≤ _; omega) (by simp) ?_
       intro v3 w3 hown hgr
       obtain ⟨ma, mc, hv, _, _, _, hnu⟩ := hown.sees
       obtain ⟨mn, hmn⟩ : ∃ mn, mn = ([6] ++ l : List Int).length := ⟨_, rfl⟩
       rw [← hmn] at hv hnu
       subst hv
       have hml : mn * 8 ≤ 140737488355328 := by rw [hmn, List.length_append, HLN.out]; show (1 + n) * 8 ≤ _; omega
       have hm0 : 0 < mn := by rw [hmn]; simp
       clear hmn
       have HNU := Lib.hid hnu
       have HB3 := Lib.hid ((HB2.out.alloc HB2.out.size (.cells #[.int .i64 6] 3)).grown hgr (by have := HB2.out.size; simp; omega) (fun j e => by cases e; exact HB2.out.size))
       clear hown hgr hnu)
    | (go_at_call 23; (with_reducible refine (made11_pos pa pn pc qa qn qc ua un uc ma mn mc _ w3 w3.heap.size (Nat.le_refl _) HNU.out hm0 hml).mono ?_)
       rintro e w4 ⟨⟨na, nn, nc, sa, sc, ra, rc, b, rfl, hin, hok, h1, h8⟩, hb4⟩
       have HB4 := Lib.hid (below_on HB3.out hb4)
       have HIN := Lib.hid hin
       have HOK := Lib.hid (And.intro hok (And.intro h1 h8))
       clear hin hok hb4 h1 h8)
    | fail)
  have HG := Lib.hid (show LB10 w (w4.alloc (.cells #[.slice na nn nc, .slice sa 2 sc, .slice ra 2 rc] 26)) w4.heap.size na nn nc sa sc ra rc b from
    ⟨heap_alloc_new w4 _, HIN.out.on (tu1 w4 _), HOK.out.1, HOK.out.2.1, HOK.out.2.2, below_on HB4.out (tu1 w4 _)⟩)
  generalize hg5 : w4.heap.size = g5 at HG ⊢
  generalize hw5 : w4.alloc (.cells #[.slice na nn nc, .slice sa 2 sc, .slice ra 2 rc] 26) = w5 at HG ⊢
  clear hg5 hw5 HIN HOK HB4 HB3 HNU HB2 HB1 HF HLP HN hml hm0
  obtain ⟨gc0, gc1, gc2⟩ := HG.out.cells
  have hn1 := HG.out.one
  have hn8 := HG.out.few
  have HBK := Lib.hid HG.out.ok
  obtain ⟨hok, _⟩ := bookB_ok HG.out.ok
  have HOK := Lib.hid hok
  have HNL := Lib.hid HG.out.len
  clear hok
  have HAR := Lib.hid h'
  have hn'z := h'.2.1
  clear h'
  obtain ⟨p, hpe⟩ : ∃ p, p = pickN nn x := ⟨_, rfl⟩
  have hp : p < nn := by rw [hpe]; exact (pickN_lt (by omega) (by omega) x).1
  have HPp := Lib.hid hpe.symm
  clear hpe
  obtain ⟨q, hqe⟩ : ∃ q, q = pickN nn y := ⟨_, rfl⟩
  have hq : q < nn := by rw [hqe]; exact (pickN_lt (by omega) (by omega) y).1
  have HPq := Lib.hid hqe.symm
  clear hqe
  have CPK := Lib.hid (fun x W => pick11_any na nn nc sa 2 sc ra 2 rc x W (by omega) (by omega))
  have HS := Lib.hid (fun (W : World) (h : LB10 w W g5 na nn nc sa sc ra rc b) => show (W.cell? ⟨g5, 0, none⟩ = some (.slice na nn nc) ∧ W.cell? ⟨g5, 1, none⟩ = some (.slice sa 2 sc) ∧ W.cell? ⟨g5, 2, none⟩ = some (.slice ra 2 rc)) from h.cells)
  have HGwd := Lib.hid (HG.out.on (bel_drewN (Below.refl _ _) 1))
  generalize hwd : w5.drewN 1 = wd at HGwd
  have hwd2 : w5.drew = wd := hwd
  have hHD := HS.out _ HGwd.out
  clear hwd HG gc0 gc1 gc2
  refine wp_region_held_drew (S := fun W => (W.cell? ⟨g5, 0, none⟩ = some (.slice na nn nc) ∧ W.cell? ⟨g5, 1, none⟩ = some (.slice sa 2 sc) ∧ W.cell? ⟨g5, 2, none⟩ = some (.slice ra 2 rc))) (by kernel_rfl) (by rw [hwd2]; exact hHD) (fun hHeld => ?_)
  rw [hwd2]
  rw [hwd2] at hHeld
  clear hHD
  try simp only [Act.put, List.setIfInBounds_toArray]
  refine' wpAnyH_take (i := 0) (v := _) rfl (by kernel_rfl) (by kernel_rfl) (by kernel_rfl) (fun _ _ _ h => h) (Or.inl ⟨by kernel_rfl, ?hypk0⟩) (by assumption) ?restpk0
  case hypk0 =>
    intro W hSw
    (try dsimp only at hSw)
    first | (go_simp; done) | (go_simp; with_reducible rfl)
  try simp only [Act.put]
  refine' wpAnyH_take (i := 1) (v := _) rfl (by kernel_rfl) (by kernel_rfl) (by kernel_rfl) (fun _ _ _ h => h) (Or.inl ⟨by kernel_rfl, ?hypk1⟩) (by assumption) ?restpk1
  case hypk1 =>
    intro W hSw
    (try dsimp only at hSw)
    first | (go_simp; done) | (go_simp; with_reducible rfl)
  try simp only [Act.put]
  refine' wpAnyH_take (i := 3) (v := _) rfl (by kernel_rfl) (by kernel_rfl) (by kernel_rfl) (fun _ _ _ h => h) (Or.inl ⟨by kernel_rfl, ?hypk3⟩) (by assumption) ?restpk3
  case hypk3 =>
    intro W hSw
    (try dsimp only at hSw)
    first | (go_simp; done) | (go_simp; with_reducible rfl)
  try simp only [Act.put]
  refine' wpAnyH_take (i := 4) (v := _) rfl (by kernel_rfl) (by kernel_rfl) (by kernel_rfl) (fun _ _ _ h => h) (Or.inl ⟨by kernel_rfl, ?hypk4⟩) (by assumption) ?restpk4
  case hypk4 =>
    intro W hSw
    (try dsimp only at hSw)
    first | (go_simp; done) | (go_simp; with_reducible rfl)
  try simp only [Act.put, List.setIfInBounds_toArray]
  refine wpAnyH_ready (rs := [2]) (by kernel_rfl) (by simp) ?_
  refine AllReadyH.cons (i := 2) (o := _) rfl (fun K hK => ?_) AllReadyH.nil
  go_simp
  go_at_call 25
  have hsm := CPK.out x wd
  rw [HPp.out] at hsm
  with_reducible refine hsm.mono ?_
  rintro e wp0 ⟨rfl, hb⟩
  have HGwp0 := Lib.hid (HGwd.out.on hb)
  clear hb hsm
  refine hK.out _ _ (HS.out _ HGwp0.out) (fun hHeld => ?_)
  clear hK K
  try simp only [Act.put, List.setIfInBounds_toArray]
  refine wpAnyH_ready (rs := [5]) (by kernel_rfl) (by simp) ?_
  refine AllReadyH.cons (i := 5) (o := _) rfl (fun K hK => ?_) AllReadyH.nil
  go_simp
  go_at_call 25
  have hsm := CPK.out y wp0
  rw [HPq.out] at hsm
  with_reducible refine hsm.mono ?_
  rintro e wp1 ⟨rfl, hb⟩
  have HGwp1 := Lib.hid (HGwp0.out.on hb)
  clear hb hsm
  refine hK.out _ _ (HS.out _ HGwp1.out) (fun hHeld => ?_)
  clear hK K
  try simp only [Act.put, List.setIfInBounds_toArray]
  refine' wpAnyH_take (i := 6) (v := _) rfl (by kernel_rfl) (by kernel_rfl) (by kernel_rfl) (fun _ _ _ h => h) (Or.inl ⟨by kernel_rfl, ?hypk6⟩) (by assumption) ?restpk6
  case hypk6 =>
    intro W hSw
    (try dsimp only at hSw)
    first | (go_simp; done) | (go_simp; with_reducible rfl)
  try simp only [Act.put]
  refine' wpAnyH_take (i := 7) (v := _) rfl (by kernel_rfl) (by kernel_rfl) (by kernel_rfl) (fun _ _ _ h => h) (Or.inl ⟨by kernel_rfl, ?hypk7⟩) (by assumption) ?restpk7
  case hypk7 =>
    intro W hSw
    (try dsimp only at hSw)
    first | (go_simp; done) | (go_simp; with_reducible rfl)
  try simp only [Act.put, List.setIfInBounds_toArray]
  refine wpAnyH_done (by kernel_rfl) ?_ _
  simp only [List.getElem_toArray, List.getElem_cons_succ, List.getElem_cons_zero, List.setIfInBounds_toArray, List.set_cons_succ, List.set_cons_zero]
  have CI := Lib.hid (HGwp1.out.isU (p : Int) (q : Int))
  obtain ⟨R, hR⟩ : ∃ R, R = isQ b ((p : Int), (q : Int)) := ⟨_, rfl⟩
  rw [← hR] at CI
  have HR := Lib.hid hR.symm
  clear hR CPK hwd2
  obtain ⟨b0, b1, b2⟩ := HGwp1.out.cells
  cases R
  · clear HR
    go_wp2_with (first
      | (go_at_call 26; (with_reducible refine CI.out.mono ?_)
         rintro e w7 ⟨rfl, hb7⟩
         have HG7 := Lib.hid (HGwp1.out.on hb7)
         clear hb7)
      | fail)
    go_ret
    exact ⟨rfl, HG7.out.bel⟩
  go_wp2_with (first
    | (go_at_call 26; (with_reducible refine CI.out.mono ?_)
       rintro e w7 ⟨rfl, hb7⟩
       have HG7 := Lib.hid (HGwp1.out.on hb7)
       clear hb7)
    | fail)
  clear b0 b1 b2 CI HGwp1
  go_loopw [10, 11, 12] (fun s1 s2 i wr => ∃ u v k : Nat, s1 = .int .i64 u ∧ s2 = .int .i64 v ∧ i = .int .i64 k ∧ u < nn ∧ v < nn ∧ k ≤ 20 ∧ Hid (isQ b ((u : Int), (v : Int)) = true) ∧ Hid (LB10 w wr g5 na nn nc sa sc ra rc b)) (fun _ _ i _ => 20 - (intOf i).toNat)
  case atStart => exact ⟨p, q, 0, rfl, rfl, rfl, hp, hq, by omega, HR, HG7⟩
  case round =>
    clear HG7 HR hp hq HPp HPq
    obtain ⟨u, v, k, rfl, rfl, rfl, hu, hv, hk, HQ, HGr⟩ := hrel
    by_cases hkn : k < n'
    · by_cases hk20 : k < 20
      · have d1 : decide ((k : Int) < (n' : Int)) = true := decide_eq_true (by omega)
        have d2 : decide ((k : Int) < 20) = true := decide_eq_true (by omega)
        obtain ⟨A, C, hA, hC, hLV, hOb⟩ := stepU_at HBK.out HQ.out
        obtain ⟨nb, no, xk, xp, xa, xn, xc, xl, hna, hnb, hxx, ⟨xc0, xc1, xc2⟩, hxs, hXE⟩ := HGr.out.bk.nodes.at_ hu
        obtain ⟨nb', no', yk, yp, ya, yn, yc, yl, e, _, hyy, ⟨yc0, yc1, yc2⟩, hys, hYE⟩ := HGr.out.bk.nodes.at_ hv
        rw [hna] at e
        obtain ⟨e1, e2, _⟩ := Addr.mk.inj (Option.some.inj e)
        subst hna
        subst e1 e2
        obtain rfl := Option.some.inj (hA.symm.trans hxx)
        obtain rfl := Option.some.inj (hC.symm.trans hyy)
        have hnA := HOK.out.2 _ _ hA
        have hnC := HOK.out.2 _ _ hC
        have hst := steps_has hnA hnC hLV
        have hx6 : xn ≤ 6 := by have h1 := arms_fewU HOK.out hA; rw [hXE.1] at h1; exact h1
        have hy6 : yn ≤ 6 := by have h1 := arms_fewU HOK.out hC; rw [hYE.1] at h1; exact h1
        have hkk : xk = yk := hLV.1
        have hpp : xp.toList = yp.toList := hLV.2.1
        have HST := Lib.hid hst
        have HOB := Lib.hid hOb
        have HEX := Lib.hid hXE
        have HEY := Lib.hid hYE
        have HK := Lib.hid (fun (W : World) (hW : Below wr.heap.size wr W) => show W.cell? ⟨g5, 0, none⟩ = some (.slice (some ⟨nb, no, none⟩) nn nc) ∧ (W.cell? ⟨nb, no + u * 3, none⟩ = some (.int .i64 xk) ∧ W.cell? ⟨nb, no + u * 3 + 1, none⟩ = some (.string xp) ∧ W.cell? ⟨nb, no + u * 3 + 2, none⟩ = some (.slice xa xn xc)) ∧ (W.cell? ⟨nb, no + v * 3, none⟩ = some (.int .i64 yk) ∧ W.cell? ⟨nb, no + v * 3 + 1, none⟩ = some (.string yp) ∧ W.cell? ⟨nb, no + v * 3 + 2, none⟩ = some (.slice ya yn yc)) from
          ⟨(HGr.out.on hW).cells.1, ⟨(hW.cell (p := ⟨nb, no + u * 3, none⟩) hnb).trans xc0, (hW.cell (p := ⟨nb, no + u * 3 + 1, none⟩) hnb).trans xc1, (hW.cell (p := ⟨nb, no + u * 3 + 2, none⟩) hnb).trans xc2⟩, (hW.cell (p := ⟨nb, no + v * 3, none⟩) hnb).trans yc0, (hW.cell (p := ⟨nb, no + v * 3 + 1, none⟩) hnb).trans yc1, (hW.cell (p := ⟨nb, no + v * 3 + 2, none⟩) hnb).trans yc2⟩)
        have HD := Lib.hid (Below.refl wr.heap.size wr)
        have HIN := Lib.hid (And.intro (List.mem_of_getElem? hxx) (List.mem_of_getElem? hyy))
        have j1 : (u : Int) < (nn : Int) := by omega
        have j2 : (0 : Int) ≤ (u : Int) := by omega
        have j3 : (v : Int) < (nn : Int) := by omega
        have j4 : (0 : Int) ≤ (v : Int) := by omega
        have HNA := Lib.hid hA
        have HNC := Lib.hid hC
        clear hA hC hLV hOb hxx hyy xc0 xc1 xc2 yc0 yc1 yc2 hXE hYE e hst hnA hnC HIN
        subst hkk
        go_upto_region 10 with fail
        go_cut [13, 14] (fun s6 s7 wx => ∃ gx gy : Nat, s6 = .pointer (some ⟨gx, 0, none⟩) ∧ s7 = .pointer (some ⟨gy, 0, none⟩) ∧ Hid (NBox wx gx xk xp xa xn xc) ∧ Hid (NBox wx gy xk yp ya yn yc) ∧ Hid (Below wr.heap.size wr wx))
        case first =>
          go_region_held3 (fun W => W.cell? ⟨g5, 0, none⟩ = some (.slice (some ⟨nb, no, none⟩) nn nc) ∧ (W.cell? ⟨nb, no + u * 3, none⟩ = some (.int .i64 xk) ∧ W.cell? ⟨nb, no + u * 3 + 1, none⟩ = some (.string xp) ∧ W.cell? ⟨nb, no + u * 3 + 2, none⟩ = some (.slice xa xn xc)) ∧ (W.cell? ⟨nb, no + v * 3, none⟩ = some (.int .i64 xk) ∧ W.cell? ⟨nb, no + v * 3 + 1, none⟩ = some (.string yp) ∧ W.cell? ⟨nb, no + v * 3 + 2, none⟩ = some (.slice ya yn yc)))
            (first | exact HK.out _ HD.out | exact HK.out _ (bel_drewU HD.out) | (refine HK.out _ ?_; ((repeat' (first | exact HD.out | with_reducible apply bel_drewU | with_reducible apply Below.setCell | with_reducible apply Below.alloc)) <;> simp)))
            (fail)
          all_goals (go_wp2_with fail; go_meet)
          case rel =>
            have h := nodU_two wr xk xk xp yp xa ya xn xc yn yc
            exact ⟨_, _, rfl, rfl, Lib.hid h.1, Lib.hid h.2.1, Lib.hid h.2.2⟩
          case rel =>
            have h := nodU_two wr xk xk yp xp ya xa yn yc xn xc
            exact ⟨_, _, rfl, rfl, Lib.hid h.2.1, Lib.hid h.1, Lib.hid h.2.2⟩
        case rest =>
          obtain ⟨gx, gy, e6, e7, HNX, HNY, HBE⟩ := hcut
          subst e6 e7
          obtain ⟨we, hwe⟩ : ∃ we : World, we = wc := ⟨_, rfl⟩
          subst hwe
          have HGe := Lib.hid (HGr.out.on HBE.out)
          have HEX2 := Lib.hid (HEX.out.on HBE.out)
          have HEY2 := Lib.hid (HEY.out.on HBE.out)
          clear HK HD HEX HEY HBE HGr
          obtain ⟨x0, x1, x2⟩ := HNX.out.cells
          obtain ⟨y0, y1, y2⟩ := HNY.out.cells
          have n1 : (xk != xk) = false := by simp
          have n2 : (xp.toList == yp.toList) = true := by rw [hpp]; simp
          clear hpp
          go_upto_region 13 with fail
          have HK2 := Lib.hid (fun (W : World) (hW : Below we.heap.size we W) => show (W.cell? ⟨gx, 0, none⟩ = some (.int .i64 xk) ∧ W.cell? ⟨gx, 1, none⟩ = some (.string xp) ∧ W.cell? ⟨gx, 2, none⟩ = some (.slice xa xn xc)) ∧ W.cell? ⟨gy, 0, none⟩ = some (.int .i64 xk) ∧ W.cell? ⟨gy, 1, none⟩ = some (.string yp) ∧ W.cell? ⟨gy, 2, none⟩ = some (.slice ya yn yc) from
            ⟨(HNX.out.block (hW.block gx (Array.getElem?_eq_some_iff.1 HNX.out).1)).cells, (HNY.out.block (hW.block gy (Array.getElem?_eq_some_iff.1 HNY.out).1)).cells⟩)
          have HD := Lib.hid (Below.refl we.heap.size we)
          clear x0 x1 x2 y0 y1 y2
          go_cut [15, 16] (fun s15 s16 wx => ∃ g15 g16 : Nat, s15 = .pointer (some ⟨g15, 0, none⟩) ∧ s16 = .pointer (some ⟨g16, 0, none⟩) ∧ g15 ≠ g16 ∧ we.heap.size ≤ g15 ∧ we.heap.size ≤ g16 ∧ Hid (NBox wx g15 xk xp xa xn xc) ∧ Hid (NBox wx g16 xk yp ya yn yc) ∧ Hid (Below we.heap.size we wx))
          case first =>
            go_region_held3 (fun W => (W.cell? ⟨gx, 0, none⟩ = some (.int .i64 xk) ∧ W.cell? ⟨gx, 1, none⟩ = some (.string xp) ∧ W.cell? ⟨gx, 2, none⟩ = some (.slice xa xn xc)) ∧ W.cell? ⟨gy, 0, none⟩ = some (.int .i64 xk) ∧ W.cell? ⟨gy, 1, none⟩ = some (.string yp) ∧ W.cell? ⟨gy, 2, none⟩ = some (.slice ya yn yc))
              (first | exact HK2.out _ HD.out | exact HK2.out _ (bel_drewU HD.out) | (refine HK2.out _ ?_; ((repeat' (first | exact HD.out | with_reducible apply bel_drewU | with_reducible apply Below.setCell | with_reducible apply Below.alloc)) <;> simp)))
              (fail)
            all_goals (go_wp2_with fail; go_meet)
            case rel =>
              have h := nodU_two we xk xk xp yp xa ya xn xc yn yc
              exact ⟨_, _, rfl, rfl, by omega, by omega, by omega, Lib.hid h.1, Lib.hid h.2.1, Lib.hid h.2.2⟩
            case rel =>
              have h := nodU_two we xk xk yp xp ya xa yn yc xn xc
              exact ⟨_, _, rfl, rfl, by omega, by omega, by omega, Lib.hid h.2.1, Lib.hid h.1, Lib.hid h.2.2⟩
          case rest =>
            obtain ⟨g15, g16, e15, e16, hne, h15, h16, H15, H16, HBE⟩ := hcut
            subst e15 e16
            obtain ⟨wf, hwf⟩ : ∃ wf : World, wf = wc := ⟨_, rfl⟩
            subst hwf
            have HGf := Lib.hid (HGe.out.on HBE.out)
            have HEX3 := Lib.hid (HEX2.out.on HBE.out)
            have HEY3 := Lib.hid (HEY2.out.on HBE.out)
            have HX3 := Lib.hid (HNX.out.block (HBE.out.block gx (Array.getElem?_eq_some_iff.1 HNX.out).1))
            have HY3 := Lib.hid (HNY.out.block (HBE.out.block gy (Array.getElem?_eq_some_iff.1 HNY.out).1))
            have hgx : gx < we.heap.size := (Array.getElem?_eq_some_iff.1 HNX.out).1
            have hgy : gy < we.heap.size := (Array.getElem?_eq_some_iff.1 HNY.out).1
            have HGe0 := Lib.hid HGe.out
            have HEX0 := Lib.hid HEX2.out
            have HEY0 := Lib.hid HEY2.out
            clear HK2 HD HNX HNY HGe HEX2 HEY2
            obtain ⟨x0, x1, x2⟩ := HX3.out.cells
            obtain ⟨y0, y1, y2⟩ := HY3.out.cells
            by_cases hk1 : xk = 1
            · have h1 : (xk == 1) = true := by rw [beq_iff_eq]; exact hk1
              obtain ⟨u0, u1, u2⟩ := H15.out.cells
              obtain ⟨v0, v1, v2⟩ := H16.out.cells
              have f0 := H15.out.thawU 0
              have f1 := H15.out.thawU 1
              have f2 := H15.out.thawU 2
              have k0 := H16.out.thawU 0
              have k1 := H16.out.thawU 1
              have k2 := H16.out.thawU 2
              have HK1 := Lib.hid hk1
              have HB1 := Lib.hid ((((Beside.refl g15 wf).setCell 0 (.int .i64 xk)).setCell 1 (.string yp)).setCell 2 (.slice ya yn yc))
              have hw1 := H15.out.puts (kd' := xk) (s' := yp) (aa' := ya) (an' := yn) (ac' := yc)
              have h16w := H16.out.block (HB1.out.block g16 (Array.getElem?_eq_some_iff.1 H16.out).1 (fun e => hne e.symm))
              have HB2 := Lib.hid ((((Beside.refl g16 (((wf.setCell ⟨g15, 0, none⟩ (.int .i64 xk)).setCell ⟨g15, 1, none⟩ (.string yp)).setCell ⟨g15, 2, none⟩ (.slice ya yn yc))).setCell 0 (.int .i64 xk)).setCell 1 (.string xp)).setCell 2 (.slice xa xn xc))
              have HLz := Lib.hid (hw1.block (HB2.out.block g15 (Array.getElem?_eq_some_iff.1 hw1).1 hne))
              have HMz := Lib.hid (h16w.puts (kd' := xk) (s' := xp) (aa' := xa) (an' := xn) (ac' := xc))
              have HWz := Lib.hid ((HB1.out.below (B := we.heap.size) h15 (by have := HBE.out.size; omega)).trans (HB2.out.below (B := we.heap.size) h16 (by have := HBE.out.size; have := HB1.out.size; omega)))
              clear hw1 h16w HB1 HB2 hk1
              go_upto_region 15 with fail
              go_region
              obtain ⟨wz, hwz⟩ : ∃ wz : World, wz = ((((((wf.setCell ⟨g15, 0, none⟩ (.int .i64 xk)).setCell ⟨g15, 1, none⟩ (.string yp)).setCell ⟨g15, 2, none⟩ (.slice ya yn yc)).setCell ⟨g16, 0, none⟩ (.int .i64 xk)).setCell ⟨g16, 1, none⟩ (.string xp)).setCell ⟨g16, 2, none⟩ (.slice xa xn xc)).drew := ⟨_, rfl⟩
              replace HLz := Lib.hid (show NBox wz g15 xk yp ya yn yc by rw [hwz]; exact HLz.out.drewU)
              replace HMz := Lib.hid (show NBox wz g16 xk xp xa xn xc by rw [hwz]; exact HMz.out.drewU)
              have HWz2 := Lib.hid (show Below we.heap.size wf wz by rw [hwz]; exact bel_drewU HWz.out)
              rw [← hwz]
              clear hwz
              have hzz := HWz2.out.size
              have HXz := Lib.hid (HX3.out.block (HWz2.out.block gx hgx))
              have HGz := Lib.hid (HGe0.out.on (HBE.out.trans HWz2.out))
              have HEX4 := Lib.hid (HEX0.out.on (HBE.out.trans HWz2.out))
              have HEY4 := Lib.hid (HEY0.out.on (HBE.out.trans HWz2.out))
              have hk1 := HK1.out
              clear H15 H16 HX3 HY3 HGf HEX3 HEY3 y0 y1 y2 x0 x1 x2 u0 u1 u2 v0 v1 v2 f0 f1 f2 k0 k1 k2 HK1 HWz HWz2
              have HS0 := Lib.hid (show yl = [] → xk = 0 from fun h0 => HST.out.1 (by unfold lessU; rw [if_pos hk1]; exact h0))
              have HS1 := Lib.hid (show ∀ e ∈ yl, ∃ f ∈ xl, f.label = e.label from fun e he => by
                obtain ⟨f, hf, hl⟩ := HST.out.2.1 e (by unfold lessU; rw [if_pos hk1]; exact he)
                unfold moreU at hf
                rw [if_pos hk1] at hf
                exact ⟨f, hf, hl⟩)
              have HS2 := Lib.hid (show ∀ e ∈ yl, ∀ f ∈ xl, f.label = e.label → f.sk = e.sk ∧ isQ b (f.next, e.next) = true from fun e he f hf hl => by
                obtain ⟨h1, h2, h3⟩ := HST.out.2.2 e (by unfold lessU; rw [if_pos hk1]; exact he) f (by unfold moreU; rw [if_pos hk1]; exact hf) hl
                exact ⟨h1, HOB.out _ (h2 hk1)⟩)
              clear HST HOB hk1
              obtain ⟨b0, b1, b2⟩ := HLz.out.cells
              obtain ⟨m0, m1, m2⟩ := HMz.out.cells
              obtain ⟨x0, x1, x2⟩ := HXz.out.cells
              have hll : yl.length = yn := HEY4.out.1
              have hml : xl.length = xn := HEX4.out.1
              by_cases hz : yn = 0
              · have e1 : ((yn : Int) == 0) = true := by rw [beq_iff_eq]; omega
                have e2 : (yn == 0) = true := by rw [beq_iff_eq]; omega
                have hkz : xk = 0 := HS0.out (List.eq_nil_of_length_eq_zero (by omega))
                have hkz2 : (xk == 0) = true := by rw [beq_iff_eq]; exact hkz
                clear hkz
                go_wp2_with fail
                go_ret
                exact ⟨rfl, HGz.out.bel⟩
              · have e1 : ((yn : Int) == 0) = false := by rw [beq_eq_false_iff_ne]; omega
                have e2 : (yn == 0) = false := by rw [beq_eq_false_iff_ne]; omega
                obtain ⟨ab, ao, lx, hae, hab, _, hlc⟩ := ((HAR.out.below HGz.out.bel).more HGz.out.bel.size).at_ hkn
                subst hae
                obtain ⟨t, ht, hmod⟩ := mod_lt lx yn (by omega) (by omega)
                have hwa : IntKind.u64.wrap (yn : Int) = (yn : Int) := IntWalk.u64_in _ (by omega)
                have hwm : IntKind.i64.wrap (t : Int) = (t : Int) := by simp [IntKind.wrap, IntKind.bits, IntKind.signed]; omega
                have i1 : (k : Int) < (n' : Int) := by omega
                have i2 : (0 : Int) ≤ (k : Int) := by omega
                go_upto_region 18 with fail
                go_quiet (fail)
                have HBq := Lib.hid (bel_drewN (Below.refl wz.heap.size wz) nq)
                generalize wz.drewN nq = wq at HBq ⊢
                have HGq := Lib.hid (HGz.out.on HBq.out)
                have HLq := Lib.hid (HEY4.out.on HBq.out)
                have HMq := Lib.hid (HEX4.out.on HBq.out)
                have HX1 := Lib.hid (HXz.out.block (HBq.out.block gx (Array.getElem?_eq_some_iff.1 HXz.out).1))
                have HL1 := Lib.hid (HLz.out.block (HBq.out.block g15 (Array.getElem?_eq_some_iff.1 HLz.out).1))
                have HM1 := Lib.hid (HMz.out.block (HBq.out.block g16 (Array.getElem?_eq_some_iff.1 HMz.out).1))
                clear b0 b1 b2 m0 m1 m2 x0 x1 x2 hmod hwa hwm hlc hab i1 i2 HBq HGz HEY4 HEX4 HXz HLz HMz e1 e2
                obtain ⟨lb, lo, sv, sk, ta, nx, hla, hlb, hlx, ⟨z0, z1, z2, z3⟩, _⟩ := HLq.out.at_ ht
                have he := List.mem_of_getElem? hlx
                obtain ⟨f0, hf0, hfl0⟩ := HS1.out _ he
                obtain ⟨fi, hfi, hfe⟩ := List.mem_iff_getElem.1 hf0
                obtain ⟨m, hm, hmv, hmf⟩ := lastI_ex (s := sv.toList) (l := xl) xn ⟨fi, by omega, by rw [List.getElem?_eq_getElem hfi, hfe]; exact congrArg some hfl0⟩
                have HMV := Lib.hid hmv
                have HE := Lib.hid he
                have HNX := Lib.hid (HOK.out.edge HNC.out he).2.2.2
                obtain ⟨fm, hfm, hfl⟩ := Option.map_eq_some_iff.1 hmf
                have HF := Lib.hid (And.intro hfm hfl)
                have HC := Lib.hid (fun (W : World) (hW : Below wq.heap.size wq W) => show (W.cell? ⟨g15, 2, none⟩ = some (.slice ya yn yc) ∧ W.cell? ⟨g16, 2, none⟩ = some (.slice xa xn xc)) ∧ W.cell? ⟨gx, 0, none⟩ = some (.int .i64 xk) ∧ W.cell? ⟨lb, lo + t * 4, none⟩ = some (.string sv) ∧ W.cell? ⟨lb, lo + t * 4 + 1, none⟩ = some (.int .i64 sk) ∧ W.cell? ⟨lb, lo + t * 4 + 3, none⟩ = some (.int .i64 nx) from
                  ⟨⟨(HL1.out.block (hW.block g15 (Array.getElem?_eq_some_iff.1 HL1.out).1)).cells.2.2, (HM1.out.block (hW.block g16 (Array.getElem?_eq_some_iff.1 HM1.out).1)).cells.2.2⟩, (HX1.out.block (hW.block gx (Array.getElem?_eq_some_iff.1 HX1.out).1)).cells.1, (hW.cell (p := ⟨lb, lo + t * 4, none⟩) hlb).trans z0, (hW.cell (p := ⟨lb, lo + t * 4 + 1, none⟩) hlb).trans z1, (hW.cell (p := ⟨lb, lo + t * 4 + 3, none⟩) hlb).trans z3⟩)
                have hlz : yn ≤ 6 := by omega
                have hmz : xn ≤ 6 := by omega
                clear hlx he hf0 hfl0 hfi hfe hmv hmf hfm hfl z0 z1 z2 z3 HS0 HS1 HL1 HM1 HX1
                subst hla
                go_wp2_with fail
                go_loopw [18, 19] (fun s18 s19 wr2 => ∃ j : Nat, j ≤ xn ∧ s19 = .int .i64 j ∧ s18 = .int .i64 (lastI sv.toList xl j) ∧ Hid (Below wq.heap.size wq wr2)) (fun _ s19 _ => xn - (intOf s19).toNat)
                case atStart => exact ⟨0, Nat.zero_le _, rfl, rfl, Lib.hid (Below.refl _ _)⟩
                case round =>
                  obtain ⟨j, hj, rfl, h18, HXr⟩ := hrel
                  subst h18
                  obtain ⟨⟨c0, c1⟩, c2, c3, c4, c5⟩ := HC.out _ HXr.out
                  by_cases hlt : j < xn
                  · obtain ⟨mb, mo, tv, tk, tt, tn, hma, hmb, hmx, ⟨q0, q1, q2, q3⟩, _⟩ := (HMq.out.on HXr.out).at_ hlt
                    have hst : lastI sv.toList xl (j + 1) = if tv.toList = sv.toList then (j : Int) else lastI sv.toList xl j := by
                      have hmi : xl[j]?.map EdgeL.label = some sv.toList ↔ tv.toList = sv.toList := by rw [hmx]; simp
                      rw [lastI]
                      by_cases hq : tv.toList = sv.toList
                      · rw [if_pos hq, if_pos (hmi.2 hq)]
                      · rw [if_neg hq, if_neg (fun e => hq (hmi.1 e))]
                    subst hma
                    have j1 : (j : Int) < (xn : Int) := by omega
                    have j2 : (0 : Int) ≤ (j : Int) := by omega
                    have j3 : (t : Int) < (yn : Int) := by omega
                    have j4 : (0 : Int) ≤ (t : Int) := by omega
                    cases hq : (tv.toList == sv.toList)
                    · rw [if_neg (by rw [beq_eq_false_iff_ne] at hq; exact hq)] at hst
                      have HSTT := Lib.hid hst
                      clear hst hmx
                      obtain ⟨I, hI⟩ : ∃ I, I = lastI sv.toList xl j := ⟨_, rfl⟩
                      rw [← hI] at HSTT ⊢
                      clear hI
                      go_upto_region 23 with fail
                      go_quiet (fail)
                      have HBn := Lib.hid (below_on HXr.out (bel_drewN (Below.refl _ _) nq))
                      generalize wr.drewN nq = wn at HBn ⊢
                      go_wp2_with fail
                      go_roundw
                      case rel => exact ⟨j + 1, by omega, by go_num, by rw [HSTT.out], HBn⟩
                      case measure => simp [intOf]; omega
                    · rw [if_pos (eq_of_beq hq)] at hst
                      have HSTT := Lib.hid hst
                      clear hst hmx
                      obtain ⟨I, hI⟩ : ∃ I, I = lastI sv.toList xl j := ⟨_, rfl⟩
                      rw [← hI]
                      clear hI
                      go_upto_region 23 with fail
                      go_quiet (fail)
                      have HBn := Lib.hid (below_on HXr.out (bel_drewN (Below.refl _ _) nq))
                      generalize wr.drewN nq = wn at HBn ⊢
                      go_wp2_with fail
                      go_roundw
                      case rel => exact ⟨j + 1, by omega, by go_num, by rw [HSTT.out], HBn⟩
                      case measure => simp [intOf]; omega
                  · obtain rfl : j = xn := by omega
                    have d3 : decide ((j : Int) < (j : Int)) = false := decide_eq_false (by omega)
                    rw [HMV.out]
                    obtain ⟨mb, mo, tv, tk, tt, tn, hma, hmb, hmx, ⟨q0, q1, q2, q3⟩, _⟩ := (HMq.out.on HXr.out).at_ hm
                    obtain ⟨hfm, hfl⟩ := HF.out
                    obtain rfl := Option.some.inj (hfm.symm.trans hmx)
                    obtain ⟨hks, hiq⟩ := HS2.out _ HE.out _ (List.mem_of_getElem? hmx) hfl
                    replace hks : tk = sk := hks
                    obtain ⟨hn0, hn1⟩ := HNX.out
                    obtain ⟨ho0, ho1⟩ := (HOK.out.edge HNA.out (List.mem_of_getElem? hmx)).2.2.2
                    replace hn0 : 0 ≤ nx := hn0
                    replace hn1 : nx.toNat < b.nodes.length := hn1
                    replace ho0 : 0 ≤ tn := ho0
                    replace ho1 : tn.toNat < b.nodes.length := ho1
                    obtain ⟨nxn, rfl⟩ : ∃ i : Nat, nx = (i : Int) := ⟨nx.toNat, (Int.toNat_of_nonneg hn0).symm⟩
                    obtain ⟨tnn, rfl⟩ : ∃ i : Nat, tn = (i : Int) := ⟨tn.toNat, (Int.toNat_of_nonneg ho0).symm⟩
                    rw [HNL.out, Int.toNat_natCast] at hn1 ho1
                    have HIQ := Lib.hid (show isQ b ((tnn : Int), (nxn : Int)) = true from hiq)
                    subst hma
                    subst hks
                    have n3 : (tk != tk) = false := by simp
                    have m1 : decide ((m : Int) < 0) = false := decide_eq_false (by omega)
                    have j1 : (m : Int) < (j : Int) := by omega
                    have j2 : (0 : Int) ≤ (m : Int) := by omega
                    have j3 : (t : Int) < (yn : Int) := by omega
                    have j4 : (0 : Int) ≤ (t : Int) := by omega
                    clear hfm hfl hmx hiq hn0 ho0 HF HMV
                    go_upto_region 25 with fail
                    go_quiet (fail)
                    have HBn := Lib.hid (below_on HXr.out (bel_drewN (Below.refl _ _) nq))
                    have HDn := Lib.hid (bel_drewN (Below.refl wr.heap.size wr) nq)
                    generalize wr.drewN nq = wn at HBn HDn ⊢
                    have q30 := (HDn.out.cell (p := ⟨mb, mo + m * 4 + 3, none⟩) hmb).trans q3
                    clear c0 c1 c2 c3 c4 c5 q0 q1 q2 q3 n3 m1
                    obtain ⟨⟨c0, c1⟩, c2, c3, c4, c5⟩ := HC.out _ HBn.out
                    go_upto_region 27 with fail
                    go_quiet (fail)
                    have HBo := Lib.hid (below_on HBn.out (bel_drewN (Below.refl _ _) nq))
                    generalize wn.drewN nq = wo at HBo ⊢
                    clear c0 c1 c2 c3 c4 c5 q30
                    obtain ⟨⟨c0, c1⟩, c2, c3, c4, c5⟩ := HC.out _ HBo.out
                    have HGo := Lib.hid (HGq.out.on HBo.out)
                    have CJ := Lib.hid (HGo.out.isU (tnn : Int) (nxn : Int))
                    rw [HIQ.out] at CJ
                    obtain ⟨b0, b1, b2⟩ := HGo.out.cells
                    go_wp2_with (first
                      | (go_at_call 26; (with_reducible refine CJ.out.mono ?_)
                         rintro e w9 ⟨rfl, hb9⟩
                         have HG9 := Lib.hid (HGo.out.on hb9)
                         clear hb9)
                      | fail)
                    go_roundw
                    case rel => exact ⟨tnn, nxn, k + 1, rfl, rfl, by go_num, ho1, hn1, by omega, HIQ, HG9⟩
                    case measure => simp [intOf]; omega
            · have h1 : (xk == 1) = false := by rw [beq_eq_false_iff_ne]; exact hk1
              have HLz := Lib.hid H15.out
              have HMz := Lib.hid H16.out
              have HXz := Lib.hid HX3.out
              have HGz := Lib.hid HGf.out
              have HEX4 := Lib.hid HEX3.out
              have HEY4 := Lib.hid HEY3.out
              obtain ⟨wz, hwz⟩ : ∃ wz : World, wz = wf := ⟨_, rfl⟩
              subst hwz
              clear H15 H16 HX3 HY3 HGf HEX3 HEY3 y0 y1 y2 x0 x1 x2
              have HS0 := Lib.hid (show xl = [] → xk = 0 from fun h0 => HST.out.1 (by unfold lessU; rw [if_neg hk1]; exact h0))
              have HS1 := Lib.hid (show ∀ e ∈ xl, ∃ f ∈ yl, f.label = e.label from fun e he => by
                obtain ⟨f, hf, hl⟩ := HST.out.2.1 e (by unfold lessU; rw [if_neg hk1]; exact he)
                unfold moreU at hf
                rw [if_neg hk1] at hf
                exact ⟨f, hf, hl⟩)
              have HS2 := Lib.hid (show ∀ e ∈ xl, ∀ f ∈ yl, f.label = e.label → f.sk = e.sk ∧ isQ b (e.next, f.next) = true from fun e he f hf hl => by
                obtain ⟨h1, h2, h3⟩ := HST.out.2.2 e (by unfold lessU; rw [if_neg hk1]; exact he) f (by unfold moreU; rw [if_neg hk1]; exact hf) hl
                exact ⟨h1, HOB.out _ (h3 hk1)⟩)
              clear HST HOB hk1
              obtain ⟨b0, b1, b2⟩ := HLz.out.cells
              obtain ⟨m0, m1, m2⟩ := HMz.out.cells
              obtain ⟨x0, x1, x2⟩ := HXz.out.cells
              have hll : xl.length = xn := HEX4.out.1
              have hml : yl.length = yn := HEY4.out.1
              by_cases hz : xn = 0
              · have e1 : ((xn : Int) == 0) = true := by rw [beq_iff_eq]; omega
                have e2 : (xn == 0) = true := by rw [beq_iff_eq]; omega
                have hkz : xk = 0 := HS0.out (List.eq_nil_of_length_eq_zero (by omega))
                have hkz2 : (xk == 0) = true := by rw [beq_iff_eq]; exact hkz
                clear hkz
                go_wp2_with fail
                go_ret
                exact ⟨rfl, HGz.out.bel⟩
              · have e1 : ((xn : Int) == 0) = false := by rw [beq_eq_false_iff_ne]; omega
                have e2 : (xn == 0) = false := by rw [beq_eq_false_iff_ne]; omega
                obtain ⟨ab, ao, lx, hae, hab, _, hlc⟩ := ((HAR.out.below HGz.out.bel).more HGz.out.bel.size).at_ hkn
                subst hae
                obtain ⟨t, ht, hmod⟩ := mod_lt lx xn (by omega) (by omega)
                have hwa : IntKind.u64.wrap (xn : Int) = (xn : Int) := IntWalk.u64_in _ (by omega)
                have hwm : IntKind.i64.wrap (t : Int) = (t : Int) := by simp [IntKind.wrap, IntKind.bits, IntKind.signed]; omega
                have i1 : (k : Int) < (n' : Int) := by omega
                have i2 : (0 : Int) ≤ (k : Int) := by omega
                go_upto_region 18 with fail
                go_quiet (fail)
                have HBq := Lib.hid (bel_drewN (Below.refl wz.heap.size wz) nq)
                generalize wz.drewN nq = wq at HBq ⊢
                have HGq := Lib.hid (HGz.out.on HBq.out)
                have HLq := Lib.hid (HEX4.out.on HBq.out)
                have HMq := Lib.hid (HEY4.out.on HBq.out)
                have HX1 := Lib.hid (HXz.out.block (HBq.out.block gx (Array.getElem?_eq_some_iff.1 HXz.out).1))
                have HL1 := Lib.hid (HLz.out.block (HBq.out.block g15 (Array.getElem?_eq_some_iff.1 HLz.out).1))
                have HM1 := Lib.hid (HMz.out.block (HBq.out.block g16 (Array.getElem?_eq_some_iff.1 HMz.out).1))
                clear b0 b1 b2 m0 m1 m2 x0 x1 x2 hmod hwa hwm hlc hab i1 i2 HBq HGz HEX4 HEY4 HXz HLz HMz e1 e2
                obtain ⟨lb, lo, sv, sk, ta, nx, hla, hlb, hlx, ⟨z0, z1, z2, z3⟩, _⟩ := HLq.out.at_ ht
                have he := List.mem_of_getElem? hlx
                obtain ⟨f0, hf0, hfl0⟩ := HS1.out _ he
                obtain ⟨fi, hfi, hfe⟩ := List.mem_iff_getElem.1 hf0
                obtain ⟨m, hm, hmv, hmf⟩ := lastI_ex (s := sv.toList) (l := yl) yn ⟨fi, by omega, by rw [List.getElem?_eq_getElem hfi, hfe]; exact congrArg some hfl0⟩
                have HMV := Lib.hid hmv
                have HE := Lib.hid he
                have HNX := Lib.hid (HOK.out.edge HNA.out he).2.2.2
                obtain ⟨fm, hfm, hfl⟩ := Option.map_eq_some_iff.1 hmf
                have HF := Lib.hid (And.intro hfm hfl)
                have HC := Lib.hid (fun (W : World) (hW : Below wq.heap.size wq W) => show (W.cell? ⟨g15, 2, none⟩ = some (.slice xa xn xc) ∧ W.cell? ⟨g16, 2, none⟩ = some (.slice ya yn yc)) ∧ W.cell? ⟨gx, 0, none⟩ = some (.int .i64 xk) ∧ W.cell? ⟨lb, lo + t * 4, none⟩ = some (.string sv) ∧ W.cell? ⟨lb, lo + t * 4 + 1, none⟩ = some (.int .i64 sk) ∧ W.cell? ⟨lb, lo + t * 4 + 3, none⟩ = some (.int .i64 nx) from
                  ⟨⟨(HL1.out.block (hW.block g15 (Array.getElem?_eq_some_iff.1 HL1.out).1)).cells.2.2, (HM1.out.block (hW.block g16 (Array.getElem?_eq_some_iff.1 HM1.out).1)).cells.2.2⟩, (HX1.out.block (hW.block gx (Array.getElem?_eq_some_iff.1 HX1.out).1)).cells.1, (hW.cell (p := ⟨lb, lo + t * 4, none⟩) hlb).trans z0, (hW.cell (p := ⟨lb, lo + t * 4 + 1, none⟩) hlb).trans z1, (hW.cell (p := ⟨lb, lo + t * 4 + 3, none⟩) hlb).trans z3⟩)
                have hlz : xn ≤ 6 := by omega
                have hmz : yn ≤ 6 := by omega
                clear hlx he hf0 hfl0 hfi hfe hmv hmf hfm hfl z0 z1 z2 z3 HS0 HS1 HL1 HM1 HX1
                subst hla
                go_wp2_with fail
                go_loopw [18, 19] (fun s18 s19 wr2 => ∃ j : Nat, j ≤ yn ∧ s19 = .int .i64 j ∧ s18 = .int .i64 (lastI sv.toList yl j) ∧ Hid (Below wq.heap.size wq wr2)) (fun _ s19 _ => yn - (intOf s19).toNat)
                case atStart => exact ⟨0, Nat.zero_le _, rfl, rfl, Lib.hid (Below.refl _ _)⟩
                case round =>
                  obtain ⟨j, hj, rfl, h18, HXr⟩ := hrel
                  subst h18
                  obtain ⟨⟨c0, c1⟩, c2, c3, c4, c5⟩ := HC.out _ HXr.out
                  by_cases hlt : j < yn
                  · obtain ⟨mb, mo, tv, tk, tt, tn, hma, hmb, hmx, ⟨q0, q1, q2, q3⟩, _⟩ := (HMq.out.on HXr.out).at_ hlt
                    have hst : lastI sv.toList yl (j + 1) = if tv.toList = sv.toList then (j : Int) else lastI sv.toList yl j := by
                      have hmi : yl[j]?.map EdgeL.label = some sv.toList ↔ tv.toList = sv.toList := by rw [hmx]; simp
                      rw [lastI]
                      by_cases hq : tv.toList = sv.toList
                      · rw [if_pos hq, if_pos (hmi.2 hq)]
                      · rw [if_neg hq, if_neg (fun e => hq (hmi.1 e))]
                    subst hma
                    have j1 : (j : Int) < (yn : Int) := by omega
                    have j2 : (0 : Int) ≤ (j : Int) := by omega
                    have j3 : (t : Int) < (xn : Int) := by omega
                    have j4 : (0 : Int) ≤ (t : Int) := by omega
                    cases hq : (tv.toList == sv.toList)
                    · rw [if_neg (by rw [beq_eq_false_iff_ne] at hq; exact hq)] at hst
                      have HSTT := Lib.hid hst
                      clear hst hmx
                      obtain ⟨I, hI⟩ : ∃ I, I = lastI sv.toList yl j := ⟨_, rfl⟩
                      rw [← hI] at HSTT ⊢
                      clear hI
                      go_upto_region 23 with fail
                      go_quiet (fail)
                      have HBn := Lib.hid (below_on HXr.out (bel_drewN (Below.refl _ _) nq))
                      generalize wr.drewN nq = wn at HBn ⊢
                      go_wp2_with fail
                      go_roundw
                      case rel => exact ⟨j + 1, by omega, by go_num, by rw [HSTT.out], HBn⟩
                      case measure => simp [intOf]; omega
                    · rw [if_pos (eq_of_beq hq)] at hst
                      have HSTT := Lib.hid hst
                      clear hst hmx
                      obtain ⟨I, hI⟩ : ∃ I, I = lastI sv.toList yl j := ⟨_, rfl⟩
                      rw [← hI]
                      clear hI
                      go_upto_region 23 with fail
                      go_quiet (fail)
                      have HBn := Lib.hid (below_on HXr.out (bel_drewN (Below.refl _ _) nq))
                      generalize wr.drewN nq = wn at HBn ⊢
                      go_wp2_with fail
                      go_roundw
                      case rel => exact ⟨j + 1, by omega, by go_num, by rw [HSTT.out], HBn⟩
                      case measure => simp [intOf]; omega
                  · obtain rfl : j = yn := by omega
                    have d3 : decide ((j : Int) < (j : Int)) = false := decide_eq_false (by omega)
                    rw [HMV.out]
                    obtain ⟨mb, mo, tv, tk, tt, tn, hma, hmb, hmx, ⟨q0, q1, q2, q3⟩, _⟩ := (HMq.out.on HXr.out).at_ hm
                    obtain ⟨hfm, hfl⟩ := HF.out
                    obtain rfl := Option.some.inj (hfm.symm.trans hmx)
                    obtain ⟨hks, hiq⟩ := HS2.out _ HE.out _ (List.mem_of_getElem? hmx) hfl
                    replace hks : tk = sk := hks
                    obtain ⟨hn0, hn1⟩ := HNX.out
                    obtain ⟨ho0, ho1⟩ := (HOK.out.edge HNC.out (List.mem_of_getElem? hmx)).2.2.2
                    replace hn0 : 0 ≤ nx := hn0
                    replace hn1 : nx.toNat < b.nodes.length := hn1
                    replace ho0 : 0 ≤ tn := ho0
                    replace ho1 : tn.toNat < b.nodes.length := ho1
                    obtain ⟨nxn, rfl⟩ : ∃ i : Nat, nx = (i : Int) := ⟨nx.toNat, (Int.toNat_of_nonneg hn0).symm⟩
                    obtain ⟨tnn, rfl⟩ : ∃ i : Nat, tn = (i : Int) := ⟨tn.toNat, (Int.toNat_of_nonneg ho0).symm⟩
                    rw [HNL.out, Int.toNat_natCast] at hn1 ho1
                    have HIQ := Lib.hid (show isQ b ((nxn : Int), (tnn : Int)) = true from hiq)
                    subst hma
                    subst hks
                    have n3 : (tk != tk) = false := by simp
                    have m1 : decide ((m : Int) < 0) = false := decide_eq_false (by omega)
                    have j1 : (m : Int) < (j : Int) := by omega
                    have j2 : (0 : Int) ≤ (m : Int) := by omega
                    have j3 : (t : Int) < (xn : Int) := by omega
                    have j4 : (0 : Int) ≤ (t : Int) := by omega
                    clear hfm hfl hmx hiq hn0 ho0 HF HMV
                    go_upto_region 25 with fail
                    go_quiet (fail)
                    have HBn := Lib.hid (below_on HXr.out (bel_drewN (Below.refl _ _) nq))
                    have HDn := Lib.hid (bel_drewN (Below.refl wr.heap.size wr) nq)
                    generalize wr.drewN nq = wn at HBn HDn ⊢
                    have q30 := (HDn.out.cell (p := ⟨mb, mo + m * 4 + 3, none⟩) hmb).trans q3
                    clear c0 c1 c2 c3 c4 c5 q0 q1 q2 q3 n3 m1
                    obtain ⟨⟨c0, c1⟩, c2, c3, c4, c5⟩ := HC.out _ HBn.out
                    go_upto_region 27 with fail
                    go_quiet (fail)
                    have HBo := Lib.hid (below_on HBn.out (bel_drewN (Below.refl _ _) nq))
                    generalize wn.drewN nq = wo at HBo ⊢
                    clear c0 c1 c2 c3 c4 c5 q30
                    obtain ⟨⟨c0, c1⟩, c2, c3, c4, c5⟩ := HC.out _ HBo.out
                    have HGo := Lib.hid (HGq.out.on HBo.out)
                    have CJ := Lib.hid (HGo.out.isU (nxn : Int) (tnn : Int))
                    rw [HIQ.out] at CJ
                    obtain ⟨b0, b1, b2⟩ := HGo.out.cells
                    go_wp2_with (first
                      | (go_at_call 26; (with_reducible refine CJ.out.mono ?_)
                         rintro e w9 ⟨rfl, hb9⟩
                         have HG9 := Lib.hid (HGo.out.on hb9)
                         clear hb9)
                      | fail)
                    go_roundw
                    case rel => exact ⟨nxn, tnn, k + 1, rfl, rfl, by go_num, hn1, ho1, by omega, HIQ, HG9⟩
                    case measure => simp [intOf]; omega
      · have d1 : decide ((k : Int) < (n' : Int)) = true := decide_eq_true (by omega)
        have d2 : decide ((k : Int) < 20) = false := decide_eq_false (by omega)
        go_wp2_with fail
        go_ret
        exact ⟨rfl, HGr.out.bel⟩
    · have d1 : decide ((k : Int) < (n' : Int)) = false := decide_eq_false (by omega)
      go_wp2_with fail
      go_ret
      exact ⟨rfl, HGr.out.bel⟩
end Go.Proofs.Ytpjocacepafneaa

/- The statement UnderSteps holds for every argument, with no condition. -/
namespace Go.Proofs.Ytpjocacepafneaa.underSteps
open Go Go.ChangeShapes Go.WideShapes Go.ChangeAt Go.RowKit
open Go.ChangeMaps (open_string shut_string)

set_option maxRecDepth 100000 in
theorem lifted (os : Os) (started : os.Started) (H : Type) (enc : TypeId × Value → H) :
    ReturnsInHanded {} Try.checked os 8 .any (Rows.underStepsSpec.pre6 enc Try.prog Try.f8 Rows.underStepsRow.domain false) (Rows.underStepsSpec.post enc Try.prog Try.f8 false true false false) := by
  refine returnsInHanded_of_change_sized (C := Try.checked) seatOwn started (by kernel_rfl) Try.func8
    (ChangeSpec.witness6 (enc := enc) (C := Try.checked) false ⟨#[], #[.slice none 0 0, .int .i64 0, .int .i64 0, .slice none 0 0], []⟩ 8 (by kernel_rfl) (by kernel_rfl) (by kernel_rfl) (by kernel_rfl)) ?_
  intro W base args ds gs before hval0 hW hcnd hsz0 _
  have hval : ∀ (j : Nat) t v, Try.f8.params[j]? = some t → args[j]? = some v → Value.okWide Try.prog W .any base t v := hval0
  have hsz : (DataW.weightsEach Try.prog (Try.f8.params.toList ++ Rows.underStepsSpec.plain.varTypes Try.prog) (ds ++ gs)).all (· ≤ reachBytes) = true := hsz0
  have hW' := hW
  obtain ⟨p, q, hA0, hV, rfl, hfz, hnd⟩ := hW
  have hA : DataW.TrodAll enc Try.prog W 0 (fun _ => true) true Try.f8.params.toList args.toList ds p := hA0
  rw [Try.params8] at hA hval hsz
  obtain ⟨v0, vs0, d0, ds0, p0, q0, hargs, rfl, rfl, h0, r0⟩ := trodAll_cons hA
  obtain ⟨v1, vs1, d1, ds1, p1, q1, rfl, rfl, rfl, h1, r1⟩ := trodAll_cons r0
  obtain ⟨v2, vs2, d2, ds2, p2, q2, rfl, rfl, rfl, h2, r2⟩ := trodAll_cons r1
  obtain ⟨v3, vs3, d3, ds3, p3, q3, rfl, rfl, rfl, h3, r3⟩ := trodAll_cons r2
  obtain ⟨rfl, rfl, rfl⟩ := trodAll_nil r3
  obtain rfl : args = #[v0, v1, v2, v3] := by cases args; simp_all
  obtain ⟨rfl, rfl⟩ := trodVars_none hV
  have k0 := h0
  have lt0 := args_below k0
  obtain ⟨fu0, hf0⟩ := h0
  obtain ⟨ia0, ilen0, icap0, rfl⟩ := okWide_slice Try.underlying24 (hval 0 24 v0 rfl rfl)
  obtain ⟨a0, n0, c0, l0, hv0, hn0, hi0, hc0, hm0, hz0⟩ := open_ints hf0 (fun elems spare e => by
    have := sized_slice hsz (j := 0) (t := 24) (e := 3) rfl (congrArg some e) Try.underlying24
    rwa [seatBytes2] at this)
  obtain ⟨ea0, en0, ec0⟩ := Value.slice.inj hv0
  subst ea0 en0 ec0
  have k1 := h1
  have lt1 := args_below k1
  obtain ⟨a1, rfl, rfl, rfl, w1⟩ := open_int Try.underlying3 (hval 1 3 v1 rfl rfl) h1
  have k2 := h2
  have lt2 := args_below k2
  obtain ⟨a2, rfl, rfl, rfl, w2⟩ := open_int Try.underlying3 (hval 2 3 v2 rfl rfl) h2
  have k3 := h3
  have lt3 := args_below k3
  obtain ⟨fu3, hf3⟩ := h3
  obtain ⟨ia3, ilen3, icap3, rfl⟩ := okWide_slice Try.underlying24 (hval 3 24 v3 rfl rfl)
  obtain ⟨a3, n3, c3, l3, hv3, hn3, hi3, hc3, hm3, hz3⟩ := open_ints hf3 (fun elems spare e => by
    have := sized_slice hsz (j := 3) (t := 24) (e := 3) rfl (congrArg some e) Try.underlying24
    rwa [seatBytes2] at this)
  obtain ⟨ea3, en3, ec3⟩ := Value.slice.inj hv3
  subst ea3 en3 ec3
  clear hA0 hval0 hsz0
  refine (underSteps_walk ia0 ilen0 icap0 l0 a1 a2 ia3 ilen3 icap3 l3 W hn0 hz0 hn3 hz3 ).mono fun e W' ⟨he, bel⟩ => ?_
  subst he
  exact ⟨_, rfl, _, _, _, [], _, [], hW', trodAll_mk1 (shut_bool Try.underlying4 _), (trodAll_cons_mk (Below.trod seatLaidOut (by kernel_rfl) (of_decide_eq_true (by kernel_rfl)) k0 bel lt0) (trodAll_cons_mk (Below.trod seatLaidOut (by kernel_rfl) (of_decide_eq_true (by kernel_rfl)) k1 bel lt1) (trodAll_cons_mk (Below.trod seatLaidOut (by kernel_rfl) (of_decide_eq_true (by kernel_rfl)) k2 bel lt2) (trodAll_cons_mk (Below.trod seatLaidOut (by kernel_rfl) (of_decide_eq_true (by kernel_rfl)) k3 bel lt3) trodAll_mk0)))), rfl, bel.frame _, fun h => by cases h⟩

theorem over : Rows.underStepsRow.holds Try.pinned (OpenSpec.ofChange Rows.underStepsSpec) :=
  OpenClaim.holds_of_wide 8 Try.f8 rfl rfl rfl rfl rfl rfl rfl ⟨rfl, rfl, rfl, rfl, rfl⟩ rfl rfl rfl rfl rfl (by kernel_rfl) Try.func8 (by kernel_rfl)
    (of_decide_eq_true (by kernel_rfl)) (by unfold Func.isWrapper; first | (rw [if_pos (by decide +kernel)]; kernel_rfl) | (rw [if_neg (by decide +kernel)]; exact ⟨rfl, rfl⟩))
    (fun os started H enc _ => lifted os started H enc)

theorem proved : Rows.UnderStepsSaid :=
  over
#print axioms proved
end Go.Proofs.Ytpjocacepafneaa.underSteps
