/- Law: GlobeTurns. -/
import Derived.Test.YtpifkgkhdelaeaaGlFirsts
import Derived.Test.YtpifkgkhdelaeaaGlTurnA
import Derived.Test.YtpifkgkhdelaeaaGlSame
import Derived.Test.YtpifkgkhdelaeaaTuLast
import Derived.Test.YtpifkgkhdelaeaaTuOwnRW
import Derived.Test.YtpifkgkhdelaeaaRef2
import Derived.Deep.RegionHeld3
import Derived.Deep.RegionLaw
import Derived.Deep.DeepCutAuto
import Derived.Deep.CutBlock
namespace Go.Proofs.Ytpifkgkhdelaeaa
open Go.RowKit

theorem TBox.on8 {W W' : World} {g : Nat} {k : Int} {s : ByteArray} {a : Option Addr} {n c : Nat} (h : TBox W g k s a n c) (hb : Below W.heap.size W W') : TBox W' g k s a n c := (hb.block g h.lt).trans h
theorem TBox.fill8 {W : World} {g : Nat} {k k' : Int} {s s' : ByteArray} {a : Option Addr} {n c : Nat} (h : TBox W g k s a n c) : TBox ((W.setCell ⟨g, 0, none⟩ (.int .i64 k')).setCell ⟨g, 1, none⟩ (.string s')) g k' s' a n c := by
  have hset : ∀ (V : World) (cur : Array Value) (o : Nat) (u : Value), V.heap[g]? = some (.cells cur 37 (0, 0)) → (V.setCell ⟨g, o, none⟩ u).heap[g]? = some (.cells (cur.set! o u) 37 (0, 0)) := fun V cur o u hV => by
    obtain ⟨hlt, hk2⟩ := Array.getElem?_eq_some_iff.1 hV
    show (V.heap.modify g _)[g]? = _
    rw [Array.getElem?_eq_getElem (by rw [Array.size_modify]; exact hlt), Array.getElem_modify_self, hk2]
    rfl
  exact hset _ _ 1 _ (hset _ _ 0 _ h)
theorem LBox.fill8 {W : World} {g : Nat} {nm nm' : ByteArray} {a a' : Option Addr} {n c n' c' : Nat} (h : LBox W g nm a n c) : LBox ((W.setCell ⟨g, 0, none⟩ (.string nm')).setCell ⟨g, 1, none⟩ (.slice a' n' c')) g nm' a' n' c' := by
  have hset : ∀ (V : World) (cur : Array Value) (o : Nat) (u : Value), V.heap[g]? = some (.cells cur 32 (0, 0)) → (V.setCell ⟨g, o, none⟩ u).heap[g]? = some (.cells (cur.set! o u) 32 (0, 0)) := fun V cur o u hV => by
    obtain ⟨hlt, hk2⟩ := Array.getElem?_eq_some_iff.1 hV
    show (V.heap.modify g _)[g]? = _
    rw [Array.getElem?_eq_getElem (by rw [Array.size_modify]; exact hlt), Array.getElem_modify_self, hk2]
    rfl
  exact hset _ _ 1 _ (hset _ _ 0 _ h)
theorem walkV_form8 (o : Option Nat) : ∃ (p : Int) (b : Bool), walkV o = .tuple #[.int .i64 p, .bool b] := by cases o <;> exact ⟨_, _, rfl⟩
theorem nil_str8 : (⟨#[]⟩ : ByteArray).toList = [] := by rw [ByteArray.toList_eq]
theorem str_a8 : (⟨#[97]⟩ : ByteArray).toList = [97] := by rw [ByteArray.toList_eq]
theorem strs_one8 (w : World) (g : Nat) (s : ByteArray) (hg : g = w.heap.size) (hs : s.size ≤ maxLen) : Strs (w.alloc (.cells #[.string s] 9)) (w.heap.size + 1) (some ⟨g, 0, none⟩) 1 [s.toList] := by
  subst hg
  exact strs_one w s hs
theorem lab_small8 (m : Nat) : (labB m).size ≤ maxLen := by simp [labB, maxLen, ByteArray.size]
theorem lab_at8 (w : World) (m : Nat) (hm : m < 4) : (w.alloc (.cells #[.string ⟨#[119]⟩, .string ⟨#[120]⟩, .string ⟨#[121]⟩, .string ⟨#[122]⟩] 9)).cell? ⟨w.heap.size, m, none⟩ = some (.string (labB m)) := by
  have := labObj_at w m
  rw [Nat.mod_eq_of_lt hm] at this
  exact this
theorem PIn.trimOk8 {W : World} {nm : ByteArray} {ra : Option Addr} {rn rc : Nat} {rs : List Str} {a : Option Addr} {n c : Nat} {ps : List PointL} (h : PIn W nm ra rn rs a n ps) (hv : protB nm.toList rs ps = true) :
    Calls Try.prog 9 #[.agg #[.string nm, .slice ra rn rc, .slice a n c]] W fun e w' => (∃ xa xn xc ta tn tc, e = .returned (.agg #[.string nm, .slice xa xn xc, .slice ta tn tc]) ∧ ∀ V : World, w'.heap.size ≤ V.heap.size → (∀ b, W.heap.size ≤ b → b < w'.heap.size → V.heap[b]? = w'.heap[b]?) → Pts V V.heap.size ta tn (trimP ps)) ∧ Below W.heap.size W w' :=
  (gTrim2_any nm h.name ra rn rc rs a n c ps W _ (Nat.le_refl _) h.roles h.pts).mono fun e w' k => by
    obtain ⟨⟨xa, xn, xc, ta, tn, tc, e1, e2⟩, hb⟩ := k
    have e3 : nameQ nm rs ps = nm := by unfold nameQ; rw [hv]; rfl
    have e5 : trimQ nm.toList rs ps = trimP ps := by unfold trimQ; rw [hv]; rfl
    rw [e3] at e1
    rw [e5] at e2
    exact ⟨⟨xa, xn, xc, ta, tn, tc, e1, fun V h1 h2 => (e2 V h1 h2).pts⟩, hb⟩
theorem trimL8_any (nm : ByteArray) (a : Option Addr) (n c : Nat) (ts : List TurnL) (hv : locB ts = true) (w : World) (h : Turns w w.heap.size a n ts) :
    Calls Try.prog 10 #[.agg #[.string nm, .slice a n c]] w fun e w' => (∃ ua un uc, e = .returned (.agg #[.string nm, .slice ua un uc]) ∧ ∀ V : World, w'.heap.size ≤ V.heap.size → (∀ b, w.heap.size ≤ b → b < w'.heap.size → V.heap[b]? = w'.heap[b]?) → Turns V V.heap.size ua un (trimT ts)) ∧ Below w.heap.size w w' :=
  (ownTrimO_any nm a n c ts w _ (Nat.le_refl _) h).mono fun e w' k => by
    obtain ⟨⟨ra, rn, rc, e1, e2⟩, hb⟩ := k
    have e3 : trimName ts nm = nm := by unfold trimName; rw [hv]; rfl
    have e5 : trimL ts = trimT ts := by unfold trimL; rw [hv]; rfl
    rw [e3] at e1
    have hfew : (trimL ts).length ≤ 1000000 := by have := trimL_few ts; omega
    rw [e5] at e2 hfew
    refine ⟨⟨ra, rn, rc, e1, fun V h1 h2 => ?_⟩, hb⟩
    obtain ⟨xa, xc, hx, _⟩ := e2.sees hfew
    obtain ⟨q1, q2, _⟩ := Value.slice.inj hx
    obtain ⟨ya, yc, hy, ht⟩ := (e2.blocks h1 h2).sees hfew
    obtain ⟨z1, z2, _⟩ := Value.slice.inj hy
    rw [← z1, ← z2] at ht
    exact ht
set_option maxHeartbeats 16000000 in
set_option maxRecDepth 20000 in
theorem globeTurns_walk (a : Option Addr) (n c : Nat) (l : List Int) (a' : Option Addr) (n' c' : Nat) (l' : List Int) (w : World) (h : Nums w w.heap.size a n l) (hlim : n * 8 ≤ 140737488351232) (h' : Nums w w.heap.size a' n' l') (_hlim' : n' * 8 ≤ 140737488351232) :
    Calls Try.prog 3 #[.slice a n c, .slice a' n' c'] w fun e w' => e = .returned (.bool true) ∧ Below w.heap.size w w' := by
  have HN := Lib.hid h
  have HN' := Lib.hid h'
  have HF := Lib.hid (glFirst_any w)
  have hn0 := h.1
  have HLN := Lib.hid hn0
  clear h h' hn0
  go_enter Try.func3, Try.ntmps3
  go_upto_region 4 with (first
    | (go_at_call 4; (with_reducible refine HF.out.mono ?_)
       rintro e w1 ⟨rfl, hb1⟩
       have HB1 := Lib.hid hb1
       clear hb1)
    | (go_at_call 6; (with_reducible refine (given_any _).mono ?_)
       rintro e w2 ⟨xa, xb, rfl, _, hb2⟩
       have HB2 := Lib.hid (below_on HB1.out hb2)
       clear hb2)
    | (at_builtin
       refine wpList_append_plus rfl (.tmp 22) (.tmp 23) rfl w2.heap.size w.heap.size (.slice (some ⟨w2.heap.size, 0, none⟩) 1 1) a n c [0] l rfl rfl (IInts.one (W := w2) (cs := #[.int .i64 0]) (base := w2.heap.size) (g := w2.heap.size) 0 rfl rfl (Nat.le_refl _)) ((HN.out.below HB2.out).alloc HB2.out.size _) (by show (1 + n) * 8 ≤ _; omega) (by simp) ?_
       intro v3 w3 hown hgr
       obtain ⟨pa, pc, hv, _, _, _, hnu⟩ := hown.sees
       obtain ⟨pn, hpn⟩ : ∃ pn, pn = ([0] ++ l : List Int).length := ⟨_, rfl⟩
       rw [← hpn] at hv hnu
       subst hv
       have hpl : pn * 8 ≤ 140737488355328 := by rw [hpn, List.length_append, HLN.out]; show (1 + n) * 8 ≤ _; omega
       clear hpn
       have HNU := Lib.hid (show Nums w3 w3.heap.size pa pn (0 :: l) from hnu)
       have HB3 := Lib.hid ((HB2.out.alloc HB2.out.size (.cells #[.int .i64 0] 3)).grown hgr (by have := HB2.out.size; simp; omega) (fun j e => by cases e; exact HB2.out.size))
       clear hown hgr hnu)
    | (go_at_call 5; (with_reducible refine (law0_any xa xb pa pn pc l w3 HNU.out hpl).mono ?_)
       rintro e w4 ⟨⟨many, hmm, ra, rc, sa, sn, sc, ps, rfl, hm, hr, hl, hok, h2, h9⟩, hb4⟩
       subst hmm
       have HB4 := Lib.hid (below_on HB3.out hb4)
       obtain ⟨hpin, hmade⟩ := made_in (by omega) (by omega) hm hr hl hok h2 h9
       have HPI := Lib.hid hpin
       have HMD := Lib.hid hmade
       clear hm hr hl hok h2 h9 hb4 hpin hmade)
    | fail)
  have HG5 := Lib.hid (GIn.begin (rc := rc) (sc := sc) HB4.out HPI.out)
  generalize hg5 : w4.heap.size = g5 at HG5 ⊢
  generalize hw5 : w4.alloc (.cells #[.string ⟨#[112]⟩, .slice ra 2 rc, .slice sa sn sc] 27) = w5 at HG5 ⊢
  clear hg5 hw5 HPI HB4 HB3 HNU HB2 HB1 HF HN hpl
  have hok := HMD.out.ok
  rw [← prot_one] at hok
  have HOK := Lib.hid hok
  have HLOC := Lib.hid (loc_asU hok)
  have hsn9 := HMD.out.high
  have HLEN := Lib.hid HMD.out.len
  clear hok
  have HPT := Lib.hid HG5.out.pin.pts
  go_upto_region 5 with fail
  have HB6 := Lib.hid (tu1 w5 (.cells #[.string ⟨#[112]⟩, .slice none 0 0] 32))
  have HL6 := Lib.hid (LBox.new w5 ⟨#[112]⟩ none 0 0)
  have HG6 := Lib.hid (HG5.out.on HB6.out)
  have HP6 := Lib.hid (HPT.out.below HB6.out)
  have hz6 : (w5.alloc (.cells #[.string ⟨#[112]⟩, .slice none 0 0] 32)).heap.size = w5.heap.size + 1 := by simp
  generalize hg6 : w5.heap.size = g6 at HL6 HP6 hz6 ⊢
  generalize hw6 : w5.alloc (.cells #[.string ⟨#[112]⟩, .slice none 0 0] 32) = w6 at HL6 HG6 HP6 hz6 ⊢
  have hg5 : g5 < g6 := by rw [← hg6]; exact HG5.out.box.lt
  have HGW := Lib.hid (fun (W : World) (hW : Beside g6 w6 W) => show GIn w W g5 2 ra rc sa sn sc ps from HG5.out.on (HB6.out.trans (by rw [hw6, hg6]; exact hW.below (Nat.le_refl _) (by omega))))
  clear hw6 hg6 HB6 HPT HG5
  go_wp2_with fail
  go_loopw [7] (fun i wr => ∃ (k : Nat) (la : Option Addr) (ln lc : Nat), k ≤ sn ∧ i = .int .i64 k ∧ Hid (UOwn wr g6 (g6 + 1) (.slice la ln lc) ((ps.take k).map asU)) ∧ Hid (LBox wr g6 ⟨#[112]⟩ la ln lc) ∧ Hid (Beside g6 w6 wr)) (fun i _ => sn - (intOf i).toNat)
  case atStart => exact ⟨0, none, 0, 0, Nat.zero_le _, rfl, Lib.hid (UOwn.zero _ _ _), HL6, Lib.hid (Beside.refl _ _)⟩
  case round =>
    obtain ⟨k, la, ln, lc, hk, rfl, HO, HLB, HBr⟩ := hrel
    obtain ⟨wo, hwo⟩ : ∃ wo : World, wo = wr := ⟨_, rfl⟩
    subst hwo
    have hzo := HBr.out.size
    have hxo := HG6.out.box.beside HBr.out (by omega)
    obtain ⟨_, _, _⟩ := hxo.cells
    by_cases hlt : k < sn
    · obtain ⟨b, off, q, s, aa, an, ac, al, rfl, hbb, hx, ⟨q0, q1, q2⟩, hq, hs, hal⟩ := HP6.out.at_ hlt
      have r0 := (HBr.out.cell (p := ⟨b, off + k * 3, none⟩) (by show b < _; omega) (by show b ≠ _; omega)).trans q0
      have r1 := (HBr.out.cell (p := ⟨b, off + k * 3 + 1, none⟩) (by show b < _; omega) (by show b ≠ _; omega)).trans q1
      have r2 := (HBr.out.cell (p := ⟨b, off + k * 3 + 2, none⟩) (by show b < _; omega) (by show b ≠ _; omega)).trans q2
      have z1 : b < wo.heap.size := by omega
      have i1 : (k : Int) < (sn : Int) := by omega
      have i2 : (0 : Int) ≤ (k : Int) := by omega
      have HAL := Lib.hid (hal.keep (w' := wo) fun p hp => HBr.out.cell (by omega) (by omega))
      have HXK := Lib.hid hx
      have HSZ := Lib.hid (And.intro hq hs)
      have hanl := hal.1
      have HB8 := Lib.hid (tu1 wo (.cells #[.string q, .string s, .slice aa an ac] 35))
      have HB9 := Lib.hid (below_on HB8.out (tu1 (wo.alloc (.cells #[.string q, .string s, .slice aa an ac] 35)) (.cells #[.int .i64 0, .string ⟨#[]⟩, .slice aa an ac] 37)))
      have HX9 := Lib.hid (show ((wo.alloc (.cells #[.string q, .string s, .slice aa an ac] 35)).alloc (.cells #[.int .i64 0, .string ⟨#[]⟩, .slice aa an ac] 37)).heap[wo.heap.size]? = some (.cells #[.string q, .string s, .slice aa an ac] 35 (0, 0)) from heap_keep _ (heap_alloc_new wo _))
      have HT9 := Lib.hid (show TBox ((wo.alloc (.cells #[.string q, .string s, .slice aa an ac] 35)).alloc (.cells #[.int .i64 0, .string ⟨#[]⟩, .slice aa an ac] 37)) (wo.heap.size + 1) 0 ⟨#[]⟩ aa an ac from heap_new_at (by simp))
      clear q0 q1 q2 hx hq hs hal
      have hgz := HBr.out.size
      go_upto_block 2 with fail
      go_cut [] (fun wx => ∃ (kd : Int) (pr : ByteArray), Hid (TBox wx (wo.heap.size + 1) kd pr aa an ac) ∧ Hid ((⟨kd, pr.toList, al⟩ : TurnL) = asU ⟨q.toList, s.toList, al⟩ ∧ pr.size ≤ maxLen) ∧ Hid (Below wo.heap.size wo wx))
      case first =>
        obtain ⟨w9, hw9⟩ : ∃ w9, w9 = (wo.alloc (.cells #[.string q, .string s, .slice aa an ac] 35)).alloc (.cells #[.int .i64 0, .string ⟨#[]⟩, .slice aa an ac] 37) := ⟨_, rfl⟩
        rw [← hw9] at HB9 HX9 HT9 ⊢
        have hz9 : w9.heap.size = wo.heap.size + 2 := by rw [hw9]; simp
        clear hw9 r0 r1 r2 HB8
        have x0 : w9.cell? ⟨wo.heap.size, 0, none⟩ = some (.string q) := by rw [cell_of_row _ _ _ _ _ _ HX9.out]; rfl
        have x1 : w9.cell? ⟨wo.heap.size, 1, none⟩ = some (.string s) := by rw [cell_of_row _ _ _ _ _ _ HX9.out]; rfl
        have x2 : w9.cell? ⟨wo.heap.size, 2, none⟩ = some (.slice aa an ac) := by rw [cell_of_row _ _ _ _ _ _ HX9.out]; rfl
        obtain ⟨_, _, _⟩ := HT9.out.cells
        have vf0 := HT9.out.thaw 0
        have vf1 := HT9.out.thaw 1
        by_cases hn0 : an = 0
        · have n0 : ((an : Int) == 0) = true := by rw [beq_iff_eq]; omega
          have HZ := Lib.hid (show (⟨0, (⟨#[]⟩ : ByteArray).toList, al⟩ : TurnL) = asU ⟨q.toList, s.toList, al⟩ from by
            have : al = [] := List.eq_nil_of_length_eq_zero (by omega)
            subst this
            rw [nil_str8]
            rfl)
          clear hanl hn0
          go_wp2_with fail
          go_meet
          exact ⟨0, ⟨#[]⟩, HT9, Lib.hid ⟨HZ.out, by simp [maxLen, ByteArray.size]⟩, HB9⟩
        · have n0 : ((an : Int) == 0) = false := by rw [beq_eq_false_iff_ne]; omega
          have hne : al.isEmpty = false := by
            cases al with
            | nil => exact absurd hanl.symm hn0
            | cons x r => rfl
          have e1 := str_a8
          cases hqa : (q.toList == [97])
          · have HZ := Lib.hid (show (⟨2, q.toList, al⟩ : TurnL) = asU ⟨q.toList, s.toList, al⟩ from by
              unfold asU
              dsimp only
              rw [hne, hqa]
              rfl)
            clear hanl hn0 hne
            go_wp2_with fail
            go_region
            go_wp2_with fail
            go_meet
            have hbs := ((Beside.refl (wo.heap.size + 1) w9).setCell 0 (.int .i64 2)).setCell 1 (.string q)
            have hd := bel_drewN (HB9.out.trans (hbs.below (show wo.heap.size ≤ wo.heap.size + 1 by omega) (by omega))) 1
            exact ⟨2, q, Lib.hid HT9.out.fill8, Lib.hid ⟨HZ.out, HSZ.out.1⟩, Lib.hid hd⟩
          · have HZ := Lib.hid (show (⟨1, s.toList, al⟩ : TurnL) = asU ⟨q.toList, s.toList, al⟩ from by
              unfold asU
              dsimp only
              rw [hne, hqa]
              rfl)
            clear hanl hn0 hne
            go_wp2_with fail
            go_region
            go_wp2_with fail
            go_meet
            have hbs := ((Beside.refl (wo.heap.size + 1) w9).setCell 0 (.int .i64 1)).setCell 1 (.string s)
            have hd := bel_drewN (HB9.out.trans (hbs.below (show wo.heap.size ≤ wo.heap.size + 1 by omega) (by omega))) 1
            exact ⟨1, s, Lib.hid HT9.out.fill8, Lib.hid ⟨HZ.out, HSZ.out.2⟩, Lib.hid hd⟩
      case rest =>
        obtain ⟨kd, pr, HTX, HAS, HBX⟩ := hcut
        obtain ⟨_, _, _⟩ := HTX.out.cells
        have HLX := Lib.hid (HLB.out.on HBX.out)
        obtain ⟨_, _⟩ := HLX.out.cells
        have hzx := HBX.out.size
        have HOX := Lib.hid (HO.out.below HBX.out (Nat.le_refl _) (by omega))
        have HAX := Lib.hid (HAL.out.keep (w' := wc) fun p hp => HBX.out.cell (by omega))
        obtain ⟨f, hf⟩ : ∃ f, f = (ps.take k).map asU := ⟨_, rfl⟩
        rw [← hf] at HOX
        have HST := Lib.hid (show (ps.take (k + 1)).map asU = f ++ [asU ⟨q.toList, s.toList, al⟩] by rw [hf, tuTake_at HXK.out, List.map_append]; rfl)
        have HFL := Lib.hid (show f.length ≤ 1000 by rw [hf, List.length_map, List.length_take]; omega)
        have HTT := Lib.hid (show kd = (asU ⟨q.toList, s.toList, al⟩).kind ∧ pr.toList = (asU ⟨q.toList, s.toList, al⟩).peer ∧ al = (asU ⟨q.toList, s.toList, al⟩).arms from by
          have := HAS.out.1
          exact ⟨by rw [← this], by rw [← this], by rw [← this]⟩)
        obtain ⟨tt, htt⟩ : ∃ tt, tt = asU ⟨q.toList, s.toList, al⟩ := ⟨_, rfl⟩
        rw [← htt] at HST HTT
        have hsm : g6 < wc.heap.size := by omega
        clear hf htt hanl r0 r1 r2
        go_wp2_with (first
          | (at_builtin
             refine wpList_append_uturn rfl (.tmp 60) (.tmp 62) rfl g6 (g6 + 1) (.slice la ln lc) f ⟨kd, pr, aa, an, ac⟩ tt rfl rfl rfl rfl HOX.out ⟨HTT.out.1, HTT.out.2.1, HAS.out.2, by rw [← HTT.out.2.2]; exact HAX.out⟩ (by omega) (by omega) (by have := HFL.out; omega) wc (Below.refl _ _) ?_
             intro v4 w4 hown hbel
             have hz4 := hbel.size
             obtain ⟨la4, lc4, hv4, _⟩ := hown.sees (by rw [List.length_append, List.length_singleton]; have := HFL.out; omega) (by omega)
             obtain ⟨ln4, hn4⟩ : ∃ x, x = (f ++ [tt]).length := ⟨_, rfl⟩
             rw [← hn4] at hv4
             clear hn4
             subst hv4
             have HO4 := Lib.hid hown
             have HB4 := Lib.hid hbel
             have HL4 := Lib.hid (show LBox w4 g6 ⟨#[112]⟩ la ln lc from (hbel.block g6 (by omega)).trans HLX.out)
             obtain ⟨_, _⟩ := HL4.out.cells
             have vg1 := HL4.out.thaw 1
             clear hown hbel)
          | fail)
        go_roundw
        case rel => exact ⟨k + 1, la4, ln4, lc4, by omega, by go_num, Lib.hid (by rw [HST.out]; exact HO4.out.beside ((Beside.refl g6 w4).setCell 1 (.slice la4 ln4 lc4)) (Nat.le_refl _) (by omega) (by omega)), Lib.hid (LBox.set HL4.out), Lib.hid ((bes_below (bes_below HBr.out HBX.out (by omega)) HB4.out (by omega)).setCell 1 (.slice la4 ln4 lc4))⟩
        case measure => simp [intOf]; omega
    · have d1 : decide ((k : Int) < (sn : Int)) = false := decide_eq_false (by omega)
      have hall : ps.take k = ps := List.take_of_length_le (by have := HLEN.out; omega)
      rw [hall] at HO
      obtain ⟨fa, fc, hfv, hft⟩ := HO.out.sees (by rw [List.length_map]; have := HLEN.out; omega) (by omega)
      rw [List.length_map, HLEN.out] at hfv hft
      obtain ⟨e1, e2, e3⟩ := Value.slice.inj hfv
      subst e1 e2
      have HT0 := Lib.hid hft
      have HG0 := Lib.hid (HGW.out _ HBr.out)
      clear hfv hft hall e3 HO HP6 HG6 HL6 hxo HGW
      go_upto_block 3 with fail
      go_cut [10] (fun v wx => ∃ (k : Nat) (oa : Option Addr) (oc : Nat) (ws : List Str), v = .slice oa k oc ∧ k ≤ 20 ∧ Hid (Strs wx wx.heap.size oa k ws) ∧ Hid (Below wo.heap.size wo wx))
      case first =>
        go_wp2_with fail
        go_loopw [10, 11] (fun sl i wr => ∃ (k : Nat) (v : Value) (ws : List Str), k ≤ 20 ∧ k ≤ n' ∧ i = .int .i64 k ∧ v = sl ∧ Hid (wr.ownsRow wo.heap.size 9 1 v k (ws.map encStr)) ∧ Hid (∀ s ∈ ws, s.length ≤ maxLen) ∧ Hid (Below wo.heap.size wo wr)) (fun _ i _ => n' - (intOf i).toNat)
        case atStart => exact ⟨0, _, [], Nat.zero_le _, Nat.zero_le _, rfl, rfl, Lib.hid (World.ownsRow_nil _ _ _ _), Lib.hid (fun s hs => by cases hs), Lib.hid (Below.refl _ _)⟩
        case round =>
          obtain ⟨k, v0, ws, hk20, hk, rfl, rfl, HO, HM, HBr⟩ := hrel
          have hsee := Strs.of_own HO.out (by omega) HM.out
          by_cases hk1 : k < n'
          · by_cases hk2 : k < 20
            · have hz9 : wo.heap.size ≤ wr.heap.size := HBr.out.size
              have hz6 : w.heap.size ≤ wo.heap.size := HG0.out.bel.size
              obtain ⟨b, off, x, rfl, hb, _, hc⟩ := (HN'.out.below (HG0.out.bel.trans (HBr.out.mono hz6))).at_ hk1
              obtain ⟨m, hm4, hmod⟩ := mod_lt x 4 (by omega) (by omega)
              have hmod : (IntKind.u64.wrap x).tmod 4 = (m : Int) := hmod
              have i1 : (k : Int) < (n' : Int) := by omega
              have i2 : (0 : Int) ≤ (k : Int) := by omega
              have i3 : (k : Int) < 20 := by omega
              have i4 : (m : Int) < 4 := by omega
              have i5 : (0 : Int) ≤ (m : Int) := by omega
              have zb : b < wr.heap.size := by omega
              have hlab := lab_at8 wr m hm4
              have HMM := Lib.hid (show ∀ s ∈ ws ++ [(labB m).toList], s.length ≤ maxLen from fun s hs => by
                rcases List.mem_append.1 hs with h | h
                · exact HM.out s h
                · obtain rfl := List.mem_singleton.1 h
                  rw [len_toList]
                  exact lab_small8 m)
              have HRE := Lib.hid (show Below wo.heap.size wo ((wr.alloc (.cells #[.string ⟨#[119]⟩, .string ⟨#[120]⟩, .string ⟨#[121]⟩, .string ⟨#[122]⟩] 9)).alloc (.cells #[.string (labB m)] 9)) from (HBr.out.alloc hz9 _).alloc (by simp; omega) _)
              clear hm4 hb hsee
              go_wp2_with (first
                | (at_builtin
                   refine wpList_append_strs _ rfl (.tmp 75) (.tmp 85) _ rfl wo.heap.size 9 Try.underlying24 info9 _ k ws rfl ((HO.out.alloc _).alloc _) _ _ 1 1 [(labB m).toList] rfl (strs_one8 (wr.alloc (.cells #[.string ⟨#[119]⟩, .string ⟨#[120]⟩, .string ⟨#[121]⟩, .string ⟨#[122]⟩] 9)) _ (labB m) (by simp) (lab_small8 m)) (by omega) (by simp; omega) ?_
                   intro v3 w3 own3 gr3 at3
                   have HO3 := Lib.hid own3
                   have HB3 := Lib.hid (HRE.out.grown gr3 (by simp; omega) (fun j hj => (HO.out.lt j hj).1))
                   clear own3 gr3 at3)
                | fail)
              go_roundw
              case rel => exact ⟨k + 1, _, ws ++ [(labB m).toList], by omega, by omega, by go_num, rfl, HO3, HMM, HB3⟩
              case measure => simp [intOf]; omega
            · have d2 : decide ((k : Int) < 20) = false := decide_eq_false (by omega)
              have i1 : (k : Int) < (n' : Int) := by omega
              obtain ⟨oa, oc, hv, hss, _, _⟩ := hsee
              have HSS := Lib.hid (And.intro hv hss)
              clear hk2 hv hss
              go_wp2_with fail
              go_meet
              exact ⟨k, oa, oc, ws, HSS.out.1, hk20, Lib.hid HSS.out.2, HBr⟩
          · have d2 : decide ((k : Int) < (n' : Int)) = false := decide_eq_false (by omega)
            obtain ⟨oa, oc, hv, hss, _, _⟩ := hsee
            have HSS := Lib.hid (And.intro hv hss)
            clear hv hss
            go_wp2_with fail
            go_meet
            exact ⟨k, oa, oc, ws, HSS.out.1, hk20, Lib.hid HSS.out.2, HBr⟩
      case rest =>
        obtain ⟨k2, oa, oc, ws, rfl, hk2, HSS, HBc⟩ := hcut
        have HGc := Lib.hid (HG0.out.on HBc.out)
        have HLc := Lib.hid (HLB.out.on HBc.out)
        have HTc := Lib.hid (HT0.out.on HBc.out)
        clear HG0 HLB HT0
        obtain ⟨_, _, _⟩ := HGc.out.box.cells
        obtain ⟨_, _⟩ := HLc.out.cells
        obtain ⟨pp, pb, hpv⟩ := walkV_form8 (walkP ps ws)
        have CW1 := Lib.hid (fun (W : World) (hW : Below wc.heap.size wc W) => (PIn.walk (rc := rc) (c := sc) (HGc.out.pin.on hW) oc (HSS.out.on hW)).mono fun e w2 h => (⟨by
          rw [h.1, ← hpv]
          unfold walkQ
          rw [HOK.out, if_pos rfl], below_on hW h.2⟩ : e = .returned (.tuple #[.int .i64 pp, .bool pb]) ∧ Below wc.heap.size wc w2))
        have CW2 := Lib.hid (fun (W : World) (hW : Below wc.heap.size wc W) => (ownWalk_any ⟨#[112]⟩ la ln lc (ps.map asU) oa k2 oc ws W W.heap.size (Nat.le_refl _) (HTc.out.on hW) (HSS.out.on hW)).mono fun e w2 h => (⟨by
          rw [h.1, ← hpv]
          unfold walkL walkP
          rw [HLOC.out, if_pos rfl, walk_asU], below_on hW h.2⟩ : e = .returned (.tuple #[.int .i64 pp, .bool pb]) ∧ Below wc.heap.size wc w2))
        clear hpv
        go_upto_region 22 with (first
          | (go_at_call 7; (with_reducible refine (CW1.out _ (Below.refl _ _)).mono ?_)
             rintro e w20 ⟨rfl, h20⟩
             have HB20 := Lib.hid h20
             obtain ⟨_, _⟩ := (HLc.out.on h20).cells
             clear h20)
          | (go_at_call 8; (with_reducible refine (CW2.out _ HB20.out).mono ?_)
             rintro e w21 ⟨rfl, h21⟩
             have HG21 := Lib.hid (HGc.out.on h21)
             have HL21 := Lib.hid (HLc.out.on h21)
             have HT21 := Lib.hid (HTc.out.on h21)
             have hz21 := h21.size
             clear h21)
          | fail)
        have hzc := HBc.out.size
        go_cut [16, 17] (fun t16 t17 wx => ∃ (gs gt : Nat) (xa : Option Addr) (xn xc : Nat) (ta : Option Addr) (tn tc : Nat) (ua : Option Addr) (un uc : Nat), t16 = .pointer (some ⟨gs, 0, none⟩) ∧ t17 = .pointer (some ⟨gt, 0, none⟩) ∧ Hid (PBox wx gs ⟨#[112]⟩ xa xn xc ta tn tc) ∧ Hid (LBox wx gt ⟨#[112]⟩ ua un uc) ∧ Hid (Pts wx wx.heap.size ta tn (trimP ps)) ∧ Hid (Turns wx wx.heap.size ua un (trimT (ps.map asU))) ∧ Hid (GIn w wx g5 2 ra rc sa ln sc ps) ∧ Hid (LBox wx g6 ⟨#[112]⟩ la ln lc) ∧ Hid (Turns wx wx.heap.size la ln (ps.map asU)))
        case first =>
          have HB0 := Lib.hid (show Below w21.heap.size w21 w21.drew from bel_drewN (Below.refl _ _) 1)
          have C1 := Lib.hid (fun (W : World) (hW : Below w21.heap.size w21 W) => PIn.trimOk8 (rc := rc) (c := sc) (HG21.out.pin.on hW) HOK.out)
          have C2 := Lib.hid (fun (W : World) (hW : Below w21.heap.size w21 W) => trimL8_any ⟨#[112]⟩ la ln lc (ps.map asU) HLOC.out W (HT21.out.on hW))
          have HK := Lib.hid (fun (W : World) (hW : Below w21.heap.size w21 W) => show (W.cell? ⟨g5, 0, none⟩ = some (.string ⟨#[112]⟩) ∧ W.cell? ⟨g5, 1, none⟩ = some (.slice ra 2 rc) ∧ W.cell? ⟨g5, 2, none⟩ = some (.slice sa ln sc)) ∧ W.cell? ⟨g6, 0, none⟩ = some (.string ⟨#[112]⟩) ∧ W.cell? ⟨g6, 1, none⟩ = some (.slice la ln lc) from ⟨(HG21.out.on hW).box.cells, (HL21.out.on hW).cells⟩)
          refine wp_region_last2 (S := fun W => (W.cell? ⟨g5, 0, none⟩ = some (.string ⟨#[112]⟩) ∧ W.cell? ⟨g5, 1, none⟩ = some (.slice ra 2 rc) ∧ W.cell? ⟨g5, 2, none⟩ = some (.slice sa ln sc)) ∧ W.cell? ⟨g6, 0, none⟩ = some (.string ⟨#[112]⟩) ∧ W.cell? ⟨g6, 1, none⟩ = some (.slice la ln lc)) rfl (by kernel_rfl) (by kernel_rfl) (HK.out _ HB0.out) (fun hHeld => ?_)
          obtain ⟨wd, hwd⟩ : ∃ wd, wd = w21.drew := ⟨_, rfl⟩
          rw [← hwd] at HB0 hHeld ⊢
          clear hwd
          simp only [List.pop_toArray, List.dropLast_cons_cons, List.dropLast_singleton]
          try simp only [Act.put, List.setIfInBounds_toArray]
          refine' wpAnyH_take (i := 0) (v := _) rfl (by kernel_rfl) (by kernel_rfl) (by kernel_rfl) (fun _ _ _ h => h) (Or.inl ⟨by rfl, ?hy0⟩) (by assumption) ?rest0
          case hy0 =>
            intro W hSw
            (try dsimp only at hSw)
            first | (go_simp; done) | (go_simp; with_reducible rfl)
          try simp only [Act.put, List.setIfInBounds_toArray]
          refine' wpAnyH_take (i := 2) (v := _) rfl (by kernel_rfl) (by kernel_rfl) (by kernel_rfl) (fun _ _ _ h => h) (Or.inl ⟨by rfl, ?hy2⟩) (by assumption) ?rest2
          case hy2 =>
            intro W hSw
            (try dsimp only at hSw)
            first | (go_simp; done) | (go_simp; with_reducible rfl)
          try simp only [Act.put]
          refine wpAnyH_ready (rs := [1, 4, 5]) (by kernel_rfl) (by simp) ?_
          refine AllReadyH.cons (i := 1) (o := _) rfl (fun K hK => ?rpx1) (AllReadyH.cons (i := 4) (o := _) rfl (fun K hK => ?rpx4) (AllReadyH.cons (i := 5) (o := _) rfl (fun K hK => ?rpx5) AllReadyH.nil))
          case rpx1 =>
            go_simp
            go_at_call 9
            with_reducible refine (C1.out _ HB0.out).mono ?_
            rintro e v1 ⟨⟨xa, xn, xc, ta, tn, tc, he, ht⟩, hb⟩
            subst he
            have HTrpx1 := Lib.hid (show ∀ V : World, v1.heap.size ≤ V.heap.size → (∀ b, wd.heap.size ≤ b → b < v1.heap.size → V.heap[b]? = v1.heap[b]?) → Pts V V.heap.size ta tn (trimP ps) from fun V h1 h2 => ht V h1 (fun b h3 h4 => h2 b (h3) h4))
            have hspx1 : wd.heap.size ≤ v1.heap.size := by have := hb.size; exact this
            have HBpx1 := Lib.hid (below_on HB0.out hb)
            have HBTpx1 := Lib.hid (Below.refl v1.heap.size v1)
            clear ht hb
            refine hK.out _ _ (HK.out _ HBpx1.out) (fun hHeld => ?_)
            clear hK K
            try simp only [Act.put, List.setIfInBounds_toArray, List.set_cons_zero, List.set_cons_succ]
            refine wpAnyH_ready (rs := [3, 4, 5]) (by kernel_rfl) (by simp) ?_
            refine AllReadyH.cons (i := 3) (o := _) rfl (fun K hK => ?rpx1x3) (AllReadyH.cons (i := 4) (o := _) rfl (fun K hK => ?rpx1x4) (AllReadyH.cons (i := 5) (o := _) rfl (fun K hK => ?rpx1x5) AllReadyH.nil))
            case rpx1x3 =>
              go_simp
              go_at_call 10
              with_reducible refine (C2.out _ HBpx1.out).mono ?_
              rintro e v3 ⟨⟨ua, un, uc, he, ht⟩, hb⟩
              subst he
              have HTrpx1x3 := Lib.hid (show ∀ V : World, v3.heap.size ≤ V.heap.size → (∀ b, v1.heap.size ≤ b → b < v3.heap.size → V.heap[b]? = v3.heap[b]?) → Turns V V.heap.size ua un (trimT (ps.map asU)) from fun V h1 h2 => ht V h1 (fun b h3 h4 => h2 b (h3) h4))
              have hspx1x3 : v1.heap.size ≤ v3.heap.size := by have := hb.size; exact this
              have HBpx1x3 := Lib.hid (below_on HBpx1.out hb)
              have HBTpx1x3 := Lib.hid (below_on HBTpx1.out hb)
              have HBUpx1x3 := Lib.hid (Below.refl v3.heap.size v3)
              clear ht hb
              refine hK.out _ _ (HK.out _ HBpx1x3.out) (fun hHeld => ?_)
              clear hK K
              try simp only [Act.put, List.setIfInBounds_toArray, List.set_cons_zero, List.set_cons_succ]
              refine wpAnyH_ready (rs := [4, 5]) (by kernel_rfl) (by simp) ?_
              refine AllReadyH.cons (i := 4) (o := _) rfl (fun K hK => ?rpx1x3x4) (AllReadyH.cons (i := 5) (o := _) rfl (fun K hK => ?rpx1x3x5) AllReadyH.nil)
              case rpx1x3x4 =>
                go_simp
                obtain ⟨a4, ha4⟩ : ∃ a4, a4 = v3.alloc (.cells #[.string ⟨#[]⟩, .slice none 0 0, .slice none 0 0] 27) := ⟨_, rfl⟩
                rw [← ha4]
                have hb : Below v3.heap.size v3 a4 := by rw [ha4]; exact tu1 _ _
                have hspx1x3x4 : a4.heap.size ≤ v3.heap.size + 1 ∧ v3.heap.size + 1 ≤ a4.heap.size := by rw [ha4]; simp
                have HBpx1x3x4 := Lib.hid (below_on HBpx1x3.out hb)
                have HBTpx1x3x4 := Lib.hid (below_on HBTpx1x3.out hb)
                have HBUpx1x3x4 := Lib.hid (below_on HBUpx1x3.out hb)
                have HXpx1x3x4 := Lib.hid (show PBox a4 v3.heap.size ⟨#[]⟩ none 0 0 none 0 0 by rw [ha4]; exact PBox.new v3 ⟨#[]⟩ none 0 0 none 0 0)
                have hgX : w21.heap.size ≤ v3.heap.size := HBpx1x3.out.size
                clear hb ha4
                refine hK.out _ _ (HK.out _ HBpx1x3x4.out) (fun hHeld => ?_)
                clear hK K
                try simp only [Act.put, List.setIfInBounds_toArray, List.set_cons_zero, List.set_cons_succ]
                refine wpAnyH_ready (rs := [5]) (by kernel_rfl) (by simp) ?_
                refine AllReadyH.cons (i := 5) (o := _) rfl (fun K hK => ?rpx1x3x4x5) AllReadyH.nil
                case rpx1x3x4x5 =>
                  go_simp
                  obtain ⟨a5, ha5⟩ : ∃ a5, a5 = a4.alloc (.cells #[.string ⟨#[]⟩, .slice none 0 0] 32) := ⟨_, rfl⟩
                  rw [← ha5]
                  have hb : Below a4.heap.size a4 a5 := by rw [ha5]; exact tu1 _ _
                  have hspx1x3x4x5 : a5.heap.size ≤ a4.heap.size + 1 ∧ a4.heap.size + 1 ≤ a5.heap.size := by rw [ha5]; simp
                  have HBpx1x3x4x5 := Lib.hid (below_on HBpx1x3x4.out hb)
                  have HBTpx1x3x4x5 := Lib.hid (below_on HBTpx1x3x4.out hb)
                  have HBUpx1x3x4x5 := Lib.hid (below_on HBUpx1x3x4.out hb)
                  have HXpx1x3x4x5 := Lib.hid (HXpx1x3x4.out.on hb)
                  have HYpx1x3x4x5 := Lib.hid (show LBox a5 a4.heap.size ⟨#[]⟩ none 0 0 by rw [ha5]; exact LBox.new a4 ⟨#[]⟩ none 0 0)
                  have hgY : w21.heap.size ≤ a4.heap.size := HBpx1x3x4.out.size
                  clear hb ha5
                  refine hK.out _ _ (HK.out _ HBpx1x3x4x5.out) (fun hHeld => ?_)
                  clear hK K
                  try simp only [Act.put, List.setIfInBounds_toArray, List.set_cons_zero, List.set_cons_succ]
                  have hne1 : ¬ (v3.heap.size = a4.heap.size) := by omega
                  have hne2 : ¬ (a4.heap.size = v3.heap.size) := by omega
                  obtain ⟨_, _⟩ := HYpx1x3x4x5.out.cells
                  have tf0 := HYpx1x3x4x5.out.thaw 0
                  have tf1 := HYpx1x3x4x5.out.thaw 1
                  obtain ⟨_, _, _⟩ := HXpx1x3x4x5.out.cells
                  have vf0 := HXpx1x3x4x5.out.thaw 0
                  have vf1 := HXpx1x3x4x5.out.thaw 1
                  have vf2 := HXpx1x3x4x5.out.thaw 2
                  refine wpAnyH_ready (rs := [6]) (by kernel_rfl) (by simp) ?_
                  refine AllReadyH.cons (i := 6) (o := _) rfl (fun K hK => ?_) AllReadyH.nil
                  go_simp
                  have hbs := (((Beside.refl (v3.heap.size) a5).setCell 0 (.string ⟨#[112]⟩)).setCell 1 (.slice xa xn xc)).setCell 2 (.slice ta tn tc)
                  have HBs := Lib.hid (HBpx1x3x4x5.out.trans (hbs.below hgX HBpx1x3x4x5.out.size))
                  refine hK.out _ _ (HK.out _ HBs.out) (fun hHeld => ?_)
                  clear hK K
                  try simp only [Act.put, List.setIfInBounds_toArray]
                  have HYs := Lib.hid (HYpx1x3x4x5.out.beside hbs (by omega))
                  obtain ⟨_, _⟩ := HYs.out.cells
                  have uf0 := HYs.out.thaw 0
                  have uf1 := HYs.out.thaw 1
                  have HXs := Lib.hid (PBox.fill (nm' := ⟨#[112]⟩) (ra' := xa) (rn' := xn) (rc' := xc) (a' := ta) (n' := tn) (c' := tc) HXpx1x3x4x5.out)
                  have hbt := ((Beside.refl (a4.heap.size) (((a5.setCell ⟨v3.heap.size, 0, none⟩ (.string ⟨#[112]⟩)).setCell ⟨v3.heap.size, 1, none⟩ (.slice xa xn xc)).setCell ⟨v3.heap.size, 2, none⟩ (.slice ta tn tc))).setCell 0 (.string ⟨#[112]⟩)).setCell 1 (.slice ua un uc)
                  have HBt := Lib.hid (HBs.out.trans (hbt.below hgY HBs.out.size))
                  have HFT := Lib.hid (HTrpx1.out _ (Nat.le_trans (HBTpx1x3x4x5.out).size (Nat.le_trans hbs.size hbt.size)) (fun b h1 h2 => ((hbt.block b (Nat.lt_of_lt_of_le (Nat.lt_of_lt_of_le h2 (HBTpx1x3x4x5.out).size) hbs.size) (by omega)).trans (hbs.block b (Nat.lt_of_lt_of_le h2 (HBTpx1x3x4x5.out).size) (by omega))).trans ((HBTpx1x3x4x5.out).block b h2)))
                  have HFU := Lib.hid (HTrpx1x3.out _ (Nat.le_trans (HBUpx1x3x4x5.out).size (Nat.le_trans hbs.size hbt.size)) (fun b h1 h2 => ((hbt.block b (Nat.lt_of_lt_of_le (Nat.lt_of_lt_of_le h2 (HBUpx1x3x4x5.out).size) hbs.size) (by omega)).trans (hbs.block b (Nat.lt_of_lt_of_le h2 (HBUpx1x3x4x5.out).size) (by omega))).trans ((HBUpx1x3x4x5.out).block b h2)))
                  have HX9 := Lib.hid (HXs.out.beside hbt (by omega))
                  have HY9 := Lib.hid (LBox.fill8 (nm' := ⟨#[112]⟩) (a' := ua) (n' := un) (c' := uc) HYs.out)
                  clear hbs hbt vf0 vf1 vf2
                  refine wpAnyH_done (by kernel_rfl) ?_ _
                  unfold LastPost
                  go_simp
                  go_wp2_with fail
                  go_meet
                  exact ⟨_, _, xa, xn, xc, ta, tn, tc, ua, un, uc, rfl, rfl, HX9, HY9, HFT, HFU, Lib.hid (HG21.out.on HBt.out), Lib.hid (HL21.out.on HBt.out), Lib.hid (HT21.out.on HBt.out)⟩
              case rpx1x3x5 =>
                go_simp
                obtain ⟨a5, ha5⟩ : ∃ a5, a5 = v3.alloc (.cells #[.string ⟨#[]⟩, .slice none 0 0] 32) := ⟨_, rfl⟩
                rw [← ha5]
                have hb : Below v3.heap.size v3 a5 := by rw [ha5]; exact tu1 _ _
                have hspx1x3x5 : a5.heap.size ≤ v3.heap.size + 1 ∧ v3.heap.size + 1 ≤ a5.heap.size := by rw [ha5]; simp
                have HBpx1x3x5 := Lib.hid (below_on HBpx1x3.out hb)
                have HBTpx1x3x5 := Lib.hid (below_on HBTpx1x3.out hb)
                have HBUpx1x3x5 := Lib.hid (below_on HBUpx1x3.out hb)
                have HYpx1x3x5 := Lib.hid (show LBox a5 v3.heap.size ⟨#[]⟩ none 0 0 by rw [ha5]; exact LBox.new v3 ⟨#[]⟩ none 0 0)
                have hgY : w21.heap.size ≤ v3.heap.size := HBpx1x3.out.size
                clear hb ha5
                refine hK.out _ _ (HK.out _ HBpx1x3x5.out) (fun hHeld => ?_)
                clear hK K
                try simp only [Act.put, List.setIfInBounds_toArray, List.set_cons_zero, List.set_cons_succ]
                refine wpAnyH_ready (rs := [4]) (by kernel_rfl) (by simp) ?_
                refine AllReadyH.cons (i := 4) (o := _) rfl (fun K hK => ?rpx1x3x5x4) AllReadyH.nil
                case rpx1x3x5x4 =>
                  go_simp
                  obtain ⟨a4, ha4⟩ : ∃ a4, a4 = a5.alloc (.cells #[.string ⟨#[]⟩, .slice none 0 0, .slice none 0 0] 27) := ⟨_, rfl⟩
                  rw [← ha4]
                  have hb : Below a5.heap.size a5 a4 := by rw [ha4]; exact tu1 _ _
                  have hspx1x3x5x4 : a4.heap.size ≤ a5.heap.size + 1 ∧ a5.heap.size + 1 ≤ a4.heap.size := by rw [ha4]; simp
                  have HBpx1x3x5x4 := Lib.hid (below_on HBpx1x3x5.out hb)
                  have HBTpx1x3x5x4 := Lib.hid (below_on HBTpx1x3x5.out hb)
                  have HBUpx1x3x5x4 := Lib.hid (below_on HBUpx1x3x5.out hb)
                  have HYpx1x3x5x4 := Lib.hid (HYpx1x3x5.out.on hb)
                  have HXpx1x3x5x4 := Lib.hid (show PBox a4 a5.heap.size ⟨#[]⟩ none 0 0 none 0 0 by rw [ha4]; exact PBox.new a5 ⟨#[]⟩ none 0 0 none 0 0)
                  have hgX : w21.heap.size ≤ a5.heap.size := HBpx1x3x5.out.size
                  clear hb ha4
                  refine hK.out _ _ (HK.out _ HBpx1x3x5x4.out) (fun hHeld => ?_)
                  clear hK K
                  try simp only [Act.put, List.setIfInBounds_toArray, List.set_cons_zero, List.set_cons_succ]
                  have hne1 : ¬ (a5.heap.size = v3.heap.size) := by omega
                  have hne2 : ¬ (v3.heap.size = a5.heap.size) := by omega
                  obtain ⟨_, _⟩ := HYpx1x3x5x4.out.cells
                  have tf0 := HYpx1x3x5x4.out.thaw 0
                  have tf1 := HYpx1x3x5x4.out.thaw 1
                  obtain ⟨_, _, _⟩ := HXpx1x3x5x4.out.cells
                  have vf0 := HXpx1x3x5x4.out.thaw 0
                  have vf1 := HXpx1x3x5x4.out.thaw 1
                  have vf2 := HXpx1x3x5x4.out.thaw 2
                  refine wpAnyH_ready (rs := [6]) (by kernel_rfl) (by simp) ?_
                  refine AllReadyH.cons (i := 6) (o := _) rfl (fun K hK => ?_) AllReadyH.nil
                  go_simp
                  have hbs := (((Beside.refl (a5.heap.size) a4).setCell 0 (.string ⟨#[112]⟩)).setCell 1 (.slice xa xn xc)).setCell 2 (.slice ta tn tc)
                  have HBs := Lib.hid (HBpx1x3x5x4.out.trans (hbs.below hgX HBpx1x3x5x4.out.size))
                  refine hK.out _ _ (HK.out _ HBs.out) (fun hHeld => ?_)
                  clear hK K
                  try simp only [Act.put, List.setIfInBounds_toArray]
                  have HYs := Lib.hid (HYpx1x3x5x4.out.beside hbs (by omega))
                  obtain ⟨_, _⟩ := HYs.out.cells
                  have uf0 := HYs.out.thaw 0
                  have uf1 := HYs.out.thaw 1
                  have HXs := Lib.hid (PBox.fill (nm' := ⟨#[112]⟩) (ra' := xa) (rn' := xn) (rc' := xc) (a' := ta) (n' := tn) (c' := tc) HXpx1x3x5x4.out)
                  have hbt := ((Beside.refl (v3.heap.size) (((a4.setCell ⟨a5.heap.size, 0, none⟩ (.string ⟨#[112]⟩)).setCell ⟨a5.heap.size, 1, none⟩ (.slice xa xn xc)).setCell ⟨a5.heap.size, 2, none⟩ (.slice ta tn tc))).setCell 0 (.string ⟨#[112]⟩)).setCell 1 (.slice ua un uc)
                  have HBt := Lib.hid (HBs.out.trans (hbt.below hgY HBs.out.size))
                  have HFT := Lib.hid (HTrpx1.out _ (Nat.le_trans (HBTpx1x3x5x4.out).size (Nat.le_trans hbs.size hbt.size)) (fun b h1 h2 => ((hbt.block b (Nat.lt_of_lt_of_le (Nat.lt_of_lt_of_le h2 (HBTpx1x3x5x4.out).size) hbs.size) (by omega)).trans (hbs.block b (Nat.lt_of_lt_of_le h2 (HBTpx1x3x5x4.out).size) (by omega))).trans ((HBTpx1x3x5x4.out).block b h2)))
                  have HFU := Lib.hid (HTrpx1x3.out _ (Nat.le_trans (HBUpx1x3x5x4.out).size (Nat.le_trans hbs.size hbt.size)) (fun b h1 h2 => ((hbt.block b (Nat.lt_of_lt_of_le (Nat.lt_of_lt_of_le h2 (HBUpx1x3x5x4.out).size) hbs.size) (by omega)).trans (hbs.block b (Nat.lt_of_lt_of_le h2 (HBUpx1x3x5x4.out).size) (by omega))).trans ((HBUpx1x3x5x4.out).block b h2)))
                  have HX9 := Lib.hid (HXs.out.beside hbt (by omega))
                  have HY9 := Lib.hid (LBox.fill8 (nm' := ⟨#[112]⟩) (a' := ua) (n' := un) (c' := uc) HYs.out)
                  clear hbs hbt vf0 vf1 vf2
                  refine wpAnyH_done (by kernel_rfl) ?_ _
                  unfold LastPost
                  go_simp
                  go_wp2_with fail
                  go_meet
                  exact ⟨_, _, xa, xn, xc, ta, tn, tc, ua, un, uc, rfl, rfl, HX9, HY9, HFT, HFU, Lib.hid (HG21.out.on HBt.out), Lib.hid (HL21.out.on HBt.out), Lib.hid (HT21.out.on HBt.out)⟩
            case rpx1x4 =>
              go_simp
              obtain ⟨a4, ha4⟩ : ∃ a4, a4 = v1.alloc (.cells #[.string ⟨#[]⟩, .slice none 0 0, .slice none 0 0] 27) := ⟨_, rfl⟩
              rw [← ha4]
              have hb : Below v1.heap.size v1 a4 := by rw [ha4]; exact tu1 _ _
              have hspx1x4 : a4.heap.size ≤ v1.heap.size + 1 ∧ v1.heap.size + 1 ≤ a4.heap.size := by rw [ha4]; simp
              have HBpx1x4 := Lib.hid (below_on HBpx1.out hb)
              have HBTpx1x4 := Lib.hid (below_on HBTpx1.out hb)
              have HXpx1x4 := Lib.hid (show PBox a4 v1.heap.size ⟨#[]⟩ none 0 0 none 0 0 by rw [ha4]; exact PBox.new v1 ⟨#[]⟩ none 0 0 none 0 0)
              have hgX : w21.heap.size ≤ v1.heap.size := HBpx1.out.size
              clear hb ha4
              refine hK.out _ _ (HK.out _ HBpx1x4.out) (fun hHeld => ?_)
              clear hK K
              try simp only [Act.put, List.setIfInBounds_toArray, List.set_cons_zero, List.set_cons_succ]
              refine wpAnyH_ready (rs := [3, 5]) (by kernel_rfl) (by simp) ?_
              refine AllReadyH.cons (i := 3) (o := _) rfl (fun K hK => ?rpx1x4x3) (AllReadyH.cons (i := 5) (o := _) rfl (fun K hK => ?rpx1x4x5) AllReadyH.nil)
              case rpx1x4x3 =>
                go_simp
                go_at_call 10
                with_reducible refine (C2.out _ HBpx1x4.out).mono ?_
                rintro e v3 ⟨⟨ua, un, uc, he, ht⟩, hb⟩
                subst he
                have HTrpx1x4x3 := Lib.hid (show ∀ V : World, v3.heap.size ≤ V.heap.size → (∀ b, a4.heap.size ≤ b → b < v3.heap.size → V.heap[b]? = v3.heap[b]?) → Turns V V.heap.size ua un (trimT (ps.map asU)) from fun V h1 h2 => ht V h1 (fun b h3 h4 => h2 b (h3) h4))
                have hspx1x4x3 : a4.heap.size ≤ v3.heap.size := by have := hb.size; exact this
                have HBpx1x4x3 := Lib.hid (below_on HBpx1x4.out hb)
                have HBTpx1x4x3 := Lib.hid (below_on HBTpx1x4.out hb)
                have HXpx1x4x3 := Lib.hid (HXpx1x4.out.on hb)
                have HBUpx1x4x3 := Lib.hid (Below.refl v3.heap.size v3)
                clear ht hb
                refine hK.out _ _ (HK.out _ HBpx1x4x3.out) (fun hHeld => ?_)
                clear hK K
                try simp only [Act.put, List.setIfInBounds_toArray, List.set_cons_zero, List.set_cons_succ]
                refine wpAnyH_ready (rs := [5]) (by kernel_rfl) (by simp) ?_
                refine AllReadyH.cons (i := 5) (o := _) rfl (fun K hK => ?rpx1x4x3x5) AllReadyH.nil
                case rpx1x4x3x5 =>
                  go_simp
                  obtain ⟨a5, ha5⟩ : ∃ a5, a5 = v3.alloc (.cells #[.string ⟨#[]⟩, .slice none 0 0] 32) := ⟨_, rfl⟩
                  rw [← ha5]
                  have hb : Below v3.heap.size v3 a5 := by rw [ha5]; exact tu1 _ _
                  have hspx1x4x3x5 : a5.heap.size ≤ v3.heap.size + 1 ∧ v3.heap.size + 1 ≤ a5.heap.size := by rw [ha5]; simp
                  have HBpx1x4x3x5 := Lib.hid (below_on HBpx1x4x3.out hb)
                  have HBTpx1x4x3x5 := Lib.hid (below_on HBTpx1x4x3.out hb)
                  have HXpx1x4x3x5 := Lib.hid (HXpx1x4x3.out.on hb)
                  have HBUpx1x4x3x5 := Lib.hid (below_on HBUpx1x4x3.out hb)
                  have HYpx1x4x3x5 := Lib.hid (show LBox a5 v3.heap.size ⟨#[]⟩ none 0 0 by rw [ha5]; exact LBox.new v3 ⟨#[]⟩ none 0 0)
                  have hgY : w21.heap.size ≤ v3.heap.size := HBpx1x4x3.out.size
                  clear hb ha5
                  refine hK.out _ _ (HK.out _ HBpx1x4x3x5.out) (fun hHeld => ?_)
                  clear hK K
                  try simp only [Act.put, List.setIfInBounds_toArray, List.set_cons_zero, List.set_cons_succ]
                  have hne1 : ¬ (v1.heap.size = v3.heap.size) := by omega
                  have hne2 : ¬ (v3.heap.size = v1.heap.size) := by omega
                  obtain ⟨_, _⟩ := HYpx1x4x3x5.out.cells
                  have tf0 := HYpx1x4x3x5.out.thaw 0
                  have tf1 := HYpx1x4x3x5.out.thaw 1
                  obtain ⟨_, _, _⟩ := HXpx1x4x3x5.out.cells
                  have vf0 := HXpx1x4x3x5.out.thaw 0
                  have vf1 := HXpx1x4x3x5.out.thaw 1
                  have vf2 := HXpx1x4x3x5.out.thaw 2
                  refine wpAnyH_ready (rs := [6]) (by kernel_rfl) (by simp) ?_
                  refine AllReadyH.cons (i := 6) (o := _) rfl (fun K hK => ?_) AllReadyH.nil
                  go_simp
                  have hbs := (((Beside.refl (v1.heap.size) a5).setCell 0 (.string ⟨#[112]⟩)).setCell 1 (.slice xa xn xc)).setCell 2 (.slice ta tn tc)
                  have HBs := Lib.hid (HBpx1x4x3x5.out.trans (hbs.below hgX HBpx1x4x3x5.out.size))
                  refine hK.out _ _ (HK.out _ HBs.out) (fun hHeld => ?_)
                  clear hK K
                  try simp only [Act.put, List.setIfInBounds_toArray]
                  have HYs := Lib.hid (HYpx1x4x3x5.out.beside hbs (by omega))
                  obtain ⟨_, _⟩ := HYs.out.cells
                  have uf0 := HYs.out.thaw 0
                  have uf1 := HYs.out.thaw 1
                  have HXs := Lib.hid (PBox.fill (nm' := ⟨#[112]⟩) (ra' := xa) (rn' := xn) (rc' := xc) (a' := ta) (n' := tn) (c' := tc) HXpx1x4x3x5.out)
                  have hbt := ((Beside.refl (v3.heap.size) (((a5.setCell ⟨v1.heap.size, 0, none⟩ (.string ⟨#[112]⟩)).setCell ⟨v1.heap.size, 1, none⟩ (.slice xa xn xc)).setCell ⟨v1.heap.size, 2, none⟩ (.slice ta tn tc))).setCell 0 (.string ⟨#[112]⟩)).setCell 1 (.slice ua un uc)
                  have HBt := Lib.hid (HBs.out.trans (hbt.below hgY HBs.out.size))
                  have HFT := Lib.hid (HTrpx1.out _ (Nat.le_trans (HBTpx1x4x3x5.out).size (Nat.le_trans hbs.size hbt.size)) (fun b h1 h2 => ((hbt.block b (Nat.lt_of_lt_of_le (Nat.lt_of_lt_of_le h2 (HBTpx1x4x3x5.out).size) hbs.size) (by omega)).trans (hbs.block b (Nat.lt_of_lt_of_le h2 (HBTpx1x4x3x5.out).size) (by omega))).trans ((HBTpx1x4x3x5.out).block b h2)))
                  have HFU := Lib.hid (HTrpx1x4x3.out _ (Nat.le_trans (HBUpx1x4x3x5.out).size (Nat.le_trans hbs.size hbt.size)) (fun b h1 h2 => ((hbt.block b (Nat.lt_of_lt_of_le (Nat.lt_of_lt_of_le h2 (HBUpx1x4x3x5.out).size) hbs.size) (by omega)).trans (hbs.block b (Nat.lt_of_lt_of_le h2 (HBUpx1x4x3x5.out).size) (by omega))).trans ((HBUpx1x4x3x5.out).block b h2)))
                  have HX9 := Lib.hid (HXs.out.beside hbt (by omega))
                  have HY9 := Lib.hid (LBox.fill8 (nm' := ⟨#[112]⟩) (a' := ua) (n' := un) (c' := uc) HYs.out)
                  clear hbs hbt vf0 vf1 vf2
                  refine wpAnyH_done (by kernel_rfl) ?_ _
                  unfold LastPost
                  go_simp
                  go_wp2_with fail
                  go_meet
                  exact ⟨_, _, xa, xn, xc, ta, tn, tc, ua, un, uc, rfl, rfl, HX9, HY9, HFT, HFU, Lib.hid (HG21.out.on HBt.out), Lib.hid (HL21.out.on HBt.out), Lib.hid (HT21.out.on HBt.out)⟩
              case rpx1x4x5 =>
                go_simp
                obtain ⟨a5, ha5⟩ : ∃ a5, a5 = a4.alloc (.cells #[.string ⟨#[]⟩, .slice none 0 0] 32) := ⟨_, rfl⟩
                rw [← ha5]
                have hb : Below a4.heap.size a4 a5 := by rw [ha5]; exact tu1 _ _
                have hspx1x4x5 : a5.heap.size ≤ a4.heap.size + 1 ∧ a4.heap.size + 1 ≤ a5.heap.size := by rw [ha5]; simp
                have HBpx1x4x5 := Lib.hid (below_on HBpx1x4.out hb)
                have HBTpx1x4x5 := Lib.hid (below_on HBTpx1x4.out hb)
                have HXpx1x4x5 := Lib.hid (HXpx1x4.out.on hb)
                have HYpx1x4x5 := Lib.hid (show LBox a5 a4.heap.size ⟨#[]⟩ none 0 0 by rw [ha5]; exact LBox.new a4 ⟨#[]⟩ none 0 0)
                have hgY : w21.heap.size ≤ a4.heap.size := HBpx1x4.out.size
                clear hb ha5
                refine hK.out _ _ (HK.out _ HBpx1x4x5.out) (fun hHeld => ?_)
                clear hK K
                try simp only [Act.put, List.setIfInBounds_toArray, List.set_cons_zero, List.set_cons_succ]
                refine wpAnyH_ready (rs := [3]) (by kernel_rfl) (by simp) ?_
                refine AllReadyH.cons (i := 3) (o := _) rfl (fun K hK => ?rpx1x4x5x3) AllReadyH.nil
                case rpx1x4x5x3 =>
                  go_simp
                  go_at_call 10
                  with_reducible refine (C2.out _ HBpx1x4x5.out).mono ?_
                  rintro e v3 ⟨⟨ua, un, uc, he, ht⟩, hb⟩
                  subst he
                  have HTrpx1x4x5x3 := Lib.hid (show ∀ V : World, v3.heap.size ≤ V.heap.size → (∀ b, a5.heap.size ≤ b → b < v3.heap.size → V.heap[b]? = v3.heap[b]?) → Turns V V.heap.size ua un (trimT (ps.map asU)) from fun V h1 h2 => ht V h1 (fun b h3 h4 => h2 b (h3) h4))
                  have hspx1x4x5x3 : a5.heap.size ≤ v3.heap.size := by have := hb.size; exact this
                  have HBpx1x4x5x3 := Lib.hid (below_on HBpx1x4x5.out hb)
                  have HBTpx1x4x5x3 := Lib.hid (below_on HBTpx1x4x5.out hb)
                  have HXpx1x4x5x3 := Lib.hid (HXpx1x4x5.out.on hb)
                  have HYpx1x4x5x3 := Lib.hid (HYpx1x4x5.out.on hb)
                  have HBUpx1x4x5x3 := Lib.hid (Below.refl v3.heap.size v3)
                  clear ht hb
                  refine hK.out _ _ (HK.out _ HBpx1x4x5x3.out) (fun hHeld => ?_)
                  clear hK K
                  try simp only [Act.put, List.setIfInBounds_toArray, List.set_cons_zero, List.set_cons_succ]
                  have hne1 : ¬ (v1.heap.size = a4.heap.size) := by omega
                  have hne2 : ¬ (a4.heap.size = v1.heap.size) := by omega
                  obtain ⟨_, _⟩ := HYpx1x4x5x3.out.cells
                  have tf0 := HYpx1x4x5x3.out.thaw 0
                  have tf1 := HYpx1x4x5x3.out.thaw 1
                  obtain ⟨_, _, _⟩ := HXpx1x4x5x3.out.cells
                  have vf0 := HXpx1x4x5x3.out.thaw 0
                  have vf1 := HXpx1x4x5x3.out.thaw 1
                  have vf2 := HXpx1x4x5x3.out.thaw 2
                  refine wpAnyH_ready (rs := [6]) (by kernel_rfl) (by simp) ?_
                  refine AllReadyH.cons (i := 6) (o := _) rfl (fun K hK => ?_) AllReadyH.nil
                  go_simp
                  have hbs := (((Beside.refl (v1.heap.size) v3).setCell 0 (.string ⟨#[112]⟩)).setCell 1 (.slice xa xn xc)).setCell 2 (.slice ta tn tc)
                  have HBs := Lib.hid (HBpx1x4x5x3.out.trans (hbs.below hgX HBpx1x4x5x3.out.size))
                  refine hK.out _ _ (HK.out _ HBs.out) (fun hHeld => ?_)
                  clear hK K
                  try simp only [Act.put, List.setIfInBounds_toArray]
                  have HYs := Lib.hid (HYpx1x4x5x3.out.beside hbs (by omega))
                  obtain ⟨_, _⟩ := HYs.out.cells
                  have uf0 := HYs.out.thaw 0
                  have uf1 := HYs.out.thaw 1
                  have HXs := Lib.hid (PBox.fill (nm' := ⟨#[112]⟩) (ra' := xa) (rn' := xn) (rc' := xc) (a' := ta) (n' := tn) (c' := tc) HXpx1x4x5x3.out)
                  have hbt := ((Beside.refl (a4.heap.size) (((v3.setCell ⟨v1.heap.size, 0, none⟩ (.string ⟨#[112]⟩)).setCell ⟨v1.heap.size, 1, none⟩ (.slice xa xn xc)).setCell ⟨v1.heap.size, 2, none⟩ (.slice ta tn tc))).setCell 0 (.string ⟨#[112]⟩)).setCell 1 (.slice ua un uc)
                  have HBt := Lib.hid (HBs.out.trans (hbt.below hgY HBs.out.size))
                  have HFT := Lib.hid (HTrpx1.out _ (Nat.le_trans (HBTpx1x4x5x3.out).size (Nat.le_trans hbs.size hbt.size)) (fun b h1 h2 => ((hbt.block b (Nat.lt_of_lt_of_le (Nat.lt_of_lt_of_le h2 (HBTpx1x4x5x3.out).size) hbs.size) (by omega)).trans (hbs.block b (Nat.lt_of_lt_of_le h2 (HBTpx1x4x5x3.out).size) (by omega))).trans ((HBTpx1x4x5x3.out).block b h2)))
                  have HFU := Lib.hid (HTrpx1x4x5x3.out _ (Nat.le_trans (HBUpx1x4x5x3.out).size (Nat.le_trans hbs.size hbt.size)) (fun b h1 h2 => ((hbt.block b (Nat.lt_of_lt_of_le (Nat.lt_of_lt_of_le h2 (HBUpx1x4x5x3.out).size) hbs.size) (by omega)).trans (hbs.block b (Nat.lt_of_lt_of_le h2 (HBUpx1x4x5x3.out).size) (by omega))).trans ((HBUpx1x4x5x3.out).block b h2)))
                  have HX9 := Lib.hid (HXs.out.beside hbt (by omega))
                  have HY9 := Lib.hid (LBox.fill8 (nm' := ⟨#[112]⟩) (a' := ua) (n' := un) (c' := uc) HYs.out)
                  clear hbs hbt vf0 vf1 vf2
                  refine wpAnyH_done (by kernel_rfl) ?_ _
                  unfold LastPost
                  go_simp
                  go_wp2_with fail
                  go_meet
                  exact ⟨_, _, xa, xn, xc, ta, tn, tc, ua, un, uc, rfl, rfl, HX9, HY9, HFT, HFU, Lib.hid (HG21.out.on HBt.out), Lib.hid (HL21.out.on HBt.out), Lib.hid (HT21.out.on HBt.out)⟩
            case rpx1x5 =>
              go_simp
              obtain ⟨a5, ha5⟩ : ∃ a5, a5 = v1.alloc (.cells #[.string ⟨#[]⟩, .slice none 0 0] 32) := ⟨_, rfl⟩
              rw [← ha5]
              have hb : Below v1.heap.size v1 a5 := by rw [ha5]; exact tu1 _ _
              have hspx1x5 : a5.heap.size ≤ v1.heap.size + 1 ∧ v1.heap.size + 1 ≤ a5.heap.size := by rw [ha5]; simp
              have HBpx1x5 := Lib.hid (below_on HBpx1.out hb)
              have HBTpx1x5 := Lib.hid (below_on HBTpx1.out hb)
              have HYpx1x5 := Lib.hid (show LBox a5 v1.heap.size ⟨#[]⟩ none 0 0 by rw [ha5]; exact LBox.new v1 ⟨#[]⟩ none 0 0)
              have hgY : w21.heap.size ≤ v1.heap.size := HBpx1.out.size
              clear hb ha5
              refine hK.out _ _ (HK.out _ HBpx1x5.out) (fun hHeld => ?_)
              clear hK K
              try simp only [Act.put, List.setIfInBounds_toArray, List.set_cons_zero, List.set_cons_succ]
              refine wpAnyH_ready (rs := [3, 4]) (by kernel_rfl) (by simp) ?_
              refine AllReadyH.cons (i := 3) (o := _) rfl (fun K hK => ?rpx1x5x3) (AllReadyH.cons (i := 4) (o := _) rfl (fun K hK => ?rpx1x5x4) AllReadyH.nil)
              case rpx1x5x3 =>
                go_simp
                go_at_call 10
                with_reducible refine (C2.out _ HBpx1x5.out).mono ?_
                rintro e v3 ⟨⟨ua, un, uc, he, ht⟩, hb⟩
                subst he
                have HTrpx1x5x3 := Lib.hid (show ∀ V : World, v3.heap.size ≤ V.heap.size → (∀ b, a5.heap.size ≤ b → b < v3.heap.size → V.heap[b]? = v3.heap[b]?) → Turns V V.heap.size ua un (trimT (ps.map asU)) from fun V h1 h2 => ht V h1 (fun b h3 h4 => h2 b (h3) h4))
                have hspx1x5x3 : a5.heap.size ≤ v3.heap.size := by have := hb.size; exact this
                have HBpx1x5x3 := Lib.hid (below_on HBpx1x5.out hb)
                have HBTpx1x5x3 := Lib.hid (below_on HBTpx1x5.out hb)
                have HYpx1x5x3 := Lib.hid (HYpx1x5.out.on hb)
                have HBUpx1x5x3 := Lib.hid (Below.refl v3.heap.size v3)
                clear ht hb
                refine hK.out _ _ (HK.out _ HBpx1x5x3.out) (fun hHeld => ?_)
                clear hK K
                try simp only [Act.put, List.setIfInBounds_toArray, List.set_cons_zero, List.set_cons_succ]
                refine wpAnyH_ready (rs := [4]) (by kernel_rfl) (by simp) ?_
                refine AllReadyH.cons (i := 4) (o := _) rfl (fun K hK => ?rpx1x5x3x4) AllReadyH.nil
                case rpx1x5x3x4 =>
                  go_simp
                  obtain ⟨a4, ha4⟩ : ∃ a4, a4 = v3.alloc (.cells #[.string ⟨#[]⟩, .slice none 0 0, .slice none 0 0] 27) := ⟨_, rfl⟩
                  rw [← ha4]
                  have hb : Below v3.heap.size v3 a4 := by rw [ha4]; exact tu1 _ _
                  have hspx1x5x3x4 : a4.heap.size ≤ v3.heap.size + 1 ∧ v3.heap.size + 1 ≤ a4.heap.size := by rw [ha4]; simp
                  have HBpx1x5x3x4 := Lib.hid (below_on HBpx1x5x3.out hb)
                  have HBTpx1x5x3x4 := Lib.hid (below_on HBTpx1x5x3.out hb)
                  have HYpx1x5x3x4 := Lib.hid (HYpx1x5x3.out.on hb)
                  have HBUpx1x5x3x4 := Lib.hid (below_on HBUpx1x5x3.out hb)
                  have HXpx1x5x3x4 := Lib.hid (show PBox a4 v3.heap.size ⟨#[]⟩ none 0 0 none 0 0 by rw [ha4]; exact PBox.new v3 ⟨#[]⟩ none 0 0 none 0 0)
                  have hgX : w21.heap.size ≤ v3.heap.size := HBpx1x5x3.out.size
                  clear hb ha4
                  refine hK.out _ _ (HK.out _ HBpx1x5x3x4.out) (fun hHeld => ?_)
                  clear hK K
                  try simp only [Act.put, List.setIfInBounds_toArray, List.set_cons_zero, List.set_cons_succ]
                  have hne1 : ¬ (v3.heap.size = v1.heap.size) := by omega
                  have hne2 : ¬ (v1.heap.size = v3.heap.size) := by omega
                  obtain ⟨_, _⟩ := HYpx1x5x3x4.out.cells
                  have tf0 := HYpx1x5x3x4.out.thaw 0
                  have tf1 := HYpx1x5x3x4.out.thaw 1
                  obtain ⟨_, _, _⟩ := HXpx1x5x3x4.out.cells
                  have vf0 := HXpx1x5x3x4.out.thaw 0
                  have vf1 := HXpx1x5x3x4.out.thaw 1
                  have vf2 := HXpx1x5x3x4.out.thaw 2
                  refine wpAnyH_ready (rs := [6]) (by kernel_rfl) (by simp) ?_
                  refine AllReadyH.cons (i := 6) (o := _) rfl (fun K hK => ?_) AllReadyH.nil
                  go_simp
                  have hbs := (((Beside.refl (v3.heap.size) a4).setCell 0 (.string ⟨#[112]⟩)).setCell 1 (.slice xa xn xc)).setCell 2 (.slice ta tn tc)
                  have HBs := Lib.hid (HBpx1x5x3x4.out.trans (hbs.below hgX HBpx1x5x3x4.out.size))
                  refine hK.out _ _ (HK.out _ HBs.out) (fun hHeld => ?_)
                  clear hK K
                  try simp only [Act.put, List.setIfInBounds_toArray]
                  have HYs := Lib.hid (HYpx1x5x3x4.out.beside hbs (by omega))
                  obtain ⟨_, _⟩ := HYs.out.cells
                  have uf0 := HYs.out.thaw 0
                  have uf1 := HYs.out.thaw 1
                  have HXs := Lib.hid (PBox.fill (nm' := ⟨#[112]⟩) (ra' := xa) (rn' := xn) (rc' := xc) (a' := ta) (n' := tn) (c' := tc) HXpx1x5x3x4.out)
                  have hbt := ((Beside.refl (v1.heap.size) (((a4.setCell ⟨v3.heap.size, 0, none⟩ (.string ⟨#[112]⟩)).setCell ⟨v3.heap.size, 1, none⟩ (.slice xa xn xc)).setCell ⟨v3.heap.size, 2, none⟩ (.slice ta tn tc))).setCell 0 (.string ⟨#[112]⟩)).setCell 1 (.slice ua un uc)
                  have HBt := Lib.hid (HBs.out.trans (hbt.below hgY HBs.out.size))
                  have HFT := Lib.hid (HTrpx1.out _ (Nat.le_trans (HBTpx1x5x3x4.out).size (Nat.le_trans hbs.size hbt.size)) (fun b h1 h2 => ((hbt.block b (Nat.lt_of_lt_of_le (Nat.lt_of_lt_of_le h2 (HBTpx1x5x3x4.out).size) hbs.size) (by omega)).trans (hbs.block b (Nat.lt_of_lt_of_le h2 (HBTpx1x5x3x4.out).size) (by omega))).trans ((HBTpx1x5x3x4.out).block b h2)))
                  have HFU := Lib.hid (HTrpx1x5x3.out _ (Nat.le_trans (HBUpx1x5x3x4.out).size (Nat.le_trans hbs.size hbt.size)) (fun b h1 h2 => ((hbt.block b (Nat.lt_of_lt_of_le (Nat.lt_of_lt_of_le h2 (HBUpx1x5x3x4.out).size) hbs.size) (by omega)).trans (hbs.block b (Nat.lt_of_lt_of_le h2 (HBUpx1x5x3x4.out).size) (by omega))).trans ((HBUpx1x5x3x4.out).block b h2)))
                  have HX9 := Lib.hid (HXs.out.beside hbt (by omega))
                  have HY9 := Lib.hid (LBox.fill8 (nm' := ⟨#[112]⟩) (a' := ua) (n' := un) (c' := uc) HYs.out)
                  clear hbs hbt vf0 vf1 vf2
                  refine wpAnyH_done (by kernel_rfl) ?_ _
                  unfold LastPost
                  go_simp
                  go_wp2_with fail
                  go_meet
                  exact ⟨_, _, xa, xn, xc, ta, tn, tc, ua, un, uc, rfl, rfl, HX9, HY9, HFT, HFU, Lib.hid (HG21.out.on HBt.out), Lib.hid (HL21.out.on HBt.out), Lib.hid (HT21.out.on HBt.out)⟩
              case rpx1x5x4 =>
                go_simp
                obtain ⟨a4, ha4⟩ : ∃ a4, a4 = a5.alloc (.cells #[.string ⟨#[]⟩, .slice none 0 0, .slice none 0 0] 27) := ⟨_, rfl⟩
                rw [← ha4]
                have hb : Below a5.heap.size a5 a4 := by rw [ha4]; exact tu1 _ _
                have hspx1x5x4 : a4.heap.size ≤ a5.heap.size + 1 ∧ a5.heap.size + 1 ≤ a4.heap.size := by rw [ha4]; simp
                have HBpx1x5x4 := Lib.hid (below_on HBpx1x5.out hb)
                have HBTpx1x5x4 := Lib.hid (below_on HBTpx1x5.out hb)
                have HYpx1x5x4 := Lib.hid (HYpx1x5.out.on hb)
                have HXpx1x5x4 := Lib.hid (show PBox a4 a5.heap.size ⟨#[]⟩ none 0 0 none 0 0 by rw [ha4]; exact PBox.new a5 ⟨#[]⟩ none 0 0 none 0 0)
                have hgX : w21.heap.size ≤ a5.heap.size := HBpx1x5.out.size
                clear hb ha4
                refine hK.out _ _ (HK.out _ HBpx1x5x4.out) (fun hHeld => ?_)
                clear hK K
                try simp only [Act.put, List.setIfInBounds_toArray, List.set_cons_zero, List.set_cons_succ]
                refine wpAnyH_ready (rs := [3]) (by kernel_rfl) (by simp) ?_
                refine AllReadyH.cons (i := 3) (o := _) rfl (fun K hK => ?rpx1x5x4x3) AllReadyH.nil
                case rpx1x5x4x3 =>
                  go_simp
                  go_at_call 10
                  with_reducible refine (C2.out _ HBpx1x5x4.out).mono ?_
                  rintro e v3 ⟨⟨ua, un, uc, he, ht⟩, hb⟩
                  subst he
                  have HTrpx1x5x4x3 := Lib.hid (show ∀ V : World, v3.heap.size ≤ V.heap.size → (∀ b, a4.heap.size ≤ b → b < v3.heap.size → V.heap[b]? = v3.heap[b]?) → Turns V V.heap.size ua un (trimT (ps.map asU)) from fun V h1 h2 => ht V h1 (fun b h3 h4 => h2 b (h3) h4))
                  have hspx1x5x4x3 : a4.heap.size ≤ v3.heap.size := by have := hb.size; exact this
                  have HBpx1x5x4x3 := Lib.hid (below_on HBpx1x5x4.out hb)
                  have HBTpx1x5x4x3 := Lib.hid (below_on HBTpx1x5x4.out hb)
                  have HYpx1x5x4x3 := Lib.hid (HYpx1x5x4.out.on hb)
                  have HXpx1x5x4x3 := Lib.hid (HXpx1x5x4.out.on hb)
                  have HBUpx1x5x4x3 := Lib.hid (Below.refl v3.heap.size v3)
                  clear ht hb
                  refine hK.out _ _ (HK.out _ HBpx1x5x4x3.out) (fun hHeld => ?_)
                  clear hK K
                  try simp only [Act.put, List.setIfInBounds_toArray, List.set_cons_zero, List.set_cons_succ]
                  have hne1 : ¬ (a5.heap.size = v1.heap.size) := by omega
                  have hne2 : ¬ (v1.heap.size = a5.heap.size) := by omega
                  obtain ⟨_, _⟩ := HYpx1x5x4x3.out.cells
                  have tf0 := HYpx1x5x4x3.out.thaw 0
                  have tf1 := HYpx1x5x4x3.out.thaw 1
                  obtain ⟨_, _, _⟩ := HXpx1x5x4x3.out.cells
                  have vf0 := HXpx1x5x4x3.out.thaw 0
                  have vf1 := HXpx1x5x4x3.out.thaw 1
                  have vf2 := HXpx1x5x4x3.out.thaw 2
                  refine wpAnyH_ready (rs := [6]) (by kernel_rfl) (by simp) ?_
                  refine AllReadyH.cons (i := 6) (o := _) rfl (fun K hK => ?_) AllReadyH.nil
                  go_simp
                  have hbs := (((Beside.refl (a5.heap.size) v3).setCell 0 (.string ⟨#[112]⟩)).setCell 1 (.slice xa xn xc)).setCell 2 (.slice ta tn tc)
                  have HBs := Lib.hid (HBpx1x5x4x3.out.trans (hbs.below hgX HBpx1x5x4x3.out.size))
                  refine hK.out _ _ (HK.out _ HBs.out) (fun hHeld => ?_)
                  clear hK K
                  try simp only [Act.put, List.setIfInBounds_toArray]
                  have HYs := Lib.hid (HYpx1x5x4x3.out.beside hbs (by omega))
                  obtain ⟨_, _⟩ := HYs.out.cells
                  have uf0 := HYs.out.thaw 0
                  have uf1 := HYs.out.thaw 1
                  have HXs := Lib.hid (PBox.fill (nm' := ⟨#[112]⟩) (ra' := xa) (rn' := xn) (rc' := xc) (a' := ta) (n' := tn) (c' := tc) HXpx1x5x4x3.out)
                  have hbt := ((Beside.refl (v1.heap.size) (((v3.setCell ⟨a5.heap.size, 0, none⟩ (.string ⟨#[112]⟩)).setCell ⟨a5.heap.size, 1, none⟩ (.slice xa xn xc)).setCell ⟨a5.heap.size, 2, none⟩ (.slice ta tn tc))).setCell 0 (.string ⟨#[112]⟩)).setCell 1 (.slice ua un uc)
                  have HBt := Lib.hid (HBs.out.trans (hbt.below hgY HBs.out.size))
                  have HFT := Lib.hid (HTrpx1.out _ (Nat.le_trans (HBTpx1x5x4x3.out).size (Nat.le_trans hbs.size hbt.size)) (fun b h1 h2 => ((hbt.block b (Nat.lt_of_lt_of_le (Nat.lt_of_lt_of_le h2 (HBTpx1x5x4x3.out).size) hbs.size) (by omega)).trans (hbs.block b (Nat.lt_of_lt_of_le h2 (HBTpx1x5x4x3.out).size) (by omega))).trans ((HBTpx1x5x4x3.out).block b h2)))
                  have HFU := Lib.hid (HTrpx1x5x4x3.out _ (Nat.le_trans (HBUpx1x5x4x3.out).size (Nat.le_trans hbs.size hbt.size)) (fun b h1 h2 => ((hbt.block b (Nat.lt_of_lt_of_le (Nat.lt_of_lt_of_le h2 (HBUpx1x5x4x3.out).size) hbs.size) (by omega)).trans (hbs.block b (Nat.lt_of_lt_of_le h2 (HBUpx1x5x4x3.out).size) (by omega))).trans ((HBUpx1x5x4x3.out).block b h2)))
                  have HX9 := Lib.hid (HXs.out.beside hbt (by omega))
                  have HY9 := Lib.hid (LBox.fill8 (nm' := ⟨#[112]⟩) (a' := ua) (n' := un) (c' := uc) HYs.out)
                  clear hbs hbt vf0 vf1 vf2
                  refine wpAnyH_done (by kernel_rfl) ?_ _
                  unfold LastPost
                  go_simp
                  go_wp2_with fail
                  go_meet
                  exact ⟨_, _, xa, xn, xc, ta, tn, tc, ua, un, uc, rfl, rfl, HX9, HY9, HFT, HFU, Lib.hid (HG21.out.on HBt.out), Lib.hid (HL21.out.on HBt.out), Lib.hid (HT21.out.on HBt.out)⟩
          case rpx4 =>
            go_simp
            obtain ⟨a4, ha4⟩ : ∃ a4, a4 = wd.alloc (.cells #[.string ⟨#[]⟩, .slice none 0 0, .slice none 0 0] 27) := ⟨_, rfl⟩
            rw [← ha4]
            have hb : Below wd.heap.size wd a4 := by rw [ha4]; exact tu1 _ _
            have hspx4 : a4.heap.size ≤ wd.heap.size + 1 ∧ wd.heap.size + 1 ≤ a4.heap.size := by rw [ha4]; simp
            have HBpx4 := Lib.hid (below_on HB0.out hb)
            have HXpx4 := Lib.hid (show PBox a4 wd.heap.size ⟨#[]⟩ none 0 0 none 0 0 by rw [ha4]; exact PBox.new wd ⟨#[]⟩ none 0 0 none 0 0)
            have hgX : w21.heap.size ≤ wd.heap.size := HB0.out.size
            clear hb ha4
            refine hK.out _ _ (HK.out _ HBpx4.out) (fun hHeld => ?_)
            clear hK K
            try simp only [Act.put, List.setIfInBounds_toArray, List.set_cons_zero, List.set_cons_succ]
            refine wpAnyH_ready (rs := [1, 5]) (by kernel_rfl) (by simp) ?_
            refine AllReadyH.cons (i := 1) (o := _) rfl (fun K hK => ?rpx4x1) (AllReadyH.cons (i := 5) (o := _) rfl (fun K hK => ?rpx4x5) AllReadyH.nil)
            case rpx4x1 =>
              go_simp
              go_at_call 9
              with_reducible refine (C1.out _ HBpx4.out).mono ?_
              rintro e v1 ⟨⟨xa, xn, xc, ta, tn, tc, he, ht⟩, hb⟩
              subst he
              have HTrpx4x1 := Lib.hid (show ∀ V : World, v1.heap.size ≤ V.heap.size → (∀ b, a4.heap.size ≤ b → b < v1.heap.size → V.heap[b]? = v1.heap[b]?) → Pts V V.heap.size ta tn (trimP ps) from fun V h1 h2 => ht V h1 (fun b h3 h4 => h2 b (h3) h4))
              have hspx4x1 : a4.heap.size ≤ v1.heap.size := by have := hb.size; exact this
              have HBpx4x1 := Lib.hid (below_on HBpx4.out hb)
              have HXpx4x1 := Lib.hid (HXpx4.out.on hb)
              have HBTpx4x1 := Lib.hid (Below.refl v1.heap.size v1)
              clear ht hb
              refine hK.out _ _ (HK.out _ HBpx4x1.out) (fun hHeld => ?_)
              clear hK K
              try simp only [Act.put, List.setIfInBounds_toArray, List.set_cons_zero, List.set_cons_succ]
              refine wpAnyH_ready (rs := [3, 5]) (by kernel_rfl) (by simp) ?_
              refine AllReadyH.cons (i := 3) (o := _) rfl (fun K hK => ?rpx4x1x3) (AllReadyH.cons (i := 5) (o := _) rfl (fun K hK => ?rpx4x1x5) AllReadyH.nil)
              case rpx4x1x3 =>
                go_simp
                go_at_call 10
                with_reducible refine (C2.out _ HBpx4x1.out).mono ?_
                rintro e v3 ⟨⟨ua, un, uc, he, ht⟩, hb⟩
                subst he
                have HTrpx4x1x3 := Lib.hid (show ∀ V : World, v3.heap.size ≤ V.heap.size → (∀ b, v1.heap.size ≤ b → b < v3.heap.size → V.heap[b]? = v3.heap[b]?) → Turns V V.heap.size ua un (trimT (ps.map asU)) from fun V h1 h2 => ht V h1 (fun b h3 h4 => h2 b (h3) h4))
                have hspx4x1x3 : v1.heap.size ≤ v3.heap.size := by have := hb.size; exact this
                have HBpx4x1x3 := Lib.hid (below_on HBpx4x1.out hb)
                have HXpx4x1x3 := Lib.hid (HXpx4x1.out.on hb)
                have HBTpx4x1x3 := Lib.hid (below_on HBTpx4x1.out hb)
                have HBUpx4x1x3 := Lib.hid (Below.refl v3.heap.size v3)
                clear ht hb
                refine hK.out _ _ (HK.out _ HBpx4x1x3.out) (fun hHeld => ?_)
                clear hK K
                try simp only [Act.put, List.setIfInBounds_toArray, List.set_cons_zero, List.set_cons_succ]
                refine wpAnyH_ready (rs := [5]) (by kernel_rfl) (by simp) ?_
                refine AllReadyH.cons (i := 5) (o := _) rfl (fun K hK => ?rpx4x1x3x5) AllReadyH.nil
                case rpx4x1x3x5 =>
                  go_simp
                  obtain ⟨a5, ha5⟩ : ∃ a5, a5 = v3.alloc (.cells #[.string ⟨#[]⟩, .slice none 0 0] 32) := ⟨_, rfl⟩
                  rw [← ha5]
                  have hb : Below v3.heap.size v3 a5 := by rw [ha5]; exact tu1 _ _
                  have hspx4x1x3x5 : a5.heap.size ≤ v3.heap.size + 1 ∧ v3.heap.size + 1 ≤ a5.heap.size := by rw [ha5]; simp
                  have HBpx4x1x3x5 := Lib.hid (below_on HBpx4x1x3.out hb)
                  have HXpx4x1x3x5 := Lib.hid (HXpx4x1x3.out.on hb)
                  have HBTpx4x1x3x5 := Lib.hid (below_on HBTpx4x1x3.out hb)
                  have HBUpx4x1x3x5 := Lib.hid (below_on HBUpx4x1x3.out hb)
                  have HYpx4x1x3x5 := Lib.hid (show LBox a5 v3.heap.size ⟨#[]⟩ none 0 0 by rw [ha5]; exact LBox.new v3 ⟨#[]⟩ none 0 0)
                  have hgY : w21.heap.size ≤ v3.heap.size := HBpx4x1x3.out.size
                  clear hb ha5
                  refine hK.out _ _ (HK.out _ HBpx4x1x3x5.out) (fun hHeld => ?_)
                  clear hK K
                  try simp only [Act.put, List.setIfInBounds_toArray, List.set_cons_zero, List.set_cons_succ]
                  have hne1 : ¬ (wd.heap.size = v3.heap.size) := by omega
                  have hne2 : ¬ (v3.heap.size = wd.heap.size) := by omega
                  obtain ⟨_, _⟩ := HYpx4x1x3x5.out.cells
                  have tf0 := HYpx4x1x3x5.out.thaw 0
                  have tf1 := HYpx4x1x3x5.out.thaw 1
                  obtain ⟨_, _, _⟩ := HXpx4x1x3x5.out.cells
                  have vf0 := HXpx4x1x3x5.out.thaw 0
                  have vf1 := HXpx4x1x3x5.out.thaw 1
                  have vf2 := HXpx4x1x3x5.out.thaw 2
                  refine wpAnyH_ready (rs := [6]) (by kernel_rfl) (by simp) ?_
                  refine AllReadyH.cons (i := 6) (o := _) rfl (fun K hK => ?_) AllReadyH.nil
                  go_simp
                  have hbs := (((Beside.refl (wd.heap.size) a5).setCell 0 (.string ⟨#[112]⟩)).setCell 1 (.slice xa xn xc)).setCell 2 (.slice ta tn tc)
                  have HBs := Lib.hid (HBpx4x1x3x5.out.trans (hbs.below hgX HBpx4x1x3x5.out.size))
                  refine hK.out _ _ (HK.out _ HBs.out) (fun hHeld => ?_)
                  clear hK K
                  try simp only [Act.put, List.setIfInBounds_toArray]
                  have HYs := Lib.hid (HYpx4x1x3x5.out.beside hbs (by omega))
                  obtain ⟨_, _⟩ := HYs.out.cells
                  have uf0 := HYs.out.thaw 0
                  have uf1 := HYs.out.thaw 1
                  have HXs := Lib.hid (PBox.fill (nm' := ⟨#[112]⟩) (ra' := xa) (rn' := xn) (rc' := xc) (a' := ta) (n' := tn) (c' := tc) HXpx4x1x3x5.out)
                  have hbt := ((Beside.refl (v3.heap.size) (((a5.setCell ⟨wd.heap.size, 0, none⟩ (.string ⟨#[112]⟩)).setCell ⟨wd.heap.size, 1, none⟩ (.slice xa xn xc)).setCell ⟨wd.heap.size, 2, none⟩ (.slice ta tn tc))).setCell 0 (.string ⟨#[112]⟩)).setCell 1 (.slice ua un uc)
                  have HBt := Lib.hid (HBs.out.trans (hbt.below hgY HBs.out.size))
                  have HFT := Lib.hid (HTrpx4x1.out _ (Nat.le_trans (HBTpx4x1x3x5.out).size (Nat.le_trans hbs.size hbt.size)) (fun b h1 h2 => ((hbt.block b (Nat.lt_of_lt_of_le (Nat.lt_of_lt_of_le h2 (HBTpx4x1x3x5.out).size) hbs.size) (by omega)).trans (hbs.block b (Nat.lt_of_lt_of_le h2 (HBTpx4x1x3x5.out).size) (by omega))).trans ((HBTpx4x1x3x5.out).block b h2)))
                  have HFU := Lib.hid (HTrpx4x1x3.out _ (Nat.le_trans (HBUpx4x1x3x5.out).size (Nat.le_trans hbs.size hbt.size)) (fun b h1 h2 => ((hbt.block b (Nat.lt_of_lt_of_le (Nat.lt_of_lt_of_le h2 (HBUpx4x1x3x5.out).size) hbs.size) (by omega)).trans (hbs.block b (Nat.lt_of_lt_of_le h2 (HBUpx4x1x3x5.out).size) (by omega))).trans ((HBUpx4x1x3x5.out).block b h2)))
                  have HX9 := Lib.hid (HXs.out.beside hbt (by omega))
                  have HY9 := Lib.hid (LBox.fill8 (nm' := ⟨#[112]⟩) (a' := ua) (n' := un) (c' := uc) HYs.out)
                  clear hbs hbt vf0 vf1 vf2
                  refine wpAnyH_done (by kernel_rfl) ?_ _
                  unfold LastPost
                  go_simp
                  go_wp2_with fail
                  go_meet
                  exact ⟨_, _, xa, xn, xc, ta, tn, tc, ua, un, uc, rfl, rfl, HX9, HY9, HFT, HFU, Lib.hid (HG21.out.on HBt.out), Lib.hid (HL21.out.on HBt.out), Lib.hid (HT21.out.on HBt.out)⟩
              case rpx4x1x5 =>
                go_simp
                obtain ⟨a5, ha5⟩ : ∃ a5, a5 = v1.alloc (.cells #[.string ⟨#[]⟩, .slice none 0 0] 32) := ⟨_, rfl⟩
                rw [← ha5]
                have hb : Below v1.heap.size v1 a5 := by rw [ha5]; exact tu1 _ _
                have hspx4x1x5 : a5.heap.size ≤ v1.heap.size + 1 ∧ v1.heap.size + 1 ≤ a5.heap.size := by rw [ha5]; simp
                have HBpx4x1x5 := Lib.hid (below_on HBpx4x1.out hb)
                have HXpx4x1x5 := Lib.hid (HXpx4x1.out.on hb)
                have HBTpx4x1x5 := Lib.hid (below_on HBTpx4x1.out hb)
                have HYpx4x1x5 := Lib.hid (show LBox a5 v1.heap.size ⟨#[]⟩ none 0 0 by rw [ha5]; exact LBox.new v1 ⟨#[]⟩ none 0 0)
                have hgY : w21.heap.size ≤ v1.heap.size := HBpx4x1.out.size
                clear hb ha5
                refine hK.out _ _ (HK.out _ HBpx4x1x5.out) (fun hHeld => ?_)
                clear hK K
                try simp only [Act.put, List.setIfInBounds_toArray, List.set_cons_zero, List.set_cons_succ]
                refine wpAnyH_ready (rs := [3]) (by kernel_rfl) (by simp) ?_
                refine AllReadyH.cons (i := 3) (o := _) rfl (fun K hK => ?rpx4x1x5x3) AllReadyH.nil
                case rpx4x1x5x3 =>
                  go_simp
                  go_at_call 10
                  with_reducible refine (C2.out _ HBpx4x1x5.out).mono ?_
                  rintro e v3 ⟨⟨ua, un, uc, he, ht⟩, hb⟩
                  subst he
                  have HTrpx4x1x5x3 := Lib.hid (show ∀ V : World, v3.heap.size ≤ V.heap.size → (∀ b, a5.heap.size ≤ b → b < v3.heap.size → V.heap[b]? = v3.heap[b]?) → Turns V V.heap.size ua un (trimT (ps.map asU)) from fun V h1 h2 => ht V h1 (fun b h3 h4 => h2 b (h3) h4))
                  have hspx4x1x5x3 : a5.heap.size ≤ v3.heap.size := by have := hb.size; exact this
                  have HBpx4x1x5x3 := Lib.hid (below_on HBpx4x1x5.out hb)
                  have HXpx4x1x5x3 := Lib.hid (HXpx4x1x5.out.on hb)
                  have HBTpx4x1x5x3 := Lib.hid (below_on HBTpx4x1x5.out hb)
                  have HYpx4x1x5x3 := Lib.hid (HYpx4x1x5.out.on hb)
                  have HBUpx4x1x5x3 := Lib.hid (Below.refl v3.heap.size v3)
                  clear ht hb
                  refine hK.out _ _ (HK.out _ HBpx4x1x5x3.out) (fun hHeld => ?_)
                  clear hK K
                  try simp only [Act.put, List.setIfInBounds_toArray, List.set_cons_zero, List.set_cons_succ]
                  have hne1 : ¬ (wd.heap.size = v1.heap.size) := by omega
                  have hne2 : ¬ (v1.heap.size = wd.heap.size) := by omega
                  obtain ⟨_, _⟩ := HYpx4x1x5x3.out.cells
                  have tf0 := HYpx4x1x5x3.out.thaw 0
                  have tf1 := HYpx4x1x5x3.out.thaw 1
                  obtain ⟨_, _, _⟩ := HXpx4x1x5x3.out.cells
                  have vf0 := HXpx4x1x5x3.out.thaw 0
                  have vf1 := HXpx4x1x5x3.out.thaw 1
                  have vf2 := HXpx4x1x5x3.out.thaw 2
                  refine wpAnyH_ready (rs := [6]) (by kernel_rfl) (by simp) ?_
                  refine AllReadyH.cons (i := 6) (o := _) rfl (fun K hK => ?_) AllReadyH.nil
                  go_simp
                  have hbs := (((Beside.refl (wd.heap.size) v3).setCell 0 (.string ⟨#[112]⟩)).setCell 1 (.slice xa xn xc)).setCell 2 (.slice ta tn tc)
                  have HBs := Lib.hid (HBpx4x1x5x3.out.trans (hbs.below hgX HBpx4x1x5x3.out.size))
                  refine hK.out _ _ (HK.out _ HBs.out) (fun hHeld => ?_)
                  clear hK K
                  try simp only [Act.put, List.setIfInBounds_toArray]
                  have HYs := Lib.hid (HYpx4x1x5x3.out.beside hbs (by omega))
                  obtain ⟨_, _⟩ := HYs.out.cells
                  have uf0 := HYs.out.thaw 0
                  have uf1 := HYs.out.thaw 1
                  have HXs := Lib.hid (PBox.fill (nm' := ⟨#[112]⟩) (ra' := xa) (rn' := xn) (rc' := xc) (a' := ta) (n' := tn) (c' := tc) HXpx4x1x5x3.out)
                  have hbt := ((Beside.refl (v1.heap.size) (((v3.setCell ⟨wd.heap.size, 0, none⟩ (.string ⟨#[112]⟩)).setCell ⟨wd.heap.size, 1, none⟩ (.slice xa xn xc)).setCell ⟨wd.heap.size, 2, none⟩ (.slice ta tn tc))).setCell 0 (.string ⟨#[112]⟩)).setCell 1 (.slice ua un uc)
                  have HBt := Lib.hid (HBs.out.trans (hbt.below hgY HBs.out.size))
                  have HFT := Lib.hid (HTrpx4x1.out _ (Nat.le_trans (HBTpx4x1x5x3.out).size (Nat.le_trans hbs.size hbt.size)) (fun b h1 h2 => ((hbt.block b (Nat.lt_of_lt_of_le (Nat.lt_of_lt_of_le h2 (HBTpx4x1x5x3.out).size) hbs.size) (by omega)).trans (hbs.block b (Nat.lt_of_lt_of_le h2 (HBTpx4x1x5x3.out).size) (by omega))).trans ((HBTpx4x1x5x3.out).block b h2)))
                  have HFU := Lib.hid (HTrpx4x1x5x3.out _ (Nat.le_trans (HBUpx4x1x5x3.out).size (Nat.le_trans hbs.size hbt.size)) (fun b h1 h2 => ((hbt.block b (Nat.lt_of_lt_of_le (Nat.lt_of_lt_of_le h2 (HBUpx4x1x5x3.out).size) hbs.size) (by omega)).trans (hbs.block b (Nat.lt_of_lt_of_le h2 (HBUpx4x1x5x3.out).size) (by omega))).trans ((HBUpx4x1x5x3.out).block b h2)))
                  have HX9 := Lib.hid (HXs.out.beside hbt (by omega))
                  have HY9 := Lib.hid (LBox.fill8 (nm' := ⟨#[112]⟩) (a' := ua) (n' := un) (c' := uc) HYs.out)
                  clear hbs hbt vf0 vf1 vf2
                  refine wpAnyH_done (by kernel_rfl) ?_ _
                  unfold LastPost
                  go_simp
                  go_wp2_with fail
                  go_meet
                  exact ⟨_, _, xa, xn, xc, ta, tn, tc, ua, un, uc, rfl, rfl, HX9, HY9, HFT, HFU, Lib.hid (HG21.out.on HBt.out), Lib.hid (HL21.out.on HBt.out), Lib.hid (HT21.out.on HBt.out)⟩
            case rpx4x5 =>
              go_simp
              obtain ⟨a5, ha5⟩ : ∃ a5, a5 = a4.alloc (.cells #[.string ⟨#[]⟩, .slice none 0 0] 32) := ⟨_, rfl⟩
              rw [← ha5]
              have hb : Below a4.heap.size a4 a5 := by rw [ha5]; exact tu1 _ _
              have hspx4x5 : a5.heap.size ≤ a4.heap.size + 1 ∧ a4.heap.size + 1 ≤ a5.heap.size := by rw [ha5]; simp
              have HBpx4x5 := Lib.hid (below_on HBpx4.out hb)
              have HXpx4x5 := Lib.hid (HXpx4.out.on hb)
              have HYpx4x5 := Lib.hid (show LBox a5 a4.heap.size ⟨#[]⟩ none 0 0 by rw [ha5]; exact LBox.new a4 ⟨#[]⟩ none 0 0)
              have hgY : w21.heap.size ≤ a4.heap.size := HBpx4.out.size
              clear hb ha5
              refine hK.out _ _ (HK.out _ HBpx4x5.out) (fun hHeld => ?_)
              clear hK K
              try simp only [Act.put, List.setIfInBounds_toArray, List.set_cons_zero, List.set_cons_succ]
              refine wpAnyH_ready (rs := [1]) (by kernel_rfl) (by simp) ?_
              refine AllReadyH.cons (i := 1) (o := _) rfl (fun K hK => ?rpx4x5x1) AllReadyH.nil
              case rpx4x5x1 =>
                go_simp
                go_at_call 9
                with_reducible refine (C1.out _ HBpx4x5.out).mono ?_
                rintro e v1 ⟨⟨xa, xn, xc, ta, tn, tc, he, ht⟩, hb⟩
                subst he
                have HTrpx4x5x1 := Lib.hid (show ∀ V : World, v1.heap.size ≤ V.heap.size → (∀ b, a5.heap.size ≤ b → b < v1.heap.size → V.heap[b]? = v1.heap[b]?) → Pts V V.heap.size ta tn (trimP ps) from fun V h1 h2 => ht V h1 (fun b h3 h4 => h2 b (h3) h4))
                have hspx4x5x1 : a5.heap.size ≤ v1.heap.size := by have := hb.size; exact this
                have HBpx4x5x1 := Lib.hid (below_on HBpx4x5.out hb)
                have HXpx4x5x1 := Lib.hid (HXpx4x5.out.on hb)
                have HYpx4x5x1 := Lib.hid (HYpx4x5.out.on hb)
                have HBTpx4x5x1 := Lib.hid (Below.refl v1.heap.size v1)
                clear ht hb
                refine hK.out _ _ (HK.out _ HBpx4x5x1.out) (fun hHeld => ?_)
                clear hK K
                try simp only [Act.put, List.setIfInBounds_toArray, List.set_cons_zero, List.set_cons_succ]
                refine wpAnyH_ready (rs := [3]) (by kernel_rfl) (by simp) ?_
                refine AllReadyH.cons (i := 3) (o := _) rfl (fun K hK => ?rpx4x5x1x3) AllReadyH.nil
                case rpx4x5x1x3 =>
                  go_simp
                  go_at_call 10
                  with_reducible refine (C2.out _ HBpx4x5x1.out).mono ?_
                  rintro e v3 ⟨⟨ua, un, uc, he, ht⟩, hb⟩
                  subst he
                  have HTrpx4x5x1x3 := Lib.hid (show ∀ V : World, v3.heap.size ≤ V.heap.size → (∀ b, v1.heap.size ≤ b → b < v3.heap.size → V.heap[b]? = v3.heap[b]?) → Turns V V.heap.size ua un (trimT (ps.map asU)) from fun V h1 h2 => ht V h1 (fun b h3 h4 => h2 b (h3) h4))
                  have hspx4x5x1x3 : v1.heap.size ≤ v3.heap.size := by have := hb.size; exact this
                  have HBpx4x5x1x3 := Lib.hid (below_on HBpx4x5x1.out hb)
                  have HXpx4x5x1x3 := Lib.hid (HXpx4x5x1.out.on hb)
                  have HYpx4x5x1x3 := Lib.hid (HYpx4x5x1.out.on hb)
                  have HBTpx4x5x1x3 := Lib.hid (below_on HBTpx4x5x1.out hb)
                  have HBUpx4x5x1x3 := Lib.hid (Below.refl v3.heap.size v3)
                  clear ht hb
                  refine hK.out _ _ (HK.out _ HBpx4x5x1x3.out) (fun hHeld => ?_)
                  clear hK K
                  try simp only [Act.put, List.setIfInBounds_toArray, List.set_cons_zero, List.set_cons_succ]
                  have hne1 : ¬ (wd.heap.size = a4.heap.size) := by omega
                  have hne2 : ¬ (a4.heap.size = wd.heap.size) := by omega
                  obtain ⟨_, _⟩ := HYpx4x5x1x3.out.cells
                  have tf0 := HYpx4x5x1x3.out.thaw 0
                  have tf1 := HYpx4x5x1x3.out.thaw 1
                  obtain ⟨_, _, _⟩ := HXpx4x5x1x3.out.cells
                  have vf0 := HXpx4x5x1x3.out.thaw 0
                  have vf1 := HXpx4x5x1x3.out.thaw 1
                  have vf2 := HXpx4x5x1x3.out.thaw 2
                  refine wpAnyH_ready (rs := [6]) (by kernel_rfl) (by simp) ?_
                  refine AllReadyH.cons (i := 6) (o := _) rfl (fun K hK => ?_) AllReadyH.nil
                  go_simp
                  have hbs := (((Beside.refl (wd.heap.size) v3).setCell 0 (.string ⟨#[112]⟩)).setCell 1 (.slice xa xn xc)).setCell 2 (.slice ta tn tc)
                  have HBs := Lib.hid (HBpx4x5x1x3.out.trans (hbs.below hgX HBpx4x5x1x3.out.size))
                  refine hK.out _ _ (HK.out _ HBs.out) (fun hHeld => ?_)
                  clear hK K
                  try simp only [Act.put, List.setIfInBounds_toArray]
                  have HYs := Lib.hid (HYpx4x5x1x3.out.beside hbs (by omega))
                  obtain ⟨_, _⟩ := HYs.out.cells
                  have uf0 := HYs.out.thaw 0
                  have uf1 := HYs.out.thaw 1
                  have HXs := Lib.hid (PBox.fill (nm' := ⟨#[112]⟩) (ra' := xa) (rn' := xn) (rc' := xc) (a' := ta) (n' := tn) (c' := tc) HXpx4x5x1x3.out)
                  have hbt := ((Beside.refl (a4.heap.size) (((v3.setCell ⟨wd.heap.size, 0, none⟩ (.string ⟨#[112]⟩)).setCell ⟨wd.heap.size, 1, none⟩ (.slice xa xn xc)).setCell ⟨wd.heap.size, 2, none⟩ (.slice ta tn tc))).setCell 0 (.string ⟨#[112]⟩)).setCell 1 (.slice ua un uc)
                  have HBt := Lib.hid (HBs.out.trans (hbt.below hgY HBs.out.size))
                  have HFT := Lib.hid (HTrpx4x5x1.out _ (Nat.le_trans (HBTpx4x5x1x3.out).size (Nat.le_trans hbs.size hbt.size)) (fun b h1 h2 => ((hbt.block b (Nat.lt_of_lt_of_le (Nat.lt_of_lt_of_le h2 (HBTpx4x5x1x3.out).size) hbs.size) (by omega)).trans (hbs.block b (Nat.lt_of_lt_of_le h2 (HBTpx4x5x1x3.out).size) (by omega))).trans ((HBTpx4x5x1x3.out).block b h2)))
                  have HFU := Lib.hid (HTrpx4x5x1x3.out _ (Nat.le_trans (HBUpx4x5x1x3.out).size (Nat.le_trans hbs.size hbt.size)) (fun b h1 h2 => ((hbt.block b (Nat.lt_of_lt_of_le (Nat.lt_of_lt_of_le h2 (HBUpx4x5x1x3.out).size) hbs.size) (by omega)).trans (hbs.block b (Nat.lt_of_lt_of_le h2 (HBUpx4x5x1x3.out).size) (by omega))).trans ((HBUpx4x5x1x3.out).block b h2)))
                  have HX9 := Lib.hid (HXs.out.beside hbt (by omega))
                  have HY9 := Lib.hid (LBox.fill8 (nm' := ⟨#[112]⟩) (a' := ua) (n' := un) (c' := uc) HYs.out)
                  clear hbs hbt vf0 vf1 vf2
                  refine wpAnyH_done (by kernel_rfl) ?_ _
                  unfold LastPost
                  go_simp
                  go_wp2_with fail
                  go_meet
                  exact ⟨_, _, xa, xn, xc, ta, tn, tc, ua, un, uc, rfl, rfl, HX9, HY9, HFT, HFU, Lib.hid (HG21.out.on HBt.out), Lib.hid (HL21.out.on HBt.out), Lib.hid (HT21.out.on HBt.out)⟩
          case rpx5 =>
            go_simp
            obtain ⟨a5, ha5⟩ : ∃ a5, a5 = wd.alloc (.cells #[.string ⟨#[]⟩, .slice none 0 0] 32) := ⟨_, rfl⟩
            rw [← ha5]
            have hb : Below wd.heap.size wd a5 := by rw [ha5]; exact tu1 _ _
            have hspx5 : a5.heap.size ≤ wd.heap.size + 1 ∧ wd.heap.size + 1 ≤ a5.heap.size := by rw [ha5]; simp
            have HBpx5 := Lib.hid (below_on HB0.out hb)
            have HYpx5 := Lib.hid (show LBox a5 wd.heap.size ⟨#[]⟩ none 0 0 by rw [ha5]; exact LBox.new wd ⟨#[]⟩ none 0 0)
            have hgY : w21.heap.size ≤ wd.heap.size := HB0.out.size
            clear hb ha5
            refine hK.out _ _ (HK.out _ HBpx5.out) (fun hHeld => ?_)
            clear hK K
            try simp only [Act.put, List.setIfInBounds_toArray, List.set_cons_zero, List.set_cons_succ]
            refine wpAnyH_ready (rs := [1, 4]) (by kernel_rfl) (by simp) ?_
            refine AllReadyH.cons (i := 1) (o := _) rfl (fun K hK => ?rpx5x1) (AllReadyH.cons (i := 4) (o := _) rfl (fun K hK => ?rpx5x4) AllReadyH.nil)
            case rpx5x1 =>
              go_simp
              go_at_call 9
              with_reducible refine (C1.out _ HBpx5.out).mono ?_
              rintro e v1 ⟨⟨xa, xn, xc, ta, tn, tc, he, ht⟩, hb⟩
              subst he
              have HTrpx5x1 := Lib.hid (show ∀ V : World, v1.heap.size ≤ V.heap.size → (∀ b, a5.heap.size ≤ b → b < v1.heap.size → V.heap[b]? = v1.heap[b]?) → Pts V V.heap.size ta tn (trimP ps) from fun V h1 h2 => ht V h1 (fun b h3 h4 => h2 b (h3) h4))
              have hspx5x1 : a5.heap.size ≤ v1.heap.size := by have := hb.size; exact this
              have HBpx5x1 := Lib.hid (below_on HBpx5.out hb)
              have HYpx5x1 := Lib.hid (HYpx5.out.on hb)
              have HBTpx5x1 := Lib.hid (Below.refl v1.heap.size v1)
              clear ht hb
              refine hK.out _ _ (HK.out _ HBpx5x1.out) (fun hHeld => ?_)
              clear hK K
              try simp only [Act.put, List.setIfInBounds_toArray, List.set_cons_zero, List.set_cons_succ]
              refine wpAnyH_ready (rs := [3, 4]) (by kernel_rfl) (by simp) ?_
              refine AllReadyH.cons (i := 3) (o := _) rfl (fun K hK => ?rpx5x1x3) (AllReadyH.cons (i := 4) (o := _) rfl (fun K hK => ?rpx5x1x4) AllReadyH.nil)
              case rpx5x1x3 =>
                go_simp
                go_at_call 10
                with_reducible refine (C2.out _ HBpx5x1.out).mono ?_
                rintro e v3 ⟨⟨ua, un, uc, he, ht⟩, hb⟩
                subst he
                have HTrpx5x1x3 := Lib.hid (show ∀ V : World, v3.heap.size ≤ V.heap.size → (∀ b, v1.heap.size ≤ b → b < v3.heap.size → V.heap[b]? = v3.heap[b]?) → Turns V V.heap.size ua un (trimT (ps.map asU)) from fun V h1 h2 => ht V h1 (fun b h3 h4 => h2 b (h3) h4))
                have hspx5x1x3 : v1.heap.size ≤ v3.heap.size := by have := hb.size; exact this
                have HBpx5x1x3 := Lib.hid (below_on HBpx5x1.out hb)
                have HYpx5x1x3 := Lib.hid (HYpx5x1.out.on hb)
                have HBTpx5x1x3 := Lib.hid (below_on HBTpx5x1.out hb)
                have HBUpx5x1x3 := Lib.hid (Below.refl v3.heap.size v3)
                clear ht hb
                refine hK.out _ _ (HK.out _ HBpx5x1x3.out) (fun hHeld => ?_)
                clear hK K
                try simp only [Act.put, List.setIfInBounds_toArray, List.set_cons_zero, List.set_cons_succ]
                refine wpAnyH_ready (rs := [4]) (by kernel_rfl) (by simp) ?_
                refine AllReadyH.cons (i := 4) (o := _) rfl (fun K hK => ?rpx5x1x3x4) AllReadyH.nil
                case rpx5x1x3x4 =>
                  go_simp
                  obtain ⟨a4, ha4⟩ : ∃ a4, a4 = v3.alloc (.cells #[.string ⟨#[]⟩, .slice none 0 0, .slice none 0 0] 27) := ⟨_, rfl⟩
                  rw [← ha4]
                  have hb : Below v3.heap.size v3 a4 := by rw [ha4]; exact tu1 _ _
                  have hspx5x1x3x4 : a4.heap.size ≤ v3.heap.size + 1 ∧ v3.heap.size + 1 ≤ a4.heap.size := by rw [ha4]; simp
                  have HBpx5x1x3x4 := Lib.hid (below_on HBpx5x1x3.out hb)
                  have HYpx5x1x3x4 := Lib.hid (HYpx5x1x3.out.on hb)
                  have HBTpx5x1x3x4 := Lib.hid (below_on HBTpx5x1x3.out hb)
                  have HBUpx5x1x3x4 := Lib.hid (below_on HBUpx5x1x3.out hb)
                  have HXpx5x1x3x4 := Lib.hid (show PBox a4 v3.heap.size ⟨#[]⟩ none 0 0 none 0 0 by rw [ha4]; exact PBox.new v3 ⟨#[]⟩ none 0 0 none 0 0)
                  have hgX : w21.heap.size ≤ v3.heap.size := HBpx5x1x3.out.size
                  clear hb ha4
                  refine hK.out _ _ (HK.out _ HBpx5x1x3x4.out) (fun hHeld => ?_)
                  clear hK K
                  try simp only [Act.put, List.setIfInBounds_toArray, List.set_cons_zero, List.set_cons_succ]
                  have hne1 : ¬ (v3.heap.size = wd.heap.size) := by omega
                  have hne2 : ¬ (wd.heap.size = v3.heap.size) := by omega
                  obtain ⟨_, _⟩ := HYpx5x1x3x4.out.cells
                  have tf0 := HYpx5x1x3x4.out.thaw 0
                  have tf1 := HYpx5x1x3x4.out.thaw 1
                  obtain ⟨_, _, _⟩ := HXpx5x1x3x4.out.cells
                  have vf0 := HXpx5x1x3x4.out.thaw 0
                  have vf1 := HXpx5x1x3x4.out.thaw 1
                  have vf2 := HXpx5x1x3x4.out.thaw 2
                  refine wpAnyH_ready (rs := [6]) (by kernel_rfl) (by simp) ?_
                  refine AllReadyH.cons (i := 6) (o := _) rfl (fun K hK => ?_) AllReadyH.nil
                  go_simp
                  have hbs := (((Beside.refl (v3.heap.size) a4).setCell 0 (.string ⟨#[112]⟩)).setCell 1 (.slice xa xn xc)).setCell 2 (.slice ta tn tc)
                  have HBs := Lib.hid (HBpx5x1x3x4.out.trans (hbs.below hgX HBpx5x1x3x4.out.size))
                  refine hK.out _ _ (HK.out _ HBs.out) (fun hHeld => ?_)
                  clear hK K
                  try simp only [Act.put, List.setIfInBounds_toArray]
                  have HYs := Lib.hid (HYpx5x1x3x4.out.beside hbs (by omega))
                  obtain ⟨_, _⟩ := HYs.out.cells
                  have uf0 := HYs.out.thaw 0
                  have uf1 := HYs.out.thaw 1
                  have HXs := Lib.hid (PBox.fill (nm' := ⟨#[112]⟩) (ra' := xa) (rn' := xn) (rc' := xc) (a' := ta) (n' := tn) (c' := tc) HXpx5x1x3x4.out)
                  have hbt := ((Beside.refl (wd.heap.size) (((a4.setCell ⟨v3.heap.size, 0, none⟩ (.string ⟨#[112]⟩)).setCell ⟨v3.heap.size, 1, none⟩ (.slice xa xn xc)).setCell ⟨v3.heap.size, 2, none⟩ (.slice ta tn tc))).setCell 0 (.string ⟨#[112]⟩)).setCell 1 (.slice ua un uc)
                  have HBt := Lib.hid (HBs.out.trans (hbt.below hgY HBs.out.size))
                  have HFT := Lib.hid (HTrpx5x1.out _ (Nat.le_trans (HBTpx5x1x3x4.out).size (Nat.le_trans hbs.size hbt.size)) (fun b h1 h2 => ((hbt.block b (Nat.lt_of_lt_of_le (Nat.lt_of_lt_of_le h2 (HBTpx5x1x3x4.out).size) hbs.size) (by omega)).trans (hbs.block b (Nat.lt_of_lt_of_le h2 (HBTpx5x1x3x4.out).size) (by omega))).trans ((HBTpx5x1x3x4.out).block b h2)))
                  have HFU := Lib.hid (HTrpx5x1x3.out _ (Nat.le_trans (HBUpx5x1x3x4.out).size (Nat.le_trans hbs.size hbt.size)) (fun b h1 h2 => ((hbt.block b (Nat.lt_of_lt_of_le (Nat.lt_of_lt_of_le h2 (HBUpx5x1x3x4.out).size) hbs.size) (by omega)).trans (hbs.block b (Nat.lt_of_lt_of_le h2 (HBUpx5x1x3x4.out).size) (by omega))).trans ((HBUpx5x1x3x4.out).block b h2)))
                  have HX9 := Lib.hid (HXs.out.beside hbt (by omega))
                  have HY9 := Lib.hid (LBox.fill8 (nm' := ⟨#[112]⟩) (a' := ua) (n' := un) (c' := uc) HYs.out)
                  clear hbs hbt vf0 vf1 vf2
                  refine wpAnyH_done (by kernel_rfl) ?_ _
                  unfold LastPost
                  go_simp
                  go_wp2_with fail
                  go_meet
                  exact ⟨_, _, xa, xn, xc, ta, tn, tc, ua, un, uc, rfl, rfl, HX9, HY9, HFT, HFU, Lib.hid (HG21.out.on HBt.out), Lib.hid (HL21.out.on HBt.out), Lib.hid (HT21.out.on HBt.out)⟩
              case rpx5x1x4 =>
                go_simp
                obtain ⟨a4, ha4⟩ : ∃ a4, a4 = v1.alloc (.cells #[.string ⟨#[]⟩, .slice none 0 0, .slice none 0 0] 27) := ⟨_, rfl⟩
                rw [← ha4]
                have hb : Below v1.heap.size v1 a4 := by rw [ha4]; exact tu1 _ _
                have hspx5x1x4 : a4.heap.size ≤ v1.heap.size + 1 ∧ v1.heap.size + 1 ≤ a4.heap.size := by rw [ha4]; simp
                have HBpx5x1x4 := Lib.hid (below_on HBpx5x1.out hb)
                have HYpx5x1x4 := Lib.hid (HYpx5x1.out.on hb)
                have HBTpx5x1x4 := Lib.hid (below_on HBTpx5x1.out hb)
                have HXpx5x1x4 := Lib.hid (show PBox a4 v1.heap.size ⟨#[]⟩ none 0 0 none 0 0 by rw [ha4]; exact PBox.new v1 ⟨#[]⟩ none 0 0 none 0 0)
                have hgX : w21.heap.size ≤ v1.heap.size := HBpx5x1.out.size
                clear hb ha4
                refine hK.out _ _ (HK.out _ HBpx5x1x4.out) (fun hHeld => ?_)
                clear hK K
                try simp only [Act.put, List.setIfInBounds_toArray, List.set_cons_zero, List.set_cons_succ]
                refine wpAnyH_ready (rs := [3]) (by kernel_rfl) (by simp) ?_
                refine AllReadyH.cons (i := 3) (o := _) rfl (fun K hK => ?rpx5x1x4x3) AllReadyH.nil
                case rpx5x1x4x3 =>
                  go_simp
                  go_at_call 10
                  with_reducible refine (C2.out _ HBpx5x1x4.out).mono ?_
                  rintro e v3 ⟨⟨ua, un, uc, he, ht⟩, hb⟩
                  subst he
                  have HTrpx5x1x4x3 := Lib.hid (show ∀ V : World, v3.heap.size ≤ V.heap.size → (∀ b, a4.heap.size ≤ b → b < v3.heap.size → V.heap[b]? = v3.heap[b]?) → Turns V V.heap.size ua un (trimT (ps.map asU)) from fun V h1 h2 => ht V h1 (fun b h3 h4 => h2 b (h3) h4))
                  have hspx5x1x4x3 : a4.heap.size ≤ v3.heap.size := by have := hb.size; exact this
                  have HBpx5x1x4x3 := Lib.hid (below_on HBpx5x1x4.out hb)
                  have HYpx5x1x4x3 := Lib.hid (HYpx5x1x4.out.on hb)
                  have HBTpx5x1x4x3 := Lib.hid (below_on HBTpx5x1x4.out hb)
                  have HXpx5x1x4x3 := Lib.hid (HXpx5x1x4.out.on hb)
                  have HBUpx5x1x4x3 := Lib.hid (Below.refl v3.heap.size v3)
                  clear ht hb
                  refine hK.out _ _ (HK.out _ HBpx5x1x4x3.out) (fun hHeld => ?_)
                  clear hK K
                  try simp only [Act.put, List.setIfInBounds_toArray, List.set_cons_zero, List.set_cons_succ]
                  have hne1 : ¬ (v1.heap.size = wd.heap.size) := by omega
                  have hne2 : ¬ (wd.heap.size = v1.heap.size) := by omega
                  obtain ⟨_, _⟩ := HYpx5x1x4x3.out.cells
                  have tf0 := HYpx5x1x4x3.out.thaw 0
                  have tf1 := HYpx5x1x4x3.out.thaw 1
                  obtain ⟨_, _, _⟩ := HXpx5x1x4x3.out.cells
                  have vf0 := HXpx5x1x4x3.out.thaw 0
                  have vf1 := HXpx5x1x4x3.out.thaw 1
                  have vf2 := HXpx5x1x4x3.out.thaw 2
                  refine wpAnyH_ready (rs := [6]) (by kernel_rfl) (by simp) ?_
                  refine AllReadyH.cons (i := 6) (o := _) rfl (fun K hK => ?_) AllReadyH.nil
                  go_simp
                  have hbs := (((Beside.refl (v1.heap.size) v3).setCell 0 (.string ⟨#[112]⟩)).setCell 1 (.slice xa xn xc)).setCell 2 (.slice ta tn tc)
                  have HBs := Lib.hid (HBpx5x1x4x3.out.trans (hbs.below hgX HBpx5x1x4x3.out.size))
                  refine hK.out _ _ (HK.out _ HBs.out) (fun hHeld => ?_)
                  clear hK K
                  try simp only [Act.put, List.setIfInBounds_toArray]
                  have HYs := Lib.hid (HYpx5x1x4x3.out.beside hbs (by omega))
                  obtain ⟨_, _⟩ := HYs.out.cells
                  have uf0 := HYs.out.thaw 0
                  have uf1 := HYs.out.thaw 1
                  have HXs := Lib.hid (PBox.fill (nm' := ⟨#[112]⟩) (ra' := xa) (rn' := xn) (rc' := xc) (a' := ta) (n' := tn) (c' := tc) HXpx5x1x4x3.out)
                  have hbt := ((Beside.refl (wd.heap.size) (((v3.setCell ⟨v1.heap.size, 0, none⟩ (.string ⟨#[112]⟩)).setCell ⟨v1.heap.size, 1, none⟩ (.slice xa xn xc)).setCell ⟨v1.heap.size, 2, none⟩ (.slice ta tn tc))).setCell 0 (.string ⟨#[112]⟩)).setCell 1 (.slice ua un uc)
                  have HBt := Lib.hid (HBs.out.trans (hbt.below hgY HBs.out.size))
                  have HFT := Lib.hid (HTrpx5x1.out _ (Nat.le_trans (HBTpx5x1x4x3.out).size (Nat.le_trans hbs.size hbt.size)) (fun b h1 h2 => ((hbt.block b (Nat.lt_of_lt_of_le (Nat.lt_of_lt_of_le h2 (HBTpx5x1x4x3.out).size) hbs.size) (by omega)).trans (hbs.block b (Nat.lt_of_lt_of_le h2 (HBTpx5x1x4x3.out).size) (by omega))).trans ((HBTpx5x1x4x3.out).block b h2)))
                  have HFU := Lib.hid (HTrpx5x1x4x3.out _ (Nat.le_trans (HBUpx5x1x4x3.out).size (Nat.le_trans hbs.size hbt.size)) (fun b h1 h2 => ((hbt.block b (Nat.lt_of_lt_of_le (Nat.lt_of_lt_of_le h2 (HBUpx5x1x4x3.out).size) hbs.size) (by omega)).trans (hbs.block b (Nat.lt_of_lt_of_le h2 (HBUpx5x1x4x3.out).size) (by omega))).trans ((HBUpx5x1x4x3.out).block b h2)))
                  have HX9 := Lib.hid (HXs.out.beside hbt (by omega))
                  have HY9 := Lib.hid (LBox.fill8 (nm' := ⟨#[112]⟩) (a' := ua) (n' := un) (c' := uc) HYs.out)
                  clear hbs hbt vf0 vf1 vf2
                  refine wpAnyH_done (by kernel_rfl) ?_ _
                  unfold LastPost
                  go_simp
                  go_wp2_with fail
                  go_meet
                  exact ⟨_, _, xa, xn, xc, ta, tn, tc, ua, un, uc, rfl, rfl, HX9, HY9, HFT, HFU, Lib.hid (HG21.out.on HBt.out), Lib.hid (HL21.out.on HBt.out), Lib.hid (HT21.out.on HBt.out)⟩
            case rpx5x4 =>
              go_simp
              obtain ⟨a4, ha4⟩ : ∃ a4, a4 = a5.alloc (.cells #[.string ⟨#[]⟩, .slice none 0 0, .slice none 0 0] 27) := ⟨_, rfl⟩
              rw [← ha4]
              have hb : Below a5.heap.size a5 a4 := by rw [ha4]; exact tu1 _ _
              have hspx5x4 : a4.heap.size ≤ a5.heap.size + 1 ∧ a5.heap.size + 1 ≤ a4.heap.size := by rw [ha4]; simp
              have HBpx5x4 := Lib.hid (below_on HBpx5.out hb)
              have HYpx5x4 := Lib.hid (HYpx5.out.on hb)
              have HXpx5x4 := Lib.hid (show PBox a4 a5.heap.size ⟨#[]⟩ none 0 0 none 0 0 by rw [ha4]; exact PBox.new a5 ⟨#[]⟩ none 0 0 none 0 0)
              have hgX : w21.heap.size ≤ a5.heap.size := HBpx5.out.size
              clear hb ha4
              refine hK.out _ _ (HK.out _ HBpx5x4.out) (fun hHeld => ?_)
              clear hK K
              try simp only [Act.put, List.setIfInBounds_toArray, List.set_cons_zero, List.set_cons_succ]
              refine wpAnyH_ready (rs := [1]) (by kernel_rfl) (by simp) ?_
              refine AllReadyH.cons (i := 1) (o := _) rfl (fun K hK => ?rpx5x4x1) AllReadyH.nil
              case rpx5x4x1 =>
                go_simp
                go_at_call 9
                with_reducible refine (C1.out _ HBpx5x4.out).mono ?_
                rintro e v1 ⟨⟨xa, xn, xc, ta, tn, tc, he, ht⟩, hb⟩
                subst he
                have HTrpx5x4x1 := Lib.hid (show ∀ V : World, v1.heap.size ≤ V.heap.size → (∀ b, a4.heap.size ≤ b → b < v1.heap.size → V.heap[b]? = v1.heap[b]?) → Pts V V.heap.size ta tn (trimP ps) from fun V h1 h2 => ht V h1 (fun b h3 h4 => h2 b (h3) h4))
                have hspx5x4x1 : a4.heap.size ≤ v1.heap.size := by have := hb.size; exact this
                have HBpx5x4x1 := Lib.hid (below_on HBpx5x4.out hb)
                have HYpx5x4x1 := Lib.hid (HYpx5x4.out.on hb)
                have HXpx5x4x1 := Lib.hid (HXpx5x4.out.on hb)
                have HBTpx5x4x1 := Lib.hid (Below.refl v1.heap.size v1)
                clear ht hb
                refine hK.out _ _ (HK.out _ HBpx5x4x1.out) (fun hHeld => ?_)
                clear hK K
                try simp only [Act.put, List.setIfInBounds_toArray, List.set_cons_zero, List.set_cons_succ]
                refine wpAnyH_ready (rs := [3]) (by kernel_rfl) (by simp) ?_
                refine AllReadyH.cons (i := 3) (o := _) rfl (fun K hK => ?rpx5x4x1x3) AllReadyH.nil
                case rpx5x4x1x3 =>
                  go_simp
                  go_at_call 10
                  with_reducible refine (C2.out _ HBpx5x4x1.out).mono ?_
                  rintro e v3 ⟨⟨ua, un, uc, he, ht⟩, hb⟩
                  subst he
                  have HTrpx5x4x1x3 := Lib.hid (show ∀ V : World, v3.heap.size ≤ V.heap.size → (∀ b, v1.heap.size ≤ b → b < v3.heap.size → V.heap[b]? = v3.heap[b]?) → Turns V V.heap.size ua un (trimT (ps.map asU)) from fun V h1 h2 => ht V h1 (fun b h3 h4 => h2 b (h3) h4))
                  have hspx5x4x1x3 : v1.heap.size ≤ v3.heap.size := by have := hb.size; exact this
                  have HBpx5x4x1x3 := Lib.hid (below_on HBpx5x4x1.out hb)
                  have HYpx5x4x1x3 := Lib.hid (HYpx5x4x1.out.on hb)
                  have HXpx5x4x1x3 := Lib.hid (HXpx5x4x1.out.on hb)
                  have HBTpx5x4x1x3 := Lib.hid (below_on HBTpx5x4x1.out hb)
                  have HBUpx5x4x1x3 := Lib.hid (Below.refl v3.heap.size v3)
                  clear ht hb
                  refine hK.out _ _ (HK.out _ HBpx5x4x1x3.out) (fun hHeld => ?_)
                  clear hK K
                  try simp only [Act.put, List.setIfInBounds_toArray, List.set_cons_zero, List.set_cons_succ]
                  have hne1 : ¬ (a5.heap.size = wd.heap.size) := by omega
                  have hne2 : ¬ (wd.heap.size = a5.heap.size) := by omega
                  obtain ⟨_, _⟩ := HYpx5x4x1x3.out.cells
                  have tf0 := HYpx5x4x1x3.out.thaw 0
                  have tf1 := HYpx5x4x1x3.out.thaw 1
                  obtain ⟨_, _, _⟩ := HXpx5x4x1x3.out.cells
                  have vf0 := HXpx5x4x1x3.out.thaw 0
                  have vf1 := HXpx5x4x1x3.out.thaw 1
                  have vf2 := HXpx5x4x1x3.out.thaw 2
                  refine wpAnyH_ready (rs := [6]) (by kernel_rfl) (by simp) ?_
                  refine AllReadyH.cons (i := 6) (o := _) rfl (fun K hK => ?_) AllReadyH.nil
                  go_simp
                  have hbs := (((Beside.refl (a5.heap.size) v3).setCell 0 (.string ⟨#[112]⟩)).setCell 1 (.slice xa xn xc)).setCell 2 (.slice ta tn tc)
                  have HBs := Lib.hid (HBpx5x4x1x3.out.trans (hbs.below hgX HBpx5x4x1x3.out.size))
                  refine hK.out _ _ (HK.out _ HBs.out) (fun hHeld => ?_)
                  clear hK K
                  try simp only [Act.put, List.setIfInBounds_toArray]
                  have HYs := Lib.hid (HYpx5x4x1x3.out.beside hbs (by omega))
                  obtain ⟨_, _⟩ := HYs.out.cells
                  have uf0 := HYs.out.thaw 0
                  have uf1 := HYs.out.thaw 1
                  have HXs := Lib.hid (PBox.fill (nm' := ⟨#[112]⟩) (ra' := xa) (rn' := xn) (rc' := xc) (a' := ta) (n' := tn) (c' := tc) HXpx5x4x1x3.out)
                  have hbt := ((Beside.refl (wd.heap.size) (((v3.setCell ⟨a5.heap.size, 0, none⟩ (.string ⟨#[112]⟩)).setCell ⟨a5.heap.size, 1, none⟩ (.slice xa xn xc)).setCell ⟨a5.heap.size, 2, none⟩ (.slice ta tn tc))).setCell 0 (.string ⟨#[112]⟩)).setCell 1 (.slice ua un uc)
                  have HBt := Lib.hid (HBs.out.trans (hbt.below hgY HBs.out.size))
                  have HFT := Lib.hid (HTrpx5x4x1.out _ (Nat.le_trans (HBTpx5x4x1x3.out).size (Nat.le_trans hbs.size hbt.size)) (fun b h1 h2 => ((hbt.block b (Nat.lt_of_lt_of_le (Nat.lt_of_lt_of_le h2 (HBTpx5x4x1x3.out).size) hbs.size) (by omega)).trans (hbs.block b (Nat.lt_of_lt_of_le h2 (HBTpx5x4x1x3.out).size) (by omega))).trans ((HBTpx5x4x1x3.out).block b h2)))
                  have HFU := Lib.hid (HTrpx5x4x1x3.out _ (Nat.le_trans (HBUpx5x4x1x3.out).size (Nat.le_trans hbs.size hbt.size)) (fun b h1 h2 => ((hbt.block b (Nat.lt_of_lt_of_le (Nat.lt_of_lt_of_le h2 (HBUpx5x4x1x3.out).size) hbs.size) (by omega)).trans (hbs.block b (Nat.lt_of_lt_of_le h2 (HBUpx5x4x1x3.out).size) (by omega))).trans ((HBUpx5x4x1x3.out).block b h2)))
                  have HX9 := Lib.hid (HXs.out.beside hbt (by omega))
                  have HY9 := Lib.hid (LBox.fill8 (nm' := ⟨#[112]⟩) (a' := ua) (n' := un) (c' := uc) HYs.out)
                  clear hbs hbt vf0 vf1 vf2
                  refine wpAnyH_done (by kernel_rfl) ?_ _
                  unfold LastPost
                  go_simp
                  go_wp2_with fail
                  go_meet
                  exact ⟨_, _, xa, xn, xc, ta, tn, tc, ua, un, uc, rfl, rfl, HX9, HY9, HFT, HFU, Lib.hid (HG21.out.on HBt.out), Lib.hid (HL21.out.on HBt.out), Lib.hid (HT21.out.on HBt.out)⟩
        case rest =>
          obtain ⟨gs, gt, xa, xn, xc, ta, tn, tc, ua, un, uc, rfl, rfl, HXs, HYs, HPs, HUs, HGz, HLz, HTz⟩ := hcut
          obtain ⟨wz, hwz⟩ : ∃ wz : World, wz = wc := ⟨_, rfl⟩
          subst hwz
          have htn : un = tn := by rw [← HPs.out.1, ← HUs.out.1, trim_asU_len]
          subst htn
          have HK := Lib.hid (fun (W : World) (hW : Below wz.heap.size wz W) => show ((W.cell? ⟨g5, 0, none⟩ = some (.string ⟨#[112]⟩) ∧ W.cell? ⟨g5, 1, none⟩ = some (.slice ra 2 rc) ∧ W.cell? ⟨g5, 2, none⟩ = some (.slice sa ln sc)) ∧ W.cell? ⟨g6, 0, none⟩ = some (.string ⟨#[112]⟩) ∧ W.cell? ⟨g6, 1, none⟩ = some (.slice la ln lc)) ∧ W.cell? ⟨gs, 2, none⟩ = some (.slice ta un tc) ∧ W.cell? ⟨gt, 1, none⟩ = some (.slice ua un uc) from
            ⟨⟨(HGz.out.on hW).box.cells, (HLz.out.on hW).cells⟩, (HXs.out.on hW).cells.2.2, (HYs.out.on hW).cells.2⟩)
          have CM := Lib.hid (fun (W : World) (hW : Below wz.heap.size wz W) => (ownMay_any ⟨#[112]⟩ la ln lc (ps.map asU) W W.heap.size (Nat.le_refl _) (HTz.out.on hW)).mono fun e w2 h => (⟨by rw [h.1, HLOC.out], below_on hW h.2⟩ : e = .returned (.bool true) ∧ Below wz.heap.size wz w2))
          have CR1 := Lib.hid (fun (W : World) (hW : Below wz.heap.size wz W) => (PIn.reach (rc := rc) (c := sc) (HGz.out.pin.on hW)).mono fun e w2 h => (⟨by
            obtain ⟨v, e1, e2⟩ := h.1
            unfold reachQ at e2
            rw [HOK.out, if_pos rfl] at e2
            obtain ⟨ya, yc, rfl, _, _, _, hnu⟩ := e2.sees
            exact ⟨ya, yc, e1, hnu⟩, below_on hW h.2⟩ : (∃ ya yc, e = .returned (.slice ya (rowI (reachP ps)).length yc) ∧ Nums w2 w2.heap.size ya (rowI (reachP ps)).length (rowI (reachP ps))) ∧ Below wz.heap.size wz w2))
          have CR2 := Lib.hid (fun (W : World) (hW : Below wz.heap.size wz W) => (ownReach_any ⟨#[112]⟩ la ln lc (ps.map asU) W W.heap.size (Nat.le_refl _) (HTz.out.on hW)).mono fun e w2 h => (⟨by
            obtain ⟨v, e1, e2⟩ := h.1
            unfold reachL at e2
            rw [HLOC.out, if_pos rfl, reach_asU] at e2
            obtain ⟨ya, yc, rfl, _, _, _, hnu⟩ := e2.sees
            exact ⟨ya, yc, e1, hnu⟩, below_on hW h.2, h.2⟩ : (∃ ya yc, e = .returned (.slice ya (rowI (reachP ps)).length yc) ∧ Nums w2 w2.heap.size ya (rowI (reachP ps)).length (rowI (reachP ps))) ∧ Below wz.heap.size wz w2 ∧ Below W.heap.size W w2))
          have CI := Lib.hid (fun (ya za : Option Addr) (n yc zc : Nat) (W : World) (hy : Nums W W.heap.size ya n (rowI (reachP ps))) (hz : Nums W W.heap.size za n (rowI (reachP ps))) (hW : Below wz.heap.size wz W) => (sameInts_any ya za n n yc zc _ _ W W.heap.size hy hz).mono fun e w2 h => (⟨by rw [h.1, decide_eq_true rfl], by obtain ⟨q, hq⟩ := h.2; rw [hq]; exact bel_drewN hW q⟩ : e = .returned (.bool true) ∧ Below wz.heap.size wz w2))
          have H0 := Lib.hid (show Below wz.heap.size wz wz.drew from bel_drewN (Below.refl _ _) 1)
          obtain ⟨rl, hrl⟩ : ∃ rl, rl = (rowI (reachP ps)).length := ⟨_, rfl⟩
          rw [← hrl] at CR1 CR2
          have m1 : ((2 : Int) != 2) = false := by decide
          have m2 : (pp != pp) = false := by simp
          have m3 : (pb != pb) = false := by cases pb <;> rfl
          have m4 : ((un : Int) != (un : Int)) = false := by simp
          obtain ⟨⟨⟨_, _, _⟩, _, _⟩, _, _⟩ := HK.out _ (Below.refl _ _)
          clear hrl
          go_upto_region 23 with fail
          go_region_held3 (fun W => ((W.cell? ⟨g5, 0, none⟩ = some (.string ⟨#[112]⟩) ∧ W.cell? ⟨g5, 1, none⟩ = some (.slice ra 2 rc) ∧ W.cell? ⟨g5, 2, none⟩ = some (.slice sa ln sc)) ∧ W.cell? ⟨g6, 0, none⟩ = some (.string ⟨#[112]⟩) ∧ W.cell? ⟨g6, 1, none⟩ = some (.slice la ln lc)) ∧ W.cell? ⟨gs, 2, none⟩ = some (.slice ta un tc) ∧ W.cell? ⟨gt, 1, none⟩ = some (.slice ua un uc))
            (first | exact HK.out _ H0.out | exact HK.out _ H1.out | exact HK.out _ H2.out | exact HK.out _ H3.out | exact HK.out _ H4.out)
            (first
            | (go_at_call 11; (with_reducible refine (CM.out _ H0.out).mono ?_)
               rintro e v1 ⟨rfl, h1⟩
               have H1 := Lib.hid h1
               clear h1)
            | (go_at_call 13; (with_reducible refine (CR1.out _ H1.out).mono ?_)
               rintro e v2 ⟨⟨ya, yc, rfl, hy⟩, h2⟩
               have H2 := Lib.hid h2
               have HY := Lib.hid hy
               clear h2 hy)
            | (go_at_call 14; (with_reducible refine (CR2.out _ H2.out).mono ?_)
               rintro e v3 ⟨⟨za, zc, rfl, hz⟩, h3, h3b⟩
               have H3 := Lib.hid h3
               have HZ := Lib.hid hz
               have HYZ := Lib.hid (HY.out.on h3b)
               clear h3 hz h3b)
            | (go_at_call 12; (with_reducible refine (CI.out ya za rl yc zc _ HYZ.out HZ.out H3.out).mono ?_)
               rintro e v4 ⟨rfl, h4⟩
               have H4 := Lib.hid h4
               clear h4)
            | fail)
          obtain ⟨⟨⟨_, _, _⟩, _, _⟩, s2, t1⟩ := HK.out _ H4.out
          have hun : un ≤ 9 := by
            have h1 := HPs.out.1
            rw [trimP_len] at h1
            have h2 := reach_few (prot_loc HOK.out)
            rw [List.length_map] at h2
            unfold reachP at h1
            have := HLEN.out
            omega
          have HP4 := Lib.hid (HPs.out.on H4.out)
          have HU4 := Lib.hid (HUs.out.on H4.out)
          have HG4 := Lib.hid (HGz.out.on H4.out)
          go_wp2_with fail
          go_loopw [18] (fun i wr => ∃ k : Nat, k ≤ un ∧ i = .int .i64 k ∧ ∃ q, wr = v4.drewN q) (fun i _ => un - (intOf i).toNat)
          case atStart => exact ⟨0, Nat.zero_le _, rfl, 0, rfl⟩
          case round =>
            obtain ⟨k, hk, rfl, q, rfl⟩ := hrel
            by_cases hlt : k < un
            · obtain ⟨b1, o1, q1, s1, aa, an, ac, xl, rfl, _, hx, ⟨x0, x1, x2⟩, _, _, hxa⟩ := HP4.out.at_ hlt
              obtain ⟨b2, o2, kd', s', aa', an', ac', yl, rfl, _, hy, ⟨y0, y1, y2⟩, _, hya⟩ := HU4.out.at_ hlt
              have hxy : xl = yl := trim_asU hx hy
              have CS := Lib.hid (fun p r => (tuSame_any aa aa' an an' ac ac' xl yl (v4.drewN (p + r)) v4.heap.size (hxa.keep fun _ _ => rfl) (hya.keep fun _ _ => rfl)).mono fun e w2 h => (⟨by rw [h.1, sameAs_iff.2 hxy], drewN_part h.2⟩ : e = .returned (.bool true) ∧ ∃ m, w2 = v4.drewN (p + m)))
              have i1 : (k : Int) < (un : Int) := by omega
              have i2 : (0 : Int) ≤ (k : Int) := by omega
              clear hx hy hxa hya x0 x1 y0 y1 hxy
              go_wp2_with fail
              go_quiet ((go_at_call 15; exact CS.out _ _))
              go_wp2_with fail
              go_roundw
              case rel => exact ⟨k + 1, by omega, by go_num, q + nq, rfl⟩
              case measure => simp [intOf]; omega
            · have d3 : decide ((k : Int) < (un : Int)) = false := decide_eq_false (by omega)
              have CO := Lib.hid ((once_any ra 2 rc (rolesL 2) (v4.drewN q) (HG4.out.pin.roles.keep fun _ _ => rfl)).mono fun e w2 h => (⟨by rw [h.1]; exact congrArg (fun b => Ending.returned (.bool b)) (show once (rolesL 2) = true by decide), h.2⟩ : e = .returned (.bool true) ∧ Below v4.heap.size (v4.drewN q) w2))
              go_wp2_with (first
                | (go_at_call 16; (with_reducible refine CO.out.mono ?_)
                   rintro e w9 ⟨rfl, h9⟩
                   have H9 := Lib.hid h9
                   clear h9)
                | fail)
              go_ret
              exact ⟨rfl, HG4.out.bel.trans ((bel_drewN (Below.refl v4.heap.size v4) q).trans H9.out |>.mono HG4.out.bel.size)⟩
end Go.Proofs.Ytpifkgkhdelaeaa
