/- Contract of stage's steps. -/
import Derived.Test.YtgefhgcpnfbigaaStLow
import Derived.BigQuiet
import Derived.Test.YtgefhgcpnfbigaaBkMake
import Derived.Test.YtgefhgcpnfbigaaTuLast
import Derived.Deep.CutBlock
import Derived.Deep.DeepCutAuto
import Derived.Laws.StructEq
import Derived.Test.YtgefhgcpnfbigaaBkFirst
namespace Go.Proofs.Ytgefhgcpnfbigaa
open Go.RowKit Go.Sort

def stepsTo (b : BookL) (rs : List Str) (s : StgL) (k : Nat) : List StepL := (List.range k).flatMap (roleSt b rs s)
theorem stepsTo_succ (b : BookL) (rs : List Str) (s : StgL) (k : Nat) : stepsTo b rs s (k + 1) = stepsTo b rs s k ++ roleSt b rs s k := by
  unfold stepsTo
  rw [List.range_succ, List.flatMap_append, List.flatMap_cons, List.flatMap_nil, List.append_nil]
theorem SpOwn.drewN13 {w : World} {base : Nat} {v : Value} {l : List StepL} (h : SpOwn w base v l) (q : Nat) : SpOwn (w.drewN q) base v l := h
theorem armsT_few13 {ns : List NodeL} (h : NodesOk ns) {x : Nat} {a : NodeL} (ha : ns[x]? = some a) : a.arms.length ≤ 6 := by
  rcases nodeB_arms (h.2 x a ha) with h0 | h1
  · rw [h0]; exact Nat.zero_le _
  · unfold edgesB at h1
    simp only [Bool.and_eq_true, decide_eq_true_eq] at h1
    exact h1.2
theorem roleSt_len {b : BookL} {rs : List Str} {s : StgL} (h : StgOk b rs s) (r : Nat) : (roleSt b rs s r).length ≤ 6 := by
  unfold roleSt
  cases hn : b.nodes[(s.at_.getD r 0).toNat]? with
  | none => exact Nat.zero_le _
  | some n =>
    show (nodeSt rs s.mail r n).length ≤ 6
    have h6 := armsT_few13 h.book hn
    unfold nodeSt
    cases queueS rs r n.kind n.peer with
    | none => exact Nat.zero_le _
    | some q =>
      show (armsS _ _ _ _ _).length ≤ 6
      unfold armsS
      rw [List.length_map]
      exact Nat.le_trans (List.length_filter_le _ _) h6
theorem stepsTo_len {b : BookL} {rs : List Str} {s : StgL} (h : StgOk b rs s) : ∀ k, (stepsTo b rs s k).length ≤ 6 * k
  | 0 => by unfold stepsTo; simp
  | k + 1 => by
    rw [stepsTo_succ, List.length_append]
    have := stepsTo_len h k
    have := roleSt_len h k
    omega
theorem armsS_take {kind : Int} {role q : Nat} {mq : List Str} {l : List EdgeL} {j : Nat} {e : EdgeL} (h : l[j]? = some e) : armsS kind role q mq (l.take (j + 1)) = armsS kind role q mq (l.take j) ++ if passS kind mq e.label = true then [armS kind role q e] else [] := by
  unfold armsS
  rw [List.take_add_one, h, Option.toList_some, List.filter_append, List.map_append]
  congr 1
  by_cases hp : passS kind mq e.label = true
  · rw [if_pos hp]; simp [List.filter, hp]
  · rw [if_neg hp]; simp [List.filter, hp]
set_option maxHeartbeats 16000000 in
set_option maxRecDepth 20000 in
theorem steps_any (na : Option Addr) (nn nc : Nat) (sa : Option Addr) (sn sc : Nat) (ra : Option Addr) (rn rc : Nat) (pa : Option Addr) (pn pc : Nat) (a : Option Addr) (n c : Nat) (ma : Option Addr) (mn mc : Nat) (b : BookL) (rs : List Str) (s : StgL) (w : World) (hok : StgOk b rs s) (h : StArg w na nn sa sn ra rn pa pn a n ma mn b rs s) :
    Calls Try.prog 65 #[bkV na nn nc sa sn sc ra rn rc, .slice pa pn pc, stgV a n c ma mn mc] w fun e w' => (∃ v, e = .returned v ∧ SpOwn w' w.heap.size v (stepsS b rs s)) ∧ Below w.heap.size w w' := by
  have hF := StFr.start h nc sc rc c mc
  have HOK := Lib.hid hok
  have hnz := h.bk.nodes.2.1
  have hnl : n = rs.length := by rw [← h.st.at_.1]; exact hok.len
  have hml : mn = rs.length * rs.length := by rw [← h.st.mail.1]; exact hok.many
  have hpl : pn = rs.length := h.rs.1.symm
  have h5 : pn ≤ 5 := by rw [hpl]; exact hok.few
  have hn5 : n ≤ 5 := by omega
  have hpn : n ≤ pn := by omega
  have HNR := Lib.hid hnl
  have HPR := Lib.hid hpl
  have hm25 : mn ≤ 25 := by rw [hml]; exact Nat.mul_le_mul hok.few hok.few
  have HST := Lib.hid (show stepsS b rs s = stepsTo b rs s n by unfold stepsS stepsTo; rw [h.st.at_.1])
  have HML := Lib.hid hml
  clear h hok hml hnl hpl
  generalize hW : (w.alloc (.cells #[.slice na nn nc, .slice sa sn sc, .slice ra rn rc] 26)).alloc (.cells #[.slice a n c, .slice ma mn mc] 38) = W1 at hF
  have hz1 : w.heap.size + 2 ≤ W1.heap.size := by rw [← hW]; simp
  have HF := Lib.hid hF
  obtain ⟨⟨b0, b1, b2⟩, s0, s1⟩ := hF.cells
  clear hF
  subst hW
  go_enter Try.func65, Try.ntmps65
  go_wp2_with fail
  clear b0 b1 b2 s0 s1
  generalize ((w.alloc (.cells #[.slice na nn nc, .slice sa sn sc, .slice ra rn rc] 26)).alloc (.cells #[.slice a n c, .slice ma mn mc] 38)) = W1 at hz1 HF ⊢
  go_loopw [7, 18] (fun o i wr => ∃ (k : Nat) (v : Value), k ≤ n ∧ i = .int .i64 k ∧ v = o ∧ Hid (SpOwn wr W1.heap.size v (stepsTo b rs s k)) ∧ Hid (Below W1.heap.size W1 wr)) (fun _ i _ => n - (intOf i).toNat)
  case atStart => exact ⟨0, _, Nat.zero_le _, rfl, rfl, Lib.hid (SpOwn.zero _ _), Lib.hid (Below.refl _ _)⟩
  case round =>
    obtain ⟨k, v, hk, rfl, hvs, HO, HBr⟩ := hrel
    subst hvs
    have hzr := HBr.out.size
    by_cases hlt : k < n
    · have HFR := Lib.hid (HF.out.on HBr.out)
      obtain ⟨ab, ao, x, rfl, hab, hx, qa⟩ := HFR.out.arg.st.at_.at_ hlt
      obtain ⟨hx0, hx1⟩ := HOK.out.at_ x (List.mem_of_getElem? hx)
      obtain ⟨i, rfl⟩ : ∃ i : Nat, x = (i : Int) := ⟨x.toNat, by omega⟩
      rw [Int.toNat_natCast] at hx1
      have hxn : i < nn := by rw [← HFR.out.arg.bk.nodes.1]; exact hx1
      obtain ⟨nb, no, kd, u, aa, an, ac, al, rfl, hnb, hnode, ⟨p0, p1, p2⟩, hu, hE⟩ := HF.out.arg.bk.nodes.at_ hxn
      have q0 := (HBr.out.cell (p := ⟨nb, no + i * 3, none⟩) (by show nb < _; omega)).trans p0
      have q1 := (HBr.out.cell (p := ⟨nb, no + i * 3 + 1, none⟩) (by show nb < _; omega)).trans p1
      have q2 := (HBr.out.cell (p := ⟨nb, no + i * 3 + 2, none⟩) (by show nb < _; omega)).trans p2
      have hrole : roleSt b rs s k = nodeSt rs s.mail k ⟨kd, u.toList, al⟩ := by
        unfold roleSt
        rw [List.getD_eq_getElem?_getD, hx]
        show (match b.nodes[((i : Nat) : Int).toNat]? with | none => [] | some n => nodeSt rs s.mail k n) = _
        rw [Int.toNat_natCast, hnode]
      have hal6 : al.length ≤ 6 := armsT_few13 HOK.out.book hnode
      have hel := hE.1
      have HNX := Lib.hid (stepsTo_succ b rs s k)
      have HJL := Lib.hid (stepsTo_len HOK.out k)
      have i1 : (k : Int) < (n : Int) := by omega
      have i2 : (0 : Int) ≤ (k : Int) := by omega
      have i3 : (i : Int) < (nn : Int) := by omega
      have i4 : (0 : Int) ≤ (i : Int) := by omega
      obtain ⟨⟨b0, b1, b2⟩, s0, s1⟩ := HFR.out.cells
      have HBA := Lib.hid (tu1 wr (.cells #[.int .i64 kd, .string u, .slice aa an ac] 62))
      have HNB := Lib.hid (show NBox (wr.alloc (.cells #[.int .i64 kd, .string u, .slice aa an ac] 62)) wr.heap.size kd u aa an ac from heap_alloc_new wr _)
      have HFB := Lib.hid (HFR.out.on HBA.out)
      have CQ := Lib.hid (queueOf_any pa pn pc rs k kd u aa an ac _ h5 (by omega) HFB.out.arg.rs)
      have HEW := Lib.hid hE
      have HOB := Lib.hid (HO.out.kept (HBA.out))
      have HBW := Lib.hid (HBr.out.trans (HBA.out.mono hzr))
      have hzb : wr.heap.size + 1 ≤ (wr.alloc (.cells #[.int .i64 kd, .string u, .slice aa an ac] 62)).heap.size := by simp
      clear hnode hE hx hx0 hx1 p0 p1 p2
      go_upto_region 6 with fail
      obtain ⟨g, hg⟩ : ∃ g, g = wr.heap.size := ⟨_, rfl⟩
      have hgz : W1.heap.size ≤ g := by omega
      rw [← hg] at HNB HBA hzb ⊢
      clear hg
      generalize wr.alloc (.cells #[.int .i64 kd, .string u, .slice aa an ac] 62) = wb at HBA HNB HFB CQ HOB HBW hzb ⊢
      clear q0 q1 q2 qa
      obtain ⟨⟨c0, c1, c2⟩, d0, d1⟩ := HFB.out.cells
      obtain ⟨n0, n1, n2⟩ := HNB.out.cells
      cases hq : queueS rs k kd u.toList with
      | none =>
        rw [hq] at CQ
        simp only [queueR] at CQ
        have HRO := Lib.hid (show roleSt b rs s k = [] by rw [hrole]; unfold nodeSt; rw [hq])
        clear hrole hq
        go_wp2_with (first
          | (go_at_call 84; (with_reducible refine CQ.out.mono ?_)
             rintro e w2 ⟨rfl, hb2⟩
             have HB2 := Lib.hid hb2
             clear hb2)
          | fail)
        go_roundw
        case rel => exact ⟨k + 1, _, by omega, by go_num, rfl, Lib.hid (by rw [HNX.out, HRO.out, List.append_nil]; exact HOB.out.kept HB2.out), Lib.hid (HBW.out.trans (HB2.out.mono (by omega)))⟩
        case measure => simp [intOf]; omega
      | some q =>
        rw [hq] at CQ
        simp only [queueR] at CQ
        have hqm : q < mn := by
          obtain ⟨p, _, hp, _, hw⟩ := queueS_some hq
          rw [HML.out]
          rcases hw with ⟨_, rfl⟩ | ⟨_, rfl⟩
          · exact slot_lt (by have := HNR.out; omega) hp
          · exact slot_lt hp (by have := HNR.out; omega)
        obtain ⟨mb, mo, qa', qn, qc, ql, rfl, hmb, hql, qm, hqu⟩ := HF.out.arg.st.mail.at_ hqm
        have hq64 := HOK.out.room ql (List.mem_of_getElem? hql)
        have HQS := Lib.hid (hqu.2.2 (by have := hqu.1; omega))
        have HRO := Lib.hid (show roleSt b rs s k = armsS kd k q ql al by
          rw [hrole]
          unfold nodeSt
          dsimp only
          rw [hq]
          dsimp only
          rw [List.getD_eq_getElem?_getD, hql]
          rfl)
        have HQM := Lib.hid qm
        have j3 : (q : Int) < (mn : Int) := by omega
        have j4 : (0 : Int) ≤ (q : Int) := by omega
        clear hrole hq hqu hql qm
        go_wp2_with (first
          | (go_at_call 84; (with_reducible refine CQ.out.mono ?_)
             rintro e w2 ⟨rfl, hb2⟩
             have HB2 := Lib.hid hb2
             have HN2 := Lib.hid (show NBox w2 g kd u aa an ac from (hb2.block _ (by omega)).trans HNB.out)
             obtain ⟨m0, m1, m2⟩ := HN2.out.cells
             have hz2 := hb2.size
             clear hb2)
          | fail)
        clear m0 m1 m2 n0 n1 n2 c0 c1 c2 d0 d1
        obtain ⟨J, hJ⟩ : ∃ J, J = stepsTo b rs s k := ⟨_, rfl⟩
        rw [← hJ] at HNX HJL HOB
        clear hJ HO
        have HO2 := Lib.hid (HOB.out.kept HB2.out)
        go_loopw [7, 40] (fun o2 i2 wt => ∃ (j : Nat) (v2 : Value), j ≤ an ∧ i2 = .int .i64 j ∧ v2 = o2 ∧ Hid (SpOwn wt W1.heap.size v2 (J ++ armsS kd k q ql (al.take j))) ∧ Hid (NBox wt g kd u aa an ac) ∧ Hid (Below W1.heap.size W1 wt)) (fun _ i2 _ => an - (intOf i2).toNat)
        case atStart => exact ⟨0, _, Nat.zero_le _, rfl, rfl, Lib.hid (by rw [List.take_zero]; show SpOwn _ _ _ (J ++ []); rw [List.append_nil]; exact HO2.out), HN2, Lib.hid (HBW.out.trans (HB2.out.mono (by omega)))⟩
        case round =>
          clear HO2 HN2 HOB
          obtain ⟨j, v2, hj, rfl, hvs, HO, HN, HBt⟩ := hrel
          subst hvs
          have hzt := HBt.out.size
          have HFT := Lib.hid (HF.out.on HBt.out)
          obtain ⟨n0, n1, n2⟩ := HN.out.cells
          have hglt := (Array.getElem?_eq_some_iff.1 HN.out).1
          by_cases hlt2 : j < an
          · obtain ⟨eb, eo, es, sk, ta, nx, rfl, heb, hex, ⟨r0, r1, r2, r3⟩, hes⟩ := (HEW.out.below HBt.out).at_ hlt2
            have j1 : (j : Int) < (an : Int) := by omega
            have j2 : (0 : Int) ≤ (j : Int) := by omega
            have HT := Lib.hid (armsS_take (kind := kd) (role := k) (q := q) (mq := ql) hex)
            have HES := Lib.hid hes
            have HLL := Lib.hid (show (J ++ armsS kd k q ql (al.take j)).length ≤ 100 by
              have h1 := HJL.out
              have h2 : (armsS kd k q ql (al.take j)).length ≤ (al.take j).length := by
                unfold armsS
                rw [List.length_map]
                exact List.length_filter_le _ _
              rw [List.length_take] at h2
              rw [List.length_append]
              omega)
            have HEB := Lib.hid (show EBox (wr.alloc (.cells #[.string es, .int .i64 sk, .int .i64 ta, .int .i64 nx] 82)) wr.heap.size es sk ta nx from heap_alloc_new wr _)
            have HOE := Lib.hid (HO.out.kept (tu1 wr (.cells #[.string es, .int .i64 sk, .int .i64 ta, .int .i64 nx] 82)))
            have HNE := Lib.hid (show NBox (wr.alloc (.cells #[.string es, .int .i64 sk, .int .i64 ta, .int .i64 nx] 82)) g kd u (some ⟨eb, eo, none⟩) an ac from ((tu1 wr _).block g hglt).trans HN.out)
            have HBE := Lib.hid (HBt.out.alloc hzt (.cells #[.string es, .int .i64 sk, .int .i64 ta, .int .i64 nx] 82))
            clear n0 n1 n2
            obtain ⟨n0, n1, n2⟩ := HN.out.cells
            clear hex
            go_upto_region 11 with fail
            generalize hge : wr.heap.size = ge at HEB ⊢
            generalize wr.alloc (.cells #[.string es, .int .i64 sk, .int .i64 ta, .int .i64 nx] 82) = we at HEB HOE HNE HBE ⊢
            clear r0 r1 r2 r3 n0 n1 n2 hge hglt hzt HFT HN HO HBt
            obtain ⟨m0, m1, m2⟩ := HNE.out.cells
            obtain ⟨e0, e1, e2, e3⟩ := HEB.out.cells
            have HFE := Lib.hid (HF.out.on HBE.out)
            obtain ⟨_, _, d1⟩ := HFE.out.cells
            have qm := (HBE.out.cell (p := ⟨mb, mo + q, none⟩) (by show mb < _; omega)).trans HQM.out
            have CP := Lib.hid (fun z => passes_any kd qa' qn qc ql es (we.drewN z) W1.heap.size (HQS.out.below (bel_drewN HBE.out z)))
            cases hp : passS kd ql es.toList
            · rw [hp] at CP
              have hT := HT.out
              rw [if_neg (by dsimp only; rw [hp]; decide), List.append_nil] at hT
              have HT2 := Lib.hid hT
              clear hT HT hp
              go_quiet (first | with_reducible exact quiet_at (CP.out _) | fail)
              go_wp2_with fail
              go_roundw
              case rel => exact ⟨j + 1, _, by omega, by go_num, rfl, Lib.hid (by rw [HT2.out]; exact HOE.out.drewN13 _), (show NBox (we.drewN _) g kd u _ an ac from HNE.out), Lib.hid (bel_drewN HBE.out _)⟩
              case measure => simp [intOf]; omega
            · rw [hp] at CP
              have hT := HT.out
              rw [if_pos (by dsimp only; exact hp)] at hT
              have HT2 := Lib.hid hT
              clear hT HT hp
              go_quiet (first | with_reducible exact quiet_at (CP.out _) | fail)
              go_wp2_with (first
                | (at_builtin
                   refine wpList_append_SpR rfl (.tmp 54) (.tmp 65) rfl W1.heap.size _ _ ⟨kd, (k : Int), es, q, nx⟩ rfl rfl rfl rfl (HOE.out.drewN13 _) HES.out (by have := HBE.out.size; simpa using this) (by have := HLL.out; omega) ?_
                   intro v3 w3 ho3 hb3 hk3
                   have HO3 := Lib.hid ho3
                   have HB3 := Lib.hid ((bel_drewN HBE.out _).trans hb3)
                   have HN3 := Lib.hid (show NBox w3 g kd u (some ⟨eb, eo, none⟩) an ac from (hk3.2 g (Array.getElem?_eq_some_iff.1 HNE.out).1 (HOE.out.other HNE.out (by decide))).trans HNE.out)
                   clear ho3 hb3 hk3)
                | fail)
              go_roundw
              case rel => exact ⟨j + 1, _, by omega, by go_num, rfl, Lib.hid (by rw [HT2.out, ← List.append_assoc]; exact HO3.out), HN3, HB3⟩
              case measure => simp [intOf]; omega
          · obtain rfl : j = an := by omega
            have d3 : decide ((j : Int) < (j : Int)) = false := decide_eq_false (by omega)
            have HZ := Lib.hid (show J ++ armsS kd k q ql (al.take j) = stepsTo b rs s (k + 1) by rw [HNX.out, HRO.out, List.take_of_length_le (by omega)])
            go_wp2_with fail
            go_roundw
            case rel => exact ⟨k + 1, _, by omega, by go_num, rfl, Lib.hid (by rw [← HZ.out]; exact HO.out), HBt⟩
            case measure => simp [intOf]; omega
    · obtain rfl : k = n := by omega
      have d3 : decide ((k : Int) < (k : Int)) = false := decide_eq_false (by omega)
      have HO2 := Lib.hid (HO.out.low (base' := w.heap.size) (by omega))
      go_wp2_with fail
      go_ret
      exact ⟨⟨_, rfl, by rw [HST.out]; exact HO2.out⟩, (HF.out.on HBr.out).below⟩
end Go.Proofs.Ytgefhgcpnfbigaa

/- Contracts of slices.Clone at numbers, at strings and at queues; a copy of a stage as it is made. -/
namespace Go.Proofs.Ytgefhgcpnfbigaa
open Go.RowKit Go.Sort

theorem rowOther13 {w : World} {base : Nat} {e0 : TypeId} {size : Nat} {v : Value} {n : Nat} {xs : List Value} (h : w.ownsRow base e0 size v n xs) {g : Nat} {cs : Array Value} {e : TypeId} {fr : Nat × Nat} (hg : w.heap[g]? = some (.cells cs e fr)) (he : e ≠ e0) : v.ownBlock ≠ some g := fun e1 => by
  rcases h.2 with ⟨rfl, _⟩ | ⟨b, cap, cur, rfl, _, hh, _⟩
  · cases e1
  · obtain rfl := Option.some.inj e1
    rw [hh] at hg
    exact he (Obj.cells.inj (Option.some.inj hg)).2.1.symm
theorem rowApart13 {w : World} {b1 b2 : Nat} {e1 e2 : TypeId} {z1 z2 : Nat} {v1 v2 : Value} {n1 n2 : Nat} {xs1 xs2 : List Value} (h1 : w.ownsRow b1 e1 z1 v1 n1 xs1) (h2 : w.ownsRow b2 e2 z2 v2 n2 xs2) (he : e1 ≠ e2) {b : Nat} (hb : v1.ownBlock = some b) : v2.ownBlock ≠ some b := by
  rcases h1.2 with ⟨rfl, _⟩ | ⟨g, cap, cur, rfl, _, hh, _⟩
  · cases hb
  · obtain rfl := Option.some.inj hb
    exact rowOther13 h2 hh he
theorem rowStay13 {w w' : World} {base : Nat} {e : TypeId} {size : Nat} {v : Value} {n : Nat} {xs : List Value} (h : w.ownsRow base e size v n xs) (hb : ∀ b, v.ownBlock = some b → w'.heap[b]? = w.heap[b]?) : w'.ownsRow base e size v n xs := by
  rcases h.2 with h0 | ⟨g, cap, cur, rfl, hbase, hh, h1, h2, h3, h4⟩
  · exact ⟨h.1, .inl h0⟩
  · exact ⟨h.1, .inr ⟨g, cap, cur, rfl, hbase, (hb g rfl).trans hh, h1, h2, h3, h4⟩⟩
theorem rowLow13 {w : World} {base base' : Nat} {e : TypeId} {size : Nat} {v : Value} {n : Nat} {xs : List Value} (h : w.ownsRow base e size v n xs) (hb : base' ≤ base) : w.ownsRow base' e size v n xs := by
  rcases h.2 with h0 | ⟨g, cap, cur, rfl, hbase, hh, h1, h2, h3, h4⟩
  · exact ⟨h.1, .inl h0⟩
  · exact ⟨h.1, .inr ⟨g, cap, cur, rfl, Nat.le_trans hb hbase, hh, h1, h2, h3, h4⟩⟩
theorem rowKept13 {w w' : World} {base : Nat} {e : TypeId} {size : Nat} {v : Value} {n : Nat} {xs : List Value} (h : w.ownsRow base e size v n xs) (hb : Below w.heap.size w w') : w'.ownsRow base e size v n xs := rowStay13 h fun b e1 => hb.block b (h.lt b e1).2
theorem rowCell13 {w : World} {base : Nat} {e : TypeId} {g n c : Nat} {xs : List Value} (h : w.ownsRow base e 1 (.slice (some ⟨g, 0, none⟩) n c) n xs) {j : Nat} {x : Value} (hj : xs[j]? = some x) : w.cell? ⟨g, j, none⟩ = some x := by
  rcases h.2 with ⟨h0, _⟩ | ⟨g', cap, cur, hv, _, hh, h1, h2, h3, h4⟩
  · cases h0
  · obtain ⟨e1, _, _⟩ := Value.slice.inj hv
    obtain ⟨rfl, _, _⟩ := Addr.mk.inj (Option.some.inj e1)
    have hl := h.1
    have hjl := (List.getElem?_eq_some_iff.1 hj).1
    rw [cell_of_row w g _ cur e (0, 0) hh]
    have : (cur.toList.take (n * 1))[j]? = some x := by rw [h4]; exact hj
    rw [List.getElem?_take, if_pos (by omega)] at this
    rw [← Array.getElem?_toList, this]
/-- A queue as it is laid. -/
structure QR where
  a : Option Addr
  n : Nat
  c : Nat
def encQR (r : QR) : Value := .slice r.a r.n r.c
def QOwn13 (w : World) (base : Nat) (r : QR) (l : List Str) : Prop := w.ownsRow base 9 1 (encQR r) r.n (l.map encStr) ∧ l.length = r.n ∧ r.n ≤ r.c ∧ r.n * 16 ≤ 140737488351232 ∧ ∀ s ∈ l, s.length ≤ maxLen
theorem QOwn13.stay {w w' : World} {base : Nat} {r : QR} {l : List Str} (h : QOwn13 w base r l) (hb : ∀ b, (encQR r).ownBlock = some b → w'.heap[b]? = w.heap[b]?) : QOwn13 w' base r l := ⟨rowStay13 h.1 hb, h.2⟩
theorem QOwn13.strs {w : World} {base : Nat} {r : QR} {l : List Str} (h : QOwn13 w base r l) : Strs w w.heap.size r.a r.n l := by
  obtain ⟨a, c, hv, hs, _⟩ := Strs.of_own h.1 h.2.2.2.1 h.2.2.2.2
  obtain ⟨e1, _, _⟩ := Value.slice.inj (show Value.slice r.a r.n r.c = Value.slice a r.n c from hv)
  rw [e1]
  exact hs
set_option maxHeartbeats 4000000 in
theorem cloneI13_any (a : Option Addr) (n c : Nat) (l : List Int) (w : World) (bound : Nat) (hb : bound ≤ w.heap.size) (h : Nums w bound a n l) (hn : n ≤ 1000) :
    Calls Try.prog 64 #[.slice a n c] w fun e w' => (∃ xa xc, e = .returned (.slice xa n xc) ∧ IInts w' w.heap.size (.slice xa n xc) l) ∧ Below w.heap.size w w' := by
  have HN := Lib.hid h
  cases a with
  | none =>
    have h0 : n = 0 := by
      rcases Nat.eq_zero_or_pos n with h0 | h0
      · exact h0
      · obtain ⟨b, off, e, _⟩ := h.2.2 h0; cases e
    subst h0
    have hss : l = [] := List.eq_nil_of_length_eq_zero h.1
    subst hss
    have hbe : ∀ W, (binOp .eql 24 (.slice none 0 c) (.slice none 0 0)).run Try.prog W = .ok (.bool true) W := fun W => by kernel_rfl
    clear h HN
    go_enter Try.func64, Try.ntmps64
    go_wp2_with fail
    go_ret
    exact ⟨⟨none, 0, rfl, IInts.zero _ _⟩, Below.refl _ _⟩
  | some ad =>
    have hown : IInts (w.alloc (.cells #[] 3)) w.heap.size (.slice (some ⟨w.heap.size, 0, none⟩) 0 0) [] :=
      ⟨rfl, .inr ⟨w.heap.size, 0, #[], rfl, Nat.le_refl _, heap_alloc_new w _, Nat.le_refl _, by unfold maxLen; omega, rfl, rfl⟩⟩
    have HO := Lib.hid hown
    have HL := Lib.hid h.1
    have hbe : ∀ W, (binOp .eql 24 (.slice (some ad) n c) (.slice none 0 0)).run Try.prog W = .ok (.bool false) W := fun W => by kernel_rfl
    clear h hown
    go_enter Try.func64, Try.ntmps64
    go_wp2_with (first
      | (at_builtin
         refine wpList_append_plus10 rfl (.tmp 5) (.tmp 6) rfl w.heap.size bound (.slice (some ⟨w.heap.size, 0, none⟩) 0 0) (some ad) n c [] l rfl rfl HO.out ((HN.out.below ((tu1 w _).mono hb))) (by simp; omega) (by simp) ?_
         intro v3 w3 own3 gr3
         obtain ⟨xa, xc, hv3, _⟩ := own3.sees
         rw [List.nil_append, HL.out] at hv3
         subst hv3
         have HS3 := Lib.hid (show IInts w3 w.heap.size (.slice xa n xc) l from own3)
         have HB3 := Lib.hid ((tu1 w (.cells #[] 3)).grown gr3 (by simp) (fun j hj => by cases hj; exact Nat.le_refl _))
         clear own3 gr3)
      | fail)
    go_ret
    exact ⟨⟨xa, xc, rfl, HS3.out⟩, HB3.out⟩
set_option maxHeartbeats 4000000 in
theorem cloneS13_any (a : Option Addr) (n c : Nat) (ss : List Str) (w : World) (bound : Nat) (hb : bound ≤ w.heap.size) (h : Strs w bound a n ss) (hn : n ≤ 1000) :
    Calls Try.prog 55 #[.slice a n c] w fun e w' => (∃ r : QR, e = .returned (encQR r) ∧ QOwn13 w' w.heap.size r ss) ∧ Below w.heap.size w w' := by
  have HN := Lib.hid h
  cases a with
  | none =>
    have h0 : n = 0 := by
      rcases Nat.eq_zero_or_pos n with h0 | h0
      · exact h0
      · obtain ⟨b, off, e, _⟩ := h.2.2.2 h0; cases e
    subst h0
    have hss : ss = [] := List.eq_nil_of_length_eq_zero h.1
    subst hss
    have hbe : ∀ W, (binOp .eql 23 (.slice none 0 c) (.slice none 0 0)).run Try.prog W = .ok (.bool true) W := fun W => by kernel_rfl
    clear h HN
    go_enter Try.func55, Try.ntmps55
    go_wp2_with fail
    go_ret
    exact ⟨⟨⟨none, 0, 0⟩, rfl, World.ownsRow_nil _ _ _ _, rfl, Nat.le_refl _, by simp, by simp⟩, Below.refl _ _⟩
  | some ad =>
    have hown : (w.alloc (.cells #[] 9)).ownsRow w.heap.size 9 1 (.slice (some ⟨w.heap.size, 0, none⟩) 0 0) 0 (([] : List Str).map encStr) :=
      ⟨rfl, .inr ⟨w.heap.size, 0, #[], rfl, Nat.le_refl _, heap_alloc_new w _, Nat.le_refl _, by unfold maxLen; omega, rfl, rfl⟩⟩
    have HO := Lib.hid hown
    have HL := Lib.hid h.1
    have hbe : ∀ W, (binOp .eql 23 (.slice (some ad) n c) (.slice none 0 0)).run Try.prog W = .ok (.bool false) W := fun W => by kernel_rfl
    clear h hown
    go_enter Try.func55, Try.ntmps55
    go_wp2_with (first
      | (at_builtin
         refine wpList_append_strs _ rfl (.tmp 5) (.tmp 6) _ rfl w.heap.size 9 Try.underlying23 info9 (.slice (some ⟨w.heap.size, 0, none⟩) 0 0) 0 [] rfl HO.out bound _ n c ss rfl (HN.out.alloc hb _) (by omega) (by simp) ?_
         intro v3 w3 own3 gr3 at3
         rw [Nat.zero_add, List.nil_append] at own3
         obtain ⟨xa, xc, hv3, _, hc3, _⟩ := Strs.of_own (n := n) (ss := ss) own3 (by omega) HN.out.max
         subst hv3
         have HS3 := Lib.hid (show QOwn13 w3 w.heap.size ⟨xa, n, xc⟩ ss from ⟨own3, HL.out, hc3, by show n * 16 ≤ _; omega, HN.out.max⟩)
         have HB3 := Lib.hid ((tu1 w (.cells #[] 9)).grown gr3 (by simp) (fun j hj => by cases hj; exact Nat.le_refl _))
         clear own3 gr3 at3 hc3)
      | fail)
    go_ret
    exact ⟨⟨⟨xa, n, xc⟩, rfl, HS3.out⟩, HB3.out⟩
theorem info_strs13 : (Try.prog.info? 23).map (fun i => (i.zero, i.size, i.bytes)) = some (some (.slice none 0 0), 1, 24) := by kernel_rfl
/-- The cells of queues that can be read. -/
theorem Mails.rows {w : World} {bound n : Nat} {a : Option Addr} {ls : List (List Str)} (h : Mails w bound a n ls) : ∃ rs : List QR, rs.length = n ∧ (0 < n → ∃ ad, a = some ad ∧ ∀ (j : Nat) (u : Value), (rs.map encQR)[j]? = some u → w.cell? (ad.add j) = some u) ∧ ∀ (j : Nat) (r : QR) (l : List Str), rs[j]? = some r → ls[j]? = some l → Queue w bound r.a r.n l := by
  rcases Nat.eq_zero_or_pos n with h0 | h0
  · subst h0
    exact ⟨[], rfl, fun h => absurd h (Nat.lt_irrefl 0), fun j r l hr => by cases hr⟩
  · obtain ⟨b, off, rfl, hb, _⟩ := h.2.2 h0
    have each : ∀ i, i < n → ∃ r : QR, w.cell? ⟨b, off + i, none⟩ = some (encQR r) ∧ ∀ l, ls[i]? = some l → Queue w bound r.a r.n l := fun i hi => by
      obtain ⟨b', off', aa, an, ac, l, e, _, hl, hc, hq⟩ := h.at_ hi
      obtain ⟨rfl, rfl, _⟩ := Addr.mk.inj (Option.some.inj e)
      exact ⟨⟨aa, an, ac⟩, hc, fun l' hl' => by obtain rfl := Option.some.inj (hl.symm.trans hl'); exact hq⟩
    haveI : Inhabited QR := ⟨⟨none, 0, 0⟩⟩
    obtain ⟨f, hf⟩ := Go.Deep.choose_lt each
    refine ⟨(List.range n).map f, by simp, fun _ => ⟨_, rfl, fun j u hu => ?_⟩, fun j r l hr hl => ?_⟩
    · rw [List.map_map, List.getElem?_map] at hu
      obtain ⟨i, hi, rfl⟩ := Option.map_eq_some_iff.1 hu
      have hj : j < n := by have := (List.getElem?_eq_some_iff.1 hi).1; simpa using this
      rw [List.getElem?_range hj] at hi
      obtain rfl := Option.some.inj hi
      rw [Go.WideShapes.add_plain]
      exact (hf j hj).1
    · rw [List.getElem?_map] at hr
      obtain ⟨i, hi, rfl⟩ := Option.map_eq_some_iff.1 hr
      have hj : j < n := by have := (List.getElem?_eq_some_iff.1 hi).1; simpa using this
      rw [List.getElem?_range hj] at hi
      obtain rfl := Option.some.inj hi
      exact (hf j hj).2 l hl
set_option maxHeartbeats 4000000 in
theorem cloneM13_any (ad : Addr) (n c : Nat) (ls : List (List Str)) (w : World) (bound : Nat) (hb : bound ≤ w.heap.size) (h : Mails w bound (some ad) n ls) (h1 : 1 ≤ n) (hn : n ≤ 1000) :
    Calls Try.prog 99 #[.slice (some ad) n c] w fun e w' => (∃ (M mc : Nat) (rs : List QR), e = .returned (.slice (some ⟨M, 0, none⟩) n mc) ∧ w'.ownsRow w.heap.size 23 1 (.slice (some ⟨M, 0, none⟩) n mc) n (rs.map encQR) ∧ rs.length = n ∧
      ∀ (j : Nat) (r : QR) (l : List Str), rs[j]? = some r → ls[j]? = some l → Queue w' bound r.a r.n l) ∧ Below w.heap.size w w' := by
  obtain ⟨rs, hrl, hrc, hrq⟩ := h.rows
  have HRL := Lib.hid hrl
  have HRQ := Lib.hid hrq
  obtain ⟨ad', e', hcells⟩ := hrc h1
  obtain rfl := Option.some.inj e'
  have HC := Lib.hid hcells
  obtain ⟨bb, off, eb, hbb, _⟩ := h.2.2 h1
  obtain rfl := Option.some.inj eb
  have HBB := Lib.hid hbb
  have hown : (w.alloc (.cells #[] 23)).ownsRow w.heap.size 23 1 (.slice (some ⟨w.heap.size, 0, none⟩) 0 0) 0 [] :=
    ⟨rfl, .inr ⟨w.heap.size, 0, #[], rfl, Nat.le_refl _, heap_alloc_new w _, Nat.le_refl _, by unfold maxLen; omega, rfl, rfl⟩⟩
  have HO := Lib.hid hown
  have hbe : ∀ W, (binOp .eql 36 (.slice (some ⟨bb, off, none⟩) n c) (.slice none 0 0)).run Try.prog W = .ok (.bool false) W := fun W => by kernel_rfl
  clear h hown hrl hrq hrc hcells hbb
  go_enter Try.func99, Try.ntmps99
  go_wp2_with (first
    | (at_builtin
       obtain ⟨i0, hi0, hzz⟩ := Option.map_eq_some_iff.1 info_strs13
       simp only [Prod.mk.injEq] at hzz
       obtain ⟨hz, hs1, hb1⟩ := hzz
       obtain ⟨v', w3, hrun, hown3, hgr, _, hat⟩ := run_append_own_at (P := Try.prog) (w.alloc (.cells #[] 23)) w.heap.size 36 36 23 i0 _ 1 24 Try.underlying36 hi0 hz hs1 hb1 rfl (by omega) _ 0 [] HO.out
         ⟨bb, off, none⟩ n c (rs.map encQR) (by rw [List.length_map, HRL.out, Nat.mul_one])
         (fun j u hu => by
           have := HC.out j u hu
           rw [Go.WideShapes.add_plain] at this ⊢
           exact (((tu1 w _).cell (p := ⟨bb, off + j, none⟩) (by show bb < _; have := HBB.out; omega)).trans this))
         (fun u hu => by obtain ⟨r, _, rfl⟩ := List.mem_map.1 hu; rfl) (by unfold maxLen; omega) (by omega) (by simp)
       rw [Nat.zero_add, List.nil_append] at hown3
       refine wpList_append_lx rfl (.tmp 5) (.tmp 6) _ rfl _ _ _ rfl rfl hrun ?_
       have HO3 := Lib.hid hown3
       have HB3 := Lib.hid ((tu1 w (.cells #[] 23)).grown hgr (by simp) (fun j hj => by cases hj; exact Nat.le_refl _))
       clear hown3 hgr hat hrun hz hs1 hb1 hi0)
    | fail)
  obtain ⟨M, mc, hv⟩ : ∃ M mc, v' = .slice (some ⟨M, 0, none⟩) n mc := by
    rcases HO3.out.2 with ⟨_, h0⟩ | ⟨g, cap, cur, hv, _⟩
    · omega
    · exact ⟨g, cap, hv⟩
  subst hv
  go_ret
  exact ⟨⟨M, mc, rfl, rs, HO3.out, HRL.out, fun j r l hr hl => (HRQ.out j r l hr hl).keep fun p hp => (HB3.out.mono hb).cell hp⟩, HB3.out⟩
end Go.Proofs.Ytgefhgcpnfbigaa

/- A stage's copy, queue by queue, and what is stored into it. -/
namespace Go.Proofs.Ytgefhgcpnfbigaa
open Go.RowKit Go.Sort

theorem SBox.fill {W : World} {g : Nat} {a ma a' ma' : Option Addr} {n c mn mc n' c' mn' mc' : Nat} (h : SBox W g a n c ma mn mc) : SBox ((W.setCell ⟨g, 0, none⟩ (.slice a' n' c')).setCell ⟨g, 1, none⟩ (.slice ma' mn' mc')) g a' n' c' ma' mn' mc' := by
  unfold SBox
  rw [heap_setCell_same _ g 1 _ _ _ (heap_setCell_same W g 0 _ _ _ h)]
  rfl
/-- From block lo on all stays. -/
def Stays13 (lo : Nat) (W W' : World) : Prop := W.heap.size ≤ W'.heap.size ∧ ∀ b, lo ≤ b → b < W.heap.size → W'.heap[b]? = W.heap[b]?
theorem Stays13.refl (lo : Nat) (W : World) : Stays13 lo W W := ⟨Nat.le_refl _, fun _ _ _ => rfl⟩
theorem Stays13.below {lo : Nat} {W W' : World} (h : Below W.heap.size W W') : Stays13 lo W W' := ⟨h.size, fun b _ h1 => h.block b h1⟩
theorem Stays13.beside {lo g : Nat} {W W' : World} (h : Beside g W W') (hg : g < lo) : Stays13 lo W W' := ⟨h.size, fun b h0 h1 => h.block b h1 (by omega)⟩
theorem Stays13.trans {lo lo' : Nat} {W W' W2 : World} (h : Stays13 lo W W') (k : Stays13 lo' W' W2) (hl : lo' ≤ lo) : Stays13 lo W W2 := ⟨Nat.le_trans h.1 k.1, fun b h0 h1 => (k.2 b (by omega) (by have := h.1; omega)).trans (h.2 b h0 h1)⟩
theorem Stays13.mono {lo lo' : Nat} {W W' : World} (h : Stays13 lo W W') (hl : lo ≤ lo') : Stays13 lo' W W' := ⟨h.1, fun b h0 h1 => h.2 b (by omega) h1⟩
abbrev mRow (W : World) (B M mn mc : Nat) (rs : List QR) : Prop := W.ownsRow B 23 1 (.slice (some ⟨M, 0, none⟩) mn mc) mn (rs.map encQR)
/-- What a copy has in common at each time. -/
structure CpLay (w0 W : World) (B : Nat) (xa : Option Addr) (xc M mc : Nat) (rs : List QR) (l : List Int) (mn : Nat) : Prop where
  at_ : IInts W B (.slice xa l.length xc) l
  row : mRow W B M mn mc rs
  len : rs.length = mn
  below : Below B w0 W
/-- The first k queues are copied. -/
structure CpSt (w0 W : World) (B g : Nat) (xa : Option Addr) (xc M mc k : Nat) (rs : List QR) (s : StgL) : Prop where
  lay : CpLay w0 W B xa xc M mc rs s.at_ s.mail.length
  box : SBox W g xa s.at_.length xc (some ⟨M, 0, none⟩) s.mail.length mc
  own : ∀ (j : Nat) (r : QR) (l : List Str), j < k → rs[j]? = some r → s.mail[j]? = some l → QOwn13 W B r l
  apart : ∀ (i j : Nat) (r r' : QR), i < k → j < k → i ≠ j → rs[i]? = some r → rs[j]? = some r' → ∀ b, (encQR r).ownBlock = some b → (encQR r').ownBlock ≠ some b
  old : ∀ (j : Nat) (r : QR) (l : List Str), k ≤ j → rs[j]? = some r → s.mail[j]? = some l → Queue W B r.a r.n l
theorem CpLay.spot {w0 W : World} {B : Nat} {xa : Option Addr} {xc M mc mn : Nat} {rs : List QR} {l : List Int} (h : CpLay w0 W B xa xc M mc rs l mn) : B ≤ M ∧ M < W.heap.size := h.row.lt M rfl
theorem mRow.put {W : World} {B M mn mc : Nat} {rs : List QR} (h : mRow W B M mn mc rs) (k : Nat) (r : QR) : mRow (W.setCell ⟨M, k, none⟩ (encQR r)) B M mn mc (rs.set k r) := by
  have := (World.ownsRow.stored h k (encQR r)).1
  unfold mRow
  rw [List.map_set]
  exact this
theorem mRow.at_ {W : World} {B M mn mc : Nat} {rs : List QR} (h : mRow W B M mn mc rs) {k : Nat} {r : QR} (hr : rs[k]? = some r) : W.cell? ⟨M, k, none⟩ = some (encQR r) := rowCell13 h (by rw [List.getElem?_map, hr]; rfl)
theorem mRow.thaw {W : World} {B M mn mc : Nat} {rs : List QR} (h : mRow W B M mn mc rs) (j : Nat) : W.frozen? ⟨M, j, none⟩ = false := World.ownsRow.frozenAt h j
theorem CpSt.begin {w0 W : World} {B g : Nat} {xa : Option Addr} {xc M mc : Nat} {rs : List QR} {s : StgL} (h : CpLay w0 W B xa xc M mc rs s.at_ s.mail.length) (hB : B ≤ W.heap.size) (hg : SBox W g none 0 0 none 0 0) (hgB : B ≤ g)
    (hold : ∀ (j : Nat) (r : QR) (l : List Str), rs[j]? = some r → s.mail[j]? = some l → Queue W B r.a r.n l) :
    CpSt w0 ((W.setCell ⟨g, 0, none⟩ (.slice xa s.at_.length xc)).setCell ⟨g, 1, none⟩ (.slice (some ⟨M, 0, none⟩) s.mail.length mc)) B g xa xc M mc 0 rs s := by
  have hset : Beside g W ((W.setCell ⟨g, 0, none⟩ (.slice xa s.at_.length xc)).setCell ⟨g, 1, none⟩ (.slice (some ⟨M, 0, none⟩) s.mail.length mc)) := ((Beside.refl g W).setCell 0 _).setCell 1 _
  have hbl := hset.below hgB hB
  refine ⟨⟨rowStay13 h.at_ fun b hb => hset.block b (h.at_.lt b hb).2 (fun e => rowOther13 h.at_ hg (by decide) (by rw [hb, e])), rowStay13 h.row fun b hb => hset.block b (h.row.lt b hb).2 (fun e => rowOther13 h.row hg (by decide) (by rw [hb, e])), h.len, h.below.trans hbl⟩, hg.fill, fun j _ _ hj => absurd hj (Nat.not_lt_zero j), fun i _ _ _ hi => absurd hi (Nat.not_lt_zero i), fun j r l _ hr hl => (hold j r l hr hl).keep fun p hp => hbl.cell hp⟩
theorem CpSt.next {w0 W : World} {B g : Nat} {xa : Option Addr} {xc M mc k : Nat} {rs : List QR} {s : StgL} (h : CpSt w0 W B g xa xc M mc k rs s) (hB : B ≤ W.heap.size) {W2 : World} (hb : Below W.heap.size W W2) {r' : QR} {l : List Str} (hl : s.mail[k]? = some l) (hq : QOwn13 W2 W.heap.size r' l) :
    CpSt w0 (W2.setCell ⟨M, k, none⟩ (encQR r')) B g xa xc M mc (k + 1) (rs.set k r') s := by
  obtain ⟨hM, hMl⟩ := h.lay.spot
  have hk : k < rs.length := by rw [h.lay.len]; exact (List.getElem?_eq_some_iff.1 hl).1
  have hset : Beside M W2 (W2.setCell ⟨M, k, none⟩ (encQR r')) := (Beside.refl M W2).setCell k _
  have hz := hb.size
  have hblk : ∀ b, b < W.heap.size → b ≠ M → (W2.setCell ⟨M, k, none⟩ (encQR r')).heap[b]? = W.heap[b]? := fun b h1 h2 => (hset.block b (by omega) h2).trans (hb.block b h1)
  have hbl : Below B W (W2.setCell ⟨M, k, none⟩ (encQR r')) := (hb.mono hB).trans (hset.below hM (by omega))
  have hgM : g ≠ M := fun e => rowOther13 h.lay.row h.box (by decide) (by rw [e]; rfl)
  have hqM : ∀ b, (encQR r').ownBlock = some b → b ≠ M := fun b e => by have := hq.1.lt b e; omega
  refine ⟨⟨rowStay13 h.lay.at_ fun b e => hblk b (h.lay.at_.lt b e).2 (fun e2 => rowApart13 h.lay.at_ h.lay.row (by decide) e (by rw [e2]; rfl)), mRow.put (rowKept13 h.lay.row hb) k r', by rw [List.length_set]; exact h.lay.len, h.lay.below.trans hbl⟩, h.box.stay (hblk g h.box.lt hgM), fun j r l' hj hr hl' => ?_, fun i j r r2 hi hj hij hr hr2 b hb1 => ?_, fun j r l' hj hr hl' => ?_⟩
  · rw [List.getElem?_set] at hr
    by_cases e : k = j
    · subst e
      rw [if_pos rfl, if_pos hk] at hr
      obtain rfl := Option.some.inj hr
      obtain rfl := Option.some.inj (hl.symm.trans hl')
      exact ⟨rowLow13 (rowStay13 hq.1 fun b e => hset.block b (hq.1.lt b e).2 (hqM b e)) hB, hq.2⟩
    · rw [if_neg e] at hr
      have h1 := h.own j r l' (by omega) hr hl'
      exact h1.stay fun b e2 => hblk b (h1.1.lt b e2).2 (fun e3 => rowApart13 h1.1 h.lay.row (by decide) e2 (by rw [e3]; rfl))
  · rw [List.getElem?_set] at hr hr2
    have hfar : ∀ (i : Nat) (r : QR), i < k → rs[i]? = some r → ∀ b, (encQR r).ownBlock = some b → b < W.heap.size := fun i r hi hr b e => by
      obtain ⟨l', hl'⟩ : ∃ l', s.mail[i]? = some l' := ⟨_, List.getElem?_eq_getElem (by rw [← h.lay.len]; exact (List.getElem?_eq_some_iff.1 hr).1)⟩
      exact ((h.own i r l' hi hr hl').1.lt b e).2
    by_cases e1 : k = i
    · rw [if_pos e1, if_pos hk] at hr
      obtain rfl := Option.some.inj hr
      rw [if_neg (by omega)] at hr2
      intro e2
      have := hfar j r2 (by omega) hr2 b e2
      have := (hq.1.lt b hb1).1
      omega
    · rw [if_neg e1] at hr
      by_cases e2 : k = j
      · rw [if_pos e2, if_pos hk] at hr2
        obtain rfl := Option.some.inj hr2
        intro e3
        have := hfar i r (by omega) hr b hb1
        have := (hq.1.lt b e3).1
        omega
      · rw [if_neg e2] at hr2
        exact h.apart i j r r2 (by omega) (by omega) hij hr hr2 b hb1
  · rw [List.getElem?_set, if_neg (by omega)] at hr
    exact (h.old j r l' (by omega) hr hl').keep fun p hp => hbl.cell hp
/-- The whole copy. -/
structure CpOk (w0 W : World) (B : Nat) (xa : Option Addr) (xc M mc : Nat) (rs : List QR) (l : List Int) (ls : List (List Str)) : Prop where
  lay : CpLay w0 W B xa xc M mc rs l ls.length
  own : ∀ (j : Nat) (r : QR) (q : List Str), rs[j]? = some r → ls[j]? = some q → QOwn13 W B r q
  apart : ∀ (i j : Nat) (r r' : QR), i ≠ j → rs[i]? = some r → rs[j]? = some r' → ∀ b, (encQR r).ownBlock = some b → (encQR r').ownBlock ≠ some b
theorem CpSt.done {w0 W : World} {B g : Nat} {xa : Option Addr} {xc M mc : Nat} {rs : List QR} {s : StgL} (h : CpSt w0 W B g xa xc M mc s.mail.length rs s) : CpOk w0 W B xa xc M mc rs s.at_ s.mail :=
  ⟨h.lay, fun j r l hr hl => h.own j r l (List.getElem?_eq_some_iff.1 hl).1 hr hl, fun i j r r' hij hr hr' => h.apart i j r r' (by rw [← h.lay.len]; exact (List.getElem?_eq_some_iff.1 hr).1) (by rw [← h.lay.len]; exact (List.getElem?_eq_some_iff.1 hr').1) hij hr hr'⟩
section
variable {w0 W : World} {B : Nat} {xa : Option Addr} {xc M mc : Nat} {rs : List QR} {l : List Int} {ls : List (List Str)}
/-- Where a block that is not the copy's own is written, the copy stays. -/
theorem CpOk.aside (h : CpOk w0 W B xa xc M mc rs l ls) {W' : World} {g : Nat} (hb : Beside g W W') (hg : g < B) {B' : Nat} {w0' : World} (hBB : B' ≤ B) (hB : Below B' w0' W') : CpOk w0' W' B' xa xc M mc rs l ls := by
  refine ⟨⟨rowLow13 (rowStay13 h.lay.at_ fun b e => hb.block b (h.lay.at_.lt b e).2 (by have := (h.lay.at_.lt b e).1; omega)) hBB, rowLow13 (rowStay13 h.lay.row fun b e => hb.block b (h.lay.row.lt b e).2 (by have := (h.lay.row.lt b e).1; omega)) hBB, h.lay.len, hB⟩, fun j r q hr hq => ?_, h.apart⟩
  have h1 := h.own j r q hr hq
  exact ⟨rowLow13 (rowStay13 h1.1 fun b e => hb.block b (h1.1.lt b e).2 (by have := (h1.1.lt b e).1; omega)) hBB, h1.2⟩
theorem CpOk.kept (h : CpOk w0 W B xa xc M mc rs l ls) {W' : World} (hb : Below W.heap.size W W') (hB : B ≤ W.heap.size) : CpOk w0 W' B xa xc M mc rs l ls := by
  refine ⟨⟨rowStay13 h.lay.at_ fun b e => hb.block b (h.lay.at_.lt b e).2, rowStay13 h.lay.row fun b e => hb.block b (h.lay.row.lt b e).2, h.lay.len, h.lay.below.trans (hb.mono hB)⟩, fun j r q hr hq => ?_, h.apart⟩
  have h1 := h.own j r q hr hq
  exact h1.stay fun b e => hb.block b (h1.1.lt b e).2
/-- A node is stored for a role. -/
theorem CpOk.putAt {A : Nat} (h : CpOk w0 W B (some ⟨A, 0, none⟩) xc M mc rs l ls) (hB : B ≤ W.heap.size) (k : Nat) (x : Int) : CpOk w0 (W.setCell ⟨A, k, none⟩ (.int .i64 x)) B (some ⟨A, 0, none⟩) xc M mc rs (l.set k x) ls := by
  have hset : Beside A W (W.setCell ⟨A, k, none⟩ (.int .i64 x)) := (Beside.refl A W).setCell k _
  have hA := (h.lay.at_.lt A rfl)
  refine ⟨⟨by rw [List.length_set]; exact IInts.put10 h.lay.at_ k x, rowStay13 h.lay.row fun b e => hset.block b (h.lay.row.lt b e).2 (fun e2 => rowApart13 h.lay.row h.lay.at_ (by decide) e (by rw [e2]; rfl)), h.lay.len, h.lay.below.trans (hset.below hA.1 hB)⟩, fun j r q hr hq => ?_, h.apart⟩
  have h1 := h.own j r q hr hq
  exact h1.stay fun b e => hset.block b (h1.1.lt b e).2 (fun e2 => rowApart13 h1.1 h.lay.at_ (by decide) e (by rw [e2]; rfl))
/-- The stage as it reads in the end; all that is read lies from B on. -/
structure FinSt (w0 W : World) (B : Nat) (xa : Option Addr) (xc M mc : Nat) (rs : List QR) (l : List Int) (ls : List (List Str)) : Prop where
  lay : CpLay w0 W B xa xc M mc rs l ls.length
  own : ∀ (j : Nat) (r : QR) (q : List Str), rs[j]? = some r → ls[j]? = some q → Strs W W.heap.size r.a r.n q ∧ ∀ b off, r.a = some ⟨b, off, none⟩ → B ≤ b
theorem Strs.stay13 {w w' : World} {bound bound' : Nat} {a : Option Addr} {n : Nat} {ss : List Str} (h : Strs w bound a n ss) (hb : bound ≤ bound') (hk : ∀ b off, a = some ⟨b, off, none⟩ → b < bound → w'.heap[b]? = w.heap[b]?) : Strs w' bound' a n ss :=
  ⟨h.1, h.2.1, h.2.2.1, fun hn => by
    obtain ⟨b, off, e, hlt, hc⟩ := h.2.2.2 hn
    exact ⟨b, off, e, by omega, fun j s hs => (World.cell?_of_block (a := ⟨b, off + j, none⟩) (hk b off e hlt)).trans (hc j s hs)⟩⟩
theorem FinSt.aside (h : FinSt w0 W B xa xc M mc rs l ls) {W' : World} {g : Nat} (hb : Beside g W W') (hg : g < B) {B' : Nat} {w0' : World} (hBB : B' ≤ B) (hB : Below B' w0' W') : FinSt w0' W' B' xa xc M mc rs l ls :=
  ⟨⟨rowLow13 (rowStay13 h.lay.at_ fun b e => hb.block b (h.lay.at_.lt b e).2 (by have := (h.lay.at_.lt b e).1; omega)) hBB, rowLow13 (rowStay13 h.lay.row fun b e => hb.block b (h.lay.row.lt b e).2 (by have := (h.lay.row.lt b e).1; omega)) hBB, h.lay.len, hB⟩, fun j r q hr hq => by
    obtain ⟨h1, h2⟩ := h.own j r q hr hq
    exact ⟨h1.stay13 hb.size fun b off e hlt => hb.block b hlt (by have := h2 b off e; omega), fun b off e => by have := h2 b off e; omega⟩⟩
theorem FinSt.fresh (h : FinSt w0 W B xa xc M mc rs l ls) {W' : World} (hb : Stays13 B W W') : FinSt W' W' 0 xa xc M mc rs l ls :=
  ⟨⟨rowLow13 (rowStay13 h.lay.at_ fun b e => hb.2 b (h.lay.at_.lt b e).1 (h.lay.at_.lt b e).2) (Nat.zero_le _), rowLow13 (rowStay13 h.lay.row fun b e => hb.2 b (h.lay.row.lt b e).1 (h.lay.row.lt b e).2) (Nat.zero_le _), h.lay.len, Below.refl _ _⟩, fun j r q hr hq => by
    obtain ⟨h1, h2⟩ := h.own j r q hr hq
    exact ⟨h1.stay13 hb.1 fun b off e hlt => hb.2 b (h2 b off e) hlt, fun _ _ _ => Nat.zero_le _⟩⟩
theorem FinSt.reads (h : FinSt w0 W B xa xc M mc rs l ls) : StIn W W.heap.size xa l.length (some ⟨M, 0, none⟩) ls.length ⟨l, ls⟩ := by
  obtain ⟨a, c, hv, _, _, _, hn⟩ := h.lay.at_.sees
  obtain ⟨e1, _, _⟩ := Value.slice.inj hv
  rw [← e1] at hn
  refine ⟨hn, rfl, ?_, fun _ => ⟨M, 0, rfl, h.lay.spot.2, fun j q hq => ?_⟩⟩
  · rcases h.lay.row.2 with ⟨h0, _⟩ | ⟨g, cap, cur, hv, _, _, h1, h2, _⟩
    · cases h0
    · unfold maxLen at h2; omega
  · have hj := (List.getElem?_eq_some_iff.1 hq).1
    obtain ⟨r, hr⟩ : ∃ r, rs[j]? = some r := ⟨_, List.getElem?_eq_getElem (by rw [h.lay.len]; exact hj)⟩
    refine ⟨r.a, r.n, r.c, ?_, Queue.of_strs (h.own j r q hr hq).1⟩
    rw [Nat.zero_add]
    exact h.lay.row.at_ hr
theorem QOwn13.far {w : World} {base : Nat} {r : QR} {q : List Str} (h : QOwn13 w base r q) : ∀ b off, r.a = some ⟨b, off, none⟩ → base ≤ b := fun b off e => (h.1.lt b (by show (Value.slice r.a r.n r.c).ownBlock = some b; rw [e]; rfl)).1
/-- A letter less. -/
theorem CpOk.recv (h : CpOk w0 W B xa xc M mc rs l ls) (hB : B ≤ W.heap.size) {k : Nat} {r : QR} {x : Str} {q : List Str} (hr : rs[k]? = some r) (hq : ls[k]? = some (x :: q)) :
    FinSt w0 (W.setCell ⟨M, k, none⟩ (.slice (if r.c = 1 then r.a else r.a.map (·.add 1)) (r.n - 1) (r.c - 1))) B xa xc M mc (rs.set k ⟨if r.c = 1 then r.a else r.a.map (·.add 1), r.n - 1, r.c - 1⟩) l (ls.set k q) := by
  obtain ⟨hM, hMl⟩ := h.lay.spot
  have hset : Beside M W (W.setCell ⟨M, k, none⟩ (.slice (if r.c = 1 then r.a else r.a.map (·.add 1)) (r.n - 1) (r.c - 1))) := (Beside.refl M W).setCell k _
  have hk : k < rs.length := (List.getElem?_eq_some_iff.1 hr).1
  refine ⟨⟨rowStay13 h.lay.at_ fun b e => hset.block b (h.lay.at_.lt b e).2 (fun e2 => rowApart13 h.lay.at_ h.lay.row (by decide) e (by rw [e2]; rfl)), by rw [List.length_set]; exact mRow.put h.lay.row k _, by rw [List.length_set, List.length_set]; exact h.lay.len, h.lay.below.trans (hset.below hM hB)⟩, fun j r2 q2 hr2 hq2 => ?_⟩
  have hkeep : ∀ (j : Nat) (r : QR) (q : List Str), rs[j]? = some r → ls[j]? = some q → ∀ b off, r.a = some ⟨b, off, none⟩ → b ≠ M := fun j r q hr hq b off e e2 => by
    have h1 := h.own j r q hr hq
    exact rowApart13 h1.1 h.lay.row (by decide) (b := b) (by show (Value.slice r.a r.n r.c).ownBlock = some b; rw [e]; rfl) (by rw [e2]; rfl)
  rw [List.getElem?_set] at hr2 hq2
  by_cases e : k = j
  · subst e
    rw [if_pos rfl, if_pos hk] at hr2
    rw [if_pos rfl, if_pos (by rw [← h.lay.len]; exact hk)] at hq2
    obtain rfl := Option.some.inj hr2
    obtain rfl := Option.some.inj hq2
    have h1 := h.own k r (x :: q) hr hq
    have h2 := h1.strs.drop (k := 1) (cap := r.c) (by have := h1.2.1; simp at this; omega) h1.2.2.1
    refine ⟨h2.stay13 hset.size fun b off e hlt => hset.block b hlt ?_, fun b off e => ?_⟩
    · split at e
      · exact hkeep k r _ hr hq b off e
      · obtain ⟨a', ha, e3⟩ := Option.map_eq_some_iff.1 e
        obtain ⟨bb, oo, e4, _⟩ := h1.strs.2.2.2 (by have := h1.2.1; simp at this; omega)
        rw [ha] at e4
        obtain rfl := Option.some.inj e4
        simp [Addr.add] at e3
        obtain ⟨rfl, _⟩ := e3
        exact hkeep k r _ hr hq bb oo ha
    · have e : (if r.c = 1 then r.a else r.a.map (·.add 1)) = some ⟨b, off, none⟩ := e
      split at e
      · exact h1.far b off e
      · obtain ⟨a', ha, e3⟩ := Option.map_eq_some_iff.1 e
        obtain ⟨bb, oo, e4, _⟩ := h1.strs.2.2.2 (by have := h1.2.1; simp at this; omega)
        rw [ha] at e4
        obtain rfl := Option.some.inj e4
        simp [Addr.add] at e3
        obtain ⟨rfl, _⟩ := e3
        exact h1.far bb oo ha
  · rw [if_neg e] at hr2 hq2
    have h1 := h.own j r2 q2 hr2 hq2
    exact ⟨h1.strs.stay13 hset.size fun b off e hlt => hset.block b hlt (hkeep j r2 q2 hr2 hq2 b off e), h1.far⟩
/-- A letter more. -/
theorem CpOk.send (h : CpOk w0 W B xa xc M mc rs l ls) {k : Nat} {r : QR} {x : Str} {q : List Str} (hr : rs[k]? = some r) (hq : ls[k]? = some q) (hx : x.length ≤ maxLen) {W7 : World} {r' : QR}
    (h7 : W7.ownsRow B 9 1 (encQR r') r'.n ((q ++ [x]).map encStr) ) (hs : r'.n * 16 ≤ 140737488351232) (hz : W.heap.size ≤ W7.heap.size) (hk7 : ∀ b, b < W.heap.size → (encQR r).ownBlock ≠ some b → W7.heap[b]? = W.heap[b]?) (hbl : Below B W W7) :
    FinSt w0 (W7.setCell ⟨M, k, none⟩ (encQR r')) B xa xc M mc (rs.set k r') l (ls.set k (q ++ [x])) := by
  obtain ⟨hM, hMl⟩ := h.lay.spot
  have hset : Beside M W7 (W7.setCell ⟨M, k, none⟩ (encQR r')) := (Beside.refl M W7).setCell k _
  have hk : k < rs.length := (List.getElem?_eq_some_iff.1 hr).1
  have h1 := h.own k r q hr hq
  have hne : ∀ b, (encQR r).ownBlock = some b → b ≠ M := fun b e e2 => rowApart13 h1.1 h.lay.row (by decide) e (by rw [e2]; rfl)
  have hrow7 : mRow W7 B M ls.length mc rs := rowStay13 h.lay.row fun b e => hk7 b (h.lay.row.lt b e).2 (rowApart13 h.lay.row h1.1 (by decide) e)
  have h7M : ∀ b, (encQR r').ownBlock = some b → b ≠ M := fun b e e2 => rowApart13 h7 hrow7 (by decide) e (by rw [e2]; rfl)
  have hat : IInts W7 B (.slice xa l.length xc) l := rowStay13 h.lay.at_ fun b e => hk7 b (h.lay.at_.lt b e).2 (rowApart13 h.lay.at_ h1.1 (by decide) e)
  refine ⟨⟨rowStay13 hat fun b e => hset.block b (hat.lt b e).2 (fun e2 => rowApart13 hat hrow7 (by decide) e (by rw [e2]; rfl)), by rw [List.length_set]; exact mRow.put hrow7 k r', by rw [List.length_set, List.length_set]; exact h.lay.len, h.lay.below.trans (hbl.trans (hset.below hM (by omega)))⟩, fun j r2 q2 hr2 hq2 => ?_⟩
  rw [List.getElem?_set] at hr2 hq2
  by_cases e : k = j
  · subst e
    rw [if_pos rfl, if_pos hk] at hr2
    rw [if_pos rfl, if_pos (by rw [← h.lay.len]; exact hk)] at hq2
    obtain rfl := Option.some.inj hr2
    obtain rfl := Option.some.inj hq2
    obtain ⟨a, c, hv, hst, _⟩ := Strs.of_own h7 hs (fun y hy => by
      rcases List.mem_append.1 hy with hy | hy
      · exact h1.2.2.2.2 y hy
      · rw [List.mem_singleton.1 hy]; exact hx)
    obtain ⟨e1, _, _⟩ := Value.slice.inj (show Value.slice r'.a r'.n r'.c = Value.slice a r'.n c from hv)
    rw [← e1] at hst
    exact ⟨hst.stay13 hset.size fun b off e hlt => hset.block b hlt (h7M b (by show (Value.slice r'.a r'.n r'.c).ownBlock = some b; rw [e]; rfl)), fun b off e => (h7.lt b (by show (Value.slice r'.a r'.n r'.c).ownBlock = some b; rw [e]; rfl)).1⟩
  · rw [if_neg e] at hr2 hq2
    have h2 := h.own j r2 q2 hr2 hq2
    refine ⟨h2.strs.stay13 (Nat.le_trans hz hset.size) fun b off e2 hlt => ?_, h2.far⟩
    have hb : (encQR r2).ownBlock = some b := by show (Value.slice r2.a r2.n r2.c).ownBlock = some b; rw [e2]; rfl
    refine (hset.block b (by omega) (fun e3 => rowApart13 h2.1 h.lay.row (by decide) hb (by rw [e3]; rfl))).trans (hk7 b hlt (fun e3 => h.apart k j r r2 e hr hr2 b e3 hb))
end
end Go.Proofs.Ytgefhgcpnfbigaa

/- Contracts of stage's copyOf and after. (Printed by gen/genSt.py.) -/
namespace Go.Proofs.Ytgefhgcpnfbigaa
open Go.RowKit Go.Sort

/-- What copyOf answers. -/
def CpRet (w : World) (n mn : Nat) (s : StgL) (e : Ending) (w' : World) : Prop := ∃ (xa : Option Addr) (xc M mc : Nat) (rs : List QR), e = .returned (stgV xa n xc (some ⟨M, 0, none⟩) mn mc) ∧ CpOk w w' w.heap.size xa xc M mc rs s.at_ s.mail
set_option maxHeartbeats 16000000 in
set_option maxRecDepth 20000 in
theorem copyOf_any (a : Option Addr) (n c : Nat) (ad : Addr) (mn mc : Nat) (s : StgL) (w : World) (h : StIn w w.heap.size a n (some ad) mn s) (hn : n ≤ 5) (h1 : 1 ≤ mn) (hm : mn ≤ 25) (h64 : ∀ q ∈ s.mail, q.length ≤ 64) :
    Calls Try.prog 86 #[stgV a n c (some ad) mn mc] w fun e w' => CpRet w n mn s e w' := by
  have hnl : s.at_.length = n := h.at_.1
  have hml : s.mail.length = mn := h.mail.1
  have HNL := Lib.hid hnl
  have HML := Lib.hid hml
  clear hnl hml
  have HIN := Lib.hid h
  have H64 := Lib.hid h64
  clear h h64
  obtain ⟨W1, hW1⟩ : ∃ W1, W1 = (w.alloc (.cells #[.slice a n c, .slice (some ad) mn mc] 38)).alloc (.cells #[.slice none 0 0, .slice none 0 0] 38) := ⟨_, rfl⟩
  have HB1 := Lib.hid (show Below w.heap.size w W1 by rw [hW1]; exact below_on (tu1 w _) (tu1 _ _))
  have HX1 := Lib.hid (show SBox W1 w.heap.size a n c (some ad) mn mc by rw [hW1]; exact ((tu1 _ _).block w.heap.size (by simp)).trans (heap_alloc_new w _))
  have HY1 := Lib.hid (show SBox W1 (w.heap.size + 1) none 0 0 none 0 0 by
    have := heap_alloc_new (w.alloc (.cells #[.slice a n c, .slice (some ad) mn mc] 38)) (.cells #[.slice none 0 0, .slice none 0 0] 38)
    rw [World.size_alloc] at this
    rw [hW1]
    exact this)
  have hz1 : w.heap.size + 2 ≤ W1.heap.size := by rw [hW1]; simp
  go_enter Try.func86, Try.ntmps86
  go_upto_region 1 with fail
  rw [← hW1]
  clear hW1
  go_cut [3] (fun v wx => ∃ (g : Nat) (xa : Option Addr) (xc M mc2 : Nat) (rs : List QR), v = .pointer (some ⟨g, 0, none⟩) ∧ W1.heap.size ≤ g ∧ Hid (CpSt W1 wx W1.heap.size g xa xc M mc2 0 rs s))
  case first =>
    have HBd := Lib.hid (show Below W1.heap.size W1 W1.drew from bel_drewN (Below.refl _ _) 1)
    have HS := Lib.hid (fun (W : World) (hW : Below W1.heap.size W1 W) => show W.cell? ⟨w.heap.size, 0, none⟩ = some (.slice a n c) ∧ W.cell? ⟨w.heap.size, 1, none⟩ = some (.slice (some ad) mn mc) from (HX1.out.on hW HX1.out.lt).cells)
    have CI := Lib.hid (fun (W : World) (hW : Below W1.heap.size W1 W) => cloneI13_any a n c s.at_ W w.heap.size (by have := hW.size; omega) (HIN.out.at_.below (HB1.out.trans (hW.mono (by omega)))) (by omega))
    have CM := Lib.hid (fun (W : World) (hW : Below W1.heap.size W1 W) => cloneM13_any ad mn mc s.mail W w.heap.size (by have := hW.size; omega) (HIN.out.mail.below (HB1.out.trans (hW.mono (by omega)))) h1 (by omega))
    obtain ⟨wd, hwd⟩ : ∃ wd : World, wd = W1.drew := ⟨_, rfl⟩
    rw [← hwd] at HBd
    refine wp_region_last2 (S := fun W => W.cell? ⟨w.heap.size, 0, none⟩ = some (.slice a n c) ∧ W.cell? ⟨w.heap.size, 1, none⟩ = some (.slice (some ad) mn mc)) rfl (by kernel_rfl) (by kernel_rfl) (by rw [← hwd]; exact HS.out _ HBd.out) (fun hHeld => ?_)
    simp only [List.pop_toArray, List.dropLast_cons_cons, List.dropLast_singleton]
    rw [← hwd]
    rw [← hwd] at hHeld
    clear hwd
    try simp only [Act.put, List.setIfInBounds_toArray]
    refine' wpAnyH_take (i := 0) (v := _) rfl (by kernel_rfl) (by kernel_rfl) (by kernel_rfl) (fun _ _ _ h => h) (Or.inl ⟨by kernel_rfl, ?hya0⟩) (by assumption) ?resta0
    case hya0 =>
      intro W hSw
      (try dsimp only at hSw)
      first | (go_simp; done) | (go_simp; with_reducible rfl)
    try simp only [Act.put]
    refine' wpAnyH_take (i := 1) (v := _) rfl (by kernel_rfl) (by kernel_rfl) (by kernel_rfl) (fun _ _ _ h => h) (Or.inl ⟨by kernel_rfl, ?hya1⟩) (by assumption) ?resta1
    case hya1 =>
      intro W hSw
      (try dsimp only at hSw)
      first | (go_simp; done) | (go_simp; with_reducible rfl)
    try simp only [Act.put]
    refine' wpAnyH_take (i := 3) (v := _) rfl (by kernel_rfl) (by kernel_rfl) (by kernel_rfl) (fun _ _ _ h => h) (Or.inl ⟨by kernel_rfl, ?hya3⟩) (by assumption) ?resta3
    case hya3 =>
      intro W hSw
      (try dsimp only at hSw)
      first | (go_simp; done) | (go_simp; with_reducible rfl)
    try simp only [Act.put, List.getElem_toArray, List.getElem_cons_succ, List.getElem_cons_zero, List.setIfInBounds_toArray, List.set_cons_succ, List.set_cons_zero]
    refine' wpAnyH_take (i := 4) (v := _) rfl (by kernel_rfl) (by kernel_rfl) (by kernel_rfl) (fun _ _ _ h => h) (Or.inl ⟨by kernel_rfl, ?hya4⟩) (by assumption) ?resta4
    case hya4 =>
      intro W hSw
      (try dsimp only at hSw)
      first | (go_simp; done) | (go_simp; with_reducible rfl)
    try simp only [Act.put, List.getElem_toArray, List.getElem_cons_succ, List.getElem_cons_zero, List.setIfInBounds_toArray, List.set_cons_succ, List.set_cons_zero]
    refine wpAnyH_ready (rs := [2, 7]) (by kernel_rfl) (by simp) ?_
    refine (AllReadyH.cons (i := 2) (o := _) rfl (fun K hK => ?bra2) (AllReadyH.cons (i := 7) (o := _) rfl (fun K hK => ?bra7) AllReadyH.nil))
    case bra2 =>
      go_simp
      go_at_call 64
      with_reducible refine (CI.out _ HBd.out).mono ?_
      rintro e wa2 ⟨⟨xa, xc, rfl, hiwa2⟩, hbwa2⟩
      have HBwa2 := Lib.hid (HBd.out.trans (hbwa2.mono HBd.out.size))
      have HIwa2 := Lib.hid (IInts.low hiwa2 HBd.out.size)
      have HTwa2 := Lib.hid hbwa2
      clear hiwa2 hbwa2
      refine hK.out _ _ (HS.out _ HBwa2.out) (fun hHeld => ?_)
      clear hK K
      try simp only [Act.put, List.getElem_toArray, List.getElem_cons_succ, List.getElem_cons_zero, List.setIfInBounds_toArray, List.set_cons_succ, List.set_cons_zero]
      refine wpAnyH_ready (rs := [5, 7]) (by kernel_rfl) (by simp) ?_
      refine (AllReadyH.cons (i := 5) (o := _) rfl (fun K hK => ?brax25) (AllReadyH.cons (i := 7) (o := _) rfl (fun K hK => ?brax27) AllReadyH.nil))
      case brax25 =>
        go_simp
        go_at_call 99
        with_reducible refine (CM.out _ HBwa2.out).mono ?_
        rintro e wax25 ⟨⟨M, mc2, rs, rfl, hrwax25, hlwax25, howax25⟩, hbwax25⟩
        have HBwax25 := Lib.hid (HBwa2.out.trans (hbwax25.mono HBwa2.out.size))
        have HMwax25 := Lib.hid (show mRow wax25 W1.heap.size M mn mc2 rs from rowLow13 hrwax25 HBwa2.out.size)
        have HLwax25 := Lib.hid hlwax25
        have HQwax25 := Lib.hid (fun j r l hr hl => (howax25 j r l hr hl).more (bound' := W1.heap.size) (by omega))
        have HTwax25 := Lib.hid hbwax25
        clear hrwax25 hlwax25 howax25 hbwax25
        have HIwa2xwax25 := Lib.hid (show IInts wax25 W1.heap.size (.slice xa n xc) s.at_ from rowKept13 HIwa2.out HTwax25.out)
        refine hK.out _ _ (HS.out _ HBwax25.out) (fun hHeld => ?_)
        clear hK K
        try simp only [Act.put, List.setIfInBounds_toArray]
        refine' wpAnyH_take (i := 6) (v := _) rfl (by kernel_rfl) (by kernel_rfl) (by kernel_rfl) (fun _ _ _ h => h) (Or.inl ⟨by kernel_rfl, ?hyax2x56⟩) (by assumption) ?restax2x56
        case hyax2x56 =>
          intro W hSw
          (try dsimp only at hSw)
          first | (go_simp; done) | (go_simp; with_reducible rfl)
        try simp only [Act.put, List.getElem_toArray, List.getElem_cons_succ, List.getElem_cons_zero, List.setIfInBounds_toArray, List.set_cons_succ, List.set_cons_zero]
        refine wpAnyH_ready (rs := [7]) (by kernel_rfl) (by simp) ?_
        refine (AllReadyH.cons (i := 7) (o := _) rfl (fun K hK => ?brax2x57) AllReadyH.nil)
        case brax2x57 =>
          go_simp
          obtain ⟨wax2x57, hwax2x57⟩ : ∃ W : World, W = wax25.alloc (.cells #[.slice none 0 0, .slice none 0 0] 38) := ⟨_, rfl⟩
          have HBwax2x57 := Lib.hid (show Below W1.heap.size W1 wax2x57 by rw [hwax2x57]; exact HBwax25.out.alloc HBwax25.out.size _)
          have HTwax2x57 := Lib.hid (show Below wax25.heap.size wax25 wax2x57 by rw [hwax2x57]; exact tu1 wax25 _)
          have HCwax2x57 := Lib.hid (show SBox wax2x57 wax25.heap.size none 0 0 none 0 0 by rw [hwax2x57]; exact heap_alloc_new wax25 _)
          have hgewax2x57 : W1.heap.size ≤ wax25.heap.size := HBwax25.out.size
          rw [← hwax2x57]
          clear hwax2x57
          have HIwa2xwax25xwax2x57 := Lib.hid (show IInts wax2x57 W1.heap.size (.slice xa n xc) s.at_ from rowKept13 HIwa2xwax25.out HTwax2x57.out)
          have HMwax25xwax2x57 := Lib.hid (show mRow wax2x57 W1.heap.size M mn mc2 rs from rowKept13 HMwax25.out HTwax2x57.out)
          have HQwax25xwax2x57 := Lib.hid (fun j r l hr hl => (HQwax25.out j r l hr hl).keep fun p hp => (HTwax2x57.out.mono HBwax25.out.size).cell hp)
          refine hK.out _ _ (HS.out _ HBwax2x57.out) (fun hHeld => ?_)
          clear hK K
          have z1 := CpSt.begin (w0 := W1) (W := wax2x57) (B := W1.heap.size) (g := wax25.heap.size) (xa := xa) (xc := xc) (M := M) (mc := mc2) (rs := rs) (s := s) ⟨by rw [HNL.out]; exact HIwa2xwax25xwax2x57.out, by rw [HML.out]; exact HMwax25xwax2x57.out, by rw [HML.out]; exact HLwax25.out, HBwax2x57.out⟩ HBwax2x57.out.size HCwax2x57.out hgewax2x57 HQwax25xwax2x57.out
          rw [HNL.out, HML.out] at z1
          have HZ := Lib.hid z1
          obtain ⟨c0, c1⟩ := HCwax2x57.out.cells
          have f0 := HCwax2x57.out.thaw 0
          have f1 := HCwax2x57.out.thaw 1
          clear z1
          try simp only [Act.put]
          refine wpAnyH_done (by kernel_rfl) ?_ _
          unfold LastPost
          go_simp
          go_wp2_with fail
          all_goals
            go_meet
            case rel => exact ⟨_, xa, xc, M, mc2, rs, rfl, hgewax2x57, HZ⟩
      case brax27 =>
        go_simp
        obtain ⟨wax27, hwax27⟩ : ∃ W : World, W = wa2.alloc (.cells #[.slice none 0 0, .slice none 0 0] 38) := ⟨_, rfl⟩
        have HBwax27 := Lib.hid (show Below W1.heap.size W1 wax27 by rw [hwax27]; exact HBwa2.out.alloc HBwa2.out.size _)
        have HTwax27 := Lib.hid (show Below wa2.heap.size wa2 wax27 by rw [hwax27]; exact tu1 wa2 _)
        have HCwax27 := Lib.hid (show SBox wax27 wa2.heap.size none 0 0 none 0 0 by rw [hwax27]; exact heap_alloc_new wa2 _)
        have hgewax27 : W1.heap.size ≤ wa2.heap.size := HBwa2.out.size
        rw [← hwax27]
        clear hwax27
        have HIwa2xwax27 := Lib.hid (show IInts wax27 W1.heap.size (.slice xa n xc) s.at_ from rowKept13 HIwa2.out HTwax27.out)
        refine hK.out _ _ (HS.out _ HBwax27.out) (fun hHeld => ?_)
        clear hK K
        try simp only [Act.put, List.getElem_toArray, List.getElem_cons_succ, List.getElem_cons_zero, List.setIfInBounds_toArray, List.set_cons_succ, List.set_cons_zero]
        refine wpAnyH_ready (rs := [5]) (by kernel_rfl) (by simp) ?_
        refine (AllReadyH.cons (i := 5) (o := _) rfl (fun K hK => ?brax2x75) AllReadyH.nil)
        case brax2x75 =>
          go_simp
          go_at_call 99
          with_reducible refine (CM.out _ HBwax27.out).mono ?_
          rintro e wax2x75 ⟨⟨M, mc2, rs, rfl, hrwax2x75, hlwax2x75, howax2x75⟩, hbwax2x75⟩
          have HBwax2x75 := Lib.hid (HBwax27.out.trans (hbwax2x75.mono HBwax27.out.size))
          have HMwax2x75 := Lib.hid (show mRow wax2x75 W1.heap.size M mn mc2 rs from rowLow13 hrwax2x75 HBwax27.out.size)
          have HLwax2x75 := Lib.hid hlwax2x75
          have HQwax2x75 := Lib.hid (fun j r l hr hl => (howax2x75 j r l hr hl).more (bound' := W1.heap.size) (by omega))
          have HTwax2x75 := Lib.hid hbwax2x75
          clear hrwax2x75 hlwax2x75 howax2x75 hbwax2x75
          have HCwax27xwax2x75 := Lib.hid (HCwax27.out.on HTwax2x75.out HCwax27.out.lt)
          have HIwa2xwax27xwax2x75 := Lib.hid (show IInts wax2x75 W1.heap.size (.slice xa n xc) s.at_ from rowKept13 HIwa2xwax27.out HTwax2x75.out)
          refine hK.out _ _ (HS.out _ HBwax2x75.out) (fun hHeld => ?_)
          clear hK K
          try simp only [Act.put, List.setIfInBounds_toArray]
          refine' wpAnyH_take (i := 6) (v := _) rfl (by kernel_rfl) (by kernel_rfl) (by kernel_rfl) (fun _ _ _ h => h) (Or.inl ⟨by kernel_rfl, ?hyax2x7x56⟩) (by assumption) ?restax2x7x56
          case hyax2x7x56 =>
            intro W hSw
            (try dsimp only at hSw)
            first | (go_simp; done) | (go_simp; with_reducible rfl)
          have z1 := CpSt.begin (w0 := W1) (W := wax2x75) (B := W1.heap.size) (g := wa2.heap.size) (xa := xa) (xc := xc) (M := M) (mc := mc2) (rs := rs) (s := s) ⟨by rw [HNL.out]; exact HIwa2xwax27xwax2x75.out, by rw [HML.out]; exact HMwax2x75.out, by rw [HML.out]; exact HLwax2x75.out, HBwax2x75.out⟩ HBwax2x75.out.size HCwax27xwax2x75.out hgewax27 HQwax2x75.out
          rw [HNL.out, HML.out] at z1
          have HZ := Lib.hid z1
          obtain ⟨c0, c1⟩ := HCwax27xwax2x75.out.cells
          have f0 := HCwax27xwax2x75.out.thaw 0
          have f1 := HCwax27xwax2x75.out.thaw 1
          clear z1
          try simp only [Act.put]
          refine wpAnyH_done (by kernel_rfl) ?_ _
          unfold LastPost
          go_simp
          go_wp2_with fail
          all_goals
            go_meet
            case rel => exact ⟨_, xa, xc, M, mc2, rs, rfl, hgewax27, HZ⟩
    case bra7 =>
      go_simp
      obtain ⟨wa7, hwa7⟩ : ∃ W : World, W = wd.alloc (.cells #[.slice none 0 0, .slice none 0 0] 38) := ⟨_, rfl⟩
      have HBwa7 := Lib.hid (show Below W1.heap.size W1 wa7 by rw [hwa7]; exact HBd.out.alloc HBd.out.size _)
      have HTwa7 := Lib.hid (show Below wd.heap.size wd wa7 by rw [hwa7]; exact tu1 wd _)
      have HCwa7 := Lib.hid (show SBox wa7 wd.heap.size none 0 0 none 0 0 by rw [hwa7]; exact heap_alloc_new wd _)
      have hgewa7 : W1.heap.size ≤ wd.heap.size := HBd.out.size
      rw [← hwa7]
      clear hwa7
      refine hK.out _ _ (HS.out _ HBwa7.out) (fun hHeld => ?_)
      clear hK K
      try simp only [Act.put, List.getElem_toArray, List.getElem_cons_succ, List.getElem_cons_zero, List.setIfInBounds_toArray, List.set_cons_succ, List.set_cons_zero]
      refine wpAnyH_ready (rs := [2]) (by kernel_rfl) (by simp) ?_
      refine (AllReadyH.cons (i := 2) (o := _) rfl (fun K hK => ?brax72) AllReadyH.nil)
      case brax72 =>
        go_simp
        go_at_call 64
        with_reducible refine (CI.out _ HBwa7.out).mono ?_
        rintro e wax72 ⟨⟨xa, xc, rfl, hiwax72⟩, hbwax72⟩
        have HBwax72 := Lib.hid (HBwa7.out.trans (hbwax72.mono HBwa7.out.size))
        have HIwax72 := Lib.hid (IInts.low hiwax72 HBwa7.out.size)
        have HTwax72 := Lib.hid hbwax72
        clear hiwax72 hbwax72
        have HCwa7xwax72 := Lib.hid (HCwa7.out.on HTwax72.out HCwa7.out.lt)
        refine hK.out _ _ (HS.out _ HBwax72.out) (fun hHeld => ?_)
        clear hK K
        try simp only [Act.put, List.getElem_toArray, List.getElem_cons_succ, List.getElem_cons_zero, List.setIfInBounds_toArray, List.set_cons_succ, List.set_cons_zero]
        refine wpAnyH_ready (rs := [5]) (by kernel_rfl) (by simp) ?_
        refine (AllReadyH.cons (i := 5) (o := _) rfl (fun K hK => ?brax7x25) AllReadyH.nil)
        case brax7x25 =>
          go_simp
          go_at_call 99
          with_reducible refine (CM.out _ HBwax72.out).mono ?_
          rintro e wax7x25 ⟨⟨M, mc2, rs, rfl, hrwax7x25, hlwax7x25, howax7x25⟩, hbwax7x25⟩
          have HBwax7x25 := Lib.hid (HBwax72.out.trans (hbwax7x25.mono HBwax72.out.size))
          have HMwax7x25 := Lib.hid (show mRow wax7x25 W1.heap.size M mn mc2 rs from rowLow13 hrwax7x25 HBwax72.out.size)
          have HLwax7x25 := Lib.hid hlwax7x25
          have HQwax7x25 := Lib.hid (fun j r l hr hl => (howax7x25 j r l hr hl).more (bound' := W1.heap.size) (by omega))
          have HTwax7x25 := Lib.hid hbwax7x25
          clear hrwax7x25 hlwax7x25 howax7x25 hbwax7x25
          have HCwa7xwax72xwax7x25 := Lib.hid (HCwa7xwax72.out.on HTwax7x25.out HCwa7xwax72.out.lt)
          have HIwax72xwax7x25 := Lib.hid (show IInts wax7x25 W1.heap.size (.slice xa n xc) s.at_ from rowKept13 HIwax72.out HTwax7x25.out)
          refine hK.out _ _ (HS.out _ HBwax7x25.out) (fun hHeld => ?_)
          clear hK K
          try simp only [Act.put, List.setIfInBounds_toArray]
          refine' wpAnyH_take (i := 6) (v := _) rfl (by kernel_rfl) (by kernel_rfl) (by kernel_rfl) (fun _ _ _ h => h) (Or.inl ⟨by kernel_rfl, ?hyax7x2x56⟩) (by assumption) ?restax7x2x56
          case hyax7x2x56 =>
            intro W hSw
            (try dsimp only at hSw)
            first | (go_simp; done) | (go_simp; with_reducible rfl)
          have z1 := CpSt.begin (w0 := W1) (W := wax7x25) (B := W1.heap.size) (g := wd.heap.size) (xa := xa) (xc := xc) (M := M) (mc := mc2) (rs := rs) (s := s) ⟨by rw [HNL.out]; exact HIwax72xwax7x25.out, by rw [HML.out]; exact HMwax7x25.out, by rw [HML.out]; exact HLwax7x25.out, HBwax7x25.out⟩ HBwax7x25.out.size HCwa7xwax72xwax7x25.out hgewa7 HQwax7x25.out
          rw [HNL.out, HML.out] at z1
          have HZ := Lib.hid z1
          obtain ⟨c0, c1⟩ := HCwa7xwax72xwax7x25.out.cells
          have f0 := HCwa7xwax72xwax7x25.out.thaw 0
          have f1 := HCwa7xwax72xwax7x25.out.thaw 1
          clear z1
          try simp only [Act.put]
          refine wpAnyH_done (by kernel_rfl) ?_ _
          unfold LastPost
          go_simp
          go_wp2_with fail
          all_goals
            go_meet
            case rel => exact ⟨_, xa, xc, M, mc2, rs, rfl, hgewa7, HZ⟩
  case rest =>
    obtain ⟨g, xa, xc, M, mc2, rs0, e3, hg, HST0⟩ := hcut
    subst e3
    have hst := HST0.out.box
    rw [HNL.out, HML.out] at hst
    obtain ⟨x0, x1⟩ := hst.cells
    clear hst
    go_wp2_with fail
    clear x0 x1
    go_loopw [16] (fun i wr => ∃ (k : Nat) (rs : List QR), k ≤ mn ∧ i = .int .i64 k ∧ Hid (CpSt W1 wr W1.heap.size g xa xc M mc2 k rs s)) (fun i _ => mn - (intOf i).toNat)
    case atStart => exact ⟨0, rs0, Nat.zero_le _, rfl, HST0⟩
    case round =>
      clear HST0
      obtain ⟨k, rs, hk, rfl, HST⟩ := hrel
      have hzr : W1.heap.size ≤ wr.heap.size := HST.out.lay.below.size
      have hst := HST.out.box
      rw [HNL.out, HML.out] at hst
      have HBX := Lib.hid hst
      clear hst
      by_cases hlt : k < mn
      · obtain ⟨l, hl⟩ : ∃ l, s.mail[k]? = some l := ⟨_, List.getElem?_eq_getElem (by rw [HML.out]; exact hlt)⟩
        obtain ⟨r, hr⟩ : ∃ r, rs[k]? = some r := ⟨_, List.getElem?_eq_getElem (by rw [HST.out.lay.len, HML.out]; exact hlt)⟩
        have hq := HST.out.old k r l (Nat.le_refl _) hr hl
        have hq64 := H64.out l (List.mem_of_getElem? hl)
        have hql := hq.1
        have HRS := Lib.hid (hq.2.2 (by omega))
        have hr64 : r.n ≤ 64 := by omega
        have q0 : wr.cell? ⟨M, k, none⟩ = some (.slice r.a r.n r.c) := HST.out.lay.row.at_ hr
        have HL := Lib.hid hl
        have i1 : (k : Int) < (mn : Int) := by omega
        have i2 : (0 : Int) ≤ (k : Int) := by omega
        have hMB := HST.out.lay.spot
        obtain ⟨ra, rn, rc⟩ := r
        clear hl hr hq hql hq64
        dsimp only at q0 HRS hr64
        go_upto_region 5 with fail
        have HQ0 := Lib.hid q0
        clear q0
        have CS := Lib.hid (fun (W : World) (hW : Below wr.heap.size wr W) => cloneS13_any ra rn rc l W W1.heap.size (by have := hW.size; omega) (HRS.out.below (hW.mono hzr)) (by omega))
        have HS := Lib.hid (fun (W : World) (hW : Below wr.heap.size wr W) => show W.cell? ⟨g, 1, none⟩ = some (.slice (some ⟨M, 0, none⟩) mn mc2) from (HBX.out.on hW HBX.out.lt).cells.2)
        have HBd := Lib.hid (show Below wr.heap.size wr wr.drew from bel_drewN (Below.refl _ _) 1)
        obtain ⟨wd, hwd⟩ : ∃ wd : World, wd = wr.drew := ⟨_, rfl⟩
        rw [← hwd] at HBd
        refine wp_region_last2 (S := fun W => W.cell? ⟨g, 1, none⟩ = some (.slice (some ⟨M, 0, none⟩) mn mc2)) rfl (by kernel_rfl) (by kernel_rfl) (by rw [← hwd]; exact HS.out _ HBd.out) (fun hHeld => ?_)
        simp only [List.pop_toArray, List.dropLast_cons_cons, List.dropLast_singleton]
        rw [← hwd]
        rw [← hwd] at hHeld
        clear hwd
        try simp only [Act.put, List.setIfInBounds_toArray]
        refine' wpAnyH_take (i := 0) (v := _) rfl (by kernel_rfl) (by kernel_rfl) (by kernel_rfl) (fun _ _ _ h => h) (Or.inl ⟨by kernel_rfl, ?hyc0⟩) (by assumption) ?restc0
        case hyc0 =>
          intro W hSw
          (try dsimp only at hSw)
          first | (go_simp; done) | (go_simp; with_reducible rfl)
        try simp only [Act.put]
        refine' wpAnyH_take (i := 1) (v := _) rfl (by kernel_rfl) (by kernel_rfl) (by kernel_rfl) (fun _ _ _ h => h) (Or.inl ⟨by kernel_rfl, ?hyc1⟩) (by assumption) ?restc1
        case hyc1 =>
          intro W hSw
          (try dsimp only at hSw)
          first | (go_simp; done) | (go_simp; with_reducible rfl)
        try simp only [Act.put]
        refine' wpAnyH_take (i := 2) (v := _) rfl (by kernel_rfl) (by kernel_rfl) (by kernel_rfl) (fun _ _ _ h => h) (Or.inl ⟨by kernel_rfl, ?hyc2⟩) (by assumption) ?restc2
        case hyc2 =>
          intro W hSw
          (try dsimp only at hSw)
          first | (go_simp; done) | (go_simp; with_reducible rfl)
        try simp only [Act.put]
        refine' wpAnyH_take (i := 3) (v := _) rfl (by kernel_rfl) (by kernel_rfl) (by kernel_rfl) (fun _ _ _ h => h) (Or.inl ⟨by kernel_rfl, ?hyc3⟩) (by assumption) ?restc3
        case hyc3 =>
          intro W hSw
          (try dsimp only at hSw)
          first | (go_simp; done) | (go_simp; with_reducible rfl)
        try simp only [Act.put, List.setIfInBounds_toArray]
        refine wpAnyH_ready (rs := [4]) (by kernel_rfl) (by simp) ?_
        refine AllReadyH.cons (i := 4) (o := _) rfl (fun K hK => ?_) AllReadyH.nil
        go_simp
        go_at_call 55
        with_reducible refine (CS.out _ HBd.out).mono ?_
        rintro e w5 ⟨⟨r5, rfl, hq5⟩, hb5⟩
        obtain ⟨ra5, rn5, rc5⟩ := r5
        have HB5 := Lib.hid (HBd.out.trans (hb5.mono HBd.out.size))
        have hq6 : QOwn13 w5 wr.heap.size ⟨ra5, rn5, rc5⟩ l := ⟨rowLow13 hq5.1 HBd.out.size, hq5.2⟩
        have HST5 := Lib.hid (CpSt.next HST.out hzr HB5.out HL.out hq6)
        have HMX := Lib.hid (show w5.frozen? ⟨M, k, none⟩ = false ∧ w5.cell? ⟨M, k, none⟩ = some (.slice ra rn rc) from ⟨mRow.thaw (rowKept13 HST.out.lay.row HB5.out) k, (HB5.out.cell (p := ⟨M, k, none⟩) hMB.2).trans HQ0.out⟩)
        clear hq5 hb5 hq6
        simp only [encQR]
        refine hK.out _ _ (HS.out _ HB5.out) (fun hHeld => ?_)
        clear hK K
        try simp only [Act.put, List.setIfInBounds_toArray]
        refine' wpAnyH_take (i := 5) (v := _) rfl (by kernel_rfl) (by kernel_rfl) (by kernel_rfl) (fun _ _ _ h => h) (Or.inl ⟨by kernel_rfl, ?hyc5⟩) (by assumption) ?restc5
        case hyc5 =>
          intro W hSw
          (try dsimp only at hSw)
          first | (go_simp; done) | (go_simp; with_reducible rfl)
        try simp only [Act.put, List.setIfInBounds_toArray]
        refine wpAnyH_done (by kernel_rfl) ?_ _
        unfold LastPost
        obtain ⟨fz, qm⟩ := HMX.out
        have i3 : (k : Int) < (mn : Int) := by omega
        go_simp
        go_wp2_with fail
        all_goals
          go_roundw
          case rel => exact ⟨k + 1, _, by omega, by go_num, HST5⟩
          case measure => simp [intOf]; omega
      · obtain rfl : k = mn := by omega
        have d1 : decide ((k : Int) < (k : Int)) = false := decide_eq_false (by omega)
        have hst := HST.out
        rw [show k = s.mail.length from HML.out.symm] at hst
        have HOK := Lib.hid hst.done
        have HY := Lib.hid (HY1.out.on HST.out.lay.below (by omega))
        obtain ⟨x0, x1⟩ := HBX.out.cells
        obtain ⟨y0, y1⟩ := HY.out.cells
        have f0 := HY.out.thaw 0
        have f1 := HY.out.thaw 1
        clear hst
        go_wp2_with fail
        refine bodyPost_ret (v := stgV xa n xc (some ⟨M, 0, none⟩) k mc2) (by simp [results, go_sem, y0, y1]) rfl ?_
        have hset : Beside (w.heap.size + 1) wr ((wr.setCell ⟨w.heap.size + 1, 0, none⟩ (.slice xa n xc)).setCell ⟨w.heap.size + 1, 1, none⟩ (.slice (some ⟨M, 0, none⟩) k mc2)) := ((Beside.refl _ wr).setCell 0 _).setCell 1 _
        have hbel : Below w.heap.size w ((wr.setCell ⟨w.heap.size + 1, 0, none⟩ (.slice xa n xc)).setCell ⟨w.heap.size + 1, 1, none⟩ (.slice (some ⟨M, 0, none⟩) k mc2)) := (HB1.out.trans (HST.out.lay.below.mono (by omega))).trans (hset.below (by omega) (by omega))
        exact ⟨xa, xc, M, mc2, rs, rfl, HOK.out.aside hset (by omega) (by omega) hbel⟩
end Go.Proofs.Ytgefhgcpnfbigaa

/- Contract of stage's after. (Printed by gen/genSt2.py.) -/
namespace Go.Proofs.Ytgefhgcpnfbigaa
open Go.RowKit Go.Sort

/-- One letter appended to a queue of the call's own, in a drawn region. -/
theorem step_append_str13 {ops : Array Oper} {o : Oper} {a : Act} {K : Act → World → Prop} {Q : Exit → Act → World → Prop} {E : Prop} {w1 : World} (W : World) (hgd : o.guard = none) (s x : Operand)
    (ho : o.op = .call { callee := .builtin .append, args := #[s, x], argTypes := #[23, 23] }) (base : Nat) (r : QR) (l : List Str) (lab : ByteArray)
    (hw1 : w1 = W.alloc (.cells #[.string lab] 9)) (hs : a.eval s = encQR r) (hx : a.eval x = .slice (some ⟨W.heap.size, 0, none⟩) 1 1) (hq : QOwn13 W base r l) (hl : lab.size ≤ maxLen) (hb : base ≤ W.heap.size) (hlen : r.n ≤ 1000)
    (h : ∀ (r' : QR) w', w'.ownsRow base 9 1 (encQR r') r'.n ((l ++ [lab.toList]).map encStr) → r'.n = r.n + 1 → W.heap.size ≤ w'.heap.size → (∀ b, b < W.heap.size → (encQR r).ownBlock ≠ some b → w'.heap[b]? = W.heap[b]?) → Below base W w' → K (a.put o.dst (encQR r')) w') :
    if Region.wanted o (yielded ops a.tmps) = true then Oper.wp Try.prog o a w1 K Q else E := by
  have hwant : Region.wanted o (yielded ops a.tmps) = true := by simp [Region.wanted, hgd]
  rw [if_pos hwant]
  subst hw1
  obtain ⟨v', w', hrun, hown, hgr, _⟩ := run_append_strs (P := Try.prog) (W.alloc (.cells #[.string lab] 9)) base 23 o.type 9 Try.underlying23 info9 (encQR r) r.n l (World.ownsRow.alloc hq.1 _) (W.heap.size + 1) (some ⟨W.heap.size, 0, none⟩) 1 1 [lab.toList] (strs_one W lab hl) (by omega) (by simp; omega)
  have hrun' : (Builtin.append_ #[23, 23] o.type #[encQR r, .slice (some ⟨W.heap.size, 0, none⟩) 1 1]).run Try.prog (W.alloc (.cells #[.string lab] 9)) = .ok v' w' := hrun
  obtain ⟨r', hr', hn'⟩ : ∃ r' : QR, v' = encQR r' ∧ r'.n = r.n + 1 := by
    rcases hown.2 with ⟨_, h0⟩ | ⟨g, cap, cur, hv, _⟩
    · omega
    · exact ⟨⟨some ⟨g, 0, none⟩, r.n + 1, cap⟩, hv, rfl⟩
  subst hr'
  have hz := hgr.size
  simp only [World.size_alloc] at hz
  unfold Oper.wp execOp
  simp only [ho, resolve, invoke, builtin, Sem.run_bind, Sem.run_pure, Result.andThen_ok, List.map_toArray, List.map_cons, List.map_nil, hs, hx, hrun']
  refine h r' w' (by rw [hn']; exact hown) hn' (by omega) (fun b hbl hne => (hgr.block b (by simp; omega) (fun e => hne e.symm)).trans ((tu1 W _).block b hbl)) ?_
  exact ((Below.refl base W).alloc hb _).grown hgr (by simp; omega) (fun k hk => (hq.1.lt k hk).1)
theorem IInts.some13 {w : World} {base n c : Nat} {xa : Option Addr} {l : List Int} (h : IInts w base (.slice xa n c) l) (hl : 1 ≤ l.length) : ∃ A, xa = some ⟨A, 0, none⟩ := by
  rcases h.2 with ⟨_, h0⟩ | ⟨g, cap, cur, hv, _⟩
  · omega
  · exact ⟨g, (Value.slice.inj hv).1⟩
def AfRet (w : World) (n mn : Nat) (s' : StgL) (e : Ending) (w' : World) : Prop := ∃ (xa : Option Addr) (xc M mc : Nat), e = .returned (stgV xa n xc (some ⟨M, 0, none⟩) mn mc) ∧ ∀ W' : World, Stays13 w.heap.size w' W' → StIn W' W'.heap.size xa n (some ⟨M, 0, none⟩) mn s'
set_option maxHeartbeats 16000000 in
set_option maxRecDepth 20000 in
theorem after_any (a : Option Addr) (n c : Nat) (ad : Addr) (mn mc : Nat) (s : StgL) (kd : Int) (r : Nat) (lab : ByteArray) (q : Nat) (nx : Int) (w : World) (h : StIn w w.heap.size a n (some ad) mn s) (hn : n ≤ 5) (h1 : 1 ≤ mn) (hm : mn ≤ 25) (h64 : ∀ q ∈ s.mail, q.length ≤ 64)
    (hr : r < n) (hq : q < mn) (hlab : lab.size ≤ maxLen) (hkd : kd ≠ 1 → ∃ x t, s.mail.getD q [] = x :: t) :
    Calls Try.prog 66 #[stgV a n c (some ad) mn mc, stepV kd (r : Int) lab q nx] w fun e w' => AfRet w n mn (afterS s ⟨⟨kd, r, lab.toList⟩, q, nx⟩) e w' ∧ Below w.heap.size w w' := by
  have HNL := Lib.hid h.at_.1
  have HML := Lib.hid h.mail.1
  have H64 := Lib.hid h64
  have HLB := Lib.hid hlab
  have HKD := Lib.hid hkd
  obtain ⟨W1, hW1⟩ : ∃ W1, W1 = ((w.alloc (.cells #[.slice a n c, .slice (some ad) mn mc] 38)).alloc (.cells #[.int .i64 kd, .int .i64 (r : Int), .string lab, .int .i64 (q : Int), .int .i64 nx] 92)).alloc (.cells #[.slice none 0 0, .slice none 0 0] 38) := ⟨_, rfl⟩
  have HB1 := Lib.hid (show Below w.heap.size w W1 by rw [hW1]; exact below_on (below_on (tu1 w _) (tu1 _ _)) (tu1 _ _))
  have HP1 := Lib.hid (show W1.heap[w.heap.size + 1]? = some (.cells #[.int .i64 kd, .int .i64 (r : Int), .string lab, .int .i64 (q : Int), .int .i64 nx] 92 (0, 0)) by
    have := heap_alloc_new (w.alloc (.cells #[.slice a n c, .slice (some ad) mn mc] 38)) (.cells #[.int .i64 kd, .int .i64 (r : Int), .string lab, .int .i64 (q : Int), .int .i64 nx] 92)
    rw [World.size_alloc] at this
    rw [hW1]
    exact ((tu1 _ _).block _ (by simp)).trans this)
  have HY1 := Lib.hid (show SBox W1 (w.heap.size + 2) none 0 0 none 0 0 by
    have := heap_alloc_new ((w.alloc (.cells #[.slice a n c, .slice (some ad) mn mc] 38)).alloc (.cells #[.int .i64 kd, .int .i64 (r : Int), .string lab, .int .i64 (q : Int), .int .i64 nx] 92)) (.cells #[.slice none 0 0, .slice none 0 0] 38)
    rw [World.size_alloc, World.size_alloc] at this
    rw [hW1]
    exact this)
  have hz1 : w.heap.size + 3 ≤ W1.heap.size := by rw [hW1]; simp
  have CX := Lib.hid (copyOf_any a n c ad mn mc s W1 ((h.below HB1.out).more HB1.out.size) hn h1 hm h64)
  clear h h64 hlab hkd
  rw [hW1] at CX
  have HW1 := Lib.hid hW1
  clear hW1
  go_enter Try.func66, Try.ntmps66
  go_upto_region 2 with (first
    | (go_at_call 86; (with_reducible refine CX.out.mono ?_)
       rintro e w2 ⟨xa, xc, M, mc2, rs, rfl, hcp⟩
       rw [← HW1.out] at hcp
       have HC2 := Lib.hid hcp
       clear hcp)
    | fail)
  clear CX HW1
  obtain ⟨A, rfl⟩ := HC2.out.lay.at_.some13 (by have := HNL.out; omega)
  have HC3 := Lib.hid (HC2.out.kept (tu1 w2 (.cells #[.slice (some ⟨A, 0, none⟩) n xc, .slice (some ⟨M, 0, none⟩) mn mc2] 38)) HC2.out.lay.below.size)
  have HX3 := Lib.hid (show SBox (w2.alloc (.cells #[.slice (some ⟨A, 0, none⟩) n xc, .slice (some ⟨M, 0, none⟩) mn mc2] 38)) w2.heap.size (some ⟨A, 0, none⟩) n xc (some ⟨M, 0, none⟩) mn mc2 from heap_alloc_new w2 _)
  have hg5 : W1.heap.size ≤ w2.heap.size := HC2.out.lay.below.size
  generalize w2.heap.size = g5 at HX3 hg5 ⊢
  generalize w2.alloc (.cells #[.slice (some ⟨A, 0, none⟩) n xc, .slice (some ⟨M, 0, none⟩) mn mc2] 38) = w3 at HC3 HX3 ⊢
  clear HC2
  have HPB := Lib.hid (fun (W : World) (hW : Below W1.heap.size W1 W) => show (W.cell? ⟨w.heap.size + 1, 0, none⟩ = some (.int .i64 kd) ∧ W.cell? ⟨w.heap.size + 1, 1, none⟩ = some (.int .i64 (r : Int)) ∧ W.cell? ⟨w.heap.size + 1, 2, none⟩ = some (.string lab) ∧ W.cell? ⟨w.heap.size + 1, 3, none⟩ = some (.int .i64 (q : Int)) ∧ W.cell? ⟨w.heap.size + 1, 4, none⟩ = some (.int .i64 nx)) from by
    have hh := (hW.block (w.heap.size + 1) (by omega)).trans HP1.out
    refine ⟨?_, ?_, ?_, ?_, ?_⟩ <;> (rw [cell_of_row _ _ _ _ _ _ hh]; rfl))
  have HC4 := Lib.hid (HC3.out.putAt HC3.out.lay.below.size r nx)
  have hgA : g5 ≠ A := fun e => rowOther13 HC3.out.lay.at_ HX3.out (by decide) (by rw [e]; rfl)
  have HX4 := Lib.hid (HX3.out.stay (((Beside.refl A w3).setCell r (.int .i64 nx)).block g5 HX3.out.lt hgA))
  have fz := IInts.thaw10 HC3.out.lay.at_ r
  have qa : w3.cell? ⟨A, r, none⟩ = some (.int .i64 (s.at_.getD r 0)) := IInts.cell10 HC3.out.lay.at_ (by rw [List.getD_eq_getElem?_getD, List.getElem?_eq_getElem (by rw [HNL.out]; exact hr)]; rfl)
  obtain ⟨p0, p1, p2, p3, p4⟩ := HPB.out w3 HC3.out.lay.below
  obtain ⟨x0, x1⟩ := HX3.out.cells
  have i1 : (r : Int) < (n : Int) := by omega
  have i2 : (0 : Int) ≤ (r : Int) := by omega
  go_upto_region 3 with fail
  clear p0 p1 p2 p3 p4 x0 x1 fz qa hgA
  generalize w3.setCell ⟨A, r, none⟩ (.int .i64 nx) = w4 at HC4 HX4 ⊢
  clear HC3 HX3
  have hz4 : W1.heap.size ≤ w4.heap.size := HC4.out.lay.below.size
  obtain ⟨p0, p1, p2, p3, p4⟩ := HPB.out w4 HC4.out.lay.below
  obtain ⟨x0, x1⟩ := HX4.out.cells
  obtain ⟨l, hl⟩ : ∃ l, s.mail[q]? = some l := ⟨_, List.getElem?_eq_getElem (by rw [HML.out]; exact hq)⟩
  obtain ⟨rq, hrq⟩ : ∃ rq, rs[q]? = some rq := ⟨_, List.getElem?_eq_getElem (by rw [HC4.out.lay.len, HML.out]; exact hq)⟩
  have HL := Lib.hid hl
  have HRQ := Lib.hid hrq
  have HGD := Lib.hid (show s.mail.getD q [] = l by rw [List.getD_eq_getElem?_getD, hl]; rfl)
  have HQO := Lib.hid (HC4.out.own q rq l hrq hl)
  have hq64 : rq.n ≤ 64 := by have := H64.out l (List.mem_of_getElem? hl); have := HQO.out.2.1; omega
  have hqc : rq.n ≤ rq.c := HQO.out.2.2.1
  have qm : w4.cell? ⟨M, q, none⟩ = some (.slice rq.a rq.n rq.c) := HC4.out.lay.row.at_ hrq
  have HSP := Lib.hid HC4.out.lay.spot
  obtain ⟨ra, rn, rc⟩ := rq
  dsimp only at hq64 hqc qm
  have HQM := Lib.hid qm
  have j1 : (q : Int) < (mn : Int) := by omega
  have j2 : (0 : Int) ≤ (q : Int) := by omega
  clear hl hrq
  have HFIN := Lib.hid (fun (W : World) (rs' : List QR) (ls' : List (List Str)) (hls : ls' = (afterS s ⟨⟨kd, r, lab.toList⟩, q, nx⟩).mail) (hf : FinSt W1 W W1.heap.size (some ⟨A, 0, none⟩) xc M mc2 rs' (s.at_.set r nx) ls') => show
      AfRet w n mn (afterS s ⟨⟨kd, r, lab.toList⟩, q, nx⟩) (.returned (stgV (some ⟨A, 0, none⟩) n xc (some ⟨M, 0, none⟩) mn mc2)) ((W.setCell ⟨w.heap.size + 2, 0, none⟩ (.slice (some ⟨A, 0, none⟩) n xc)).setCell ⟨w.heap.size + 2, 1, none⟩ (.slice (some ⟨M, 0, none⟩) mn mc2)) ∧
      Below w.heap.size w ((W.setCell ⟨w.heap.size + 2, 0, none⟩ (.slice (some ⟨A, 0, none⟩) n xc)).setCell ⟨w.heap.size + 2, 1, none⟩ (.slice (some ⟨M, 0, none⟩) mn mc2)) from by
    have hset : Beside (w.heap.size + 2) W ((W.setCell ⟨w.heap.size + 2, 0, none⟩ (.slice (some ⟨A, 0, none⟩) n xc)).setCell ⟨w.heap.size + 2, 1, none⟩ (.slice (some ⟨M, 0, none⟩) mn mc2)) := ((Beside.refl _ W).setCell 0 _).setCell 1 _
    have hb := hf.lay.below
    have hbel := (HB1.out.trans (hb.mono (by omega))).trans (hset.below (B := w.heap.size) (by omega) (by have := hb.size; omega))
    have h2 := fun (W' : World) (hb' : Stays13 w.heap.size _ W') => ((hf.aside hset (by omega) (show w.heap.size ≤ W1.heap.size by omega) hbel).fresh hb').reads
    have e1 : (s.at_.set r nx).length = n := by rw [List.length_set]; exact HNL.out
    have e2 : ls'.length = mn := by rw [hls]; show (s.mail.set q _).length = mn; rw [List.length_set]; exact HML.out
    rw [e1, e2, hls] at h2
    exact ⟨⟨_, _, _, _, rfl, h2⟩, hbel⟩)
  by_cases k1 : kd = 1
  · subst k1
    have HAM := Lib.hid (show s.mail.set q (l ++ [lab.toList]) = (afterS s ⟨⟨1, r, lab.toList⟩, q, nx⟩).mail by
      show _ = s.mail.set q (putQ 1 (s.mail.getD q []) lab.toList)
      rw [HGD.out]; rfl)
    go_upto_region 5 with fail
    clear p0 p1 p2 p3 p4 x0 x1 qm
    have HBd := Lib.hid (show Below w4.heap.size w4 w4.drew from bel_drewN (Below.refl _ _) 1)
    have HS := Lib.hid (fun (W : World) (h1 : W.cell? ⟨g5, 1, none⟩ = some (.slice (some ⟨M, 0, none⟩) mn mc2)) (hW : Below W1.heap.size W1 W) => show W.cell? ⟨g5, 1, none⟩ = some (.slice (some ⟨M, 0, none⟩) mn mc2) ∧ W.cell? ⟨w.heap.size + 1, 3, none⟩ = some (.int .i64 (q : Int)) ∧ W.cell? ⟨w.heap.size + 1, 2, none⟩ = some (.string lab) from ⟨h1, (HPB.out W hW).2.2.2.1, (HPB.out W hW).2.2.1⟩)
    have HS4 := Lib.hid (HS.out w4.drew (show w4.cell? _ = _ from HX4.out.cells.2) (HC4.out.lay.below.trans (HBd.out.mono hz4)))
    obtain ⟨wd, hwd⟩ : ∃ wd : World, wd = w4.drew := ⟨_, rfl⟩
    rw [← hwd] at HBd HS4
    have HCd := Lib.hid (HC4.out.kept HBd.out hz4)
    have HXd := Lib.hid (HX4.out.on HBd.out HX4.out.lt)
    have hzd : W1.heap.size ≤ wd.heap.size := HCd.out.lay.below.size
    refine wp_region_last2 (S := fun W => W.cell? ⟨g5, 1, none⟩ = some (.slice (some ⟨M, 0, none⟩) mn mc2) ∧ W.cell? ⟨w.heap.size + 1, 3, none⟩ = some (.int .i64 (q : Int)) ∧ W.cell? ⟨w.heap.size + 1, 2, none⟩ = some (.string lab)) rfl (by kernel_rfl) (by kernel_rfl) (by rw [← hwd]; exact HS4.out) (fun hHeld => ?_)
    simp only [List.pop_toArray, List.dropLast_cons_cons, List.dropLast_singleton]
    rw [← hwd]
    rw [← hwd] at hHeld
    clear hwd
    try simp only [Act.put, List.setIfInBounds_toArray]
    refine' wpAnyH_take (i := 0) (v := _) rfl (by kernel_rfl) (by kernel_rfl) (by kernel_rfl) (fun _ _ _ h => h) (Or.inl ⟨by kernel_rfl, ?hyc0⟩) (by assumption) ?restc0
    case hyc0 =>
      intro W hSw
      (try dsimp only at hSw)
      first | (go_simp; done) | (go_simp; with_reducible rfl)
    try simp only [Act.put]
    refine' wpAnyH_take (i := 1) (v := _) rfl (by kernel_rfl) (by kernel_rfl) (by kernel_rfl) (fun _ _ _ h => h) (Or.inl ⟨by kernel_rfl, ?hyc1⟩) (by assumption) ?restc1
    case hyc1 =>
      intro W hSw
      (try dsimp only at hSw)
      first | (go_simp; done) | (go_simp; with_reducible rfl)
    try simp only [Act.put]
    refine' wpAnyH_take (i := 2) (v := _) rfl (by kernel_rfl) (by kernel_rfl) (by kernel_rfl) (fun _ _ _ h => h) (Or.inl ⟨by kernel_rfl, ?hyc2⟩) (by assumption) ?restc2
    case hyc2 =>
      intro W hSw
      (try dsimp only at hSw)
      first | (go_simp; done) | (go_simp; with_reducible rfl)
    try simp only [Act.put]
    refine' wpAnyH_take (i := 3) (v := _) rfl (by kernel_rfl) (by kernel_rfl) (by kernel_rfl) (fun _ _ _ h => h) (Or.inl ⟨by kernel_rfl, ?hyc3⟩) (by assumption) ?restc3
    case hyc3 =>
      intro W hSw
      (try dsimp only at hSw)
      first | (go_simp; done) | (go_simp; with_reducible rfl)
    try simp only [Act.put]
    refine' wpAnyH_take (i := 4) (v := _) rfl (by kernel_rfl) (by kernel_rfl) (by kernel_rfl) (fun _ _ _ h => h) (Or.inl ⟨by kernel_rfl, ?hyc4⟩) (by assumption) ?restc4
    case hyc4 =>
      intro W hSw
      (try dsimp only at hSw)
      first | (go_simp; done) | (go_simp; with_reducible rfl)
    try simp only [Act.put]
    refine' wpAnyH_take (i := 5) (v := _) rfl (by kernel_rfl) (by kernel_rfl) (by kernel_rfl) (fun _ _ _ h => h) (Or.inl ⟨by kernel_rfl, ?hyc5⟩) (by assumption) ?restc5
    case hyc5 =>
      intro W hSw
      (try dsimp only at hSw)
      first | (go_simp; done) | (go_simp; with_reducible rfl)
    try simp only [Act.put]
    refine' wpAnyH_take (i := 6) (v := _) rfl (by kernel_rfl) (by kernel_rfl) (by kernel_rfl) (fun _ _ _ h => h) (Or.inl ⟨by kernel_rfl, ?hyc6⟩) (by assumption) ?restc6
    case hyc6 =>
      intro W hSw
      (try dsimp only at hSw)
      first | (go_simp; done) | (go_simp; with_reducible rfl)
    try simp only [Act.put]
    refine' wpAnyH_take (i := 7) (v := _) rfl (by kernel_rfl) (by kernel_rfl) (by kernel_rfl) (fun _ _ _ h => h) (Or.inl ⟨by kernel_rfl, ?hyc7⟩) (by assumption) ?restc7
    case hyc7 =>
      intro W hSw
      (try dsimp only at hSw)
      first | (go_simp; done) | (go_simp; with_reducible rfl)
    try simp only [Act.put, List.setIfInBounds_toArray]
    refine wpAnyH_ready (rs := [8]) (by kernel_rfl) (by simp) ?_
    refine AllReadyH.cons (i := 8) (o := _) rfl (fun K hK => ?_) AllReadyH.nil
    go_simp
    refine hK.out _ _ (HS.out _ (HXd.out.on (tu1 wd _) HXd.out.lt).cells.2 (HCd.out.lay.below.alloc hzd _)) (fun hHeld => ?_)
    clear hK K
    try simp only [Act.put, List.setIfInBounds_toArray]
    refine wpAnyH_ready (rs := [9]) (by kernel_rfl) (by simp) ?_
    refine AllReadyH.cons (i := 9) (o := _) rfl (fun K hK => ?_) AllReadyH.nil
    refine step_append_str13 wd (by rfl) (.tmp 31) (.tmp 35) (by rfl) W1.heap.size ⟨ra, rn, rc⟩ l lab (by rfl) (by rfl) (by rfl) (HCd.out.own q _ l HRQ.out HL.out) HLB.out hzd (by show rn ≤ 1000; omega) ?_
    intro r7 w7 ho7 hn7 hz7 hk7 hb7
    obtain ⟨ra7, rn7, rc7⟩ := r7
    have HF7 := Lib.hid (HCd.out.send HRQ.out HL.out (by rw [len_toList]; exact HLB.out) (r' := ⟨ra7, rn7, rc7⟩) ho7 (by rw [hn7]; show (rn + 1) * 16 ≤ _; omega) hz7 hk7 hb7)
    have hx7 : SBox w7 g5 (some ⟨A, 0, none⟩) n xc (some ⟨M, 0, none⟩) mn mc2 := HXd.out.stay (hk7 g5 HXd.out.lt (rowOther13 (HCd.out.own q _ l HRQ.out HL.out).1 HXd.out (by decide)))
    have hrow7 : mRow w7 W1.heap.size M s.mail.length mc2 rs := rowStay13 HCd.out.lay.row fun b e => hk7 b (HCd.out.lay.row.lt b e).2 (rowApart13 HCd.out.lay.row (HCd.out.own q _ l HRQ.out HL.out).1 (by decide) e)
    have HM7 := Lib.hid (show w7.frozen? ⟨M, q, none⟩ = false ∧ w7.cell? ⟨M, q, none⟩ = some (.slice ra rn rc) from ⟨hrow7.thaw q, hrow7.at_ HRQ.out⟩)
    have hgM : g5 ≠ M := fun e => rowOther13 hrow7 hx7 (by decide) (by rw [e]; rfl)
    have HX8 := Lib.hid (hx7.stay (((Beside.refl M w7).setCell q (encQR ⟨ra7, rn7, rc7⟩)).block g5 hx7.lt hgM))
    have HY8 := Lib.hid (HY1.out.on HF7.out.lay.below (by omega))
    have HS7 := Lib.hid (HS.out w7 hx7.cells.2 (HCd.out.lay.below.trans hb7))
    clear ho7 hn7 hz7 hk7 hb7 hx7 hrow7 hgM
    simp only [encQR] at HX8 HY8 HF7 ⊢
    refine hK.out _ _ HS7.out (fun hHeld => ?_)
    clear hK K
    try simp only [Act.put, List.setIfInBounds_toArray]
    refine' wpAnyH_take (i := 10) (v := _) rfl (by kernel_rfl) (by kernel_rfl) (by kernel_rfl) (fun _ _ _ h => h) (Or.inl ⟨by kernel_rfl, ?hyc10⟩) (by assumption) ?restc10
    case hyc10 =>
      intro W hSw
      (try dsimp only at hSw)
      first | (go_simp; done) | (go_simp; with_reducible rfl)
    try simp only [Act.put]
    refine wpAnyH_done (by kernel_rfl) ?_ _
    unfold LastPost
    obtain ⟨fz, qm⟩ := HM7.out
    obtain ⟨x0, x1⟩ := HX8.out.cells
    obtain ⟨y0, y1⟩ := HY8.out.cells
    have f0 := HY8.out.thaw 0
    have f1 := HY8.out.thaw 1
    go_simp
    go_wp2_with fail
    all_goals
      refine bodyPost_ret (v := stgV (some ⟨A, 0, none⟩) n xc (some ⟨M, 0, none⟩) mn mc2) (by simp [results, go_sem, y0, y1]) rfl ?_
      exact HFIN.out _ _ _ HAM.out HF7.out
  · have e1 : ((kd : Int) == 1) = false := by rw [beq_eq_false_iff_ne]; exact k1
    obtain ⟨x, t, hxt⟩ := HKD.out k1
    rw [HGD.out] at hxt
    have hrn : 1 ≤ rn := by have := HQO.out.2.1; rw [hxt] at this; simp at this; omega
    have HAM := Lib.hid (show s.mail.set q t = (afterS s ⟨⟨kd, r, lab.toList⟩, q, nx⟩).mail by
      show _ = s.mail.set q (putQ kd (s.mail.getD q []) lab.toList)
      rw [HGD.out, hxt]
      unfold putQ
      rw [if_neg k1]; rfl)
    have HLX := Lib.hid (show s.mail[q]? = some (x :: t) by rw [HL.out, hxt])
    have i3 : (1 : Int) ≤ (rn : Int) := by omega
    clear hxt k1
    go_upto_region 6 with fail
    clear p0 p1 p2 p3 p4 x0 x1 qm
    have HBd := Lib.hid (show Below w4.heap.size w4 w4.drew from bel_drewN (Below.refl _ _) 1)
    have HS := Lib.hid (fun (W : World) (h1 : W.cell? ⟨g5, 1, none⟩ = some (.slice (some ⟨M, 0, none⟩) mn mc2)) (hW : Below W1.heap.size W1 W) => show W.cell? ⟨g5, 1, none⟩ = some (.slice (some ⟨M, 0, none⟩) mn mc2) ∧ W.cell? ⟨w.heap.size + 1, 3, none⟩ = some (.int .i64 (q : Int)) ∧ W.cell? ⟨w.heap.size + 1, 2, none⟩ = some (.string lab) from ⟨h1, (HPB.out W hW).2.2.2.1, (HPB.out W hW).2.2.1⟩)
    have HS4 := Lib.hid (HS.out w4.drew (show w4.cell? _ = _ from HX4.out.cells.2) (HC4.out.lay.below.trans (HBd.out.mono hz4)))
    obtain ⟨wd, hwd⟩ : ∃ wd : World, wd = w4.drew := ⟨_, rfl⟩
    rw [← hwd] at HBd HS4
    have HCd := Lib.hid (HC4.out.kept HBd.out hz4)
    have HXd := Lib.hid (HX4.out.on HBd.out HX4.out.lt)
    have hzd : W1.heap.size ≤ wd.heap.size := HCd.out.lay.below.size
    have hf7 := HCd.out.recv hzd HRQ.out HLX.out
    dsimp only at hf7
    obtain ⟨X, hX⟩ : ∃ X : Option Addr, X = (if rc = 1 then ra else ra.map (·.add 1)) := ⟨_, rfl⟩
    rw [← hX] at hf7
    have HXX := Lib.hid hX
    have HF7 := Lib.hid hf7
    clear hX hf7
    have hgM : g5 ≠ M := fun e => rowOther13 HCd.out.lay.row HXd.out (by decide) (by rw [e]; rfl)
    have HX8 := Lib.hid (HXd.out.stay (((Beside.refl M wd).setCell q (.slice X (rn - 1) (rc - 1))).block g5 HXd.out.lt hgM))
    have HM7 := Lib.hid (show wd.frozen? ⟨M, q, none⟩ = false ∧ wd.cell? ⟨M, q, none⟩ = some (.slice ra rn rc) from ⟨HCd.out.lay.row.thaw q, HCd.out.lay.row.at_ HRQ.out⟩)
    have HY8 := Lib.hid (HY1.out.on HF7.out.lay.below (by omega))
    refine wp_region_last2 (S := fun W => W.cell? ⟨g5, 1, none⟩ = some (.slice (some ⟨M, 0, none⟩) mn mc2) ∧ W.cell? ⟨w.heap.size + 1, 3, none⟩ = some (.int .i64 (q : Int)) ∧ W.cell? ⟨w.heap.size + 1, 2, none⟩ = some (.string lab)) rfl (by kernel_rfl) (by kernel_rfl) (by rw [← hwd]; exact HS4.out) (fun hHeld => ?_)
    simp only [List.pop_toArray, List.dropLast_cons_cons, List.dropLast_singleton]
    rw [← hwd]
    rw [← hwd] at hHeld
    clear hwd hgM
    try simp only [Act.put, List.setIfInBounds_toArray]
    refine' wpAnyH_take (i := 0) (v := _) rfl (by kernel_rfl) (by kernel_rfl) (by kernel_rfl) (fun _ _ _ h => h) (Or.inl ⟨by kernel_rfl, ?hyd0⟩) (by assumption) ?restd0
    case hyd0 =>
      intro W hSw
      (try dsimp only at hSw)
      first | (go_simp; done) | (go_simp; with_reducible rfl)
    try simp only [Act.put, List.getElem_toArray, List.getElem_cons_zero, List.setIfInBounds_toArray, List.set_cons_succ, List.set_cons_zero]
    refine' wpAnyH_take (i := 1) (v := _) rfl (by kernel_rfl) (by kernel_rfl) (by kernel_rfl) (fun _ _ _ h => h) (Or.inl ⟨by kernel_rfl, ?hyd1⟩) (by assumption) ?restd1
    case hyd1 =>
      intro W hSw
      (try dsimp only at hSw)
      first | (go_simp; done) | (go_simp; with_reducible rfl)
    try simp only [Act.put]
    refine' wpAnyH_take (i := 2) (v := _) rfl (by kernel_rfl) (by kernel_rfl) (by kernel_rfl) (fun _ _ _ h => h) (Or.inl ⟨by kernel_rfl, ?hyd2⟩) (by assumption) ?restd2
    case hyd2 =>
      intro W hSw
      (try dsimp only at hSw)
      first | (go_simp; done) | (go_simp; with_reducible rfl)
    try simp only [Act.put, List.getElem_toArray, List.getElem_cons_succ, List.getElem_cons_zero, List.setIfInBounds_toArray, List.set_cons_succ, List.set_cons_zero]
    refine' wpAnyH_take (i := 3) (v := _) rfl (by kernel_rfl) (by kernel_rfl) (by kernel_rfl) (fun _ _ _ h => h) (Or.inl ⟨by kernel_rfl, ?hyd3⟩) (by assumption) ?restd3
    case hyd3 =>
      intro W hSw
      (try dsimp only at hSw)
      first | (go_simp; done) | (go_simp; with_reducible rfl)
    try simp only [Act.put]
    refine' wpAnyH_take (i := 4) (v := _) rfl (by kernel_rfl) (by kernel_rfl) (by kernel_rfl) (fun _ _ _ h => h) (Or.inl ⟨by kernel_rfl, ?hyd4⟩) (by assumption) ?restd4
    case hyd4 =>
      intro W hSw
      (try dsimp only at hSw)
      first | (go_simp; done) | (go_simp; with_reducible rfl)
    try simp only [Act.put, List.getElem_toArray, List.getElem_cons_succ, List.getElem_cons_zero, List.setIfInBounds_toArray, List.set_cons_succ, List.set_cons_zero]
    refine' wpAnyH_take (i := 5) (v := .slice X (rn - 1) (rc - 1)) rfl (by kernel_rfl) (by kernel_rfl) (by kernel_rfl) (fun _ _ _ h => h) (Or.inl ⟨by kernel_rfl, ?hyd5⟩) (by assumption) ?restd5
    case hyd5 =>
      intro W hSw
      (try dsimp only at hSw)
      go_simp; rw [HXX.out]; rfl
    try simp only [Act.put]
    refine' wpAnyH_take (i := 6) (v := _) rfl (by kernel_rfl) (by kernel_rfl) (by kernel_rfl) (fun _ _ _ h => h) (Or.inl ⟨by kernel_rfl, ?hyd6⟩) (by assumption) ?restd6
    case hyd6 =>
      intro W hSw
      (try dsimp only at hSw)
      first | (go_simp; done) | (go_simp; with_reducible rfl)
    try simp only [Act.put, List.setIfInBounds_toArray]
    refine wpAnyH_done (by kernel_rfl) ?_ _
    unfold LastPost
    obtain ⟨fz, qm⟩ := HM7.out
    obtain ⟨x0, x1⟩ := HX8.out.cells
    obtain ⟨y0, y1⟩ := HY8.out.cells
    have f0 := HY8.out.thaw 0
    have f1 := HY8.out.thaw 1
    go_simp
    go_wp2_with fail
    all_goals
      refine bodyPost_ret (v := stgV (some ⟨A, 0, none⟩) n xc (some ⟨M, 0, none⟩) mn mc2) (by simp [results, go_sem, y0, y1]) rfl ?_
      exact HFIN.out _ _ _ HAM.out HF7.out
end Go.Proofs.Ytgefhgcpnfbigaa

/- Contracts of stage.Moves and stage.Do. -/
namespace Go.Proofs.Ytgefhgcpnfbigaa
open Go.RowKit Go.Sort

theorem SpR_cells {w : World} {b o k : Nat} {t : SpR} (h : ∀ i, i < 5 → w.cell? ⟨b, o + k * 5 + i, none⟩ = (encSpR t)[i]?) : w.cell? ⟨b, o + k * 5, none⟩ = some (.int .i64 t.k) ∧ w.cell? ⟨b, o + k * 5 + 1, none⟩ = some (.int .i64 t.r) ∧ w.cell? ⟨b, o + k * 5 + 2, none⟩ = some (.string t.s) ∧ w.cell? ⟨b, o + k * 5 + 3, none⟩ = some (.int .i64 (t.q : Int)) ∧ w.cell? ⟨b, o + k * 5 + 4, none⟩ = some (.int .i64 t.x) :=
  ⟨h 0 (by omega), h 1 (by omega), h 2 (by omega), h 3 (by omega), h 4 (by omega)⟩
/-- A box of the call's own holds this step. -/
def SpBox (W : World) (g : Nat) (t : SpR) : Prop := W.heap[g]? = some (.cells #[.int .i64 t.k, .int .i64 t.r, .string t.s, .int .i64 (t.q : Int), .int .i64 t.x] 92 (0, 0))
theorem SpBox.cells {W : World} {g : Nat} {t : SpR} (h : SpBox W g t) : W.cell? ⟨g, 0, none⟩ = some (.int .i64 t.k) ∧ W.cell? ⟨g, 1, none⟩ = some (.int .i64 t.r) ∧ W.cell? ⟨g, 2, none⟩ = some (.string t.s) ∧ W.cell? ⟨g, 3, none⟩ = some (.int .i64 (t.q : Int)) ∧ W.cell? ⟨g, 4, none⟩ = some (.int .i64 t.x) := by
  refine ⟨?_, ?_, ?_, ?_, ?_⟩ <;> (rw [cell_of_row _ _ _ _ _ _ h]; rfl)
theorem steps_few {b : BookL} {rs : List Str} {s : StgL} (h : StgOk b rs s) : (stepsS b rs s).length ≤ 30 := by
  have h1 := stepsTo_len h s.at_.length
  have h2 : s.at_.length ≤ 5 := by rw [h.len]; exact h.few
  have h3 : (stepsS b rs s).length ≤ 6 * s.at_.length := h1
  omega
set_option maxHeartbeats 8000000 in
set_option maxRecDepth 20000 in
theorem stMoves_any (na : Option Addr) (nn nc : Nat) (sa : Option Addr) (sn sc : Nat) (ra : Option Addr) (rn rc : Nat) (pa : Option Addr) (pn pc : Nat) (a : Option Addr) (n c : Nat) (ma : Option Addr) (mn mc : Nat) (b : BookL) (rs : List Str) (s : StgL) (w : World) (hpc : pn ≤ pc) (h : StArg w na nn sa sn ra rn pa pn a n ma mn b rs s) :
    Calls Try.prog 32 #[bkV na nn nc sa sn sc ra rn rc, .slice pa pn pc, stgV a n c ma mn mc] w fun e w' => (∃ v, e = .returned v ∧ MvOwn w' w.heap.size v (movesS b rs s)) ∧ Below w.heap.size w w' := by
  have hF := StFr.start h nc sc rc c mc
  clear h
  generalize hW : (w.alloc (.cells #[.slice na nn nc, .slice sa sn sc, .slice ra rn rc] 26)).alloc (.cells #[.slice a n c, .slice ma mn mc] 38) = W1 at hF
  have HF := Lib.hid hF
  have hz1 : w.heap.size ≤ W1.heap.size := hF.below.size
  obtain ⟨⟨b0, b1, b2⟩, s0, s1⟩ := hF.cells
  have CM := Lib.hid (stMay_any na nn nc sa sn sc ra rn rc pa pn pc a n c ma mn mc b rs s W1 hpc hF.arg)
  clear hF
  cases v1 : stgB b rs s
  · rw [v1] at CM
    have HZ := Lib.hid (show movesS b rs s = [] by unfold movesS; rw [v1]; rfl)
    clear v1
    subst hW
    go_enter Try.func32, Try.ntmps32
    go_wp2_with (first
      | (go_at_call 29; (with_reducible refine CM.out.mono ?_)
         rintro e w2 ⟨rfl, hb2⟩
         have HB2 := Lib.hid hb2
         clear hb2)
      | fail)
    go_ret
    exact ⟨⟨_, rfl, by rw [HZ.out]; exact MvOwn.zero _ _⟩, (HF.out.on HB2.out).below⟩
  rw [v1] at CM
  have hok := stgOk_iff.1 v1
  have HOK := Lib.hid hok
  have HZ := Lib.hid (moves_ok hok)
  have HLN := Lib.hid (steps_few hok)
  have CS := Lib.hid (fun (W : World) (hb : Below W1.heap.size W1 W) => steps_any na nn nc sa sn sc ra rn rc pa pn pc a n c ma mn mc b rs s W hok (HF.out.on hb).arg)
  generalize stepsS b rs s = SL at CS HZ HLN
  clear v1 hok
  subst hW
  go_enter Try.func32, Try.ntmps32
  go_wp2_with (first
    | (go_at_call 29; (with_reducible refine CM.out.mono ?_)
       rintro e w2 ⟨rfl, hb2⟩
       have HB2 := Lib.hid hb2
       obtain ⟨⟨c0, c1, c2⟩, d0, d1⟩ := (HF.out.on HB2.out).cells
       clear hb2)
    | (go_at_call 65; (with_reducible refine (CS.out _ HB2.out).mono ?_)
       rintro e w3 ⟨⟨v3, rfl, ho3⟩, hb3⟩
       obtain ⟨xa, xc, hv3, hst, _, _⟩ := ho3.sees (by have := HLN.out; omega)
       obtain ⟨m, hm⟩ : ∃ m, m = SL.length := ⟨_, rfl⟩
       rw [← hm] at hv3 hst
       subst hv3
       have HST := Lib.hid hst
       have hm30 : m ≤ 30 := by rw [hm]; exact HLN.out
       have HB3 := Lib.hid (below_on HB2.out hb3)
       clear hb3 ho3 hst hm c0 c1 c2 d0 d1)
    | fail)
  clear b0 b1 b2 s0 s1
  go_loopw [7, 20] (fun o i wr => ∃ (k : Nat) (v : Value), k ≤ m ∧ i = .int .i64 k ∧ v = o ∧ Hid (MvOwn wr w3.heap.size v ((SL.take k).map StepL.mv)) ∧ Hid (Below w3.heap.size w3 wr)) (fun _ i _ => m - (intOf i).toNat)
  case atStart => exact ⟨0, _, Nat.zero_le _, rfl, rfl, Lib.hid (MvOwn.zero _ _), Lib.hid (Below.refl _ _)⟩
  case round =>
    obtain ⟨k, v, hk, rfl, hvs, HO, HBr⟩ := hrel
    subst hvs
    have hzr := HBr.out.size
    by_cases hlt : k < m
    · obtain ⟨eb, eo, t, rfl, heb, hx, hc, hs⟩ := (HST.out.below HBr.out).at_ hlt
      obtain ⟨q0, q1, q2, q3, q4⟩ := SpR_cells hc
      have HT := Lib.hid (show (SL.take (k + 1)).map StepL.mv = (SL.take k).map StepL.mv ++ [moveR ⟨t.k, t.r, t.s⟩] by
        rw [List.take_add_one, hx, List.map_append]; rfl)
      have HSS := Lib.hid hs
      have HKL := Lib.hid (show ((SL.take k).map StepL.mv).length ≤ 30 by rw [List.length_map, List.length_take]; have := HLN.out; omega)
      have HB4 := Lib.hid (HBr.out.alloc hzr (.cells #[.int .i64 t.k, .int .i64 t.r, .string t.s, .int .i64 (t.q : Int), .int .i64 t.x] 92))
      have HO4 := Lib.hid (HO.out.kept (tu1 wr (.cells #[.int .i64 t.k, .int .i64 t.r, .string t.s, .int .i64 (t.q : Int), .int .i64 t.x] 92)))
      have HP4 := Lib.hid (show SpBox (wr.alloc (.cells #[.int .i64 t.k, .int .i64 t.r, .string t.s, .int .i64 (t.q : Int), .int .i64 t.x] 92)) wr.heap.size t from heap_alloc_new wr _)
      have i1 : (k : Int) < (m : Int) := by omega
      have i2 : (0 : Int) ≤ (k : Int) := by omega
      clear hx hc hs
      go_upto_region 7 with fail
      generalize wr.heap.size = g4 at HP4 ⊢
      generalize wr.alloc (.cells #[.int .i64 t.k, .int .i64 t.r, .string t.s, .int .i64 (t.q : Int), .int .i64 t.x] 92) = w4 at HB4 HO4 HP4 ⊢
      obtain ⟨p0, p1, p2, p3, p4⟩ := HP4.out.cells
      clear q0 q1 q2 q3 q4
      go_wp2_with (first
        | (at_builtin
           refine wpList_append_MvR rfl (.tmp 24) (.tmp 27) rfl w3.heap.size _ _ ⟨t.k, t.r, t.s⟩ rfl rfl rfl rfl HO4.out HSS.out HB4.out.size (by have := HKL.out; omega) ?_
           intro v5 w5 ho5 hb5 _
           have HO5 := Lib.hid ho5
           have HB5 := Lib.hid (HB4.out.trans hb5)
           clear ho5 hb5)
        | fail)
      go_roundw
      case rel => exact ⟨k + 1, _, by omega, by go_num, rfl, Lib.hid (by rw [HT.out]; exact HO5.out), HB5⟩
      case measure => simp [intOf]; omega
    · obtain rfl : k = m := by omega
      have d3 : decide ((k : Int) < (k : Int)) = false := decide_eq_false (by omega)
      have HO2 := Lib.hid (show MvOwn wr w.heap.size v (movesS b rs s) by
        rw [HZ.out]
        have h1 := HO.out
        rw [List.take_of_length_le (by rw [HST.out.1]; exact Nat.le_refl _)] at h1
        exact h1.low (by have := HB3.out.size; omega))
      go_wp2_with fail
      go_ret
      exact ⟨⟨_, rfl, HO2.out⟩, HF.out.below.trans ((HB3.out.mono hz1).trans (HBr.out.mono (by have := HB3.out.size; omega)))⟩
/-- A stage and an error in memory that the call made. -/
def StRet (w : World) (s : StgL) (er : Int) (e : Ending) (w' : World) : Prop := ∃ (a : Option Addr) (n c : Nat) (ma : Option Addr) (mn mc : Nat), e = .returned (.tuple #[stgV a n c ma mn mc, .int .i64 er]) ∧ ∀ W' : World, Stays13 w.heap.size w' W' → StIn W' W'.heap.size a n ma mn s
theorem StIn.nil13 (W : World) : StIn W W.heap.size none 0 none 0 nilS := ⟨Nums.zero _ _ _, Mails.zero _ _ _⟩
theorem doS_at {b : BookL} {rs : List Str} {s : StgL} (h : StgOk b rs s) {m : MoveL} {k : Nat} {x : StepL} (hx : (stepsS b rs s)[k]? = some x) (he : x.mv = m) : doS b rs s m = (afterS s x, 0) := by
  subst he
  exact do_step h (List.mem_of_getElem? hx)
theorem doS_none {b : BookL} {rs : List Str} {s : StgL} (h : StgOk b rs s) {m : MoveL} (hm : ∀ x ∈ stepsS b rs s, x.mv ≠ m) : doS b rs s m = (nilS, 1301) := by
  unfold doS
  rw [if_pos (stgOk_iff.2 h)]
  cases hf : (stepsS b rs s).find? (fun x => decide (x.mv = m)) with
  | none => rfl
  | some x =>
    have h1 := List.find?_some hf
    exact absurd (of_decide_eq_true h1) (hm x (List.mem_of_find?_eq_some hf))
theorem mvNe_step {l : List StepL} {m : MoveL} {k : Nat} {x : StepL} (h : ∀ y ∈ l.take k, y.mv ≠ m) (hx : l[k]? = some x) (hn : x.mv ≠ m) : ∀ y ∈ l.take (k + 1), y.mv ≠ m := by
  intro y hy
  rw [List.take_add_one, hx, List.mem_append] at hy
  rcases hy with hy | hy
  · exact h y hy
  · obtain rfl : y = x := by simpa using hy
    exact hn
theorem StArg.frame13 {w : World} {na sa ra pa a ma : Option Addr} {nn sn rn pn n mn : Nat} {b : BookL} {rs : List Str} {s : StgL} (k : StArg w na nn sa sn ra rn pa pn a n ma mn b rs s) (nc sc rc c mc : Nat) (mk mr : Int) (ms : ByteArray) :
    ∃ W1, W1 = (((w.alloc (.cells #[.slice na nn nc, .slice sa sn sc, .slice ra rn rc] 26)).alloc (.cells #[.slice a n c, .slice ma mn mc] 38)).alloc (.cells #[.int .i64 mk, .int .i64 mr, .string ms] 40)).alloc (.cells #[.slice none 0 0, .slice none 0 0] 38) ∧
      StFr w W1 w.heap.size (w.heap.size + 1) na nn nc sa sn sc ra rn rc pa pn a n c ma mn mc b rs s ∧ W1.heap[w.heap.size + 2]? = some (.cells #[.int .i64 mk, .int .i64 mr, .string ms] 40 (0, 0)) ∧ SBox W1 (w.heap.size + 3) none 0 0 none 0 0 ∧ w.heap.size + 4 ≤ W1.heap.size := by
  have h0 := StFr.start k nc sc rc c mc
  have hz : ((w.alloc (.cells #[.slice na nn nc, .slice sa sn sc, .slice ra rn rc] 26)).alloc (.cells #[.slice a n c, .slice ma mn mc] 38)).heap.size = w.heap.size + 2 := by simp
  generalize (w.alloc (.cells #[.slice na nn nc, .slice sa sn sc, .slice ra rn rc] 26)).alloc (.cells #[.slice a n c, .slice ma mn mc] 38) = W at h0 hz
  have hm := heap_alloc_new W (.cells #[.int .i64 mk, .int .i64 mr, .string ms] 40)
  rw [hz] at hm
  have ht := tu1 W (.cells #[.int .i64 mk, .int .i64 mr, .string ms] 40)
  have hz2 : (W.alloc (.cells #[.int .i64 mk, .int .i64 mr, .string ms] 40)).heap.size = w.heap.size + 3 := by rw [World.size_alloc, hz]
  have h1 := h0.on ht
  generalize W.alloc (.cells #[.int .i64 mk, .int .i64 mr, .string ms] 40) = W2 at hm hz2 h1
  have hs := heap_alloc_new W2 (.cells #[.slice none 0 0, .slice none 0 0] 38)
  rw [hz2] at hs
  have ht2 := tu1 W2 (.cells #[.slice none 0 0, .slice none 0 0] 38)
  exact ⟨_, rfl, h1.on ht2, (ht2.block _ (by omega)).trans hm, hs, by rw [World.size_alloc, hz2]; exact Nat.le_refl _⟩
set_option maxHeartbeats 16000000 in
set_option maxRecDepth 20000 in
theorem stDo_any (na : Option Addr) (nn nc : Nat) (sa : Option Addr) (sn sc : Nat) (ra : Option Addr) (rn rc : Nat) (pa : Option Addr) (pn pc : Nat) (a : Option Addr) (n c : Nat) (ma : Option Addr) (mn mc : Nat) (b : BookL) (rs : List Str) (s : StgL) (mk mr : Int) (ms : ByteArray) (w : World) (hpc : pn ≤ pc) (h : StArg w na nn sa sn ra rn pa pn a n ma mn b rs s) :
    Calls Try.prog 26 #[bkV na nn nc sa sn sc ra rn rc, .slice pa pn pc, stgV a n c ma mn mc, moveV mk mr ms] w fun e w' => StRet w (doS b rs s ⟨mk, mr, ms.toList⟩).1 (doS b rs s ⟨mk, mr, ms.toList⟩).2 e w' ∧ Below w.heap.size w w' := by
  obtain ⟨W1, hW, hF, hM, hY, hz1⟩ := h.frame13 nc sc rc c mc mk mr ms
  clear h
  obtain ⟨D, hD⟩ : ∃ D, D = doS b rs s ⟨mk, mr, ms.toList⟩ := ⟨_, rfl⟩
  rw [← hD]
  have HD := Lib.hid hD
  clear hD
  have HF := Lib.hid hF
  have HMV := Lib.hid (fun (W : World) (hW : Below W1.heap.size W1 W) => show W.cell? ⟨w.heap.size + 2, 0, none⟩ = some (.int .i64 mk) ∧ W.cell? ⟨w.heap.size + 2, 1, none⟩ = some (.int .i64 mr) ∧ W.cell? ⟨w.heap.size + 2, 2, none⟩ = some (.string ms) from by
    have hh := (hW.block (w.heap.size + 2) (by omega)).trans hM
    refine ⟨?_, ?_, ?_⟩ <;> (rw [cell_of_row _ _ _ _ _ _ hh]; rfl))
  have HY := Lib.hid hY
  obtain ⟨⟨b0, b1, b2⟩, s0, s1⟩ := hF.cells
  have CM := Lib.hid (stMay_any na nn nc sa sn sc ra rn rc pa pn pc a n c ma mn mc b rs s W1 hpc hF.arg)
  have HNONE := Lib.hid (fun (er : Int) (W : World) (hW : Below W1.heap.size W1 W) => show StRet w nilS er (.returned (.tuple #[stgV none 0 0 none 0 0, .int .i64 er])) ((W.setCell ⟨w.heap.size + 3, 0, none⟩ (.slice none 0 0)).setCell ⟨w.heap.size + 3, 1, none⟩ (.slice none 0 0)) ∧ Below w.heap.size w ((W.setCell ⟨w.heap.size + 3, 0, none⟩ (.slice none 0 0)).setCell ⟨w.heap.size + 3, 1, none⟩ (.slice none 0 0)) from
    ⟨⟨none, 0, 0, none, 0, 0, rfl, fun _ _ => StIn.nil13 _⟩, (HF.out.below.trans (hW.mono HF.out.below.size)).trans ((((Beside.refl (w.heap.size + 3) W).setCell 0 (.slice none 0 0)).setCell 1 (.slice none 0 0)).below (by omega) (by have := hW.size; omega))⟩)
  clear hF hM hY
  cases v1 : stgB b rs s
  · rw [v1] at CM
    have HZ := Lib.hid (show D = (nilS, 1300) by rw [HD.out]; unfold doS; rw [v1]; rfl)
    clear v1
    rw [HZ.out]
    have HW := Lib.hid hW
    subst hW
    go_enter Try.func26, Try.ntmps26
    go_wp2_with (first
      | (go_at_call 29; (with_reducible refine CM.out.mono ?_)
         rintro e w2 ⟨rfl, hb2⟩
         have HB2 := Lib.hid hb2
         have HY2 := Lib.hid (HY.out.on HB2.out HY.out.lt)
         obtain ⟨y0, y1⟩ := HY2.out.cells
         have f0 := HY2.out.thaw 0
         have f1 := HY2.out.thaw 1
         clear hb2)
      | fail)
    refine bodyPost_ret (v := .tuple #[stgV none 0 0 none 0 0, .int .i64 1300]) (by simp [results, go_sem, y0, y1]) rfl ?_
    exact HNONE.out 1300 _ HB2.out
  rw [v1] at CM
  have hok := stgOk_iff.1 v1
  have HOK := Lib.hid hok
  have HLN := Lib.hid (steps_few hok)
  have CS := Lib.hid (fun (W : World) (hb : Below W1.heap.size W1 W) => steps_any na nn nc sa sn sc ra rn rc pa pn pc a n c ma mn mc b rs s W hok (HF.out.on hb).arg)
  have hnl : s.at_.length = n := HF.out.arg.st.at_.1
  have hml : s.mail.length = mn := HF.out.arg.st.mail.1
  have hn5 : n ≤ 5 := by rw [← hnl, hok.len]; exact hok.few
  have hmm := hok.many
  have hm25 : mn ≤ 25 := by rw [← hml, hmm]; exact Nat.mul_le_mul hok.few hok.few
  have hm1 : 1 ≤ mn := by rw [← hml, hmm]; exact Nat.mul_le_mul hok.pos hok.pos
  obtain ⟨mad, rfl⟩ : ∃ ad, ma = some ad := by
    obtain ⟨bb, off, e, _⟩ := HF.out.arg.st.mail.2.2 (by omega)
    exact ⟨_, e⟩
  have CA := Lib.hid (fun (W : World) (hb : Below W1.heap.size W1 W) (kd : Int) (r : Nat) (lab : ByteArray) (q : Nat) (nx : Int) (hr : r < n) (hq : q < mn) (hl : lab.size ≤ maxLen) (hk : kd ≠ 1 → ∃ x t, s.mail.getD q [] = x :: t) => after_any a n c mad mn mc s kd r lab q nx W (HF.out.on hb).arg.st hn5 hm1 hm25 hok.room hr hq hl hk)
  have HNL := Lib.hid hnl
  have HML := Lib.hid hml
  clear v1 hok hnl hml hmm
  have HW := Lib.hid hW
  subst hW
  go_enter Try.func26, Try.ntmps26
  go_wp2_with (first
    | (go_at_call 29; (with_reducible refine CM.out.mono ?_)
       rintro e w2 ⟨rfl, hb2⟩
       have HB2 := Lib.hid hb2
       obtain ⟨⟨c0, c1, c2⟩, d0, d1⟩ := (HF.out.on HB2.out).cells
       clear hb2)
    | (go_at_call 65; (with_reducible refine (CS.out _ HB2.out).mono ?_)
       rintro e w3 ⟨⟨v3, rfl, ho3⟩, hb3⟩
       obtain ⟨xa, xc, hv3, hst, _, _⟩ := ho3.sees (by have := HLN.out; omega)
       obtain ⟨m, hm⟩ : ∃ m, m = (stepsS b rs s).length := ⟨_, rfl⟩
       rw [← hm] at hv3 hst
       subst hv3
       have HST := Lib.hid hst
       have hm30 : m ≤ 30 := by rw [hm]; exact HLN.out
       have HB3 := Lib.hid (below_on HB2.out hb3)
       clear hb3 ho3 hst hm c0 c1 c2 d0 d1)
    | fail)
  clear b0 b1 b2 s0 s1
  generalize hW1 : (((w.alloc (.cells #[.slice na nn nc, .slice sa sn sc, .slice ra rn rc] 26)).alloc (.cells #[.slice a n c, .slice (some mad) mn mc] 38)).alloc (.cells #[.int .i64 mk, .int .i64 mr, .string ms] 40)).alloc (.cells #[.slice none 0 0, .slice none 0 0] 38) = W1 at *
  go_loopw [23] (fun i wr => ∃ (k : Nat), k ≤ m ∧ i = .int .i64 k ∧ Hid (∀ y ∈ (stepsS b rs s).take k, y.mv ≠ ⟨mk, mr, ms.toList⟩) ∧ Hid (Below w3.heap.size w3 wr)) (fun i _ => m - (intOf i).toNat)
  case atStart => exact ⟨0, Nat.zero_le _, rfl, Lib.hid (by simp), Lib.hid (Below.refl _ _)⟩
  case round =>
    obtain ⟨k, hk, rfl, HN, HBr⟩ := hrel
    have hzr := HBr.out.size
    have HBW := Lib.hid (HB3.out.trans (HBr.out.mono HB3.out.size))
    by_cases hlt : k < m
    · obtain ⟨eb, eo, t, rfl, heb, hx, hc, hs⟩ := (HST.out.below HBr.out).at_ hlt
      obtain ⟨q0, q1, q2, q3, q4⟩ := SpR_cells hc
      have HX := Lib.hid hx
      have HSS := Lib.hid hs
      have HB4 := Lib.hid (HBr.out.alloc hzr (.cells #[.int .i64 t.k, .int .i64 t.r, .string t.s, .int .i64 (t.q : Int), .int .i64 t.x] 92))
      have HBX := Lib.hid (HB3.out.trans (HB4.out.mono HB3.out.size))
      have HP4 := Lib.hid (show SpBox (wr.alloc (.cells #[.int .i64 t.k, .int .i64 t.r, .string t.s, .int .i64 (t.q : Int), .int .i64 t.x] 92)) wr.heap.size t from heap_alloc_new wr _)
      have i1 : (k : Int) < (m : Int) := by omega
      have i2 : (0 : Int) ≤ (k : Int) := by omega
      clear hx hc hs
      go_upto_region 6 with fail
      generalize wr.heap.size = g4 at HP4 ⊢
      generalize wr.alloc (.cells #[.int .i64 t.k, .int .i64 t.r, .string t.s, .int .i64 (t.q : Int), .int .i64 t.x] 92) = w4 at HB4 HBX HP4 ⊢
      obtain ⟨p0, p1, p2, p3, p4⟩ := HP4.out.cells
      obtain ⟨u0, u1, u2⟩ := HMV.out w4 HBX.out
      obtain ⟨⟨c0, c1, c2⟩, d0, d1⟩ := (HF.out.on HBX.out).cells
      clear q0 q1 q2 q3 q4
      have HNO := Lib.hid (fun (hne : moveR ⟨t.k, t.r, t.s⟩ ≠ (⟨mk, mr, ms.toList⟩ : MoveL)) => show ∀ y ∈ (stepsS b rs s).take (k + 1), y.mv ≠ ⟨mk, mr, ms.toList⟩ from mvNe_step HN.out HX.out hne)
      cases e0 : t.k == mk
      · have HN2 := Lib.hid (HNO.out (fun e => by rw [show t.k = mk from congrArg MoveL.kind e] at e0; simp at e0))
        go_wp2_with fail
        go_roundw
        case rel => exact ⟨k + 1, by omega, by go_num, HN2, HB4⟩
        case measure => simp [intOf]; omega
      cases e1 : t.r == mr
      · have HN2 := Lib.hid (HNO.out (fun e => by rw [show t.r = mr from congrArg MoveL.role e] at e1; simp at e1))
        go_wp2_with fail
        go_roundw
        case rel => exact ⟨k + 1, by omega, by go_num, HN2, HB4⟩
        case measure => simp [intOf]; omega
      cases e2 : t.s.toList == ms.toList
      · have HN2 := Lib.hid (HNO.out (fun e => by rw [show t.s.toList = ms.toList from congrArg MoveL.label e] at e2; simp at e2))
        go_wp2_with fail
        go_roundw
        case rel => exact ⟨k + 1, by omega, by go_num, HN2, HB4⟩
        case measure => simp [intOf]; omega
      · obtain ⟨r, pp, nd, ed, hsok⟩ := stepOk_of HOK.out (List.mem_of_getElem? HX.out)
        have HDO := Lib.hid (doS_at HOK.out HX.out (show moveR ⟨t.k, t.r, t.s⟩ = (⟨mk, mr, ms.toList⟩ : MoveL) by
          unfold moveR
          rw [eq_of_beq e0, eq_of_beq e1, eq_of_beq e2]))
        have hrr : t.r = (r : Int) := hsok.role
        have hrn : r < n := by have := hsok.lt; have := HOK.out.len; have := HNL.out; omega
        have hqm : t.q < mn := by have := hsok.queue; have := HOK.out.many; have := HML.out; show (stepR t).queue < mn; omega
        have hkk : t.k ≠ 1 → ∃ x u, s.mail.getD t.q [] = x :: u := fun h1 => by
          have hk0 : (stepR t).mv.kind = t.k := rfl
          have hq0 : (stepR t).queue = t.q := rfl
          rcases hsok.way with ⟨_, e, _⟩ | ⟨_, e, u, hu⟩
          · rw [e] at hk0; exact absurd hk0.symm h1
          · rw [e] at hq0
            exact ⟨_, u, by rw [← hq0]; exact hu⟩
        have CX := Lib.hid (CA.out w4 HBX.out t.k r t.s t.q t.x hrn hqm HSS.out hkk)
        have HSR := Lib.hid (show D = (afterS s ⟨⟨t.k, (r : Int), t.s.toList⟩, t.q, t.x⟩, 0) by rw [HD.out, HDO.out]; unfold stepR; rw [hrr])
        have HRR := Lib.hid hrr
        clear hsok hrr hrn hqm hkk HDO
        obtain ⟨tk, tr, ts, tq, tx⟩ := t
        obtain rfl : tr = (r : Int) := HRR.out
        dsimp only at CX e0 e1 e2 p0 p1 p2 p3 p4 HSR
        go_wp2_with (first
          | (go_at_call 66; (with_reducible refine CX.out.mono ?_)
             rintro e w5 ⟨⟨ya, yc, yM, ymc, rfl, hin5⟩, hb5⟩
             have HB5 := Lib.hid (below_on HBX.out hb5)
             have HIN5 := Lib.hid hin5
             have HY5 := Lib.hid (HY.out.on HB5.out HY.out.lt)
             obtain ⟨y0, y1⟩ := HY5.out.cells
             have f0 := HY5.out.thaw 0
             have f1 := HY5.out.thaw 1
             clear hb5 hin5)
          | fail)
        refine bodyPost_ret (v := .tuple #[stgV ya n yc (some ⟨yM, 0, none⟩) mn ymc, .int .i64 0]) (by simp [results, go_sem, y0, y1]) rfl ?_
        rw [HSR.out]
        have hset : Beside (w.heap.size + 3) w5 ((w5.setCell ⟨w.heap.size + 3, 0, none⟩ (.slice ya n yc)).setCell ⟨w.heap.size + 3, 1, none⟩ (.slice (some ⟨yM, 0, none⟩) mn ymc)) := ((Beside.refl _ w5).setCell 0 _).setCell 1 _
        exact ⟨⟨ya, n, yc, _, mn, ymc, rfl, fun W' hs' => HIN5.out W' ((Stays13.beside hset (by have := HBX.out.size; omega)).trans hs' (by have := HBX.out.size; omega))⟩, (HF.out.below.trans (HB5.out.mono HF.out.below.size)).trans (hset.below (by omega) (by have := HB5.out.size; omega))⟩
    · obtain rfl : k = m := by omega
      have d3 : decide ((k : Int) < (k : Int)) = false := decide_eq_false (by omega)
      have HZ := Lib.hid (show D = (nilS, 1301) from HD.out.trans <| doS_none HOK.out (fun x hx => HN.out x (by rw [List.take_of_length_le (by rw [HST.out.1]; exact Nat.le_refl _)]; exact hx)))
      have HYr := Lib.hid (HY.out.on HBW.out HY.out.lt)
      obtain ⟨y0, y1⟩ := HYr.out.cells
      have f0 := HYr.out.thaw 0
      have f1 := HYr.out.thaw 1
      go_wp2_with fail
      refine bodyPost_ret (v := .tuple #[stgV none 0 0 none 0 0, .int .i64 1301]) (by simp [results, go_sem, y0, y1]) rfl ?_
      rw [HZ.out]
      exact HNONE.out 1301 _ HBW.out
end Go.Proofs.Ytgefhgcpnfbigaa

/- Contract of stage.Begin. (Printed by gen/genSt3.py.) -/
namespace Go.Proofs.Ytgefhgcpnfbigaa
open Go.RowKit Go.Sort

theorem made_strs13 (n : Nat) (hn : n ≤ 1000) (W : World) : (Instr.makeSlice 36 (.int .i64 (n : Int)) (.int .i64 (n : Int))).run Try.prog W =
    .ok (.slice (some ⟨W.heap.size, 0, none⟩) n n) (W.alloc (.cells (madeCells #[.slice none 0 0] n) 23)) := by
  obtain ⟨i, hi, hzz⟩ := Option.map_eq_some_iff.1 info_strs13
  simp only [Prod.mk.injEq] at hzz
  obtain ⟨hz, hs, hb⟩ := hzz
  have hr := run_make (P := Try.prog) W 36 23 i _ Try.underlying36 hi hz .i64 .i64 (n : Int) (n : Int) (by omega) (by omega) (by rw [hb]; omega) (by omega)
  rw [hs, Int.toNat_natCast, Nat.mul_one] at hr
  exact hr
theorem madeQ_flat13 (n : Nat) : (madeCells #[.slice none 0 0] n).toList = (List.replicate n (⟨none, 0, 0⟩ : QR)).map encQR := by
  refine List.ext_getElem? fun i => ?_
  unfold madeCells
  rw [Array.toList_map, List.getElem?_map, Array.toList_range, List.getElem?_map, List.getElem?_replicate]
  rcases Nat.lt_or_ge i n with hi | hi
  · rw [List.getElem?_range hi, if_pos hi, Option.map_some, Option.map_some]
    show some ((#[Value.slice none 0 0] : Array Value)[i % 1]!) = _
    rw [Nat.mod_one]
    rfl
  · rw [List.getElem?_eq_none (by simpa using hi), if_neg (by omega)]
    rfl
theorem mRow.made13 (W : World) (n : Nat) (hn : n ≤ 1000) : mRow (W.alloc (.cells (madeCells #[.slice none 0 0] n) 23)) W.heap.size W.heap.size n n (List.replicate n ⟨none, 0, 0⟩) := by
  refine ⟨by simp, .inr ⟨W.heap.size, n, _, rfl, Nat.le_refl _, heap_alloc_new W _, Nat.le_refl _, by unfold maxLen; omega, by simp [madeCells], ?_⟩⟩
  rw [← madeQ_flat13, List.take_of_length_le (by simp [madeCells])]
theorem FinSt.empty13 {w0 W : World} {B : Nat} {xa : Option Addr} {xc M mn mc : Nat} {l : List Int} (h : CpLay w0 W B xa xc M mc (List.replicate mn ⟨none, 0, 0⟩) l mn) : FinSt w0 W B xa xc M mc (List.replicate mn ⟨none, 0, 0⟩) l (List.replicate mn []) := by
  refine ⟨by rw [List.length_replicate]; exact h, fun j r q hr hq => ?_⟩
  rw [List.getElem?_replicate] at hr hq
  split at hr
  · rename_i hj
    rw [if_pos hj] at hq
    obtain rfl := Option.some.inj hr
    obtain rfl := Option.some.inj hq
    exact ⟨Strs.zero _ _ _, fun b off e => by cases e⟩
  · cases hr
theorem CpLay.box13 {w0 W : World} {B g : Nat} {xa : Option Addr} {xc M mc mn n : Nat} {rs : List QR} {l : List Int} (h : CpLay w0 W B xa xc M mc rs l mn) (hB : B ≤ W.heap.size) (hl : l.length = n) (hg : SBox W g none 0 0 none 0 0) (hgB : B ≤ g) :
    CpLay w0 ((W.setCell ⟨g, 0, none⟩ (.slice xa n xc)).setCell ⟨g, 1, none⟩ (.slice (some ⟨M, 0, none⟩) mn mc)) B xa xc M mc rs l mn ∧ SBox ((W.setCell ⟨g, 0, none⟩ (.slice xa n xc)).setCell ⟨g, 1, none⟩ (.slice (some ⟨M, 0, none⟩) mn mc)) g xa n xc (some ⟨M, 0, none⟩) mn mc := by
  subst hl
  have hset : Beside g W ((W.setCell ⟨g, 0, none⟩ (.slice xa l.length xc)).setCell ⟨g, 1, none⟩ (.slice (some ⟨M, 0, none⟩) mn mc)) := ((Beside.refl g W).setCell 0 _).setCell 1 _
  exact ⟨⟨rowStay13 h.at_ fun b hb => hset.block b (h.at_.lt b hb).2 (fun e => rowOther13 h.at_ hg (by decide) (by rw [hb, e])), rowStay13 h.row fun b hb => hset.block b (h.row.lt b hb).2 (fun e => rowOther13 h.row hg (by decide) (by rw [hb, e])), h.len, h.below.trans (hset.below hgB hB)⟩, hg.fill⟩
set_option maxHeartbeats 16000000 in
set_option maxRecDepth 20000 in
theorem stBegin_any (na : Option Addr) (nn nc : Nat) (sa : Option Addr) (sn sc : Nat) (ra : Option Addr) (rn rc : Nat) (pa : Option Addr) (pn pc : Nat) (a : Option Addr) (n c : Nat) (b : BookL) (rs : List Str) (l : List Int) (w : World) (hpc : pn ≤ pc) (hn : n ≤ 1000) (hbk : BkIn w w.heap.size na nn sa sn ra rn b) (hrs : Strs w w.heap.size pa pn rs) (hrt : Nums w w.heap.size a n l) :
    Calls Try.prog 24 #[bkV na nn nc sa sn sc ra rn rc, .slice pa pn pc, .slice a n c] w fun e w' => StRet w (beginS b rs l).1 (beginS b rs l).2 e w' ∧ Below w.heap.size w w' := by
  obtain ⟨W1, hW1⟩ : ∃ W1, W1 = (w.alloc (.cells #[.slice na nn nc, .slice sa sn sc, .slice ra rn rc] 26)).alloc (.cells #[.slice none 0 0, .slice none 0 0] 38) := ⟨_, rfl⟩
  have HB1 := Lib.hid (show Below w.heap.size w W1 by rw [hW1]; exact below_on (tu1 w _) (tu1 _ _))
  have HX1 := Lib.hid (show BBox W1 w.heap.size na nn nc sa sn sc ra rn rc by rw [hW1]; exact ((tu1 _ _).block w.heap.size (by simp)).trans (heap_alloc_new w _))
  have HY1 := Lib.hid (show SBox W1 (w.heap.size + 1) none 0 0 none 0 0 by
    have := heap_alloc_new (w.alloc (.cells #[.slice na nn nc, .slice sa sn sc, .slice ra rn rc] 26)) (.cells #[.slice none 0 0, .slice none 0 0] 38)
    rw [World.size_alloc] at this
    rw [hW1]
    exact this)
  have hz1 : w.heap.size + 2 ≤ W1.heap.size := by rw [hW1]; simp
  have HBK := Lib.hid ((hbk.below HB1.out).more HB1.out.size)
  have HRS := Lib.hid ((hrs.below HB1.out).more HB1.out.size)
  have HRT := Lib.hid ((hrt.below HB1.out).more HB1.out.size)
  have HPL := Lib.hid hrs.1
  have HNL := Lib.hid hrt.1
  have hnz := hrt.2.1
  clear hbk hrs hrt
  obtain ⟨D, hD⟩ : ∃ D, D = beginS b rs l := ⟨_, rfl⟩
  rw [← hD]
  have HD := Lib.hid hD
  clear hD
  have HNONE := Lib.hid (fun (W : World) (hW : Below W1.heap.size W1 W) => show StRet w nilS 1300 (.returned (.tuple #[stgV none 0 0 none 0 0, .int .i64 1300])) ((W.setCell ⟨w.heap.size + 1, 0, none⟩ (.slice none 0 0)).setCell ⟨w.heap.size + 1, 1, none⟩ (.slice none 0 0)) ∧ Below w.heap.size w ((W.setCell ⟨w.heap.size + 1, 0, none⟩ (.slice none 0 0)).setCell ⟨w.heap.size + 1, 1, none⟩ (.slice none 0 0)) from
    ⟨⟨none, 0, 0, none, 0, 0, rfl, fun _ _ => StIn.nil13 _⟩, (HB1.out.trans (hW.mono HB1.out.size)).trans ((((Beside.refl (w.heap.size + 1) W).setCell 0 (.slice none 0 0)).setCell 1 (.slice none 0 0)).below (by omega) (by have := hW.size; omega))⟩)
  have CR := Lib.hid (validRoles_any pa pn pc rs W1 hpc HRS.out)
  cases v0 : rolesS rs
  · rw [v0] at CR
    have HZ := Lib.hid (show D = (nilS, 1300) by rw [HD.out]; unfold beginS stgB; rw [v0, Bool.and_false]; rfl)
    rw [HZ.out]
    clear v0
    rw [hW1] at CR
    have HW1 := Lib.hid hW1
    clear hW1
    go_enter Try.func24, Try.ntmps24
    go_wp2_with (first
      | (go_at_call 63; (with_reducible refine CR.out.mono ?_)
         rintro e w2 ⟨rfl, hb2⟩
         rw [← HW1.out] at hb2
         have HB2 := Lib.hid hb2
         have HY2 := Lib.hid (HY1.out.on HB2.out HY1.out.lt)
         obtain ⟨y0, y1⟩ := HY2.out.cells
         have f0 := HY2.out.thaw 0
         have f1 := HY2.out.thaw 1
         clear hb2)
      | fail)
    refine bodyPost_ret (v := .tuple #[stgV none 0 0 none 0 0, .int .i64 1300]) (by simp [results, go_sem, y0, y1]) rfl ?_
    exact HNONE.out _ HB2.out
  rw [v0] at CR
  have hfew := rolesS_few v0
  rw [HPL.out] at hfew
  obtain ⟨hp1, hp5⟩ := hfew
  have h25 : pn * pn ≤ 25 := Nat.mul_le_mul hp5 hp5
  obtain ⟨mn, hm⟩ : ∃ mn, mn = pn * pn := ⟨_, rfl⟩
  rw [← hm] at h25
  have hwm : IntKind.i64.wrap ((pn : Int) * (pn : Int)) = (mn : Int) := by
    rw [show (pn : Int) * (pn : Int) = (mn : Int) by rw [hm]; simp]
    simp [IntKind.wrap, IntKind.bits, IntKind.signed]; omega
  have HROOT := Lib.hid (show rootS rs l = ⟨l, List.replicate mn []⟩ by unfold rootS; rw [HPL.out, hm])
  have hmk := made_strs13 mn (by omega)
  clear v0 hm
  rw [hW1] at CR
  have HW1 := Lib.hid hW1
  clear hW1
  go_enter Try.func24, Try.ntmps24
  go_upto_region 3 with (first
    | (go_at_call 63; (with_reducible refine CR.out.mono ?_)
       rintro e w2 ⟨rfl, hb2⟩
       rw [← HW1.out] at hb2
       have HB2 := Lib.hid hb2
       clear hb2)
    | fail)
  clear CR HW1
  have hz2 : W1.heap.size ≤ w2.heap.size := HB2.out.size
  go_cut [8] (fun v wx => ∃ (g : Nat) (xa : Option Addr) (xc M : Nat), v = .pointer (some ⟨g, 0, none⟩) ∧ Hid (FinSt W1 wx W1.heap.size xa xc M mn (List.replicate mn ⟨none, 0, 0⟩) l (List.replicate mn [])) ∧ Hid (SBox wx g xa n xc (some ⟨M, 0, none⟩) mn mn))
  case first =>
    have HBd := Lib.hid (show Below W1.heap.size W1 w2.drew from bel_drewN HB2.out 1)
    have CI := Lib.hid (fun (W : World) (hW : Below W1.heap.size W1 W) => cloneI13_any a n c l W W1.heap.size hW.size (HRT.out.below hW) hn)
    obtain ⟨wd, hwd⟩ : ∃ wd : World, wd = w2.drew := ⟨_, rfl⟩
    rw [← hwd] at HBd
    refine wp_region_last2 (S := fun _ => True) rfl (by kernel_rfl) (by kernel_rfl) trivial (fun hHeld => ?_)
    simp only [List.pop_toArray, List.dropLast_cons_cons, List.dropLast_singleton]
    rw [← hwd]
    clear hwd
    try simp only [Act.put, List.setIfInBounds_toArray]
    refine' wpAnyH_take (i := 0) (v := _) rfl (by kernel_rfl) (by kernel_rfl) (by kernel_rfl) (fun _ _ _ h => h) (Or.inl ⟨by kernel_rfl, ?hya0⟩) (by assumption) ?resta0
    case hya0 =>
      intro W hSw
      (try dsimp only at hSw)
      first | (go_simp; done) | (go_simp; with_reducible rfl)
    try simp only [Act.put]
    refine' wpAnyH_take (i := 2) (v := _) rfl (by kernel_rfl) (by kernel_rfl) (by kernel_rfl) (fun _ _ _ h => h) (Or.inl ⟨by kernel_rfl, ?hya2⟩) (by assumption) ?resta2
    case hya2 =>
      intro W hSw
      (try dsimp only at hSw)
      first | (go_simp; done) | (go_simp; with_reducible rfl)
    try simp only [Act.put]
    refine' wpAnyH_take (i := 3) (v := _) rfl (by kernel_rfl) (by kernel_rfl) (by kernel_rfl) (fun _ _ _ h => h) (Or.inl ⟨by kernel_rfl, ?hya3⟩) (by assumption) ?resta3
    case hya3 =>
      intro W hSw
      (try dsimp only at hSw)
      first | (go_simp; done) | (go_simp; with_reducible rfl)
    try simp only [Act.put, List.getElem_toArray, List.getElem_cons_succ, List.getElem_cons_zero, List.setIfInBounds_toArray, List.set_cons_succ, List.set_cons_zero]
    refine' wpAnyH_take (i := 4) (v := _) rfl (by kernel_rfl) (by kernel_rfl) (by kernel_rfl) (fun _ _ _ h => h) (Or.inl ⟨by kernel_rfl, ?hya4⟩) (by assumption) ?resta4
    case hya4 =>
      intro W hSw
      (try dsimp only at hSw)
      first | (go_simp; done) | (go_simp; with_reducible rfl)
    try simp only [Act.put]
    refine' wpAnyH_take (i := 5) (v := _) rfl (by kernel_rfl) (by kernel_rfl) (by kernel_rfl) (fun _ _ _ h => h) (Or.inl ⟨by kernel_rfl, ?hya5⟩) (by assumption) ?resta5
    case hya5 =>
      intro W hSw
      (try dsimp only at hSw)
      first | (go_simp; done) | (go_simp; with_reducible rfl)
    try simp only [Act.put]
    refine' wpAnyH_take (i := 6) (v := _) rfl (by kernel_rfl) (by kernel_rfl) (by kernel_rfl) (fun _ _ _ h => h) (Or.inl ⟨by kernel_rfl, ?hya6⟩) (by assumption) ?resta6
    case hya6 =>
      intro W hSw
      (try dsimp only at hSw)
      first | (go_simp; done) | (go_simp; with_reducible rfl)
    try simp only [Act.put, List.getElem_toArray, List.getElem_cons_succ, List.getElem_cons_zero, List.setIfInBounds_toArray, List.set_cons_succ, List.set_cons_zero]
    refine wpAnyH_ready (rs := [1, 7, 9]) (by kernel_rfl) (by simp) ?_
    refine (AllReadyH.cons (i := 1) (o := _) rfl (fun K hK => ?bra1) (AllReadyH.cons (i := 7) (o := _) rfl (fun K hK => ?bra7) (AllReadyH.cons (i := 9) (o := _) rfl (fun K hK => ?bra9) AllReadyH.nil)))
    case bra1 =>
      go_simp
      go_at_call 64
      with_reducible refine (CI.out _ HBd.out).mono ?_
      rintro e wa1 ⟨⟨xa, xc, rfl, hiwa1⟩, hbwa1⟩
      have HBwa1 := Lib.hid (HBd.out.trans (hbwa1.mono HBd.out.size))
      have HIwa1 := Lib.hid (IInts.low hiwa1 HBd.out.size)
      have HTwa1 := Lib.hid hbwa1
      clear hiwa1 hbwa1
      refine hK.out _ _ trivial (fun hHeld => ?_)
      clear hK K
      try simp only [Act.put, List.getElem_toArray, List.getElem_cons_succ, List.getElem_cons_zero, List.setIfInBounds_toArray, List.set_cons_succ, List.set_cons_zero]
      refine wpAnyH_ready (rs := [7, 9]) (by kernel_rfl) (by simp) ?_
      refine (AllReadyH.cons (i := 7) (o := _) rfl (fun K hK => ?brax17) (AllReadyH.cons (i := 9) (o := _) rfl (fun K hK => ?brax19) AllReadyH.nil))
      case brax17 =>
        go_simp
        obtain ⟨wax17, hwax17⟩ : ∃ W : World, W = wa1.alloc (.cells (madeCells #[.slice none 0 0] mn) 23) := ⟨_, rfl⟩
        have HBwax17 := Lib.hid (show Below W1.heap.size W1 wax17 by rw [hwax17]; exact HBwa1.out.alloc HBwa1.out.size _)
        have HTwax17 := Lib.hid (show Below wa1.heap.size wa1 wax17 by rw [hwax17]; exact tu1 wa1 _)
        have HMwax17 := Lib.hid (show mRow wax17 W1.heap.size wa1.heap.size mn mn (List.replicate mn ⟨none, 0, 0⟩) by rw [hwax17]; exact rowLow13 (mRow.made13 wa1 mn (by omega)) HBwa1.out.size)
        rw [← hwax17]
        clear hwax17
        have HIwa1xwax17 := Lib.hid (show IInts wax17 W1.heap.size (.slice xa n xc) l from rowKept13 HIwa1.out HTwax17.out)
        refine hK.out _ _ trivial (fun hHeld => ?_)
        clear hK K
        try simp only [Act.put, List.setIfInBounds_toArray]
        refine' wpAnyH_take (i := 8) (v := _) rfl (by kernel_rfl) (by kernel_rfl) (by kernel_rfl) (fun _ _ _ h => h) (Or.inl ⟨by kernel_rfl, ?hyax1x78⟩) (by assumption) ?restax1x78
        case hyax1x78 =>
          intro W hSw
          (try dsimp only at hSw)
          first | (go_simp; done) | (go_simp; with_reducible rfl)
        try simp only [Act.put, List.getElem_toArray, List.getElem_cons_succ, List.getElem_cons_zero, List.setIfInBounds_toArray, List.set_cons_succ, List.set_cons_zero]
        refine wpAnyH_ready (rs := [9]) (by kernel_rfl) (by simp) ?_
        refine (AllReadyH.cons (i := 9) (o := _) rfl (fun K hK => ?brax1x79) AllReadyH.nil)
        case brax1x79 =>
          go_simp
          obtain ⟨wax1x79, hwax1x79⟩ : ∃ W : World, W = wax17.alloc (.cells #[.slice none 0 0, .slice none 0 0] 38) := ⟨_, rfl⟩
          have HBwax1x79 := Lib.hid (show Below W1.heap.size W1 wax1x79 by rw [hwax1x79]; exact HBwax17.out.alloc HBwax17.out.size _)
          have HTwax1x79 := Lib.hid (show Below wax17.heap.size wax17 wax1x79 by rw [hwax1x79]; exact tu1 wax17 _)
          have HCwax1x79 := Lib.hid (show SBox wax1x79 wax17.heap.size none 0 0 none 0 0 by rw [hwax1x79]; exact heap_alloc_new wax17 _)
          have hgewax1x79 : W1.heap.size ≤ wax17.heap.size := HBwax17.out.size
          rw [← hwax1x79]
          clear hwax1x79
          have HIwa1xwax17xwax1x79 := Lib.hid (show IInts wax1x79 W1.heap.size (.slice xa n xc) l from rowKept13 HIwa1xwax17.out HTwax1x79.out)
          have HMwax17xwax1x79 := Lib.hid (show mRow wax1x79 W1.heap.size wa1.heap.size mn mn (List.replicate mn ⟨none, 0, 0⟩) from rowKept13 HMwax17.out HTwax1x79.out)
          refine hK.out _ _ trivial (fun hHeld => ?_)
          clear hK K
          have z1 := CpLay.box13 (w0 := W1) (W := wax1x79) (B := W1.heap.size) (g := wax17.heap.size) (xa := xa) (xc := xc) (M := wa1.heap.size) (mc := mn) (mn := mn) (rs := List.replicate mn ⟨none, 0, 0⟩) (l := l) ⟨by rw [HNL.out]; exact HIwa1xwax17xwax1x79.out, HMwax17xwax1x79.out, List.length_replicate, HBwax1x79.out⟩ HBwax1x79.out.size HNL.out HCwax1x79.out hgewax1x79
          have HZ := Lib.hid z1
          obtain ⟨c0, c1⟩ := HCwax1x79.out.cells
          have f0 := HCwax1x79.out.thaw 0
          have f1 := HCwax1x79.out.thaw 1
          clear z1
          try simp only [Act.put]
          refine wpAnyH_done (by kernel_rfl) ?_ _
          unfold LastPost
          go_simp
          go_wp2_with fail
          all_goals
            go_meet
            case rel => exact ⟨_, xa, xc, _, rfl, Lib.hid (FinSt.empty13 HZ.out.1), Lib.hid HZ.out.2⟩
      case brax19 =>
        go_simp
        obtain ⟨wax19, hwax19⟩ : ∃ W : World, W = wa1.alloc (.cells #[.slice none 0 0, .slice none 0 0] 38) := ⟨_, rfl⟩
        have HBwax19 := Lib.hid (show Below W1.heap.size W1 wax19 by rw [hwax19]; exact HBwa1.out.alloc HBwa1.out.size _)
        have HTwax19 := Lib.hid (show Below wa1.heap.size wa1 wax19 by rw [hwax19]; exact tu1 wa1 _)
        have HCwax19 := Lib.hid (show SBox wax19 wa1.heap.size none 0 0 none 0 0 by rw [hwax19]; exact heap_alloc_new wa1 _)
        have hgewax19 : W1.heap.size ≤ wa1.heap.size := HBwa1.out.size
        rw [← hwax19]
        clear hwax19
        have HIwa1xwax19 := Lib.hid (show IInts wax19 W1.heap.size (.slice xa n xc) l from rowKept13 HIwa1.out HTwax19.out)
        refine hK.out _ _ trivial (fun hHeld => ?_)
        clear hK K
        try simp only [Act.put, List.getElem_toArray, List.getElem_cons_succ, List.getElem_cons_zero, List.setIfInBounds_toArray, List.set_cons_succ, List.set_cons_zero]
        refine wpAnyH_ready (rs := [7]) (by kernel_rfl) (by simp) ?_
        refine (AllReadyH.cons (i := 7) (o := _) rfl (fun K hK => ?brax1x97) AllReadyH.nil)
        case brax1x97 =>
          go_simp
          obtain ⟨wax1x97, hwax1x97⟩ : ∃ W : World, W = wax19.alloc (.cells (madeCells #[.slice none 0 0] mn) 23) := ⟨_, rfl⟩
          have HBwax1x97 := Lib.hid (show Below W1.heap.size W1 wax1x97 by rw [hwax1x97]; exact HBwax19.out.alloc HBwax19.out.size _)
          have HTwax1x97 := Lib.hid (show Below wax19.heap.size wax19 wax1x97 by rw [hwax1x97]; exact tu1 wax19 _)
          have HMwax1x97 := Lib.hid (show mRow wax1x97 W1.heap.size wax19.heap.size mn mn (List.replicate mn ⟨none, 0, 0⟩) by rw [hwax1x97]; exact rowLow13 (mRow.made13 wax19 mn (by omega)) HBwax19.out.size)
          rw [← hwax1x97]
          clear hwax1x97
          have HCwax19xwax1x97 := Lib.hid (HCwax19.out.on HTwax1x97.out HCwax19.out.lt)
          have HIwa1xwax19xwax1x97 := Lib.hid (show IInts wax1x97 W1.heap.size (.slice xa n xc) l from rowKept13 HIwa1xwax19.out HTwax1x97.out)
          refine hK.out _ _ trivial (fun hHeld => ?_)
          clear hK K
          try simp only [Act.put, List.setIfInBounds_toArray]
          refine' wpAnyH_take (i := 8) (v := _) rfl (by kernel_rfl) (by kernel_rfl) (by kernel_rfl) (fun _ _ _ h => h) (Or.inl ⟨by kernel_rfl, ?hyax1x9x78⟩) (by assumption) ?restax1x9x78
          case hyax1x9x78 =>
            intro W hSw
            (try dsimp only at hSw)
            first | (go_simp; done) | (go_simp; with_reducible rfl)
          have z1 := CpLay.box13 (w0 := W1) (W := wax1x97) (B := W1.heap.size) (g := wa1.heap.size) (xa := xa) (xc := xc) (M := wax19.heap.size) (mc := mn) (mn := mn) (rs := List.replicate mn ⟨none, 0, 0⟩) (l := l) ⟨by rw [HNL.out]; exact HIwa1xwax19xwax1x97.out, HMwax1x97.out, List.length_replicate, HBwax1x97.out⟩ HBwax1x97.out.size HNL.out HCwax19xwax1x97.out hgewax19
          have HZ := Lib.hid z1
          obtain ⟨c0, c1⟩ := HCwax19xwax1x97.out.cells
          have f0 := HCwax19xwax1x97.out.thaw 0
          have f1 := HCwax19xwax1x97.out.thaw 1
          clear z1
          try simp only [Act.put]
          refine wpAnyH_done (by kernel_rfl) ?_ _
          unfold LastPost
          go_simp
          go_wp2_with fail
          all_goals
            go_meet
            case rel => exact ⟨_, xa, xc, _, rfl, Lib.hid (FinSt.empty13 HZ.out.1), Lib.hid HZ.out.2⟩
    case bra7 =>
      go_simp
      obtain ⟨wa7, hwa7⟩ : ∃ W : World, W = wd.alloc (.cells (madeCells #[.slice none 0 0] mn) 23) := ⟨_, rfl⟩
      have HBwa7 := Lib.hid (show Below W1.heap.size W1 wa7 by rw [hwa7]; exact HBd.out.alloc HBd.out.size _)
      have HTwa7 := Lib.hid (show Below wd.heap.size wd wa7 by rw [hwa7]; exact tu1 wd _)
      have HMwa7 := Lib.hid (show mRow wa7 W1.heap.size wd.heap.size mn mn (List.replicate mn ⟨none, 0, 0⟩) by rw [hwa7]; exact rowLow13 (mRow.made13 wd mn (by omega)) HBd.out.size)
      rw [← hwa7]
      clear hwa7
      refine hK.out _ _ trivial (fun hHeld => ?_)
      clear hK K
      try simp only [Act.put, List.getElem_toArray, List.getElem_cons_succ, List.getElem_cons_zero, List.setIfInBounds_toArray, List.set_cons_succ, List.set_cons_zero]
      refine wpAnyH_ready (rs := [1, 9]) (by kernel_rfl) (by simp) ?_
      refine (AllReadyH.cons (i := 1) (o := _) rfl (fun K hK => ?brax71) (AllReadyH.cons (i := 9) (o := _) rfl (fun K hK => ?brax79) AllReadyH.nil))
      case brax71 =>
        go_simp
        go_at_call 64
        with_reducible refine (CI.out _ HBwa7.out).mono ?_
        rintro e wax71 ⟨⟨xa, xc, rfl, hiwax71⟩, hbwax71⟩
        have HBwax71 := Lib.hid (HBwa7.out.trans (hbwax71.mono HBwa7.out.size))
        have HIwax71 := Lib.hid (IInts.low hiwax71 HBwa7.out.size)
        have HTwax71 := Lib.hid hbwax71
        clear hiwax71 hbwax71
        have HMwa7xwax71 := Lib.hid (show mRow wax71 W1.heap.size wd.heap.size mn mn (List.replicate mn ⟨none, 0, 0⟩) from rowKept13 HMwa7.out HTwax71.out)
        refine hK.out _ _ trivial (fun hHeld => ?_)
        clear hK K
        try simp only [Act.put, List.setIfInBounds_toArray]
        refine' wpAnyH_take (i := 8) (v := _) rfl (by kernel_rfl) (by kernel_rfl) (by kernel_rfl) (fun _ _ _ h => h) (Or.inl ⟨by kernel_rfl, ?hyax7x18⟩) (by assumption) ?restax7x18
        case hyax7x18 =>
          intro W hSw
          (try dsimp only at hSw)
          first | (go_simp; done) | (go_simp; with_reducible rfl)
        try simp only [Act.put, List.getElem_toArray, List.getElem_cons_succ, List.getElem_cons_zero, List.setIfInBounds_toArray, List.set_cons_succ, List.set_cons_zero]
        refine wpAnyH_ready (rs := [9]) (by kernel_rfl) (by simp) ?_
        refine (AllReadyH.cons (i := 9) (o := _) rfl (fun K hK => ?brax7x19) AllReadyH.nil)
        case brax7x19 =>
          go_simp
          obtain ⟨wax7x19, hwax7x19⟩ : ∃ W : World, W = wax71.alloc (.cells #[.slice none 0 0, .slice none 0 0] 38) := ⟨_, rfl⟩
          have HBwax7x19 := Lib.hid (show Below W1.heap.size W1 wax7x19 by rw [hwax7x19]; exact HBwax71.out.alloc HBwax71.out.size _)
          have HTwax7x19 := Lib.hid (show Below wax71.heap.size wax71 wax7x19 by rw [hwax7x19]; exact tu1 wax71 _)
          have HCwax7x19 := Lib.hid (show SBox wax7x19 wax71.heap.size none 0 0 none 0 0 by rw [hwax7x19]; exact heap_alloc_new wax71 _)
          have hgewax7x19 : W1.heap.size ≤ wax71.heap.size := HBwax71.out.size
          rw [← hwax7x19]
          clear hwax7x19
          have HIwax71xwax7x19 := Lib.hid (show IInts wax7x19 W1.heap.size (.slice xa n xc) l from rowKept13 HIwax71.out HTwax7x19.out)
          have HMwa7xwax71xwax7x19 := Lib.hid (show mRow wax7x19 W1.heap.size wd.heap.size mn mn (List.replicate mn ⟨none, 0, 0⟩) from rowKept13 HMwa7xwax71.out HTwax7x19.out)
          refine hK.out _ _ trivial (fun hHeld => ?_)
          clear hK K
          have z1 := CpLay.box13 (w0 := W1) (W := wax7x19) (B := W1.heap.size) (g := wax71.heap.size) (xa := xa) (xc := xc) (M := wd.heap.size) (mc := mn) (mn := mn) (rs := List.replicate mn ⟨none, 0, 0⟩) (l := l) ⟨by rw [HNL.out]; exact HIwax71xwax7x19.out, HMwa7xwax71xwax7x19.out, List.length_replicate, HBwax7x19.out⟩ HBwax7x19.out.size HNL.out HCwax7x19.out hgewax7x19
          have HZ := Lib.hid z1
          obtain ⟨c0, c1⟩ := HCwax7x19.out.cells
          have f0 := HCwax7x19.out.thaw 0
          have f1 := HCwax7x19.out.thaw 1
          clear z1
          try simp only [Act.put]
          refine wpAnyH_done (by kernel_rfl) ?_ _
          unfold LastPost
          go_simp
          go_wp2_with fail
          all_goals
            go_meet
            case rel => exact ⟨_, xa, xc, _, rfl, Lib.hid (FinSt.empty13 HZ.out.1), Lib.hid HZ.out.2⟩
      case brax79 =>
        go_simp
        obtain ⟨wax79, hwax79⟩ : ∃ W : World, W = wa7.alloc (.cells #[.slice none 0 0, .slice none 0 0] 38) := ⟨_, rfl⟩
        have HBwax79 := Lib.hid (show Below W1.heap.size W1 wax79 by rw [hwax79]; exact HBwa7.out.alloc HBwa7.out.size _)
        have HTwax79 := Lib.hid (show Below wa7.heap.size wa7 wax79 by rw [hwax79]; exact tu1 wa7 _)
        have HCwax79 := Lib.hid (show SBox wax79 wa7.heap.size none 0 0 none 0 0 by rw [hwax79]; exact heap_alloc_new wa7 _)
        have hgewax79 : W1.heap.size ≤ wa7.heap.size := HBwa7.out.size
        rw [← hwax79]
        clear hwax79
        have HMwa7xwax79 := Lib.hid (show mRow wax79 W1.heap.size wd.heap.size mn mn (List.replicate mn ⟨none, 0, 0⟩) from rowKept13 HMwa7.out HTwax79.out)
        refine hK.out _ _ trivial (fun hHeld => ?_)
        clear hK K
        try simp only [Act.put, List.getElem_toArray, List.getElem_cons_succ, List.getElem_cons_zero, List.setIfInBounds_toArray, List.set_cons_succ, List.set_cons_zero]
        refine wpAnyH_ready (rs := [1]) (by kernel_rfl) (by simp) ?_
        refine (AllReadyH.cons (i := 1) (o := _) rfl (fun K hK => ?brax7x91) AllReadyH.nil)
        case brax7x91 =>
          go_simp
          go_at_call 64
          with_reducible refine (CI.out _ HBwax79.out).mono ?_
          rintro e wax7x91 ⟨⟨xa, xc, rfl, hiwax7x91⟩, hbwax7x91⟩
          have HBwax7x91 := Lib.hid (HBwax79.out.trans (hbwax7x91.mono HBwax79.out.size))
          have HIwax7x91 := Lib.hid (IInts.low hiwax7x91 HBwax79.out.size)
          have HTwax7x91 := Lib.hid hbwax7x91
          clear hiwax7x91 hbwax7x91
          have HCwax79xwax7x91 := Lib.hid (HCwax79.out.on HTwax7x91.out HCwax79.out.lt)
          have HMwa7xwax79xwax7x91 := Lib.hid (show mRow wax7x91 W1.heap.size wd.heap.size mn mn (List.replicate mn ⟨none, 0, 0⟩) from rowKept13 HMwa7xwax79.out HTwax7x91.out)
          refine hK.out _ _ trivial (fun hHeld => ?_)
          clear hK K
          try simp only [Act.put, List.setIfInBounds_toArray]
          refine' wpAnyH_take (i := 8) (v := _) rfl (by kernel_rfl) (by kernel_rfl) (by kernel_rfl) (fun _ _ _ h => h) (Or.inl ⟨by kernel_rfl, ?hyax7x9x18⟩) (by assumption) ?restax7x9x18
          case hyax7x9x18 =>
            intro W hSw
            (try dsimp only at hSw)
            first | (go_simp; done) | (go_simp; with_reducible rfl)
          have z1 := CpLay.box13 (w0 := W1) (W := wax7x91) (B := W1.heap.size) (g := wa7.heap.size) (xa := xa) (xc := xc) (M := wd.heap.size) (mc := mn) (mn := mn) (rs := List.replicate mn ⟨none, 0, 0⟩) (l := l) ⟨by rw [HNL.out]; exact HIwax7x91.out, HMwa7xwax79xwax7x91.out, List.length_replicate, HBwax7x91.out⟩ HBwax7x91.out.size HNL.out HCwax79xwax7x91.out hgewax79
          have HZ := Lib.hid z1
          obtain ⟨c0, c1⟩ := HCwax79xwax7x91.out.cells
          have f0 := HCwax79xwax7x91.out.thaw 0
          have f1 := HCwax79xwax7x91.out.thaw 1
          clear z1
          try simp only [Act.put]
          refine wpAnyH_done (by kernel_rfl) ?_ _
          unfold LastPost
          go_simp
          go_wp2_with fail
          all_goals
            go_meet
            case rel => exact ⟨_, xa, xc, _, rfl, Lib.hid (FinSt.empty13 HZ.out.1), Lib.hid HZ.out.2⟩
    case bra9 =>
      go_simp
      obtain ⟨wa9, hwa9⟩ : ∃ W : World, W = wd.alloc (.cells #[.slice none 0 0, .slice none 0 0] 38) := ⟨_, rfl⟩
      have HBwa9 := Lib.hid (show Below W1.heap.size W1 wa9 by rw [hwa9]; exact HBd.out.alloc HBd.out.size _)
      have HTwa9 := Lib.hid (show Below wd.heap.size wd wa9 by rw [hwa9]; exact tu1 wd _)
      have HCwa9 := Lib.hid (show SBox wa9 wd.heap.size none 0 0 none 0 0 by rw [hwa9]; exact heap_alloc_new wd _)
      have hgewa9 : W1.heap.size ≤ wd.heap.size := HBd.out.size
      rw [← hwa9]
      clear hwa9
      refine hK.out _ _ trivial (fun hHeld => ?_)
      clear hK K
      try simp only [Act.put, List.getElem_toArray, List.getElem_cons_succ, List.getElem_cons_zero, List.setIfInBounds_toArray, List.set_cons_succ, List.set_cons_zero]
      refine wpAnyH_ready (rs := [1, 7]) (by kernel_rfl) (by simp) ?_
      refine (AllReadyH.cons (i := 1) (o := _) rfl (fun K hK => ?brax91) (AllReadyH.cons (i := 7) (o := _) rfl (fun K hK => ?brax97) AllReadyH.nil))
      case brax91 =>
        go_simp
        go_at_call 64
        with_reducible refine (CI.out _ HBwa9.out).mono ?_
        rintro e wax91 ⟨⟨xa, xc, rfl, hiwax91⟩, hbwax91⟩
        have HBwax91 := Lib.hid (HBwa9.out.trans (hbwax91.mono HBwa9.out.size))
        have HIwax91 := Lib.hid (IInts.low hiwax91 HBwa9.out.size)
        have HTwax91 := Lib.hid hbwax91
        clear hiwax91 hbwax91
        have HCwa9xwax91 := Lib.hid (HCwa9.out.on HTwax91.out HCwa9.out.lt)
        refine hK.out _ _ trivial (fun hHeld => ?_)
        clear hK K
        try simp only [Act.put, List.getElem_toArray, List.getElem_cons_succ, List.getElem_cons_zero, List.setIfInBounds_toArray, List.set_cons_succ, List.set_cons_zero]
        refine wpAnyH_ready (rs := [7]) (by kernel_rfl) (by simp) ?_
        refine (AllReadyH.cons (i := 7) (o := _) rfl (fun K hK => ?brax9x17) AllReadyH.nil)
        case brax9x17 =>
          go_simp
          obtain ⟨wax9x17, hwax9x17⟩ : ∃ W : World, W = wax91.alloc (.cells (madeCells #[.slice none 0 0] mn) 23) := ⟨_, rfl⟩
          have HBwax9x17 := Lib.hid (show Below W1.heap.size W1 wax9x17 by rw [hwax9x17]; exact HBwax91.out.alloc HBwax91.out.size _)
          have HTwax9x17 := Lib.hid (show Below wax91.heap.size wax91 wax9x17 by rw [hwax9x17]; exact tu1 wax91 _)
          have HMwax9x17 := Lib.hid (show mRow wax9x17 W1.heap.size wax91.heap.size mn mn (List.replicate mn ⟨none, 0, 0⟩) by rw [hwax9x17]; exact rowLow13 (mRow.made13 wax91 mn (by omega)) HBwax91.out.size)
          rw [← hwax9x17]
          clear hwax9x17
          have HCwa9xwax91xwax9x17 := Lib.hid (HCwa9xwax91.out.on HTwax9x17.out HCwa9xwax91.out.lt)
          have HIwax91xwax9x17 := Lib.hid (show IInts wax9x17 W1.heap.size (.slice xa n xc) l from rowKept13 HIwax91.out HTwax9x17.out)
          refine hK.out _ _ trivial (fun hHeld => ?_)
          clear hK K
          try simp only [Act.put, List.setIfInBounds_toArray]
          refine' wpAnyH_take (i := 8) (v := _) rfl (by kernel_rfl) (by kernel_rfl) (by kernel_rfl) (fun _ _ _ h => h) (Or.inl ⟨by kernel_rfl, ?hyax9x1x78⟩) (by assumption) ?restax9x1x78
          case hyax9x1x78 =>
            intro W hSw
            (try dsimp only at hSw)
            first | (go_simp; done) | (go_simp; with_reducible rfl)
          have z1 := CpLay.box13 (w0 := W1) (W := wax9x17) (B := W1.heap.size) (g := wd.heap.size) (xa := xa) (xc := xc) (M := wax91.heap.size) (mc := mn) (mn := mn) (rs := List.replicate mn ⟨none, 0, 0⟩) (l := l) ⟨by rw [HNL.out]; exact HIwax91xwax9x17.out, HMwax9x17.out, List.length_replicate, HBwax9x17.out⟩ HBwax9x17.out.size HNL.out HCwa9xwax91xwax9x17.out hgewa9
          have HZ := Lib.hid z1
          obtain ⟨c0, c1⟩ := HCwa9xwax91xwax9x17.out.cells
          have f0 := HCwa9xwax91xwax9x17.out.thaw 0
          have f1 := HCwa9xwax91xwax9x17.out.thaw 1
          clear z1
          try simp only [Act.put]
          refine wpAnyH_done (by kernel_rfl) ?_ _
          unfold LastPost
          go_simp
          go_wp2_with fail
          all_goals
            go_meet
            case rel => exact ⟨_, xa, xc, _, rfl, Lib.hid (FinSt.empty13 HZ.out.1), Lib.hid HZ.out.2⟩
      case brax97 =>
        go_simp
        obtain ⟨wax97, hwax97⟩ : ∃ W : World, W = wa9.alloc (.cells (madeCells #[.slice none 0 0] mn) 23) := ⟨_, rfl⟩
        have HBwax97 := Lib.hid (show Below W1.heap.size W1 wax97 by rw [hwax97]; exact HBwa9.out.alloc HBwa9.out.size _)
        have HTwax97 := Lib.hid (show Below wa9.heap.size wa9 wax97 by rw [hwax97]; exact tu1 wa9 _)
        have HMwax97 := Lib.hid (show mRow wax97 W1.heap.size wa9.heap.size mn mn (List.replicate mn ⟨none, 0, 0⟩) by rw [hwax97]; exact rowLow13 (mRow.made13 wa9 mn (by omega)) HBwa9.out.size)
        rw [← hwax97]
        clear hwax97
        have HCwa9xwax97 := Lib.hid (HCwa9.out.on HTwax97.out HCwa9.out.lt)
        refine hK.out _ _ trivial (fun hHeld => ?_)
        clear hK K
        try simp only [Act.put, List.getElem_toArray, List.getElem_cons_succ, List.getElem_cons_zero, List.setIfInBounds_toArray, List.set_cons_succ, List.set_cons_zero]
        refine wpAnyH_ready (rs := [1]) (by kernel_rfl) (by simp) ?_
        refine (AllReadyH.cons (i := 1) (o := _) rfl (fun K hK => ?brax9x71) AllReadyH.nil)
        case brax9x71 =>
          go_simp
          go_at_call 64
          with_reducible refine (CI.out _ HBwax97.out).mono ?_
          rintro e wax9x71 ⟨⟨xa, xc, rfl, hiwax9x71⟩, hbwax9x71⟩
          have HBwax9x71 := Lib.hid (HBwax97.out.trans (hbwax9x71.mono HBwax97.out.size))
          have HIwax9x71 := Lib.hid (IInts.low hiwax9x71 HBwax97.out.size)
          have HTwax9x71 := Lib.hid hbwax9x71
          clear hiwax9x71 hbwax9x71
          have HCwa9xwax97xwax9x71 := Lib.hid (HCwa9xwax97.out.on HTwax9x71.out HCwa9xwax97.out.lt)
          have HMwax97xwax9x71 := Lib.hid (show mRow wax9x71 W1.heap.size wa9.heap.size mn mn (List.replicate mn ⟨none, 0, 0⟩) from rowKept13 HMwax97.out HTwax9x71.out)
          refine hK.out _ _ trivial (fun hHeld => ?_)
          clear hK K
          try simp only [Act.put, List.setIfInBounds_toArray]
          refine' wpAnyH_take (i := 8) (v := _) rfl (by kernel_rfl) (by kernel_rfl) (by kernel_rfl) (fun _ _ _ h => h) (Or.inl ⟨by kernel_rfl, ?hyax9x7x18⟩) (by assumption) ?restax9x7x18
          case hyax9x7x18 =>
            intro W hSw
            (try dsimp only at hSw)
            first | (go_simp; done) | (go_simp; with_reducible rfl)
          have z1 := CpLay.box13 (w0 := W1) (W := wax9x71) (B := W1.heap.size) (g := wd.heap.size) (xa := xa) (xc := xc) (M := wa9.heap.size) (mc := mn) (mn := mn) (rs := List.replicate mn ⟨none, 0, 0⟩) (l := l) ⟨by rw [HNL.out]; exact HIwax9x71.out, HMwax97xwax9x71.out, List.length_replicate, HBwax9x71.out⟩ HBwax9x71.out.size HNL.out HCwa9xwax97xwax9x71.out hgewa9
          have HZ := Lib.hid z1
          obtain ⟨c0, c1⟩ := HCwa9xwax97xwax9x71.out.cells
          have f0 := HCwa9xwax97xwax9x71.out.thaw 0
          have f1 := HCwa9xwax97xwax9x71.out.thaw 1
          clear z1
          try simp only [Act.put]
          refine wpAnyH_done (by kernel_rfl) ?_ _
          unfold LastPost
          go_simp
          go_wp2_with fail
          all_goals
            go_meet
            case rel => exact ⟨_, xa, xc, _, rfl, Lib.hid (FinSt.empty13 HZ.out.1), Lib.hid HZ.out.2⟩
  case rest =>
    obtain ⟨g, xa, xc, M, e8, HFS, HSB⟩ := hcut
    subst e8
    have hzx : W1.heap.size ≤ wc.heap.size := HFS.out.lay.below.size
    have hin := HFS.out.reads
    rw [HNL.out, List.length_replicate] at hin
    have CM := Lib.hid (stMay_any na nn nc sa sn sc ra rn rc pa pn pc xa n xc (some ⟨M, 0, none⟩) mn mn b rs ⟨l, List.replicate mn []⟩ wc hpc ⟨(HBK.out.below HFS.out.lay.below).more hzx, (HRS.out.below HFS.out.lay.below).more hzx, hin⟩)
    clear hin
    obtain ⟨s0, s1⟩ := HSB.out.cells
    obtain ⟨x0, x1, x2⟩ := (HX1.out.on HFS.out.lay.below HX1.out.lt).cells
    clear hmk hwm
    cases v1 : stgB b rs ⟨l, List.replicate mn []⟩
    · rw [v1] at CM
      have HZ := Lib.hid (show D = (nilS, 1300) by rw [HD.out]; unfold beginS; rw [HROOT.out, v1]; rfl)
      clear v1
      go_wp2_with (first
        | (go_at_call 29; (with_reducible refine CM.out.mono ?_)
           rintro e w4 ⟨rfl, hb4⟩
           have HB4 := Lib.hid (HFS.out.lay.below.trans (hb4.mono hzx))
           have HY4 := Lib.hid (HY1.out.on HB4.out HY1.out.lt)
           obtain ⟨y0, y1⟩ := HY4.out.cells
           have f0 := HY4.out.thaw 0
           have f1 := HY4.out.thaw 1
           clear hb4)
        | fail)
      refine bodyPost_ret (v := .tuple #[stgV none 0 0 none 0 0, .int .i64 1300]) (by simp [results, go_sem, y0, y1]) rfl ?_
      rw [HZ.out]
      exact HNONE.out _ HB4.out
    · rw [v1] at CM
      have HZ := Lib.hid (show D = (⟨l, List.replicate mn []⟩, 0) by rw [HD.out]; unfold beginS; rw [HROOT.out, v1]; rfl)
      clear v1
      go_wp2_with (first
        | (go_at_call 29; (with_reducible refine CM.out.mono ?_)
           rintro e w4 ⟨rfl, hb4⟩
           have HB4 := Lib.hid (HFS.out.lay.below.trans (hb4.mono hzx))
           have HT4 := Lib.hid hb4
           have HY4 := Lib.hid (HY1.out.on HB4.out HY1.out.lt)
           obtain ⟨t0, t1⟩ := (HSB.out.on hb4 HSB.out.lt).cells
           obtain ⟨y0, y1⟩ := HY4.out.cells
           have f0 := HY4.out.thaw 0
           have f1 := HY4.out.thaw 1
           clear hb4)
        | fail)
      refine bodyPost_ret (v := .tuple #[stgV xa n xc (some ⟨M, 0, none⟩) mn mn, .int .i64 0]) (by simp [results, go_sem, y0, y1]) rfl ?_
      rw [HZ.out]
      have hset : Beside (w.heap.size + 1) w4 ((w4.setCell ⟨w.heap.size + 1, 0, none⟩ (.slice xa n xc)).setCell ⟨w.heap.size + 1, 1, none⟩ (.slice (some ⟨M, 0, none⟩) mn mn)) := ((Beside.refl _ w4).setCell 0 _).setCell 1 _
      refine ⟨⟨xa, n, xc, _, mn, mn, rfl, fun W' hs' => ?_⟩, (HB1.out.trans (HB4.out.mono HB1.out.size)).trans (hset.below (by omega) (by have := HB4.out.size; omega))⟩
      have h3 := (HFS.out.fresh (((Stays13.below HT4.out).trans (Stays13.beside hset (show w.heap.size + 1 < W1.heap.size by omega)) (Nat.le_refl _)).trans hs' (by omega))).reads
      rw [HNL.out, List.length_replicate] at h3
      exact h3
end Go.Proofs.Ytgefhgcpnfbigaa

/- Contracts of slices.Equal at numbers and strings, slices.EqualFunc at queues, stage.Same. -/
namespace Go.Proofs.Ytgefhgcpnfbigaa
open Go.RowKit Go.Sort

theorem eqL_at13 {α : Type} [DecidableEq α] {l l' : List α} {k : Nat} {x y : α} (hx : l[k]? = some x) (hy : l'[k]? = some y) : decide (l.drop k = l'.drop k) = (decide (x = y) && decide (l.drop (k + 1) = l'.drop (k + 1))) := by
  obtain ⟨h1, e1⟩ := List.getElem?_eq_some_iff.1 hx
  obtain ⟨h2, e2⟩ := List.getElem?_eq_some_iff.1 hy
  rw [List.drop_eq_getElem_cons h1, e1, List.drop_eq_getElem_cons h2, e2, Bool.eq_iff_iff]
  simp
theorem Strs.part13 {w : World} {bound : Nat} {a : Option Addr} {n : Nat} {ss : List Str} (h : Strs w bound a n ss) {k : Nat} (hk : k < n) : ∃ (b off : Nat) (s : ByteArray), a = some ⟨b, off, none⟩ ∧ b < bound ∧ ss[k]? = some s.toList ∧ w.cell? ⟨b, off + k, none⟩ = some (.string s) := by
  obtain ⟨b, off, e, hb, hc⟩ := h.at_ hk
  exact ⟨b, off, baS (ss.getD k []), e, hb, by rw [baS_toList, List.getD_eq_getElem?_getD, List.getElem?_eq_getElem (by rw [h.1]; exact hk)]; rfl, hc⟩
set_option maxHeartbeats 4000000 in
theorem equalI13_any (a b : Option Addr) (n m ca cb : Nat) (l l' : List Int) (w : World) (bound : Nat) (ha : Nums w bound a n l) (hb : Nums w bound b m l') :
    Calls Try.prog 48 #[.slice a n ca, .slice b m cb] w fun e w' => e = .returned (.bool (decide (l = l'))) ∧ ∃ q, w' = w.drewN q := by
  have hn := ha.1
  have hm := hb.1
  have hsn := ha.2.1
  have hsm := hb.2.1
  have HA := Lib.hid ha
  have HB := Lib.hid hb
  obtain ⟨R, hR⟩ : ∃ R, R = decide (l = l') := ⟨_, rfl⟩
  rw [← hR]
  have HR := Lib.hid hR
  clear ha hb hR
  by_cases hnm : n = m
  · subst hnm
    have HN := Lib.hid hn
    have HM := Lib.hid hm
    have nn : ((n : Int) != (n : Int)) = false := by simp
    clear hn hm
    go_enter Try.func48, Try.ntmps48
    go_wp2
    go_loopw [13] (fun i wr => ∃ k : Nat, k ≤ n ∧ i = .int .i64 k ∧ Hid (R = decide (l.drop k = l'.drop k)) ∧ ∃ q, wr = w.drewN q) (fun i _ => n - (intOf i).toNat)
    case atStart => exact ⟨0, Nat.zero_le _, rfl, Lib.hid HR.out, 0, rfl⟩
    case round =>
      obtain ⟨k, hk, rfl, HK, q, rfl⟩ := hrel
      by_cases hlt : k < n
      · obtain ⟨b1, o1, x, rfl, _, hx, x0⟩ := HA.out.at_ hlt
        obtain ⟨b2, o2, y, rfl, _, hy, y0⟩ := HB.out.at_ hlt
        have hst := HK.out.trans (eqL_at13 hx hy)
        have i1 : (k : Int) < (n : Int) := by omega
        have i2 : (0 : Int) ≤ (k : Int) := by omega
        clear hx hy
        cases c1 : (x == y)
        · rw [decide_eq_false (fun e => by rw [e] at c1; simp at c1)] at hst
          have HZ := Lib.hid hst
          clear hst
          go_wp2
          go_quiet (fail)
          go_wp2
          go_ret
          exact ⟨ret_bool (by rw [HZ.out]; rfl), q + nq, World.drewN_drewN _ _ _⟩
        · rw [decide_eq_true (eq_of_beq c1)] at hst
          have HZ := Lib.hid (show R = decide (l.drop (k + 1) = l'.drop (k + 1)) from by rw [hst, Bool.true_and])
          clear hst
          go_wp2
          go_quiet (fail)
          go_wp2
          go_roundw
          case rel => exact ⟨k + 1, by omega, by go_num, HZ, q + nq, rfl⟩
          case measure => simp [intOf]; omega
      · have HZ := Lib.hid (show R = true by rw [HK.out, List.drop_of_length_le (by rw [HN.out]; omega), List.drop_of_length_le (by rw [HM.out]; omega)]; rfl)
        go_wp2
        go_ret
        exact ⟨ret_bool HZ.out.symm, q, rfl⟩
  · have HZ := Lib.hid (HR.out.trans (decide_eq_false (fun e => hnm (by rw [← hn, ← hm, e]))))
    have nn : ((n : Int) != (m : Int)) = true := by rw [bne_iff_ne]; omega
    have nn2 : ((n : Int) == (m : Int)) = false := by rw [beq_eq_false_iff_ne]; omega
    clear hn hm
    go_enter Try.func48, Try.ntmps48
    go_wp2
    go_ret
    exact ⟨ret_bool HZ.out.symm, 0, rfl⟩
set_option maxHeartbeats 4000000 in
theorem equalS13_any (a b : Option Addr) (n m ca cb : Nat) (l l' : List Str) (w : World) (bound : Nat) (ha : Strs w bound a n l) (hb : Strs w bound b m l') :
    Calls Try.prog 77 #[.slice a n ca, .slice b m cb] w fun e w' => e = .returned (.bool (decide (l = l'))) ∧ ∃ q, w' = w.drewN q := by
  have hn := ha.1
  have hm := hb.1
  have hsn := ha.2.1
  have hsm := hb.2.1
  have HA := Lib.hid ha
  have HB := Lib.hid hb
  obtain ⟨R, hR⟩ : ∃ R, R = decide (l = l') := ⟨_, rfl⟩
  rw [← hR]
  have HR := Lib.hid hR
  clear ha hb hR
  by_cases hnm : n = m
  · subst hnm
    have HN := Lib.hid hn
    have HM := Lib.hid hm
    have nn : ((n : Int) != (n : Int)) = false := by simp
    clear hn hm
    go_enter Try.func77, Try.ntmps77
    go_wp2
    go_loopw [13] (fun i wr => ∃ k : Nat, k ≤ n ∧ i = .int .i64 k ∧ Hid (R = decide (l.drop k = l'.drop k)) ∧ ∃ q, wr = w.drewN q) (fun i _ => n - (intOf i).toNat)
    case atStart => exact ⟨0, Nat.zero_le _, rfl, Lib.hid HR.out, 0, rfl⟩
    case round =>
      obtain ⟨k, hk, rfl, HK, q, rfl⟩ := hrel
      by_cases hlt : k < n
      · obtain ⟨b1, o1, s, rfl, _, hx, x0⟩ := HA.out.part13 hlt
        obtain ⟨b2, o2, s', rfl, _, hy, y0⟩ := HB.out.part13 hlt
        have hst := HK.out.trans (eqL_at13 hx hy)
        have i1 : (k : Int) < (n : Int) := by omega
        have i2 : (0 : Int) ≤ (k : Int) := by omega
        clear hx hy
        cases c1 : (s.toList == s'.toList)
        · rw [decide_eq_false (fun e => by rw [e] at c1; simp at c1)] at hst
          have HZ := Lib.hid hst
          clear hst
          go_wp2
          go_quiet (fail)
          go_wp2
          go_ret
          exact ⟨ret_bool (by rw [HZ.out]; rfl), q + nq, World.drewN_drewN _ _ _⟩
        · rw [decide_eq_true (eq_of_beq c1)] at hst
          have HZ := Lib.hid (show R = decide (l.drop (k + 1) = l'.drop (k + 1)) from by rw [hst, Bool.true_and])
          clear hst
          go_wp2
          go_quiet (fail)
          go_wp2
          go_roundw
          case rel => exact ⟨k + 1, by omega, by go_num, HZ, q + nq, rfl⟩
          case measure => simp [intOf]; omega
      · have HZ := Lib.hid (show R = true by rw [HK.out, List.drop_of_length_le (by rw [HN.out]; omega), List.drop_of_length_le (by rw [HM.out]; omega)]; rfl)
        go_wp2
        go_ret
        exact ⟨ret_bool HZ.out.symm, q, rfl⟩
  · have HZ := Lib.hid (HR.out.trans (decide_eq_false (fun e => hnm (by rw [← hn, ← hm, e]))))
    have nn : ((n : Int) != (m : Int)) = true := by rw [bne_iff_ne]; omega
    have nn2 : ((n : Int) == (m : Int)) = false := by rw [beq_eq_false_iff_ne]; omega
    clear hn hm
    go_enter Try.func77, Try.ntmps77
    go_wp2
    go_ret
    exact ⟨ret_bool HZ.out.symm, 0, rfl⟩
set_option maxHeartbeats 4000000 in
theorem equalQ13_any (a b : Option Addr) (n m ca cb : Nat) (l l' : List (List Str)) (w : World) (bound : Nat) (hbd : bound ≤ w.heap.size) (ha : Mails w bound a n l) (hb : Mails w bound b m l') (hs : ∀ q ∈ l, q.length ≤ 1000000) (hs' : ∀ q ∈ l', q.length ≤ 1000000) :
    Calls Try.prog 76 #[.slice a n ca, .slice b m cb, .func (.func 77) #[] #[]] w fun e w' => e = .returned (.bool (decide (l = l'))) ∧ Below w.heap.size w w' := by
  have hn := ha.1
  have hm := hb.1
  have hsn := ha.2.1
  have hsm := hb.2.1
  have HA := Lib.hid ha
  have HB := Lib.hid hb
  have HSA := Lib.hid hs
  have HSB := Lib.hid hs'
  obtain ⟨R, hR⟩ : ∃ R, R = decide (l = l') := ⟨_, rfl⟩
  rw [← hR]
  have HR := Lib.hid hR
  clear ha hb hR hs hs'
  by_cases hnm : n = m
  · subst hnm
    have HN := Lib.hid hn
    have HM := Lib.hid hm
    have nn : ((n : Int) != (n : Int)) = false := by simp
    clear hn hm
    go_enter Try.func76, Try.ntmps76
    go_wp2
    go_loopw [17] (fun i wr => ∃ k : Nat, k ≤ n ∧ i = .int .i64 k ∧ Hid (R = decide (l.drop k = l'.drop k)) ∧ Hid (Below w.heap.size w wr)) (fun i _ => n - (intOf i).toNat)
    case atStart => exact ⟨0, Nat.zero_le _, rfl, Lib.hid HR.out, Lib.hid (Below.refl _ _)⟩
    case round =>
      obtain ⟨k, hk, rfl, HK, HBr⟩ := hrel
      by_cases hlt : k < n
      · obtain ⟨b1, o1, aa, an, ac, x, rfl, hb1, hx, x0, hqx⟩ := (HA.out.below (HBr.out.mono hbd)).at_ hlt
        obtain ⟨b2, o2, ba, bn, bc, y, rfl, hb2, hy, y0, hqy⟩ := (HB.out.below (HBr.out.mono hbd)).at_ hlt
        have hst := HK.out.trans (eqL_at13 hx hy)
        have lx := HSA.out x (List.mem_of_getElem? hx)
        have ly := HSB.out y (List.mem_of_getElem? hy)
        have CE := Lib.hid (equalS13_any aa ba an bn ac bc x y wr bound (hqx.2.2 (by have := hqx.1; omega)) (hqy.2.2 (by have := hqy.1; omega)))
        have i1 : (k : Int) < (n : Int) := by omega
        have i2 : (0 : Int) ≤ (k : Int) := by omega
        clear hx hy hqx hqy lx ly
        cases hc : decide (x = y)
        · rw [hc] at CE hst
          have HZ := Lib.hid hst
          clear hst hc
          go_wp2_with (first
            | (go_at_call 77; (with_reducible refine CE.out.mono ?_)
               rintro e w4 ⟨rfl, q4, rfl⟩)
            | fail)
          go_ret
          exact ⟨ret_bool (by rw [HZ.out]; rfl), bel_drewN HBr.out q4⟩
        · rw [hc] at CE hst
          have HZ := Lib.hid (show R = decide (l.drop (k + 1) = l'.drop (k + 1)) from hst)
          clear hst hc
          go_wp2_with (first
            | (go_at_call 77; (with_reducible refine CE.out.mono ?_)
               rintro e w4 ⟨rfl, q4, rfl⟩)
            | fail)
          go_roundw
          case rel => exact ⟨k + 1, by omega, by go_num, HZ, Lib.hid (bel_drewN HBr.out q4)⟩
          case measure => simp [intOf]; omega
      · have HZ := Lib.hid (show R = true by rw [HK.out, List.drop_of_length_le (by rw [HN.out]; omega), List.drop_of_length_le (by rw [HM.out]; omega)]; rfl)
        go_wp2
        go_ret
        exact ⟨ret_bool HZ.out.symm, HBr.out⟩
  · have HZ := Lib.hid (HR.out.trans (decide_eq_false (fun e => hnm (by rw [← hn, ← hm, e]))))
    have nn : ((n : Int) != (m : Int)) = true := by rw [bne_iff_ne]; omega
    have nn2 : ((n : Int) == (m : Int)) = false := by rw [beq_eq_false_iff_ne]; omega
    clear hn hm
    go_enter Try.func76, Try.ntmps76
    go_wp2
    go_ret
    exact ⟨ret_bool HZ.out.symm, Below.refl _ _⟩
set_option maxHeartbeats 4000000 in
theorem stSame_any (a : Option Addr) (n c : Nat) (ma : Option Addr) (mn mc : Nat) (b : Option Addr) (m d : Nat) (mb : Option Addr) (mm md : Nat) (x y : StgL) (w : World) (hx : StIn w w.heap.size a n ma mn x) (hy : StIn w w.heap.size b m mb mm y) (hs : ∀ q ∈ x.mail, q.length ≤ 1000000) (hs' : ∀ q ∈ y.mail, q.length ≤ 1000000) :
    Calls Try.prog 36 #[stgV a n c ma mn mc, stgV b m d mb mm md] w fun e w' => e = .returned (.bool (sameS x y)) ∧ Below w.heap.size w w' := by
  obtain ⟨W1, hW1⟩ : ∃ W1, W1 = (w.alloc (.cells #[.slice a n c, .slice ma mn mc] 38)).alloc (.cells #[.slice b m d, .slice mb mm md] 38) := ⟨_, rfl⟩
  have HB1 := Lib.hid (show Below w.heap.size w W1 by rw [hW1]; exact below_on (tu1 w _) (tu1 _ _))
  have HX1 := Lib.hid (show SBox W1 w.heap.size a n c ma mn mc by rw [hW1]; exact ((tu1 _ _).block w.heap.size (by simp)).trans (heap_alloc_new w _))
  have HY1 := Lib.hid (show SBox W1 (w.heap.size + 1) b m d mb mm md by
    have := heap_alloc_new (w.alloc (.cells #[.slice a n c, .slice ma mn mc] 38)) (.cells #[.slice b m d, .slice mb mm md] 38)
    rw [World.size_alloc] at this
    rw [hW1]
    exact this)
  obtain ⟨R, hR⟩ : ∃ R, R = sameS x y := ⟨_, rfl⟩
  rw [← hR]
  unfold sameS at hR
  have CI := Lib.hid (equalI13_any a b n m c d x.at_ y.at_ W1 w.heap.size (hx.at_.below HB1.out) (hy.at_.below HB1.out))
  have CQ := Lib.hid (fun (q : Nat) => equalQ13_any ma mb mn mm mc md x.mail y.mail (W1.drewN q) w.heap.size HB1.out.size (hx.mail.below (bel_drewN HB1.out q)) (hy.mail.below (bel_drewN HB1.out q)) hs hs')
  obtain ⟨x0, x1⟩ := HX1.out.cells
  obtain ⟨y0, y1⟩ := HY1.out.cells
  clear hx hy hs hs'
  subst hW1
  cases h1 : decide (x.at_ = y.at_)
  · rw [h1] at CI hR
    have HZ := Lib.hid (show R = false from hR)
    clear hR h1
    go_enter Try.func36, Try.ntmps36
    go_wp2_with (first
      | (go_at_call 48; (with_reducible refine CI.out.mono ?_)
         rintro e w4 ⟨rfl, q4, rfl⟩)
      | fail)
    go_ret
    exact ⟨ret_bool HZ.out.symm, bel_drewN HB1.out q4⟩
  · rw [h1] at CI hR
    have HZ := Lib.hid (show R = decide (x.mail = y.mail) from hR)
    clear hR h1
    go_enter Try.func36, Try.ntmps36
    go_wp2_with (first
      | (go_at_call 48; (with_reducible refine CI.out.mono ?_)
         rintro e w4 ⟨rfl, q4, rfl⟩)
      | (go_at_call 76; (with_reducible refine (CQ.out q4).mono ?_)
         rintro e w5 ⟨rfl, hb5⟩
         have HB5 := Lib.hid (below_on (bel_drewN HB1.out q4) hb5)
         clear hb5)
      | fail)
    go_ret
    exact ⟨ret_bool HZ.out.symm, HB5.out⟩
end Go.Proofs.Ytgefhgcpnfbigaa

/- What stands in a statement of layer 13: stages in boxes, roles; contracts of ab, given, sameMoves. -/
namespace Go.Proofs.Ytgefhgcpnfbigaa
open Go.RowKit Go.Sort

def Stays2 (lo hi : Nat) (W W' : World) : Prop := W.heap.size ≤ W'.heap.size ∧ ∀ b, lo ≤ b → b < hi → W'.heap[b]? = W.heap[b]?
theorem Stays2.refl (lo hi : Nat) (W : World) : Stays2 lo hi W W := ⟨Nat.le_refl _, fun _ _ _ => rfl⟩
theorem Stays2.trans {lo hi : Nat} {W W' W2 : World} (h : Stays2 lo hi W W') (k : Stays2 lo hi W' W2) : Stays2 lo hi W W2 := ⟨Nat.le_trans h.1 k.1, fun b h0 h1 => (k.2 b h0 h1).trans (h.2 b h0 h1)⟩
/-- A stage that stays where the blocks from lo to hi stay. -/
structure Kp13 (W : World) (lo hi : Nat) (a : Option Addr) (n : Nat) (ma : Option Addr) (mn : Nat) (s : StgL) : Prop where
  keep : ∀ W', Stays2 lo hi W W' → StIn W' W'.heap.size a n ma mn s
  le : hi ≤ W.heap.size
section
variable {W W' : World} {lo hi g : Nat} {a ma : Option Addr} {n c mn mc : Nat} {s : StgL}
theorem Kp13.now (h : Kp13 W lo hi a n ma mn s) : StIn W W.heap.size a n ma mn s := h.keep W (Stays2.refl _ _ _)
theorem Kp13.on13 (h : Kp13 W lo hi a n ma mn s) (hb : Below W.heap.size W W') : Kp13 W' lo hi a n ma mn s :=
  ⟨fun W2 hs => h.keep W2 (Stays2.trans ⟨hb.size, fun b _ h1 => hb.block b (by have := h.le; omega)⟩ hs), Nat.le_trans h.le hb.size⟩
theorem Kp13.aside (h : Kp13 W lo hi a n ma mn s) (hb : Beside g W W') (hg : g < lo ∨ hi ≤ g) : Kp13 W' lo hi a n ma mn s :=
  ⟨fun W2 hs => h.keep W2 (Stays2.trans ⟨hb.size, fun b h0 h1 => hb.block b (by have := h.le; omega) (by omega)⟩ hs), Nat.le_trans h.le hb.size⟩
theorem SBox.on13 (h : SBox W g a n c ma mn mc) (hb : Below W.heap.size W W') : SBox W' g a n c ma mn mc := h.on hb h.lt
theorem SBox.slices (h : SBox W g a n c ma mn mc) : ∀ o v, W.cell? ⟨g, o, none⟩ = some v → ∃ a n c, v = .slice a n c := fun o v hv => by
  rw [cell_of_row _ _ _ _ _ _ h] at hv
  match o, hv with
  | 0, hv => exact ⟨_, _, _, (Option.some.inj hv).symm⟩
  | 1, hv => exact ⟨_, _, _, (Option.some.inj hv).symm⟩
  | o + 2, hv => simp at hv
theorem set13 (W : World) (g : Nat) (x y : Value) : Beside g W ((W.setCell ⟨g, 0, none⟩ x).setCell ⟨g, 1, none⟩ y) := ((Beside.refl g W).setCell 0 x).setCell 1 y
theorem Strs.on13 {ss : List Str} (h : Strs W W.heap.size a n ss) (hb : Below W.heap.size W W') : Strs W' W'.heap.size a n ss := (h.below hb).more hb.size
theorem Nums.on13 {l : List Int} (h : Nums W W.heap.size a n l) (hb : Below W.heap.size W W') : Nums W' W'.heap.size a n l := (h.below hb).more hb.size
theorem BkIn.on13 {na sa ra : Option Addr} {nn sn rn : Nat} {b : BookL} (h : BkIn W W.heap.size na nn sa sn ra rn b) (hb : Below W.heap.size W W') : BkIn W' W'.heap.size na nn sa sn ra rn b := (h.below hb).more hb.size
theorem Movs.aside13 {l : List MoveL} (h : Movs W W.heap.size a n l) (hb : Beside g W W') (hs : ∀ o v, W.cell? ⟨g, o, none⟩ = some v → ∃ a n c, v = .slice a n c) : Movs W' W'.heap.size a n l :=
  ⟨h.1, h.2.1, fun hn => by
    obtain ⟨b, off, e, hlt, hc⟩ := h.2.2 hn
    have hz := hb.size
    refine ⟨b, off, e, by omega, fun j x hj => ?_⟩
    obtain ⟨t, c, h1⟩ := hc j x hj
    have hbg : b ≠ g := fun e => by
      subst e
      obtain ⟨_, _, _, h2⟩ := hs _ _ (c 0 (by omega))
      cases h2
    exact ⟨t, fun i hi => (hb.cell (p := ⟨b, off + j * 3 + i, none⟩) hlt hbg).trans (c i hi), h1⟩⟩
end
theorem StRet.kp {w w' : World} {s : StgL} {er : Int} {e : Ending} (h : StRet w s er e w') (_hb : Below w.heap.size w w') : ∃ (a : Option Addr) (n c : Nat) (ma : Option Addr) (mn mc : Nat), e = .returned (.tuple #[stgV a n c ma mn mc, .int .i64 er]) ∧ Kp13 w' w.heap.size w'.heap.size a n ma mn s := by
  obtain ⟨a, n, c, ma, mn, mc, he, hk⟩ := h
  exact ⟨a, n, c, ma, mn, mc, he, fun W' hs => hk W' ⟨hs.1, hs.2⟩, Nat.le_refl _⟩
def abS : List Str := [[97], [98]]
theorem two_strs13 {W : World} {g : Nat} (h : W.heap[g]? = some (.cells #[.string ⟨#[97]⟩, .string ⟨#[98]⟩] 9 (0, 0))) : Strs W W.heap.size (some ⟨g, 0, none⟩) 2 abS := by
  refine ⟨rfl, by omega, fun s hs => ?_, fun _ => ⟨g, 0, rfl, (Array.getElem?_eq_some_iff.1 h).1, fun j s hj => ?_⟩⟩
  · unfold abS at hs
    simp only [List.mem_cons, List.not_mem_nil, or_false] at hs
    rcases hs with rfl | rfl <;> (unfold maxLen; simp)
  · match j, hj with
    | 0, hj =>
      obtain rfl := Option.some.inj hj
      rw [cell_of_row _ _ _ _ _ _ h]; rfl
    | 1, hj =>
      obtain rfl := Option.some.inj hj
      rw [cell_of_row _ _ _ _ _ _ h]; rfl
    | j + 2, hj => simp [abS] at hj
theorem ab_any (w : World) : Calls Try.prog 38 #[] w fun e w' => (∃ g, e = .returned (.slice (some ⟨g, 0, none⟩) 2 2) ∧ Strs w' w'.heap.size (some ⟨g, 0, none⟩) 2 abS) ∧ Below w.heap.size w w' := by
  have HS := Lib.hid (two_strs13 (heap_alloc_new w (.cells #[.string ⟨#[97]⟩, .string ⟨#[98]⟩] 9)))
  have HB := Lib.hid (tu1 w (.cells #[.string ⟨#[97]⟩, .string ⟨#[98]⟩] 9))
  go_enter Try.func38, Try.ntmps38
  go_wp2_with fail
  go_ret
  exact ⟨⟨_, rfl, HS.out⟩, HB.out⟩
def exE13 : EdgeL := ⟨[120], 0, 0, 2⟩
def exB13 : BookL := ⟨[⟨1, [98], [exE13]⟩, ⟨2, [97], [exE13]⟩, ⟨0, [], []⟩], [], []⟩
def exS13 : StgL := ⟨[0, 1], [[], [], [], []]⟩
def exT13 : StgL := ⟨[2, 1], [[], [[120]], [], []]⟩
theorem exBegin13 : beginS exB13 abS [0, 1] = (exS13, 0) := by
  unfold beginS
  rw [if_pos (by decide)]
  rfl
theorem exMoves13 : movesS exB13 abS exS13 = [⟨1, 0, [120]⟩] := by decide
theorem exDo13 : doS exB13 abS exS13 ⟨1, 0, [120]⟩ = (exT13, 0) := do_step (x := ⟨⟨1, 0, [120]⟩, 1, 2⟩) (stgOk_iff.1 (by decide)) (mem_steps.2 ⟨0, ⟨1, [98], [exE13]⟩, 1, exE13, by decide, rfl, by decide, by simp, by decide, rfl⟩)
theorem exMoves13b : movesS exB13 abS exT13 = [⟨2, 1, [120]⟩] := by decide
theorem exOver13 : overS exB13 abS exT13 = false := by decide
theorem exSame13 : sameS exT13 exT13 = true := by decide
theorem exSame13b : sameS exS13 exT13 = false := by decide
abbrev gE13 : Obj := .cells #[.string ⟨#[120]⟩, .int .i64 0, .int .i64 0, .int .i64 2] 82
abbrev gN13 (a : Nat) : Obj := .cells #[.int .i64 1, .string ⟨#[98]⟩, .slice (some ⟨a, 0, none⟩) 1 1, .int .i64 2, .string ⟨#[97]⟩, .slice (some ⟨a, 0, none⟩) 1 1, .int .i64 0, .string ⟨#[]⟩, .slice none 0 0] 62
abbrev gB13 (a : Nat) : Obj := .cells #[.slice (some ⟨a, 0, none⟩) 3 3, .slice none 0 0, .slice none 0 0] 26
theorem gE13_in {W : World} {a : Nat} (h : W.heap[a]? = some (.cells #[.string ⟨#[120]⟩, .int .i64 0, .int .i64 0, .int .i64 2] 82 (0, 0))) : Edges W W.heap.size (some ⟨a, 0, none⟩) 1 [exE13] := by
  refine ⟨rfl, by omega, fun _ => ⟨a, 0, rfl, (Array.getElem?_eq_some_iff.1 h).1, fun j x hj => ?_⟩⟩
  match j, hj with
  | 0, hj =>
    obtain rfl := Option.some.inj hj
    refine ⟨⟨#[120]⟩, ⟨?_, ?_, ?_, ?_⟩, by rw [ByteArray.toList_eq]; rfl, by unfold maxLen; decide⟩ <;> (rw [cell_of_row _ _ _ _ _ _ h]; rfl)
  | j + 1, hj => simp at hj
theorem gN13_in {W : World} {a n : Nat} (ha : Edges W W.heap.size (some ⟨a, 0, none⟩) 1 [exE13])
    (h : W.heap[n]? = some (.cells #[.int .i64 1, .string ⟨#[98]⟩, .slice (some ⟨a, 0, none⟩) 1 1, .int .i64 2, .string ⟨#[97]⟩, .slice (some ⟨a, 0, none⟩) 1 1, .int .i64 0, .string ⟨#[]⟩, .slice none 0 0] 62 (0, 0))) :
    BkIn W W.heap.size (some ⟨n, 0, none⟩) 3 none 0 none 0 exB13 := by
  refine ⟨⟨rfl, by omega, fun _ => ⟨n, 0, rfl, (Array.getElem?_eq_some_iff.1 h).1, fun j x hj => ?_⟩⟩, Strs.zero _ _ _, Nums.zero _ _ _⟩
  match j, hj with
  | 0, hj =>
    obtain rfl := Option.some.inj hj
    refine ⟨⟨#[98]⟩, some ⟨a, 0, none⟩, 1, 1, ⟨?_, ?_, ?_⟩, by rw [ByteArray.toList_eq], by simp [maxLen, ByteArray.size], ha⟩ <;> (rw [cell_of_row _ _ _ _ _ _ h]; rfl)
  | 1, hj =>
    obtain rfl := Option.some.inj hj
    refine ⟨⟨#[97]⟩, some ⟨a, 0, none⟩, 1, 1, ⟨?_, ?_, ?_⟩, by rw [ByteArray.toList_eq], by simp [maxLen, ByteArray.size], ha⟩ <;> (rw [cell_of_row _ _ _ _ _ _ h]; rfl)
  | 2, hj =>
    obtain rfl := Option.some.inj hj
    refine ⟨⟨#[]⟩, none, 0, 0, ⟨?_, ?_, ?_⟩, by rw [ByteArray.toList_eq], by simp [maxLen, ByteArray.size], Edges.zero _ _ _⟩ <;> (rw [cell_of_row _ _ _ _ _ _ h]; rfl)
  | j + 3, hj => simp [exB13] at hj
theorem gv_world13 (w : World) : BkIn (((w.alloc (gB13 (w.heap.size + 1 + 1))).alloc gE13).alloc (gN13 (w.heap.size + 1))) (((w.alloc (gB13 (w.heap.size + 1 + 1))).alloc gE13).alloc (gN13 (w.heap.size + 1))).heap.size (some ⟨w.heap.size + 1 + 1, 0, none⟩) 3 none 0 none 0 exB13 := by
  have z1 : (w.alloc (gB13 (w.heap.size + 1 + 1))).heap.size = w.heap.size + 1 := by simp
  generalize hS : w.heap.size = S at z1 ⊢
  generalize w.alloc (gB13 (S + 1 + 1)) = W1 at z1 ⊢
  have z2 : (W1.alloc gE13).heap.size = S + 1 + 1 := by rw [World.size_alloc, z1]
  have h1 := gE13_in (W := W1.alloc gE13) (a := S + 1) (by rw [← z1]; exact heap_alloc_new W1 _)
  generalize W1.alloc gE13 = W2 at z2 h1 ⊢
  exact gN13_in (h1.on (tu1 W2 _)) (by rw [← z2]; exact heap_alloc_new W2 _)
set_option maxHeartbeats 4000000 in
theorem given13_any (w : World) : Calls Try.prog 58 #[] w fun e w' => (∃ na nc, e = .returned (bkV na 3 nc none 0 0 none 0 0) ∧ BkIn w' w'.heap.size na 3 none 0 none 0 exB13) ∧ Below w.heap.size w w' := by
  have HL := Lib.hid (gv_world13 w)
  have HB := Lib.hid (((tu1 w (gB13 (w.heap.size + 1 + 1))).alloc (by simp) gE13).alloc (by simp; omega) (gN13 (w.heap.size + 1)))
  go_enter Try.func58, Try.ntmps58
  go_wp2_with fail
  refine bodyPost_ret (v := bkV (some ⟨w.heap.size + 1 + 1, 0, none⟩) 3 3 none 0 0 none 0 0) (by simp [results, go_sem]) rfl ?_
  exact ⟨⟨_, 3, rfl, HL.out⟩, HB.out⟩
theorem MvR_cells {w : World} {b o k : Nat} {t : MvR} (h : ∀ i, i < 3 → w.cell? ⟨b, o + k * 3 + i, none⟩ = (encMvR t)[i]?) : w.cell? ⟨b, o + k * 3, none⟩ = some (.int .i64 t.k) ∧ w.cell? ⟨b, o + k * 3 + 1, none⟩ = some (.int .i64 t.r) ∧ w.cell? ⟨b, o + k * 3 + 2, none⟩ = some (.string t.s) :=
  ⟨h 0 (by omega), h 1 (by omega), h 2 (by omega)⟩
set_option maxHeartbeats 8000000 in
theorem sameMoves_any (a b : Option Addr) (n m ca cb : Nat) (l l' : List MoveL) (w : World) (bound : Nat) (ha : Movs w bound a n l) (hb : Movs w bound b m l') :
    Calls Try.prog 31 #[.slice a n ca, .slice b m cb] w fun e w' => e = .returned (.bool (decide (l = l'))) ∧ ∃ q, w' = w.drewN q := by
  have hn := ha.1
  have hm := hb.1
  have hsn := ha.2.1
  have hsm := hb.2.1
  have HA := Lib.hid ha
  have HB := Lib.hid hb
  obtain ⟨R, hR⟩ : ∃ R, R = decide (l = l') := ⟨_, rfl⟩
  rw [← hR]
  have HR := Lib.hid hR
  clear ha hb hR
  by_cases hnm : n = m
  · subst hnm
    have HN := Lib.hid hn
    have HM := Lib.hid hm
    have nn : ((n : Int) != (n : Int)) = false := by simp
    clear hn hm
    go_enter Try.func31, Try.ntmps31
    go_wp2
    go_loopw [5] (fun i wr => ∃ k : Nat, k ≤ n ∧ i = .int .i64 k ∧ Hid (R = decide (l.drop k = l'.drop k)) ∧ ∃ q, wr = w.drewN q) (fun i _ => n - (intOf i).toNat)
    case atStart => exact ⟨0, Nat.zero_le _, rfl, Lib.hid HR.out, 0, rfl⟩
    case round =>
      obtain ⟨k, hk, rfl, HK, q, rfl⟩ := hrel
      by_cases hlt : k < n
      · obtain ⟨b1, o1, x, rfl, _, hx, hcx, _⟩ := HA.out.at_ hlt
        obtain ⟨b2, o2, y, rfl, _, hy, hcy, _⟩ := HB.out.at_ hlt
        obtain ⟨x0, x1, x2⟩ := MvR_cells hcx
        obtain ⟨y0, y1, y2⟩ := MvR_cells hcy
        have hst := HK.out.trans (eqL_at13 hx hy)
        have i1 : (k : Int) < (n : Int) := by omega
        have i2 : (0 : Int) ≤ (k : Int) := by omega
        clear hx hy hcx hcy
        cases c0 : (x.k == y.k)
        · rw [decide_eq_false (fun e => by rw [show x.k = y.k from congrArg MoveL.kind e] at c0; simp at c0)] at hst
          have HZ := Lib.hid hst
          clear hst
          go_wp2
          go_quiet (fail)
          go_wp2
          go_ret
          exact ⟨ret_bool (by rw [HZ.out]; rfl), q + nq, World.drewN_drewN _ _ _⟩
        cases c1 : (x.r == y.r)
        · rw [decide_eq_false (fun e => by rw [show x.r = y.r from congrArg MoveL.role e] at c1; simp at c1)] at hst
          have HZ := Lib.hid hst
          clear hst
          go_wp2
          go_quiet (fail)
          go_wp2
          go_ret
          exact ⟨ret_bool (by rw [HZ.out]; rfl), q + nq, World.drewN_drewN _ _ _⟩
        cases c2 : (x.s.toList == y.s.toList)
        · rw [decide_eq_false (fun e => by rw [show x.s.toList = y.s.toList from congrArg MoveL.label e] at c2; simp at c2)] at hst
          have HZ := Lib.hid hst
          clear hst
          go_wp2
          go_quiet (fail)
          go_wp2
          go_ret
          exact ⟨ret_bool (by rw [HZ.out]; rfl), q + nq, World.drewN_drewN _ _ _⟩
        · rw [decide_eq_true (by unfold moveR; rw [eq_of_beq c0, eq_of_beq c1, eq_of_beq c2])] at hst
          have HZ := Lib.hid (show R = decide (l.drop (k + 1) = l'.drop (k + 1)) from by rw [hst, Bool.true_and])
          clear hst
          go_wp2
          go_quiet (fail)
          go_wp2
          go_roundw
          case rel => exact ⟨k + 1, by omega, by go_num, HZ, q + nq, rfl⟩
          case measure => simp [intOf]; omega
      · have HZ := Lib.hid (show R = true by rw [HK.out, List.drop_of_length_le (by rw [HN.out]; omega), List.drop_of_length_le (by rw [HM.out]; omega)]; rfl)
        go_wp2
        go_ret
        exact ⟨ret_bool HZ.out.symm, q, rfl⟩
  · have HZ := Lib.hid (HR.out.trans (decide_eq_false (fun e => hnm (by rw [← hn, ← hm, e]))))
    have nn : ((n : Int) != (m : Int)) = true := by rw [bne_iff_ne]; omega
    have nn2 : ((n : Int) == (m : Int)) = false := by rw [beq_eq_false_iff_ne]; omega
    clear hn hm
    go_enter Try.func31, Try.ntmps31
    go_wp2
    go_ret
    exact ⟨ret_bool HZ.out.symm, 0, rfl⟩
end Go.Proofs.Ytgefhgcpnfbigaa
