/- What StageOver wants: a book with an end more, a stage with a letter. (Printed by gen/gen13o.py.) -/
import Derived.Test.YtgefhgcpnfbigaaStFirsts
import Derived.ShutString
namespace Go.Proofs.Ytgefhgcpnfbigaa
open Go.RowKit Go.Sort

def endN13 : NodeL := ⟨0, [], []⟩
def overB13 (b : BookL) : BookL := ⟨b.nodes ++ [endN13], [], []⟩
theorem overB13_ok {b : BookL} (h : bookB b = true) (h8 : b.nodes.length ≤ 8) : bookB (overB13 b) = true := by
  have hn := (bookB_ok h).1
  have hl : (overB13 b).nodes.length = b.nodes.length + 1 := by unfold overB13; simp
  rw [bookB_way, hl]
  simp only [Bool.and_eq_true, decide_eq_true_eq, List.all_eq_true]
  refine ⟨⟨⟨⟨by omega, rfl⟩, rfl⟩, fun r hr => by cases hr⟩, fun t ht => ?_⟩
  rcases List.mem_append.1 ht with h1 | h1
  · obtain ⟨i, hi, rfl⟩ := List.mem_iff_getElem.1 h1
    exact nodeB_more (Nat.le_succ _) (hn.2 i _ (List.getElem?_eq_getElem hi))
  · rw [List.mem_singleton.1 h1]; rfl
theorem over_stg13 {b : BookL} (h : bookB b = true) (h8 : b.nodes.length ≤ 8) {k : Nat} (hk : k ≤ b.nodes.length) (q : List Str) (hq : q.length ≤ 64) : StgOk (overB13 b) abS ⟨[(b.nodes.length : Int), (k : Int)], [[], q, [], []]⟩ := by
  have hb := overB13_ok h h8
  have hl : (overB13 b).nodes.length = b.nodes.length + 1 := by unfold overB13; simp
  refine ⟨(bookB_ok hb).1, hb, by decide, by decide, by decide, rfl, fun x hx => ?_, rfl, fun y hy => ?_⟩
  · rw [hl]
    simp only [List.mem_cons, List.not_mem_nil, or_false] at hx
    rcases hx with rfl | rfl <;> (constructor <;> omega)
  · simp only [List.mem_cons, List.not_mem_nil, or_false] at hy
    rcases hy with rfl | rfl | rfl | rfl <;> first | exact hq | exact Nat.zero_le _
theorem over_begin13 {b : BookL} (h : bookB b = true) (h8 : b.nodes.length ≤ 8) {k : Nat} (hk : k ≤ b.nodes.length) : beginS (overB13 b) abS [(b.nodes.length : Int), (k : Int)] = (⟨[(b.nodes.length : Int), (k : Int)], [[], [], [], []]⟩, 0) := by
  have h1 := stgOk_iff.2 (over_stg13 h h8 hk [] (Nat.zero_le _))
  unfold beginS
  rw [if_pos (show stgB (overB13 b) abS (rootS abS [(b.nodes.length : Int), (k : Int)]) = true from h1)]
  rfl
theorem over_end13 (b : BookL) : (overB13 b).nodes[b.nodes.length]? = some endN13 := by
  unfold overB13
  rw [List.getElem?_append_right (Nat.le_refl _), Nat.sub_self]
  rfl
theorem over_moves13 {b : BookL} (h : bookB b = true) (h8 : b.nodes.length ≤ 8) (q : List Str) (hq : q.length ≤ 64) : movesS (overB13 b) abS ⟨[(b.nodes.length : Int), (b.nodes.length : Int)], [[], q, [], []]⟩ = [] := by
  have hs := over_stg13 h h8 (Nat.le_refl _) q hq
  rw [moves_ok hs]
  have hr : ∀ r, r < 2 → roleSt (overB13 b) abS ⟨[(b.nodes.length : Int), (b.nodes.length : Int)], [[], q, [], []]⟩ r = [] := fun r hr => by
    unfold roleSt
    have e : (([(b.nodes.length : Int), (b.nodes.length : Int)] : List Int).getD r 0).toNat = b.nodes.length := by
      match r, hr with
      | 0, _ => simp
      | 1, _ => simp
    dsimp only
    rw [e, over_end13]
    show nodeSt _ _ _ endN13 = []
    unfold nodeSt queueS endN13
    by_cases hp : plc abS [] < 0 ∨ plc abS [] = (r : Int)
    · rw [if_pos hp]
    · rw [if_neg hp]; rfl
  unfold stepsS
  show ((List.range 2).flatMap _).map _ = []
  rw [show List.range 2 = [0, 1] from rfl, List.flatMap_cons, List.flatMap_cons, List.flatMap_nil, hr 0 (by omega), hr 1 (by omega)]
  rfl
theorem over_ends13 (b : BookL) : endS (overB13 b) (b.nodes.length : Int) = true := by
  rw [endS_at (k := (b.nodes.length : Int)) (by rw [Int.toNat_natCast]; exact over_end13 b)]
  rfl
theorem over_over13 {b : BookL} (h : bookB b = true) (h8 : b.nodes.length ≤ 8) {k : Nat} (hk : k ≤ b.nodes.length) : overS (overB13 b) abS ⟨[(b.nodes.length : Int), (k : Int)], [[], [], [], []]⟩ = endS (overB13 b) (k : Int) := by
  unfold overS
  rw [stgOk_iff.2 (over_stg13 h h8 hk [] (Nat.zero_le _))]
  simp [over_ends13]
theorem over_not13 (b : BookL) (x : Str) : overS (overB13 b) abS ⟨[(b.nodes.length : Int), (b.nodes.length : Int)], [[], [x], [], []]⟩ = false := by
  unfold overS
  simp
theorem wpList_append_nodesU {ops : Array Oper} {rest : List Oper} {o : Oper} {a : Act} {Q : Exit → Act → World → Prop} {W : World} (hgd : o.guard = none) (s x : Operand)
    (ho : o.op = .call { callee := .builtin .append, args := #[s, x], argTypes := #[22, 22] }) (base : Nat) (v : Value) (l : List NR) (ad : Option Addr) (m c : Nat) (l2 : List NR)
    (hs : a.eval s = v) (hx : a.eval x = .slice ad m c) (hB : NRaw W base v l) (hr : NRow W ad m l2) (hb : base ≤ W.heap.size) (hlen : l.length + m ≤ 1000000)
    (h : ∀ v' w', NRaw w' base v' (l ++ l2) → Below base W w' → Keeps v W w' → wpList Try.prog ops Q rest (a.put o.dst v') w') : wpList Try.prog ops Q (o :: rest) a W := by
  obtain ⟨v', w', hrun, hown, hbel, hk, _⟩ := hB.add hb c hr hlen o.type
  exact wpList_append_lx hgd s x _ ho _ _ _ hs hx hrun (h v' w' hown hbel hk)
theorem letter_kp13 (W : World) (x y : Int) (lab : ByteArray) (hl : lab.size ≤ maxLen) : Kp13 (((W.alloc (.cells #[.int .i64 x, .int .i64 y] 3)).alloc (.cells #[.string lab] 9)).alloc (.cells #[.slice none 0 0, .slice (some ⟨W.heap.size + 1, 0, none⟩) 1 1, .slice none 0 0, .slice none 0 0] 23)) W.heap.size (W.heap.size + 3) (some ⟨W.heap.size, 0, none⟩) 2 (some ⟨W.heap.size + 1 + 1, 0, none⟩) 4 ⟨[x, y], [[], [lab.toList], [], []]⟩ := by
  have z1 : (W.alloc (.cells #[.int .i64 x, .int .i64 y] 3)).heap.size = W.heap.size + 1 := by simp
  have h1 := heap_alloc_new W (.cells #[.int .i64 x, .int .i64 y] 3)
  generalize W.alloc (.cells #[.int .i64 x, .int .i64 y] 3) = W1 at z1 h1
  have z2 : (W1.alloc (.cells #[.string lab] 9)).heap.size = W.heap.size + 1 + 1 := by rw [World.size_alloc, z1]
  have h2 := heap_alloc_new W1 (.cells #[.string lab] 9)
  rw [z1] at h2
  have h1b := ((tu1 W1 (.cells #[.string lab] 9)).block W.heap.size (by omega)).trans h1
  generalize W1.alloc (.cells #[.string lab] 9) = W2 at z2 h2 h1b
  have h3 := heap_alloc_new W2 (.cells #[.slice none 0 0, .slice (some ⟨W.heap.size + 1, 0, none⟩) 1 1, .slice none 0 0, .slice none 0 0] 23)
  have z3 : (W2.alloc (.cells #[.slice none 0 0, .slice (some ⟨W.heap.size + 1, 0, none⟩) 1 1, .slice none 0 0, .slice none 0 0] 23)).heap.size = W.heap.size + 3 := by rw [World.size_alloc, z2]
  rw [z2] at h3
  have ht := tu1 W2 (.cells #[.slice none 0 0, .slice (some ⟨W.heap.size + 1, 0, none⟩) 1 1, .slice none 0 0, .slice none 0 0] 23)
  have h2b := (ht.block (W.heap.size + 1) (by omega)).trans h2
  have h1c := (ht.block W.heap.size (by omega)).trans h1b
  generalize W2.alloc (.cells #[.slice none 0 0, .slice (some ⟨W.heap.size + 1, 0, none⟩) 1 1, .slice none 0 0, .slice none 0 0] 23) = W3 at z3 h3 h2b h1c ⊢
  refine ⟨fun W' hs => ?_, by omega⟩
  have g1 := (hs.2 W.heap.size (Nat.le_refl _) (by omega)).trans h1c
  have g2 := (hs.2 (W.heap.size + 1) (by omega) (by omega)).trans h2b
  have g3 := (hs.2 (W.heap.size + 1 + 1) (by omega) (by omega)).trans h3
  have hz := hs.1
  have hst : Strs W' W'.heap.size (some ⟨W.heap.size + 1, 0, none⟩) 1 [lab.toList] := by
    refine ⟨rfl, by omega, fun s hs => by rw [List.mem_singleton.1 hs, len_toList]; exact hl, fun _ => ⟨_, 0, rfl, by omega, fun j s hj => ?_⟩⟩
    match j, hj with
    | 0, hj =>
      obtain rfl := Option.some.inj hj
      rw [cell_of_row _ _ _ _ _ _ g2]
      show some (Value.string lab) = some (encStr lab.toList)
      unfold encStr
      rw [show (⟨lab.toList.toArray⟩ : ByteArray) = lab from baS_of lab]
    | j + 1, hj => simp at hj
  refine ⟨ints01 g1, rfl, by omega, fun _ => ⟨_, 0, rfl, by omega, fun j q hj => ?_⟩⟩
  match j, hj with
  | 0, hj => obtain rfl := Option.some.inj hj; exact ⟨none, 0, 0, by rw [cell_of_row _ _ _ _ _ _ g3]; rfl, Queue.of_strs (Strs.zero _ _ _)⟩
  | 1, hj => obtain rfl := Option.some.inj hj; exact ⟨_, 1, 1, by rw [cell_of_row _ _ _ _ _ _ g3]; rfl, Queue.of_strs hst⟩
  | 2, hj => obtain rfl := Option.some.inj hj; exact ⟨none, 0, 0, by rw [cell_of_row _ _ _ _ _ _ g3]; rfl, Queue.of_strs (Strs.zero _ _ _)⟩
  | 3, hj => obtain rfl := Option.some.inj hj; exact ⟨none, 0, 0, by rw [cell_of_row _ _ _ _ _ _ g3]; rfl, Queue.of_strs (Strs.zero _ _ _)⟩
  | j + 4, hj => simp at hj
theorem over_nodes13 {w6 W : World} {v : Value} {rs : List NR} {ns : List NodeL} (hraw : NRaw W w6.heap.size v (([] ++ rs) ++ [⟨0, ⟨#[]⟩, none, 0, 0⟩])) (hbel : Below w6.heap.size w6 W) (hrl : rs.length = ns.length) (hl : ns.length ≤ 1000)
    (hrd : ∀ (j : Nat) (r : NR) (t : NodeL), rs[j]? = some r → ns[j]? = some t → r.k = t.kind ∧ r.s.toList = t.peer ∧ r.s.size ≤ maxLen ∧ Edges w6 w6.heap.size r.a r.n t.arms) :
    ∃ va vc, v = .slice va (ns ++ [endN13]).length vc ∧ Nodes W W.heap.size va (ns ++ [endN13]).length (ns ++ [endN13]) := by
  refine hraw.sees (bound := w6.heap.size) (by simp; omega) (by simp [hrl]) hbel.size (fun j r' t hr ht => ?_)
  rw [List.nil_append] at hr
  rcases Nat.lt_or_ge j rs.length with hlt | hge
  · rw [List.getElem?_append_left hlt] at hr
    rw [List.getElem?_append_left (by omega)] at ht
    obtain ⟨h1, h2, h3, h4⟩ := hrd j r' t hr ht
    exact ⟨h1, h2, h3, h4.below hbel⟩
  · rw [List.getElem?_append_right hge] at hr
    rw [List.getElem?_append_right (by omega), ← hrl] at ht
    have h0 : j - rs.length = 0 := by
      obtain ⟨h1, _⟩ := List.getElem?_eq_some_iff.1 hr
      simpa using h1
    rw [h0] at hr ht
    obtain rfl := Option.some.inj hr
    obtain rfl := Option.some.inj ht
    exact ⟨rfl, by rw [ByteArray.toList_eq]; rfl, by unfold maxLen; decide, Edges.zero _ _ _⟩
/-- The place that a number picks. -/
def pickO13 (nn : Nat) (x : Int) : Nat := ((IntKind.u64.wrap x).tmod (nn : Int)).toNat
theorem pickO13_lt {nn : Nat} (h1 : 1 ≤ nn) (h2 : nn ≤ 1000) (x : Int) : pickO13 nn x < nn ∧ (IntKind.u64.wrap x).tmod (nn : Int) = (pickO13 nn x : Int) := by
  obtain ⟨i, hi, e⟩ := mod_lt x nn h1 h2
  unfold pickO13
  rw [e, Int.toNat_natCast]
  exact ⟨hi, rfl⟩
theorem over_same13 (n : Int) (x : Str) : sameS ⟨[n, n], [[], [], [], []]⟩ ⟨[n, n], [[], [x], [], []]⟩ = false := by
  unfold sameS
  simp
end Go.Proofs.Ytgefhgcpnfbigaa

/- Law: StageOver. (Printed by gen/gen13o.py.) -/
namespace Go.Proofs.Ytgefhgcpnfbigaa
open Go.RowKit Go.Sort

set_option maxHeartbeats 32000000 in
set_option maxRecDepth 20000 in
theorem stageOver_walk (a : Option Addr) (n c : Nat) (l : List Int) (x : Int) (lab : ByteArray) (w : World) (h : Nums w w.heap.size a n l) (hlim : n * 8 ≤ 140737488351232) (hlab : lab.size ≤ maxLen) :
    Calls Try.prog 8 #[.slice a n c, .int .i64 x, .string lab] w fun e w' => e = .returned (.bool true) ∧ Below w.heap.size w w' := by
  have HF0 := Lib.hid (first13_any w)
  have HN := Lib.hid h
  have HLN := Lib.hid h.1
  have HLAB := Lib.hid hlab
  clear h hlab
  go_enter Try.func8, Try.ntmps8
  go_upto_region 4 with (first
    | (go_at_call 20; (with_reducible refine HF0.out.mono ?_)
       rintro e w2 ⟨rfl, hb2⟩
       have HB2 := Lib.hid hb2
       clear hb2)
    | (at_builtin
       refine wpList_append_plus10 rfl (.tmp 18) (.tmp 19) rfl w2.heap.size w.heap.size (.slice (some ⟨w2.heap.size, 0, none⟩) 1 1) a n c [7] l rfl rfl (IInts.one (W := w2) (cs := #[.int .i64 7]) (base := w2.heap.size) (g := w2.heap.size) 7 rfl rfl (Nat.le_refl _)) ((HN.out.below HB2.out).alloc HB2.out.size _) (by show (1 + n) * 8 ≤ _; omega) (by simp) ?_
       intro v3 w3 hown hgr
       obtain ⟨ma, mc, hv, _, _, _, hnu⟩ := hown.sees
       obtain ⟨mn, hmn⟩ : ∃ mn, mn = ([7] ++ l : List Int).length := ⟨_, rfl⟩
       rw [← hmn] at hv hnu
       subst hv
       have hml : mn * 8 ≤ 140737488355328 := by rw [hmn, List.length_append, HLN.out]; show (1 + n) * 8 ≤ _; omega
       clear hmn
       have HNU := Lib.hid hnu
       have HB3 := Lib.hid (show Below w2.heap.size w2 w3 from (tu1 w2 (.cells #[.int .i64 7] 3)).grown hgr (by simp) (fun j e => by cases e; exact Nat.le_refl _))
       clear hown hgr hnu)
    | (go_at_call 23; (with_reducible refine (new10_any ma mn mc _ w3 w3.heap.size HNU.out hml).mono ?_)
       rintro e w4 ⟨g4, rfl, hd4, hg4, hb4⟩
       have HD4 := Lib.hid hd4
       have HB4 := Lib.hid (HB3.out.trans (hb4.mono HB3.out.size))
       have hg4' : w2.heap.size ≤ g4 := Nat.le_trans HB3.out.size hg4
       clear hd4 hg4 hb4)
    | (go_at_call 22; (with_reducible refine (book10_any g4 w4 HD4.out).mono ?_)
       rintro e w5 ⟨⟨na, nn, nc, sa, sc, ra, rc, b, rfl, hin, hok, h1, h8⟩, hb5⟩
       have HIN := Lib.hid hin
       have HBOK := Lib.hid hok
       have HNN := Lib.hid (And.intro h1 h8)
       have HB5 := Lib.hid (HB4.out.trans (hb5.below hg4' HB4.out.size))
       clear hin hok hb5 h1 h8)
    | fail)
  have HNL := Lib.hid HIN.out.nodes.1
  have HBK6 := Lib.hid (HIN.out.on13 (tu1 w5 (.cells #[.slice na nn nc, .slice sa 2 sc, .slice ra 2 rc] 26)))
  have HBX6 := Lib.hid (show BBox (w5.alloc (.cells #[.slice na nn nc, .slice sa 2 sc, .slice ra 2 rc] 26)) w5.heap.size na nn nc sa 2 sc ra 2 rc from heap_alloc_new w5 _)
  have HB6 := Lib.hid (below_on (below_on HB2.out HB5.out) (tu1 w5 (.cells #[.slice na nn nc, .slice sa 2 sc, .slice ra 2 rc] 26)))
  generalize w5.heap.size = g8 at HBX6 ⊢
  generalize w5.alloc (.cells #[.slice na nn nc, .slice sa 2 sc, .slice ra 2 rc] 26) = w6 at HBK6 HBX6 HB6 ⊢
  obtain ⟨b0, _, _⟩ := HBX6.out.cells
  have hn1 := HNN.out.1
  have hn8 := HNN.out.2
  clear HIN HB5 HB4 HB3 HNU HD4 hg4' hml HF0 HN HLN HB2
  go_upto_region 5 with fail
  obtain ⟨rs, hrow, hrl, hrd⟩ := HBK6.out.nodes.rows
  have HROW := Lib.hid hrow
  have HRL := Lib.hid hrl
  have HRD := Lib.hid hrd
  have hrs : rs.length = nn := hrow.1
  clear hrow hrl hrd
  go_upto_region 6 with (first
    | (at_builtin
       refine wpList_append_nodesU rfl (.const (.slice none 0 0)) (.tmp 27) rfl w6.heap.size (.slice none 0 0) [] na nn nc rs rfl rfl (NRaw.zero _ _) HROW.out (Nat.le_refl _) (by simp only [List.length_nil]; omega) ?_
       intro v7 w7 hown hbel _
       have HO7 := Lib.hid hown
       have HB7 := Lib.hid hbel
       clear hown hbel)
    | (at_builtin
       refine wpList_append_nodesU rfl (.tmp 28) (.tmp 30) rfl w6.heap.size v7 ([] ++ rs) (some ⟨w7.heap.size, 0, none⟩) 1 1 [⟨0, ⟨#[]⟩, none, 0, 0⟩] rfl rfl (HO7.out.kept (tu1 w7 _)) (NRow.one (heap_alloc_new w7 _)) (by have := HB7.out.size; rw [World.size_alloc]; omega) (by rw [List.nil_append]; omega) ?_
       intro v9 w9 hown hbel _
       have HB9 := Lib.hid ((HB7.out.trans ((tu1 w7 _).mono HB7.out.size)).trans hbel)
       obtain ⟨va, vc, hv, hnd⟩ := over_nodes13 hown HB9.out HRL.out (by rw [HNL.out]; omega) HRD.out
       obtain ⟨m, hm⟩ : ∃ m, m = (b.nodes ++ [endN13]).length := ⟨_, rfl⟩
       rw [← hm] at hv hnd
       subst hv
       have HM1 := Lib.hid (show m = nn + 1 by rw [hm, List.length_append, HNL.out]; rfl)
       have HND := Lib.hid hnd
       clear hown hbel hnd hm HO7 HB7)
    | fail)
  have hbo := tu1 w9 (.cells #[.slice va m vc, .slice none 0 0, .slice none 0 0] 26)
  have HBK1 := Lib.hid (show BkIn (w9.alloc (.cells #[.slice va m vc, .slice none 0 0, .slice none 0 0] 26)) (w9.alloc (.cells #[.slice va m vc, .slice none 0 0, .slice none 0 0] 26)).heap.size va m none 0 none 0 (overB13 b) from ⟨HND.out.on hbo, Strs.zero _ _ _, Nums.zero _ _ _⟩)
  have HBX1 := Lib.hid (show BBox (w9.alloc (.cells #[.slice va m vc, .slice none 0 0, .slice none 0 0] 26)) w9.heap.size va m vc none 0 0 none 0 0 from heap_alloc_new w9 _)
  have HBW := Lib.hid (below_on (below_on HB6.out HB9.out) hbo)
  clear hbo HND HB9 HB6 HBX6 HBK6 HROW HRL HRD hrs b0
  generalize w9.heap.size = g9 at HBX1 ⊢
  generalize w9.alloc (.cells #[.slice va m vc, .slice none 0 0, .slice none 0 0] 26) = w1 at HBK1 HBX1 HBW ⊢
  have h8 : b.nodes.length ≤ 8 := by rw [HNL.out]; exact hn8
  have hnx := HNL.out
  obtain ⟨hkl, hmk⟩ := pickO13_lt hn1 (show nn ≤ 1000 by omega) x
  obtain ⟨k, hke⟩ : ∃ k, k = pickO13 nn x := ⟨_, rfl⟩
  rw [← hke] at hkl hmk
  clear hke
  obtain ⟨db, dd, kd, us, aa, an, ac, al, ena, hdb, hdn, ⟨qk, _, _⟩, _, _⟩ := HBK1.out.nodes.at_ (k := k) (by have := HM1.out; omega)
  subst ena
  obtain ⟨z, hz⟩ : ∃ z, z = decide (kd = 0) := ⟨_, rfl⟩
  have hou : overS (overB13 b) abS ⟨[(nn : Int), (k : Int)], [[], [], [], []]⟩ = z := by
    rw [hz, ← hnx, over_over13 HBOK.out h8 (by omega), endS_at (k := (k : Int)) (by rw [Int.toNat_natCast]; exact hdn)]
  have hbu : beginS (overB13 b) abS [(nn : Int), (k : Int)] = (⟨[(nn : Int), (k : Int)], [[], [], [], []]⟩, 0) := by rw [← hnx]; exact over_begin13 HBOK.out h8 (by omega)
  have hbs : beginS (overB13 b) abS [(nn : Int), (nn : Int)] = (⟨[(nn : Int), (nn : Int)], [[], [], [], []]⟩, 0) := by rw [← hnx]; exact over_begin13 HBOK.out h8 (Nat.le_refl _)
  have hos : overS (overB13 b) abS ⟨[(nn : Int), (nn : Int)], [[], [], [], []]⟩ = true := by rw [← hnx, over_over13 HBOK.out h8 (Nat.le_refl _)]; exact over_ends13 b
  have hms : movesS (overB13 b) abS ⟨[(nn : Int), (nn : Int)], [[], [], [], []]⟩ = [] := by rw [← hnx]; exact over_moves13 HBOK.out h8 [] (Nat.zero_le _)
  have hot : overS (overB13 b) abS ⟨[(nn : Int), (nn : Int)], [[], [lab.toList], [], []]⟩ = false := by rw [← hnx]; exact over_not13 b lab.toList
  have hmt : movesS (overB13 b) abS ⟨[(nn : Int), (nn : Int)], [[], [lab.toList], [], []]⟩ = [] := by rw [← hnx]; exact over_moves13 HBOK.out h8 [lab.toList] (by simp)
  have hst : sameS ⟨[(nn : Int), (nn : Int)], [[], [], [], []]⟩ ⟨[(nn : Int), (nn : Int)], [[], [lab.toList], [], []]⟩ = false := over_same13 _ _
  have HKT := Lib.hid (fun (W : World) => letter_kp13 W (nn : Int) (nn : Int) lab HLAB.out)
  have hsm : ∀ q ∈ StgL.mail ⟨[(nn : Int), (nn : Int)], [[], [], [], []]⟩, q.length ≤ 1000000 := fun q hq => by
    simp only [List.mem_cons, List.not_mem_nil, or_false] at hq
    rcases hq with rfl | rfl | rfl | rfl <;> exact Nat.zero_le _
  have htm : ∀ q ∈ StgL.mail ⟨[(nn : Int), (nn : Int)], [[], [lab.toList], [], []]⟩, q.length ≤ 1000000 := fun q hq => by
    simp only [List.mem_cons, List.not_mem_nil, or_false] at hq
    rcases hq with rfl | rfl | rfl | rfl <;> simp
  have hbk := overB13_ok HBOK.out h8
  obtain ⟨s0, hs0⟩ : ∃ s0 : StgL, s0 = ⟨[(nn : Int), (nn : Int)], [[], [], [], []]⟩ := ⟨_, rfl⟩
  obtain ⟨t0, ht0⟩ : ∃ t0 : StgL, t0 = ⟨[(nn : Int), (nn : Int)], [[], [lab.toList], [], []]⟩ := ⟨_, rfl⟩
  obtain ⟨u0, hu0⟩ : ∃ u0 : StgL, u0 = ⟨[(nn : Int), (k : Int)], [[], [], [], []]⟩ := ⟨_, rfl⟩
  obtain ⟨B, hB⟩ : ∃ B, B = overB13 b := ⟨_, rfl⟩
  rw [← hs0] at hbs hos hms hst hsm
  rw [← ht0] at hot hmt hst htm HKT
  rw [← hu0] at hbu hou
  rw [← hB] at hbu hbs hos hms hot hmt hou hbk HBK1
  have HBGS := Lib.hid hbs
  have HBGU := Lib.hid hbu
  have HOVS := Lib.hid hos
  have HMVS := Lib.hid hms
  have HOVT := Lib.hid hot
  have HMVT := Lib.hid hmt
  have HOVU := Lib.hid hou
  have HSAM := Lib.hid hst
  have HSM := Lib.hid hsm
  have HTM := Lib.hid htm
  have HBB := Lib.hid hbk
  have hkz : (kd == 0) = z := by rw [hz]; rfl
  have hzz : (z == z) = true := by simp
  have e0 : ((nn : Int) == 0) = false := by rw [beq_eq_false_iff_ne]; omega
  have hwn : IntKind.u64.wrap (nn : Int) = (nn : Int) := IntWalk.u64_in _ (by omega)
  have hwk : IntKind.i64.wrap (k : Int) = (k : Int) := IntWalk.i64_in _ ⟨by omega, by omega⟩
  have i1 : (k : Int) < (m : Int) := by have := HM1.out; omega
  have i2 : (0 : Int) ≤ (k : Int) := by omega
  have HQK := Lib.hid qk
  clear hbs hbu hos hms hot hmt hou hst hsm htm hbk hz qk hdn hs0 ht0 hu0 hB HNL hnx h8 HM1
  have HF := Lib.hid (fun (W : World) (hW : Below w1.heap.size w1 W) => show BkIn W W.heap.size (some ⟨db, dd, none⟩) m none 0 none 0 B ∧ BBox W g9 (some ⟨db, dd, none⟩) m vc none 0 0 none 0 0 from ⟨HBK1.out.on13 hW, HBX1.out.on hW HBX1.out.lt⟩)
  have HS := Lib.hid (fun (W : World) (hW : Below w1.heap.size w1 W) => show W.cell? ⟨g9, 0, none⟩ = some (.slice (some ⟨db, dd, none⟩) m vc) ∧ W.cell? ⟨g9, 1, none⟩ = some (.slice none 0 0) ∧ W.cell? ⟨g9, 2, none⟩ = some (.slice none 0 0) from (HF.out W hW).2.cells)
  go_cut [10, 11] (fun v er wx => ∃ (g2 : Nat) (qa : Option Addr) (qn qc : Nat) (qm : Option Addr) (qk qz lo hi : Nat), v = .pointer (some ⟨g2, 0, none⟩) ∧ er = .int .i64 0 ∧ Hid (Below w1.heap.size w1 wx) ∧ Hid (SBox wx g2 qa qn qc qm qk qz) ∧ Hid (Kp13 wx lo hi qa qn qm qk s0))
  case first =>
    have HBd := Lib.hid (show Below w1.heap.size w1 w1.drew from bel_drewN (Below.refl _ _) 1)
    obtain ⟨wd, hwd⟩ : ∃ wd : World, wd = w1.drew := ⟨_, rfl⟩
    rw [← hwd] at HBd
    refine wp_region_held_drew (S := fun W => W.cell? ⟨g9, 0, none⟩ = some (.slice (some ⟨db, dd, none⟩) m vc) ∧ W.cell? ⟨g9, 1, none⟩ = some (.slice none 0 0) ∧ W.cell? ⟨g9, 2, none⟩ = some (.slice none 0 0)) (by kernel_rfl) (by rw [← hwd]; exact HS.out _ HBd.out) (fun hHeld => ?_)
    rw [← hwd]
    rw [← hwd] at hHeld
    clear hwd
    try simp only [Act.put, List.setIfInBounds_toArray]
    refine' wpAnyH_take (i := 0) (v := _) rfl (by kernel_rfl) (by kernel_rfl) (by kernel_rfl) (fun _ _ _ h => h) (Or.inl ⟨by kernel_rfl, ?hya0⟩) (by assumption) ?resta0
    case hya0 => intro W hSw; (try dsimp only at hSw); first | (go_simp; done) | (go_simp; with_reducible rfl)
    try simp only [Act.put]
    refine' wpAnyH_take (i := 2) (v := _) rfl (by kernel_rfl) (by kernel_rfl) (by kernel_rfl) (fun _ _ _ h => h) (Or.inl ⟨by kernel_rfl, ?hya2⟩) (by assumption) ?resta2
    case hya2 => intro W hSw; (try dsimp only at hSw); first | (go_simp; done) | (go_simp; with_reducible rfl)
    try simp only [Act.put, List.getElem_toArray, List.getElem_cons_succ, List.getElem_cons_zero, List.setIfInBounds_toArray, List.set_cons_succ, List.set_cons_zero]
    refine' wpAnyH_take (i := 3) (v := _) rfl (by kernel_rfl) (by kernel_rfl) (by kernel_rfl) (fun _ _ _ h => h) (Or.inl ⟨by kernel_rfl, ?hya3⟩) (by assumption) ?resta3
    case hya3 => intro W hSw; (try dsimp only at hSw); first | (go_simp; done) | (go_simp; with_reducible rfl)
    try simp only [Act.put, List.getElem_toArray, List.getElem_cons_succ, List.getElem_cons_zero, List.setIfInBounds_toArray, List.set_cons_succ, List.set_cons_zero]
    refine wpAnyH_ready (rs := [1, 4, 9]) (by kernel_rfl) (by simp) ?_
    refine (AllReadyH.cons (i := 1) (o := _) rfl (fun K hK => ?bra1) (AllReadyH.cons (i := 4) (o := _) rfl (fun K hK => ?bra4) (AllReadyH.cons (i := 9) (o := _) rfl (fun K hK => ?bra9) AllReadyH.nil)))
    case bra1 =>
     go_simp
     go_at_call 38
     with_reducible refine (ab_any wd).mono ?_
     rintro e wa1 ⟨⟨ga, rfl, hswa1⟩, hbwa1⟩
     have HBwa1 := Lib.hid (HBd.out.trans ((hbwa1).mono HBd.out.size))
     have HRwa1n := Lib.hid hswa1
     clear hswa1 hbwa1
     refine hK.out _ _ (HS.out _ HBwa1.out) (fun hHeld => ?_)
     clear hK K
     try simp only [Act.put, List.getElem_toArray, List.getElem_cons_succ, List.getElem_cons_zero, List.setIfInBounds_toArray, List.set_cons_succ, List.set_cons_zero]
     refine wpAnyH_ready (rs := [4, 9]) (by kernel_rfl) (by simp) ?_
     refine (AllReadyH.cons (i := 4) (o := _) rfl (fun K hK => ?brax14) (AllReadyH.cons (i := 9) (o := _) rfl (fun K hK => ?brax19) AllReadyH.nil))
     case brax14 =>
      go_simp
      obtain ⟨wax14, hwax14⟩ : ∃ W : World, W = wa1.alloc (.cells #[.int .i64 (nn : Int), .int .i64 (nn : Int)] 3) := ⟨_, rfl⟩
      have htwax14 : Below wa1.heap.size wa1 wax14 := by rw [hwax14]; exact tu1 wa1 _
      have HBwax14 := Lib.hid (HBwa1.out.trans ((htwax14).mono HBwa1.out.size))
      have HRwax14 := Lib.hid (HRwa1n.out.on13 htwax14)
      have HIwax14n := Lib.hid (show Nums wax14 wax14.heap.size (some ⟨wa1.heap.size, 0, none⟩) 2 [(nn : Int), (nn : Int)] by rw [hwax14]; exact ints01 (heap_alloc_new wa1 _))
      rw [← hwax14]
      clear hwax14 htwax14
      refine hK.out _ _ (HS.out _ HBwax14.out) (fun hHeld => ?_)
      clear hK K
      try simp only [Act.put, List.getElem_toArray, List.getElem_cons_succ, List.getElem_cons_zero, List.setIfInBounds_toArray, List.set_cons_succ, List.set_cons_zero]
      refine wpAnyH_ready (rs := [5, 9]) (by kernel_rfl) (by simp) ?_
      refine (AllReadyH.cons (i := 5) (o := _) rfl (fun K hK => ?brax1x45) (AllReadyH.cons (i := 9) (o := _) rfl (fun K hK => ?brax1x49) AllReadyH.nil))
      case brax1x45 =>
       go_simp
       go_at_call 24
       with_reducible refine (stBegin_any (some ⟨db, dd, none⟩) m vc none 0 0 none 0 0 (some ⟨ga, 0, none⟩) 2 2 (some ⟨wa1.heap.size, 0, none⟩) 2 2 B abS [(nn : Int), (nn : Int)] wax14 (Nat.le_refl _) (by omega) (HF.out _ HBwax14.out).1 HRwax14.out HIwax14n.out).mono ?_
       rintro e wax1x45 ⟨hstwax1x45, hbwax1x45⟩
       obtain ⟨qa, qn, qc, qm, qk, qz, rfl, hkpwax1x45⟩ := hstwax1x45.kp hbwax1x45
       rw [HBGS.out] at hkpwax1x45 ⊢
       have HBwax1x45 := Lib.hid (HBwax14.out.trans ((hbwax1x45).mono HBwax14.out.size))
       have HKwax1x45n := Lib.hid hkpwax1x45
       clear hkpwax1x45 hstwax1x45 hbwax1x45
       refine hK.out _ _ (HS.out _ HBwax1x45.out) (fun hHeld => ?_)
       clear hK K
       refine' wpAnyH_take (i := 6) (v := _) rfl (by kernel_rfl) (by kernel_rfl) (by kernel_rfl) (fun _ _ _ h => h) (Or.inl ⟨by kernel_rfl, ?hyax1x4x56⟩) (by assumption) ?restax1x4x56
       case hyax1x4x56 => intro W hSw; (try dsimp only at hSw); first | (go_simp; done) | (go_simp; with_reducible rfl)
       try simp only [Act.put]
       refine' wpAnyH_take (i := 7) (v := _) rfl (by kernel_rfl) (by kernel_rfl) (by kernel_rfl) (fun _ _ _ h => h) (Or.inl ⟨by kernel_rfl, ?hyax1x4x57⟩) (by assumption) ?restax1x4x57
       case hyax1x4x57 => intro W hSw; (try dsimp only at hSw); first | (go_simp; done) | (go_simp; with_reducible rfl)
       try simp only [Act.put, List.getElem_toArray, List.getElem_cons_succ, List.getElem_cons_zero, List.setIfInBounds_toArray, List.set_cons_succ, List.set_cons_zero]
       refine' wpAnyH_take (i := 8) (v := _) rfl (by kernel_rfl) (by kernel_rfl) (by kernel_rfl) (fun _ _ _ h => h) (Or.inl ⟨by kernel_rfl, ?hyax1x4x58⟩) (by assumption) ?restax1x4x58
       case hyax1x4x58 => intro W hSw; (try dsimp only at hSw); first | (go_simp; done) | (go_simp; with_reducible rfl)
       try simp only [Act.put, List.getElem_toArray, List.getElem_cons_succ, List.getElem_cons_zero, List.setIfInBounds_toArray, List.set_cons_succ, List.set_cons_zero]
       refine wpAnyH_ready (rs := [9]) (by kernel_rfl) (by simp) ?_
       refine AllReadyH.cons (i := 9) (o := _) rfl (fun K hK => ?_) AllReadyH.nil
       go_simp
       obtain ⟨wax1x4x59, hwax1x4x59⟩ : ∃ W : World, W = wax1x45.alloc (.cells #[.slice none 0 0, .slice none 0 0] 38) := ⟨_, rfl⟩
       have htwax1x4x59 : Below wax1x45.heap.size wax1x45 wax1x4x59 := by rw [hwax1x4x59]; exact tu1 wax1x45 _
       have HBwax1x4x59 := Lib.hid (HBwax1x45.out.trans ((htwax1x4x59).mono HBwax1x45.out.size))
       have HKwax1x4x59 := Lib.hid (HKwax1x45n.out.on13 htwax1x4x59)
       have HXwax1x4x59n := Lib.hid (show SBox wax1x4x59 wax1x45.heap.size none 0 0 none 0 0 by rw [hwax1x4x59]; exact heap_alloc_new wax1x45 _)
       have hgewax1x4x59 : w1.heap.size ≤ wax1x45.heap.size := HBwax1x45.out.size
       rw [← hwax1x4x59]
       clear hwax1x4x59 htwax1x4x59
       have hap : wax1x45.heap.size < wax14.heap.size ∨ wax1x45.heap.size ≤ wax1x45.heap.size := .inr (by have := HKwax1x45n.out.le; omega)
       refine hK.out _ _ (HS.out _ HBwax1x4x59.out) (fun hHeld => ?_)
       clear hK K
       try simp only [Act.put, List.getElem_toArray, List.getElem_cons_succ, List.getElem_cons_zero, List.setIfInBounds_toArray, List.set_cons_succ, List.set_cons_zero]
       refine wpAnyH_ready (rs := [10]) (by kernel_rfl) (by simp) ?_
       refine AllReadyH.cons (i := 10) (o := _) rfl (fun K hK => ?_) AllReadyH.nil
       obtain ⟨y0, y1⟩ := HXwax1x4x59n.out.cells
       have f0 := HXwax1x4x59n.out.thaw 0
       have f1 := HXwax1x4x59n.out.thaw 1
       go_simp
       have hset := set13 wax1x4x59 wax1x45.heap.size (.slice qa qn qc) (.slice qm qk qz)
       have HBs := Lib.hid (HBwax1x4x59.out.trans (hset.below hgewax1x4x59 HBwax1x4x59.out.size))
       have HKs := Lib.hid (HKwax1x4x59.out.aside hset hap)
       have HXs := Lib.hid (SBox.fill (a' := qa) (n' := qn) (c' := qc) (ma' := qm) (mn' := qk) (mc' := qz) HXwax1x4x59n.out)
       clear hset y0 y1 f0 f1
       refine hK.out _ _ (HS.out _ HBs.out) (fun hHeld => ?_)
       clear hK K
       try simp only [Act.put, List.setIfInBounds_toArray]
       refine' wpAnyH_take (i := 11) (v := _) rfl (by kernel_rfl) (by kernel_rfl) (by kernel_rfl) (fun _ _ _ h => h) (Or.inl ⟨by kernel_rfl, ?hyax1x4x511⟩) (by assumption) ?restax1x4x511
       case hyax1x4x511 => intro W hSw; (try dsimp only at hSw); first | (go_simp; done) | (go_simp; with_reducible rfl)
       try simp only [Act.put, List.getElem_toArray, List.getElem_cons_succ, List.getElem_cons_zero, List.setIfInBounds_toArray, List.set_cons_succ, List.set_cons_zero]
       refine wpAnyH_done (by kernel_rfl) ?_ _
       try simp only [Act.put, List.getElem_toArray, List.getElem_cons_succ, List.getElem_cons_zero, List.setIfInBounds_toArray, List.set_cons_succ, List.set_cons_zero]
       go_wp2_with fail
       all_goals
        go_meet
        case rel => exact ⟨_, qa, qn, qc, qm, qk, qz, _, _, rfl, rfl, HBs, HXs, HKs⟩
      case brax1x49 =>
       go_simp
       obtain ⟨wax1x49, hwax1x49⟩ : ∃ W : World, W = wax14.alloc (.cells #[.slice none 0 0, .slice none 0 0] 38) := ⟨_, rfl⟩
       have htwax1x49 : Below wax14.heap.size wax14 wax1x49 := by rw [hwax1x49]; exact tu1 wax14 _
       have HBwax1x49 := Lib.hid (HBwax14.out.trans ((htwax1x49).mono HBwax14.out.size))
       have HRwax1x49 := Lib.hid (HRwax14.out.on13 htwax1x49)
       have HIwax1x49 := Lib.hid (HIwax14n.out.on13 htwax1x49)
       have HXwax1x49n := Lib.hid (show SBox wax1x49 wax14.heap.size none 0 0 none 0 0 by rw [hwax1x49]; exact heap_alloc_new wax14 _)
       have hgewax1x49 : w1.heap.size ≤ wax14.heap.size := HBwax14.out.size
       rw [← hwax1x49]
       clear hwax1x49 htwax1x49
       refine hK.out _ _ (HS.out _ HBwax1x49.out) (fun hHeld => ?_)
       clear hK K
       try simp only [Act.put, List.getElem_toArray, List.getElem_cons_succ, List.getElem_cons_zero, List.setIfInBounds_toArray, List.set_cons_succ, List.set_cons_zero]
       refine wpAnyH_ready (rs := [5]) (by kernel_rfl) (by simp) ?_
       refine AllReadyH.cons (i := 5) (o := _) rfl (fun K hK => ?_) AllReadyH.nil
       go_simp
       go_at_call 24
       with_reducible refine (stBegin_any (some ⟨db, dd, none⟩) m vc none 0 0 none 0 0 (some ⟨ga, 0, none⟩) 2 2 (some ⟨wa1.heap.size, 0, none⟩) 2 2 B abS [(nn : Int), (nn : Int)] wax1x49 (Nat.le_refl _) (by omega) (HF.out _ HBwax1x49.out).1 HRwax1x49.out HIwax1x49.out).mono ?_
       rintro e wax1x4x95 ⟨hstwax1x4x95, hbwax1x4x95⟩
       obtain ⟨qa, qn, qc, qm, qk, qz, rfl, hkpwax1x4x95⟩ := hstwax1x4x95.kp hbwax1x4x95
       rw [HBGS.out] at hkpwax1x4x95 ⊢
       have HBwax1x4x95 := Lib.hid (HBwax1x49.out.trans ((hbwax1x4x95).mono HBwax1x49.out.size))
       have HXwax1x4x95 := Lib.hid (HXwax1x49n.out.on13 hbwax1x4x95)
       have HKwax1x4x95n := Lib.hid hkpwax1x4x95
       have hap : wax14.heap.size < wax1x49.heap.size ∨ wax1x4x95.heap.size ≤ wax14.heap.size := .inl HXwax1x49n.out.lt
       clear hkpwax1x4x95 hstwax1x4x95 hbwax1x4x95
       refine hK.out _ _ (HS.out _ HBwax1x4x95.out) (fun hHeld => ?_)
       clear hK K
       refine' wpAnyH_take (i := 6) (v := _) rfl (by kernel_rfl) (by kernel_rfl) (by kernel_rfl) (fun _ _ _ h => h) (Or.inl ⟨by kernel_rfl, ?hyax1x4x96⟩) (by assumption) ?restax1x4x96
       case hyax1x4x96 => intro W hSw; (try dsimp only at hSw); first | (go_simp; done) | (go_simp; with_reducible rfl)
       try simp only [Act.put]
       refine' wpAnyH_take (i := 7) (v := _) rfl (by kernel_rfl) (by kernel_rfl) (by kernel_rfl) (fun _ _ _ h => h) (Or.inl ⟨by kernel_rfl, ?hyax1x4x97⟩) (by assumption) ?restax1x4x97
       case hyax1x4x97 => intro W hSw; (try dsimp only at hSw); first | (go_simp; done) | (go_simp; with_reducible rfl)
       try simp only [Act.put, List.getElem_toArray, List.getElem_cons_succ, List.getElem_cons_zero, List.setIfInBounds_toArray, List.set_cons_succ, List.set_cons_zero]
       refine' wpAnyH_take (i := 8) (v := _) rfl (by kernel_rfl) (by kernel_rfl) (by kernel_rfl) (fun _ _ _ h => h) (Or.inl ⟨by kernel_rfl, ?hyax1x4x98⟩) (by assumption) ?restax1x4x98
       case hyax1x4x98 => intro W hSw; (try dsimp only at hSw); first | (go_simp; done) | (go_simp; with_reducible rfl)
       try simp only [Act.put, List.getElem_toArray, List.getElem_cons_succ, List.getElem_cons_zero, List.setIfInBounds_toArray, List.set_cons_succ, List.set_cons_zero]
       refine wpAnyH_ready (rs := [10]) (by kernel_rfl) (by simp) ?_
       refine AllReadyH.cons (i := 10) (o := _) rfl (fun K hK => ?_) AllReadyH.nil
       obtain ⟨y0, y1⟩ := HXwax1x4x95.out.cells
       have f0 := HXwax1x4x95.out.thaw 0
       have f1 := HXwax1x4x95.out.thaw 1
       go_simp
       have hset := set13 wax1x4x95 wax14.heap.size (.slice qa qn qc) (.slice qm qk qz)
       have HBs := Lib.hid (HBwax1x4x95.out.trans (hset.below hgewax1x49 HBwax1x4x95.out.size))
       have HKs := Lib.hid (HKwax1x4x95n.out.aside hset hap)
       have HXs := Lib.hid (SBox.fill (a' := qa) (n' := qn) (c' := qc) (ma' := qm) (mn' := qk) (mc' := qz) HXwax1x4x95.out)
       clear hset y0 y1 f0 f1
       refine hK.out _ _ (HS.out _ HBs.out) (fun hHeld => ?_)
       clear hK K
       try simp only [Act.put, List.setIfInBounds_toArray]
       refine' wpAnyH_take (i := 11) (v := _) rfl (by kernel_rfl) (by kernel_rfl) (by kernel_rfl) (fun _ _ _ h => h) (Or.inl ⟨by kernel_rfl, ?hyax1x4x911⟩) (by assumption) ?restax1x4x911
       case hyax1x4x911 => intro W hSw; (try dsimp only at hSw); first | (go_simp; done) | (go_simp; with_reducible rfl)
       try simp only [Act.put, List.getElem_toArray, List.getElem_cons_succ, List.getElem_cons_zero, List.setIfInBounds_toArray, List.set_cons_succ, List.set_cons_zero]
       refine wpAnyH_done (by kernel_rfl) ?_ _
       try simp only [Act.put, List.getElem_toArray, List.getElem_cons_succ, List.getElem_cons_zero, List.setIfInBounds_toArray, List.set_cons_succ, List.set_cons_zero]
       go_wp2_with fail
       all_goals
        go_meet
        case rel => exact ⟨_, qa, qn, qc, qm, qk, qz, _, _, rfl, rfl, HBs, HXs, HKs⟩
     case brax19 =>
      go_simp
      obtain ⟨wax19, hwax19⟩ : ∃ W : World, W = wa1.alloc (.cells #[.slice none 0 0, .slice none 0 0] 38) := ⟨_, rfl⟩
      have htwax19 : Below wa1.heap.size wa1 wax19 := by rw [hwax19]; exact tu1 wa1 _
      have HBwax19 := Lib.hid (HBwa1.out.trans ((htwax19).mono HBwa1.out.size))
      have HRwax19 := Lib.hid (HRwa1n.out.on13 htwax19)
      have HXwax19n := Lib.hid (show SBox wax19 wa1.heap.size none 0 0 none 0 0 by rw [hwax19]; exact heap_alloc_new wa1 _)
      have hgewax19 : w1.heap.size ≤ wa1.heap.size := HBwa1.out.size
      rw [← hwax19]
      clear hwax19 htwax19
      refine hK.out _ _ (HS.out _ HBwax19.out) (fun hHeld => ?_)
      clear hK K
      try simp only [Act.put, List.getElem_toArray, List.getElem_cons_succ, List.getElem_cons_zero, List.setIfInBounds_toArray, List.set_cons_succ, List.set_cons_zero]
      refine wpAnyH_ready (rs := [4]) (by kernel_rfl) (by simp) ?_
      refine AllReadyH.cons (i := 4) (o := _) rfl (fun K hK => ?_) AllReadyH.nil
      go_simp
      obtain ⟨wax1x94, hwax1x94⟩ : ∃ W : World, W = wax19.alloc (.cells #[.int .i64 (nn : Int), .int .i64 (nn : Int)] 3) := ⟨_, rfl⟩
      have htwax1x94 : Below wax19.heap.size wax19 wax1x94 := by rw [hwax1x94]; exact tu1 wax19 _
      have HBwax1x94 := Lib.hid (HBwax19.out.trans ((htwax1x94).mono HBwax19.out.size))
      have HRwax1x94 := Lib.hid (HRwax19.out.on13 htwax1x94)
      have HXwax1x94 := Lib.hid (HXwax19n.out.on13 htwax1x94)
      have HIwax1x94n := Lib.hid (show Nums wax1x94 wax1x94.heap.size (some ⟨wax19.heap.size, 0, none⟩) 2 [(nn : Int), (nn : Int)] by rw [hwax1x94]; exact ints01 (heap_alloc_new wax19 _))
      rw [← hwax1x94]
      clear hwax1x94 htwax1x94
      refine hK.out _ _ (HS.out _ HBwax1x94.out) (fun hHeld => ?_)
      clear hK K
      try simp only [Act.put, List.getElem_toArray, List.getElem_cons_succ, List.getElem_cons_zero, List.setIfInBounds_toArray, List.set_cons_succ, List.set_cons_zero]
      refine wpAnyH_ready (rs := [5]) (by kernel_rfl) (by simp) ?_
      refine AllReadyH.cons (i := 5) (o := _) rfl (fun K hK => ?_) AllReadyH.nil
      go_simp
      go_at_call 24
      with_reducible refine (stBegin_any (some ⟨db, dd, none⟩) m vc none 0 0 none 0 0 (some ⟨ga, 0, none⟩) 2 2 (some ⟨wax19.heap.size, 0, none⟩) 2 2 B abS [(nn : Int), (nn : Int)] wax1x94 (Nat.le_refl _) (by omega) (HF.out _ HBwax1x94.out).1 HRwax1x94.out HIwax1x94n.out).mono ?_
      rintro e wax1x95 ⟨hstwax1x95, hbwax1x95⟩
      obtain ⟨qa, qn, qc, qm, qk, qz, rfl, hkpwax1x95⟩ := hstwax1x95.kp hbwax1x95
      rw [HBGS.out] at hkpwax1x95 ⊢
      have HBwax1x95 := Lib.hid (HBwax1x94.out.trans ((hbwax1x95).mono HBwax1x94.out.size))
      have HXwax1x95 := Lib.hid (HXwax1x94.out.on13 hbwax1x95)
      have HKwax1x95n := Lib.hid hkpwax1x95
      have hap : wa1.heap.size < wax1x94.heap.size ∨ wax1x95.heap.size ≤ wa1.heap.size := .inl HXwax1x94.out.lt
      clear hkpwax1x95 hstwax1x95 hbwax1x95
      refine hK.out _ _ (HS.out _ HBwax1x95.out) (fun hHeld => ?_)
      clear hK K
      refine' wpAnyH_take (i := 6) (v := _) rfl (by kernel_rfl) (by kernel_rfl) (by kernel_rfl) (fun _ _ _ h => h) (Or.inl ⟨by kernel_rfl, ?hyax1x96⟩) (by assumption) ?restax1x96
      case hyax1x96 => intro W hSw; (try dsimp only at hSw); first | (go_simp; done) | (go_simp; with_reducible rfl)
      try simp only [Act.put]
      refine' wpAnyH_take (i := 7) (v := _) rfl (by kernel_rfl) (by kernel_rfl) (by kernel_rfl) (fun _ _ _ h => h) (Or.inl ⟨by kernel_rfl, ?hyax1x97⟩) (by assumption) ?restax1x97
      case hyax1x97 => intro W hSw; (try dsimp only at hSw); first | (go_simp; done) | (go_simp; with_reducible rfl)
      try simp only [Act.put, List.getElem_toArray, List.getElem_cons_succ, List.getElem_cons_zero, List.setIfInBounds_toArray, List.set_cons_succ, List.set_cons_zero]
      refine' wpAnyH_take (i := 8) (v := _) rfl (by kernel_rfl) (by kernel_rfl) (by kernel_rfl) (fun _ _ _ h => h) (Or.inl ⟨by kernel_rfl, ?hyax1x98⟩) (by assumption) ?restax1x98
      case hyax1x98 => intro W hSw; (try dsimp only at hSw); first | (go_simp; done) | (go_simp; with_reducible rfl)
      try simp only [Act.put, List.getElem_toArray, List.getElem_cons_succ, List.getElem_cons_zero, List.setIfInBounds_toArray, List.set_cons_succ, List.set_cons_zero]
      refine wpAnyH_ready (rs := [10]) (by kernel_rfl) (by simp) ?_
      refine AllReadyH.cons (i := 10) (o := _) rfl (fun K hK => ?_) AllReadyH.nil
      obtain ⟨y0, y1⟩ := HXwax1x95.out.cells
      have f0 := HXwax1x95.out.thaw 0
      have f1 := HXwax1x95.out.thaw 1
      go_simp
      have hset := set13 wax1x95 wa1.heap.size (.slice qa qn qc) (.slice qm qk qz)
      have HBs := Lib.hid (HBwax1x95.out.trans (hset.below hgewax19 HBwax1x95.out.size))
      have HKs := Lib.hid (HKwax1x95n.out.aside hset hap)
      have HXs := Lib.hid (SBox.fill (a' := qa) (n' := qn) (c' := qc) (ma' := qm) (mn' := qk) (mc' := qz) HXwax1x95.out)
      clear hset y0 y1 f0 f1
      refine hK.out _ _ (HS.out _ HBs.out) (fun hHeld => ?_)
      clear hK K
      try simp only [Act.put, List.setIfInBounds_toArray]
      refine' wpAnyH_take (i := 11) (v := _) rfl (by kernel_rfl) (by kernel_rfl) (by kernel_rfl) (fun _ _ _ h => h) (Or.inl ⟨by kernel_rfl, ?hyax1x911⟩) (by assumption) ?restax1x911
      case hyax1x911 => intro W hSw; (try dsimp only at hSw); first | (go_simp; done) | (go_simp; with_reducible rfl)
      try simp only [Act.put, List.getElem_toArray, List.getElem_cons_succ, List.getElem_cons_zero, List.setIfInBounds_toArray, List.set_cons_succ, List.set_cons_zero]
      refine wpAnyH_done (by kernel_rfl) ?_ _
      try simp only [Act.put, List.getElem_toArray, List.getElem_cons_succ, List.getElem_cons_zero, List.setIfInBounds_toArray, List.set_cons_succ, List.set_cons_zero]
      go_wp2_with fail
      all_goals
       go_meet
       case rel => exact ⟨_, qa, qn, qc, qm, qk, qz, _, _, rfl, rfl, HBs, HXs, HKs⟩
    case bra4 =>
     go_simp
     obtain ⟨wa4, hwa4⟩ : ∃ W : World, W = wd.alloc (.cells #[.int .i64 (nn : Int), .int .i64 (nn : Int)] 3) := ⟨_, rfl⟩
     have htwa4 : Below wd.heap.size wd wa4 := by rw [hwa4]; exact tu1 wd _
     have HBwa4 := Lib.hid (HBd.out.trans ((htwa4).mono HBd.out.size))
     have HIwa4n := Lib.hid (show Nums wa4 wa4.heap.size (some ⟨wd.heap.size, 0, none⟩) 2 [(nn : Int), (nn : Int)] by rw [hwa4]; exact ints01 (heap_alloc_new wd _))
     rw [← hwa4]
     clear hwa4 htwa4
     refine hK.out _ _ (HS.out _ HBwa4.out) (fun hHeld => ?_)
     clear hK K
     try simp only [Act.put, List.getElem_toArray, List.getElem_cons_succ, List.getElem_cons_zero, List.setIfInBounds_toArray, List.set_cons_succ, List.set_cons_zero]
     refine wpAnyH_ready (rs := [1, 9]) (by kernel_rfl) (by simp) ?_
     refine (AllReadyH.cons (i := 1) (o := _) rfl (fun K hK => ?brax41) (AllReadyH.cons (i := 9) (o := _) rfl (fun K hK => ?brax49) AllReadyH.nil))
     case brax41 =>
      go_simp
      go_at_call 38
      with_reducible refine (ab_any wa4).mono ?_
      rintro e wax41 ⟨⟨ga, rfl, hswax41⟩, hbwax41⟩
      have HBwax41 := Lib.hid (HBwa4.out.trans ((hbwax41).mono HBwa4.out.size))
      have HIwax41 := Lib.hid (HIwa4n.out.on13 hbwax41)
      have HRwax41n := Lib.hid hswax41
      clear hswax41 hbwax41
      refine hK.out _ _ (HS.out _ HBwax41.out) (fun hHeld => ?_)
      clear hK K
      try simp only [Act.put, List.getElem_toArray, List.getElem_cons_succ, List.getElem_cons_zero, List.setIfInBounds_toArray, List.set_cons_succ, List.set_cons_zero]
      refine wpAnyH_ready (rs := [5, 9]) (by kernel_rfl) (by simp) ?_
      refine (AllReadyH.cons (i := 5) (o := _) rfl (fun K hK => ?brax4x15) (AllReadyH.cons (i := 9) (o := _) rfl (fun K hK => ?brax4x19) AllReadyH.nil))
      case brax4x15 =>
       go_simp
       go_at_call 24
       with_reducible refine (stBegin_any (some ⟨db, dd, none⟩) m vc none 0 0 none 0 0 (some ⟨ga, 0, none⟩) 2 2 (some ⟨wd.heap.size, 0, none⟩) 2 2 B abS [(nn : Int), (nn : Int)] wax41 (Nat.le_refl _) (by omega) (HF.out _ HBwax41.out).1 HRwax41n.out HIwax41.out).mono ?_
       rintro e wax4x15 ⟨hstwax4x15, hbwax4x15⟩
       obtain ⟨qa, qn, qc, qm, qk, qz, rfl, hkpwax4x15⟩ := hstwax4x15.kp hbwax4x15
       rw [HBGS.out] at hkpwax4x15 ⊢
       have HBwax4x15 := Lib.hid (HBwax41.out.trans ((hbwax4x15).mono HBwax41.out.size))
       have HKwax4x15n := Lib.hid hkpwax4x15
       clear hkpwax4x15 hstwax4x15 hbwax4x15
       refine hK.out _ _ (HS.out _ HBwax4x15.out) (fun hHeld => ?_)
       clear hK K
       refine' wpAnyH_take (i := 6) (v := _) rfl (by kernel_rfl) (by kernel_rfl) (by kernel_rfl) (fun _ _ _ h => h) (Or.inl ⟨by kernel_rfl, ?hyax4x1x56⟩) (by assumption) ?restax4x1x56
       case hyax4x1x56 => intro W hSw; (try dsimp only at hSw); first | (go_simp; done) | (go_simp; with_reducible rfl)
       try simp only [Act.put]
       refine' wpAnyH_take (i := 7) (v := _) rfl (by kernel_rfl) (by kernel_rfl) (by kernel_rfl) (fun _ _ _ h => h) (Or.inl ⟨by kernel_rfl, ?hyax4x1x57⟩) (by assumption) ?restax4x1x57
       case hyax4x1x57 => intro W hSw; (try dsimp only at hSw); first | (go_simp; done) | (go_simp; with_reducible rfl)
       try simp only [Act.put, List.getElem_toArray, List.getElem_cons_succ, List.getElem_cons_zero, List.setIfInBounds_toArray, List.set_cons_succ, List.set_cons_zero]
       refine' wpAnyH_take (i := 8) (v := _) rfl (by kernel_rfl) (by kernel_rfl) (by kernel_rfl) (fun _ _ _ h => h) (Or.inl ⟨by kernel_rfl, ?hyax4x1x58⟩) (by assumption) ?restax4x1x58
       case hyax4x1x58 => intro W hSw; (try dsimp only at hSw); first | (go_simp; done) | (go_simp; with_reducible rfl)
       try simp only [Act.put, List.getElem_toArray, List.getElem_cons_succ, List.getElem_cons_zero, List.setIfInBounds_toArray, List.set_cons_succ, List.set_cons_zero]
       refine wpAnyH_ready (rs := [9]) (by kernel_rfl) (by simp) ?_
       refine AllReadyH.cons (i := 9) (o := _) rfl (fun K hK => ?_) AllReadyH.nil
       go_simp
       obtain ⟨wax4x1x59, hwax4x1x59⟩ : ∃ W : World, W = wax4x15.alloc (.cells #[.slice none 0 0, .slice none 0 0] 38) := ⟨_, rfl⟩
       have htwax4x1x59 : Below wax4x15.heap.size wax4x15 wax4x1x59 := by rw [hwax4x1x59]; exact tu1 wax4x15 _
       have HBwax4x1x59 := Lib.hid (HBwax4x15.out.trans ((htwax4x1x59).mono HBwax4x15.out.size))
       have HKwax4x1x59 := Lib.hid (HKwax4x15n.out.on13 htwax4x1x59)
       have HXwax4x1x59n := Lib.hid (show SBox wax4x1x59 wax4x15.heap.size none 0 0 none 0 0 by rw [hwax4x1x59]; exact heap_alloc_new wax4x15 _)
       have hgewax4x1x59 : w1.heap.size ≤ wax4x15.heap.size := HBwax4x15.out.size
       rw [← hwax4x1x59]
       clear hwax4x1x59 htwax4x1x59
       have hap : wax4x15.heap.size < wax41.heap.size ∨ wax4x15.heap.size ≤ wax4x15.heap.size := .inr (by have := HKwax4x15n.out.le; omega)
       refine hK.out _ _ (HS.out _ HBwax4x1x59.out) (fun hHeld => ?_)
       clear hK K
       try simp only [Act.put, List.getElem_toArray, List.getElem_cons_succ, List.getElem_cons_zero, List.setIfInBounds_toArray, List.set_cons_succ, List.set_cons_zero]
       refine wpAnyH_ready (rs := [10]) (by kernel_rfl) (by simp) ?_
       refine AllReadyH.cons (i := 10) (o := _) rfl (fun K hK => ?_) AllReadyH.nil
       obtain ⟨y0, y1⟩ := HXwax4x1x59n.out.cells
       have f0 := HXwax4x1x59n.out.thaw 0
       have f1 := HXwax4x1x59n.out.thaw 1
       go_simp
       have hset := set13 wax4x1x59 wax4x15.heap.size (.slice qa qn qc) (.slice qm qk qz)
       have HBs := Lib.hid (HBwax4x1x59.out.trans (hset.below hgewax4x1x59 HBwax4x1x59.out.size))
       have HKs := Lib.hid (HKwax4x1x59.out.aside hset hap)
       have HXs := Lib.hid (SBox.fill (a' := qa) (n' := qn) (c' := qc) (ma' := qm) (mn' := qk) (mc' := qz) HXwax4x1x59n.out)
       clear hset y0 y1 f0 f1
       refine hK.out _ _ (HS.out _ HBs.out) (fun hHeld => ?_)
       clear hK K
       try simp only [Act.put, List.setIfInBounds_toArray]
       refine' wpAnyH_take (i := 11) (v := _) rfl (by kernel_rfl) (by kernel_rfl) (by kernel_rfl) (fun _ _ _ h => h) (Or.inl ⟨by kernel_rfl, ?hyax4x1x511⟩) (by assumption) ?restax4x1x511
       case hyax4x1x511 => intro W hSw; (try dsimp only at hSw); first | (go_simp; done) | (go_simp; with_reducible rfl)
       try simp only [Act.put, List.getElem_toArray, List.getElem_cons_succ, List.getElem_cons_zero, List.setIfInBounds_toArray, List.set_cons_succ, List.set_cons_zero]
       refine wpAnyH_done (by kernel_rfl) ?_ _
       try simp only [Act.put, List.getElem_toArray, List.getElem_cons_succ, List.getElem_cons_zero, List.setIfInBounds_toArray, List.set_cons_succ, List.set_cons_zero]
       go_wp2_with fail
       all_goals
        go_meet
        case rel => exact ⟨_, qa, qn, qc, qm, qk, qz, _, _, rfl, rfl, HBs, HXs, HKs⟩
      case brax4x19 =>
       go_simp
       obtain ⟨wax4x19, hwax4x19⟩ : ∃ W : World, W = wax41.alloc (.cells #[.slice none 0 0, .slice none 0 0] 38) := ⟨_, rfl⟩
       have htwax4x19 : Below wax41.heap.size wax41 wax4x19 := by rw [hwax4x19]; exact tu1 wax41 _
       have HBwax4x19 := Lib.hid (HBwax41.out.trans ((htwax4x19).mono HBwax41.out.size))
       have HIwax4x19 := Lib.hid (HIwax41.out.on13 htwax4x19)
       have HRwax4x19 := Lib.hid (HRwax41n.out.on13 htwax4x19)
       have HXwax4x19n := Lib.hid (show SBox wax4x19 wax41.heap.size none 0 0 none 0 0 by rw [hwax4x19]; exact heap_alloc_new wax41 _)
       have hgewax4x19 : w1.heap.size ≤ wax41.heap.size := HBwax41.out.size
       rw [← hwax4x19]
       clear hwax4x19 htwax4x19
       refine hK.out _ _ (HS.out _ HBwax4x19.out) (fun hHeld => ?_)
       clear hK K
       try simp only [Act.put, List.getElem_toArray, List.getElem_cons_succ, List.getElem_cons_zero, List.setIfInBounds_toArray, List.set_cons_succ, List.set_cons_zero]
       refine wpAnyH_ready (rs := [5]) (by kernel_rfl) (by simp) ?_
       refine AllReadyH.cons (i := 5) (o := _) rfl (fun K hK => ?_) AllReadyH.nil
       go_simp
       go_at_call 24
       with_reducible refine (stBegin_any (some ⟨db, dd, none⟩) m vc none 0 0 none 0 0 (some ⟨ga, 0, none⟩) 2 2 (some ⟨wd.heap.size, 0, none⟩) 2 2 B abS [(nn : Int), (nn : Int)] wax4x19 (Nat.le_refl _) (by omega) (HF.out _ HBwax4x19.out).1 HRwax4x19.out HIwax4x19.out).mono ?_
       rintro e wax4x1x95 ⟨hstwax4x1x95, hbwax4x1x95⟩
       obtain ⟨qa, qn, qc, qm, qk, qz, rfl, hkpwax4x1x95⟩ := hstwax4x1x95.kp hbwax4x1x95
       rw [HBGS.out] at hkpwax4x1x95 ⊢
       have HBwax4x1x95 := Lib.hid (HBwax4x19.out.trans ((hbwax4x1x95).mono HBwax4x19.out.size))
       have HXwax4x1x95 := Lib.hid (HXwax4x19n.out.on13 hbwax4x1x95)
       have HKwax4x1x95n := Lib.hid hkpwax4x1x95
       have hap : wax41.heap.size < wax4x19.heap.size ∨ wax4x1x95.heap.size ≤ wax41.heap.size := .inl HXwax4x19n.out.lt
       clear hkpwax4x1x95 hstwax4x1x95 hbwax4x1x95
       refine hK.out _ _ (HS.out _ HBwax4x1x95.out) (fun hHeld => ?_)
       clear hK K
       refine' wpAnyH_take (i := 6) (v := _) rfl (by kernel_rfl) (by kernel_rfl) (by kernel_rfl) (fun _ _ _ h => h) (Or.inl ⟨by kernel_rfl, ?hyax4x1x96⟩) (by assumption) ?restax4x1x96
       case hyax4x1x96 => intro W hSw; (try dsimp only at hSw); first | (go_simp; done) | (go_simp; with_reducible rfl)
       try simp only [Act.put]
       refine' wpAnyH_take (i := 7) (v := _) rfl (by kernel_rfl) (by kernel_rfl) (by kernel_rfl) (fun _ _ _ h => h) (Or.inl ⟨by kernel_rfl, ?hyax4x1x97⟩) (by assumption) ?restax4x1x97
       case hyax4x1x97 => intro W hSw; (try dsimp only at hSw); first | (go_simp; done) | (go_simp; with_reducible rfl)
       try simp only [Act.put, List.getElem_toArray, List.getElem_cons_succ, List.getElem_cons_zero, List.setIfInBounds_toArray, List.set_cons_succ, List.set_cons_zero]
       refine' wpAnyH_take (i := 8) (v := _) rfl (by kernel_rfl) (by kernel_rfl) (by kernel_rfl) (fun _ _ _ h => h) (Or.inl ⟨by kernel_rfl, ?hyax4x1x98⟩) (by assumption) ?restax4x1x98
       case hyax4x1x98 => intro W hSw; (try dsimp only at hSw); first | (go_simp; done) | (go_simp; with_reducible rfl)
       try simp only [Act.put, List.getElem_toArray, List.getElem_cons_succ, List.getElem_cons_zero, List.setIfInBounds_toArray, List.set_cons_succ, List.set_cons_zero]
       refine wpAnyH_ready (rs := [10]) (by kernel_rfl) (by simp) ?_
       refine AllReadyH.cons (i := 10) (o := _) rfl (fun K hK => ?_) AllReadyH.nil
       obtain ⟨y0, y1⟩ := HXwax4x1x95.out.cells
       have f0 := HXwax4x1x95.out.thaw 0
       have f1 := HXwax4x1x95.out.thaw 1
       go_simp
       have hset := set13 wax4x1x95 wax41.heap.size (.slice qa qn qc) (.slice qm qk qz)
       have HBs := Lib.hid (HBwax4x1x95.out.trans (hset.below hgewax4x19 HBwax4x1x95.out.size))
       have HKs := Lib.hid (HKwax4x1x95n.out.aside hset hap)
       have HXs := Lib.hid (SBox.fill (a' := qa) (n' := qn) (c' := qc) (ma' := qm) (mn' := qk) (mc' := qz) HXwax4x1x95.out)
       clear hset y0 y1 f0 f1
       refine hK.out _ _ (HS.out _ HBs.out) (fun hHeld => ?_)
       clear hK K
       try simp only [Act.put, List.setIfInBounds_toArray]
       refine' wpAnyH_take (i := 11) (v := _) rfl (by kernel_rfl) (by kernel_rfl) (by kernel_rfl) (fun _ _ _ h => h) (Or.inl ⟨by kernel_rfl, ?hyax4x1x911⟩) (by assumption) ?restax4x1x911
       case hyax4x1x911 => intro W hSw; (try dsimp only at hSw); first | (go_simp; done) | (go_simp; with_reducible rfl)
       try simp only [Act.put, List.getElem_toArray, List.getElem_cons_succ, List.getElem_cons_zero, List.setIfInBounds_toArray, List.set_cons_succ, List.set_cons_zero]
       refine wpAnyH_done (by kernel_rfl) ?_ _
       try simp only [Act.put, List.getElem_toArray, List.getElem_cons_succ, List.getElem_cons_zero, List.setIfInBounds_toArray, List.set_cons_succ, List.set_cons_zero]
       go_wp2_with fail
       all_goals
        go_meet
        case rel => exact ⟨_, qa, qn, qc, qm, qk, qz, _, _, rfl, rfl, HBs, HXs, HKs⟩
     case brax49 =>
      go_simp
      obtain ⟨wax49, hwax49⟩ : ∃ W : World, W = wa4.alloc (.cells #[.slice none 0 0, .slice none 0 0] 38) := ⟨_, rfl⟩
      have htwax49 : Below wa4.heap.size wa4 wax49 := by rw [hwax49]; exact tu1 wa4 _
      have HBwax49 := Lib.hid (HBwa4.out.trans ((htwax49).mono HBwa4.out.size))
      have HIwax49 := Lib.hid (HIwa4n.out.on13 htwax49)
      have HXwax49n := Lib.hid (show SBox wax49 wa4.heap.size none 0 0 none 0 0 by rw [hwax49]; exact heap_alloc_new wa4 _)
      have hgewax49 : w1.heap.size ≤ wa4.heap.size := HBwa4.out.size
      rw [← hwax49]
      clear hwax49 htwax49
      refine hK.out _ _ (HS.out _ HBwax49.out) (fun hHeld => ?_)
      clear hK K
      try simp only [Act.put, List.getElem_toArray, List.getElem_cons_succ, List.getElem_cons_zero, List.setIfInBounds_toArray, List.set_cons_succ, List.set_cons_zero]
      refine wpAnyH_ready (rs := [1]) (by kernel_rfl) (by simp) ?_
      refine AllReadyH.cons (i := 1) (o := _) rfl (fun K hK => ?_) AllReadyH.nil
      go_simp
      go_at_call 38
      with_reducible refine (ab_any wax49).mono ?_
      rintro e wax4x91 ⟨⟨ga, rfl, hswax4x91⟩, hbwax4x91⟩
      have HBwax4x91 := Lib.hid (HBwax49.out.trans ((hbwax4x91).mono HBwax49.out.size))
      have HIwax4x91 := Lib.hid (HIwax49.out.on13 hbwax4x91)
      have HXwax4x91 := Lib.hid (HXwax49n.out.on13 hbwax4x91)
      have HRwax4x91n := Lib.hid hswax4x91
      clear hswax4x91 hbwax4x91
      refine hK.out _ _ (HS.out _ HBwax4x91.out) (fun hHeld => ?_)
      clear hK K
      try simp only [Act.put, List.getElem_toArray, List.getElem_cons_succ, List.getElem_cons_zero, List.setIfInBounds_toArray, List.set_cons_succ, List.set_cons_zero]
      refine wpAnyH_ready (rs := [5]) (by kernel_rfl) (by simp) ?_
      refine AllReadyH.cons (i := 5) (o := _) rfl (fun K hK => ?_) AllReadyH.nil
      go_simp
      go_at_call 24
      with_reducible refine (stBegin_any (some ⟨db, dd, none⟩) m vc none 0 0 none 0 0 (some ⟨ga, 0, none⟩) 2 2 (some ⟨wd.heap.size, 0, none⟩) 2 2 B abS [(nn : Int), (nn : Int)] wax4x91 (Nat.le_refl _) (by omega) (HF.out _ HBwax4x91.out).1 HRwax4x91n.out HIwax4x91.out).mono ?_
      rintro e wax4x95 ⟨hstwax4x95, hbwax4x95⟩
      obtain ⟨qa, qn, qc, qm, qk, qz, rfl, hkpwax4x95⟩ := hstwax4x95.kp hbwax4x95
      rw [HBGS.out] at hkpwax4x95 ⊢
      have HBwax4x95 := Lib.hid (HBwax4x91.out.trans ((hbwax4x95).mono HBwax4x91.out.size))
      have HXwax4x95 := Lib.hid (HXwax4x91.out.on13 hbwax4x95)
      have HKwax4x95n := Lib.hid hkpwax4x95
      have hap : wa4.heap.size < wax4x91.heap.size ∨ wax4x95.heap.size ≤ wa4.heap.size := .inl HXwax4x91.out.lt
      clear hkpwax4x95 hstwax4x95 hbwax4x95
      refine hK.out _ _ (HS.out _ HBwax4x95.out) (fun hHeld => ?_)
      clear hK K
      refine' wpAnyH_take (i := 6) (v := _) rfl (by kernel_rfl) (by kernel_rfl) (by kernel_rfl) (fun _ _ _ h => h) (Or.inl ⟨by kernel_rfl, ?hyax4x96⟩) (by assumption) ?restax4x96
      case hyax4x96 => intro W hSw; (try dsimp only at hSw); first | (go_simp; done) | (go_simp; with_reducible rfl)
      try simp only [Act.put]
      refine' wpAnyH_take (i := 7) (v := _) rfl (by kernel_rfl) (by kernel_rfl) (by kernel_rfl) (fun _ _ _ h => h) (Or.inl ⟨by kernel_rfl, ?hyax4x97⟩) (by assumption) ?restax4x97
      case hyax4x97 => intro W hSw; (try dsimp only at hSw); first | (go_simp; done) | (go_simp; with_reducible rfl)
      try simp only [Act.put, List.getElem_toArray, List.getElem_cons_succ, List.getElem_cons_zero, List.setIfInBounds_toArray, List.set_cons_succ, List.set_cons_zero]
      refine' wpAnyH_take (i := 8) (v := _) rfl (by kernel_rfl) (by kernel_rfl) (by kernel_rfl) (fun _ _ _ h => h) (Or.inl ⟨by kernel_rfl, ?hyax4x98⟩) (by assumption) ?restax4x98
      case hyax4x98 => intro W hSw; (try dsimp only at hSw); first | (go_simp; done) | (go_simp; with_reducible rfl)
      try simp only [Act.put, List.getElem_toArray, List.getElem_cons_succ, List.getElem_cons_zero, List.setIfInBounds_toArray, List.set_cons_succ, List.set_cons_zero]
      refine wpAnyH_ready (rs := [10]) (by kernel_rfl) (by simp) ?_
      refine AllReadyH.cons (i := 10) (o := _) rfl (fun K hK => ?_) AllReadyH.nil
      obtain ⟨y0, y1⟩ := HXwax4x95.out.cells
      have f0 := HXwax4x95.out.thaw 0
      have f1 := HXwax4x95.out.thaw 1
      go_simp
      have hset := set13 wax4x95 wa4.heap.size (.slice qa qn qc) (.slice qm qk qz)
      have HBs := Lib.hid (HBwax4x95.out.trans (hset.below hgewax49 HBwax4x95.out.size))
      have HKs := Lib.hid (HKwax4x95n.out.aside hset hap)
      have HXs := Lib.hid (SBox.fill (a' := qa) (n' := qn) (c' := qc) (ma' := qm) (mn' := qk) (mc' := qz) HXwax4x95.out)
      clear hset y0 y1 f0 f1
      refine hK.out _ _ (HS.out _ HBs.out) (fun hHeld => ?_)
      clear hK K
      try simp only [Act.put, List.setIfInBounds_toArray]
      refine' wpAnyH_take (i := 11) (v := _) rfl (by kernel_rfl) (by kernel_rfl) (by kernel_rfl) (fun _ _ _ h => h) (Or.inl ⟨by kernel_rfl, ?hyax4x911⟩) (by assumption) ?restax4x911
      case hyax4x911 => intro W hSw; (try dsimp only at hSw); first | (go_simp; done) | (go_simp; with_reducible rfl)
      try simp only [Act.put, List.getElem_toArray, List.getElem_cons_succ, List.getElem_cons_zero, List.setIfInBounds_toArray, List.set_cons_succ, List.set_cons_zero]
      refine wpAnyH_done (by kernel_rfl) ?_ _
      try simp only [Act.put, List.getElem_toArray, List.getElem_cons_succ, List.getElem_cons_zero, List.setIfInBounds_toArray, List.set_cons_succ, List.set_cons_zero]
      go_wp2_with fail
      all_goals
       go_meet
       case rel => exact ⟨_, qa, qn, qc, qm, qk, qz, _, _, rfl, rfl, HBs, HXs, HKs⟩
    case bra9 =>
     go_simp
     obtain ⟨wa9, hwa9⟩ : ∃ W : World, W = wd.alloc (.cells #[.slice none 0 0, .slice none 0 0] 38) := ⟨_, rfl⟩
     have htwa9 : Below wd.heap.size wd wa9 := by rw [hwa9]; exact tu1 wd _
     have HBwa9 := Lib.hid (HBd.out.trans ((htwa9).mono HBd.out.size))
     have HXwa9n := Lib.hid (show SBox wa9 wd.heap.size none 0 0 none 0 0 by rw [hwa9]; exact heap_alloc_new wd _)
     have hgewa9 : w1.heap.size ≤ wd.heap.size := HBd.out.size
     rw [← hwa9]
     clear hwa9 htwa9
     refine hK.out _ _ (HS.out _ HBwa9.out) (fun hHeld => ?_)
     clear hK K
     try simp only [Act.put, List.getElem_toArray, List.getElem_cons_succ, List.getElem_cons_zero, List.setIfInBounds_toArray, List.set_cons_succ, List.set_cons_zero]
     refine wpAnyH_ready (rs := [1, 4]) (by kernel_rfl) (by simp) ?_
     refine (AllReadyH.cons (i := 1) (o := _) rfl (fun K hK => ?brax91) (AllReadyH.cons (i := 4) (o := _) rfl (fun K hK => ?brax94) AllReadyH.nil))
     case brax91 =>
      go_simp
      go_at_call 38
      with_reducible refine (ab_any wa9).mono ?_
      rintro e wax91 ⟨⟨ga, rfl, hswax91⟩, hbwax91⟩
      have HBwax91 := Lib.hid (HBwa9.out.trans ((hbwax91).mono HBwa9.out.size))
      have HXwax91 := Lib.hid (HXwa9n.out.on13 hbwax91)
      have HRwax91n := Lib.hid hswax91
      clear hswax91 hbwax91
      refine hK.out _ _ (HS.out _ HBwax91.out) (fun hHeld => ?_)
      clear hK K
      try simp only [Act.put, List.getElem_toArray, List.getElem_cons_succ, List.getElem_cons_zero, List.setIfInBounds_toArray, List.set_cons_succ, List.set_cons_zero]
      refine wpAnyH_ready (rs := [4]) (by kernel_rfl) (by simp) ?_
      refine AllReadyH.cons (i := 4) (o := _) rfl (fun K hK => ?_) AllReadyH.nil
      go_simp
      obtain ⟨wax9x14, hwax9x14⟩ : ∃ W : World, W = wax91.alloc (.cells #[.int .i64 (nn : Int), .int .i64 (nn : Int)] 3) := ⟨_, rfl⟩
      have htwax9x14 : Below wax91.heap.size wax91 wax9x14 := by rw [hwax9x14]; exact tu1 wax91 _
      have HBwax9x14 := Lib.hid (HBwax91.out.trans ((htwax9x14).mono HBwax91.out.size))
      have HXwax9x14 := Lib.hid (HXwax91.out.on13 htwax9x14)
      have HRwax9x14 := Lib.hid (HRwax91n.out.on13 htwax9x14)
      have HIwax9x14n := Lib.hid (show Nums wax9x14 wax9x14.heap.size (some ⟨wax91.heap.size, 0, none⟩) 2 [(nn : Int), (nn : Int)] by rw [hwax9x14]; exact ints01 (heap_alloc_new wax91 _))
      rw [← hwax9x14]
      clear hwax9x14 htwax9x14
      refine hK.out _ _ (HS.out _ HBwax9x14.out) (fun hHeld => ?_)
      clear hK K
      try simp only [Act.put, List.getElem_toArray, List.getElem_cons_succ, List.getElem_cons_zero, List.setIfInBounds_toArray, List.set_cons_succ, List.set_cons_zero]
      refine wpAnyH_ready (rs := [5]) (by kernel_rfl) (by simp) ?_
      refine AllReadyH.cons (i := 5) (o := _) rfl (fun K hK => ?_) AllReadyH.nil
      go_simp
      go_at_call 24
      with_reducible refine (stBegin_any (some ⟨db, dd, none⟩) m vc none 0 0 none 0 0 (some ⟨ga, 0, none⟩) 2 2 (some ⟨wax91.heap.size, 0, none⟩) 2 2 B abS [(nn : Int), (nn : Int)] wax9x14 (Nat.le_refl _) (by omega) (HF.out _ HBwax9x14.out).1 HRwax9x14.out HIwax9x14n.out).mono ?_
      rintro e wax9x15 ⟨hstwax9x15, hbwax9x15⟩
      obtain ⟨qa, qn, qc, qm, qk, qz, rfl, hkpwax9x15⟩ := hstwax9x15.kp hbwax9x15
      rw [HBGS.out] at hkpwax9x15 ⊢
      have HBwax9x15 := Lib.hid (HBwax9x14.out.trans ((hbwax9x15).mono HBwax9x14.out.size))
      have HXwax9x15 := Lib.hid (HXwax9x14.out.on13 hbwax9x15)
      have HKwax9x15n := Lib.hid hkpwax9x15
      have hap : wd.heap.size < wax9x14.heap.size ∨ wax9x15.heap.size ≤ wd.heap.size := .inl HXwax9x14.out.lt
      clear hkpwax9x15 hstwax9x15 hbwax9x15
      refine hK.out _ _ (HS.out _ HBwax9x15.out) (fun hHeld => ?_)
      clear hK K
      refine' wpAnyH_take (i := 6) (v := _) rfl (by kernel_rfl) (by kernel_rfl) (by kernel_rfl) (fun _ _ _ h => h) (Or.inl ⟨by kernel_rfl, ?hyax9x16⟩) (by assumption) ?restax9x16
      case hyax9x16 => intro W hSw; (try dsimp only at hSw); first | (go_simp; done) | (go_simp; with_reducible rfl)
      try simp only [Act.put]
      refine' wpAnyH_take (i := 7) (v := _) rfl (by kernel_rfl) (by kernel_rfl) (by kernel_rfl) (fun _ _ _ h => h) (Or.inl ⟨by kernel_rfl, ?hyax9x17⟩) (by assumption) ?restax9x17
      case hyax9x17 => intro W hSw; (try dsimp only at hSw); first | (go_simp; done) | (go_simp; with_reducible rfl)
      try simp only [Act.put, List.getElem_toArray, List.getElem_cons_succ, List.getElem_cons_zero, List.setIfInBounds_toArray, List.set_cons_succ, List.set_cons_zero]
      refine' wpAnyH_take (i := 8) (v := _) rfl (by kernel_rfl) (by kernel_rfl) (by kernel_rfl) (fun _ _ _ h => h) (Or.inl ⟨by kernel_rfl, ?hyax9x18⟩) (by assumption) ?restax9x18
      case hyax9x18 => intro W hSw; (try dsimp only at hSw); first | (go_simp; done) | (go_simp; with_reducible rfl)
      try simp only [Act.put, List.getElem_toArray, List.getElem_cons_succ, List.getElem_cons_zero, List.setIfInBounds_toArray, List.set_cons_succ, List.set_cons_zero]
      refine wpAnyH_ready (rs := [10]) (by kernel_rfl) (by simp) ?_
      refine AllReadyH.cons (i := 10) (o := _) rfl (fun K hK => ?_) AllReadyH.nil
      obtain ⟨y0, y1⟩ := HXwax9x15.out.cells
      have f0 := HXwax9x15.out.thaw 0
      have f1 := HXwax9x15.out.thaw 1
      go_simp
      have hset := set13 wax9x15 wd.heap.size (.slice qa qn qc) (.slice qm qk qz)
      have HBs := Lib.hid (HBwax9x15.out.trans (hset.below hgewa9 HBwax9x15.out.size))
      have HKs := Lib.hid (HKwax9x15n.out.aside hset hap)
      have HXs := Lib.hid (SBox.fill (a' := qa) (n' := qn) (c' := qc) (ma' := qm) (mn' := qk) (mc' := qz) HXwax9x15.out)
      clear hset y0 y1 f0 f1
      refine hK.out _ _ (HS.out _ HBs.out) (fun hHeld => ?_)
      clear hK K
      try simp only [Act.put, List.setIfInBounds_toArray]
      refine' wpAnyH_take (i := 11) (v := _) rfl (by kernel_rfl) (by kernel_rfl) (by kernel_rfl) (fun _ _ _ h => h) (Or.inl ⟨by kernel_rfl, ?hyax9x111⟩) (by assumption) ?restax9x111
      case hyax9x111 => intro W hSw; (try dsimp only at hSw); first | (go_simp; done) | (go_simp; with_reducible rfl)
      try simp only [Act.put, List.getElem_toArray, List.getElem_cons_succ, List.getElem_cons_zero, List.setIfInBounds_toArray, List.set_cons_succ, List.set_cons_zero]
      refine wpAnyH_done (by kernel_rfl) ?_ _
      try simp only [Act.put, List.getElem_toArray, List.getElem_cons_succ, List.getElem_cons_zero, List.setIfInBounds_toArray, List.set_cons_succ, List.set_cons_zero]
      go_wp2_with fail
      all_goals
       go_meet
       case rel => exact ⟨_, qa, qn, qc, qm, qk, qz, _, _, rfl, rfl, HBs, HXs, HKs⟩
     case brax94 =>
      go_simp
      obtain ⟨wax94, hwax94⟩ : ∃ W : World, W = wa9.alloc (.cells #[.int .i64 (nn : Int), .int .i64 (nn : Int)] 3) := ⟨_, rfl⟩
      have htwax94 : Below wa9.heap.size wa9 wax94 := by rw [hwax94]; exact tu1 wa9 _
      have HBwax94 := Lib.hid (HBwa9.out.trans ((htwax94).mono HBwa9.out.size))
      have HXwax94 := Lib.hid (HXwa9n.out.on13 htwax94)
      have HIwax94n := Lib.hid (show Nums wax94 wax94.heap.size (some ⟨wa9.heap.size, 0, none⟩) 2 [(nn : Int), (nn : Int)] by rw [hwax94]; exact ints01 (heap_alloc_new wa9 _))
      rw [← hwax94]
      clear hwax94 htwax94
      refine hK.out _ _ (HS.out _ HBwax94.out) (fun hHeld => ?_)
      clear hK K
      try simp only [Act.put, List.getElem_toArray, List.getElem_cons_succ, List.getElem_cons_zero, List.setIfInBounds_toArray, List.set_cons_succ, List.set_cons_zero]
      refine wpAnyH_ready (rs := [1]) (by kernel_rfl) (by simp) ?_
      refine AllReadyH.cons (i := 1) (o := _) rfl (fun K hK => ?_) AllReadyH.nil
      go_simp
      go_at_call 38
      with_reducible refine (ab_any wax94).mono ?_
      rintro e wax9x41 ⟨⟨ga, rfl, hswax9x41⟩, hbwax9x41⟩
      have HBwax9x41 := Lib.hid (HBwax94.out.trans ((hbwax9x41).mono HBwax94.out.size))
      have HXwax9x41 := Lib.hid (HXwax94.out.on13 hbwax9x41)
      have HIwax9x41 := Lib.hid (HIwax94n.out.on13 hbwax9x41)
      have HRwax9x41n := Lib.hid hswax9x41
      clear hswax9x41 hbwax9x41
      refine hK.out _ _ (HS.out _ HBwax9x41.out) (fun hHeld => ?_)
      clear hK K
      try simp only [Act.put, List.getElem_toArray, List.getElem_cons_succ, List.getElem_cons_zero, List.setIfInBounds_toArray, List.set_cons_succ, List.set_cons_zero]
      refine wpAnyH_ready (rs := [5]) (by kernel_rfl) (by simp) ?_
      refine AllReadyH.cons (i := 5) (o := _) rfl (fun K hK => ?_) AllReadyH.nil
      go_simp
      go_at_call 24
      with_reducible refine (stBegin_any (some ⟨db, dd, none⟩) m vc none 0 0 none 0 0 (some ⟨ga, 0, none⟩) 2 2 (some ⟨wa9.heap.size, 0, none⟩) 2 2 B abS [(nn : Int), (nn : Int)] wax9x41 (Nat.le_refl _) (by omega) (HF.out _ HBwax9x41.out).1 HRwax9x41n.out HIwax9x41.out).mono ?_
      rintro e wax9x45 ⟨hstwax9x45, hbwax9x45⟩
      obtain ⟨qa, qn, qc, qm, qk, qz, rfl, hkpwax9x45⟩ := hstwax9x45.kp hbwax9x45
      rw [HBGS.out] at hkpwax9x45 ⊢
      have HBwax9x45 := Lib.hid (HBwax9x41.out.trans ((hbwax9x45).mono HBwax9x41.out.size))
      have HXwax9x45 := Lib.hid (HXwax9x41.out.on13 hbwax9x45)
      have HKwax9x45n := Lib.hid hkpwax9x45
      have hap : wd.heap.size < wax9x41.heap.size ∨ wax9x45.heap.size ≤ wd.heap.size := .inl HXwax9x41.out.lt
      clear hkpwax9x45 hstwax9x45 hbwax9x45
      refine hK.out _ _ (HS.out _ HBwax9x45.out) (fun hHeld => ?_)
      clear hK K
      refine' wpAnyH_take (i := 6) (v := _) rfl (by kernel_rfl) (by kernel_rfl) (by kernel_rfl) (fun _ _ _ h => h) (Or.inl ⟨by kernel_rfl, ?hyax9x46⟩) (by assumption) ?restax9x46
      case hyax9x46 => intro W hSw; (try dsimp only at hSw); first | (go_simp; done) | (go_simp; with_reducible rfl)
      try simp only [Act.put]
      refine' wpAnyH_take (i := 7) (v := _) rfl (by kernel_rfl) (by kernel_rfl) (by kernel_rfl) (fun _ _ _ h => h) (Or.inl ⟨by kernel_rfl, ?hyax9x47⟩) (by assumption) ?restax9x47
      case hyax9x47 => intro W hSw; (try dsimp only at hSw); first | (go_simp; done) | (go_simp; with_reducible rfl)
      try simp only [Act.put, List.getElem_toArray, List.getElem_cons_succ, List.getElem_cons_zero, List.setIfInBounds_toArray, List.set_cons_succ, List.set_cons_zero]
      refine' wpAnyH_take (i := 8) (v := _) rfl (by kernel_rfl) (by kernel_rfl) (by kernel_rfl) (fun _ _ _ h => h) (Or.inl ⟨by kernel_rfl, ?hyax9x48⟩) (by assumption) ?restax9x48
      case hyax9x48 => intro W hSw; (try dsimp only at hSw); first | (go_simp; done) | (go_simp; with_reducible rfl)
      try simp only [Act.put, List.getElem_toArray, List.getElem_cons_succ, List.getElem_cons_zero, List.setIfInBounds_toArray, List.set_cons_succ, List.set_cons_zero]
      refine wpAnyH_ready (rs := [10]) (by kernel_rfl) (by simp) ?_
      refine AllReadyH.cons (i := 10) (o := _) rfl (fun K hK => ?_) AllReadyH.nil
      obtain ⟨y0, y1⟩ := HXwax9x45.out.cells
      have f0 := HXwax9x45.out.thaw 0
      have f1 := HXwax9x45.out.thaw 1
      go_simp
      have hset := set13 wax9x45 wd.heap.size (.slice qa qn qc) (.slice qm qk qz)
      have HBs := Lib.hid (HBwax9x45.out.trans (hset.below hgewa9 HBwax9x45.out.size))
      have HKs := Lib.hid (HKwax9x45n.out.aside hset hap)
      have HXs := Lib.hid (SBox.fill (a' := qa) (n' := qn) (c' := qc) (ma' := qm) (mn' := qk) (mc' := qz) HXwax9x45.out)
      clear hset y0 y1 f0 f1
      refine hK.out _ _ (HS.out _ HBs.out) (fun hHeld => ?_)
      clear hK K
      try simp only [Act.put, List.setIfInBounds_toArray]
      refine' wpAnyH_take (i := 11) (v := _) rfl (by kernel_rfl) (by kernel_rfl) (by kernel_rfl) (fun _ _ _ h => h) (Or.inl ⟨by kernel_rfl, ?hyax9x411⟩) (by assumption) ?restax9x411
      case hyax9x411 => intro W hSw; (try dsimp only at hSw); first | (go_simp; done) | (go_simp; with_reducible rfl)
      try simp only [Act.put, List.getElem_toArray, List.getElem_cons_succ, List.getElem_cons_zero, List.setIfInBounds_toArray, List.set_cons_succ, List.set_cons_zero]
      refine wpAnyH_done (by kernel_rfl) ?_ _
      try simp only [Act.put, List.getElem_toArray, List.getElem_cons_succ, List.getElem_cons_zero, List.setIfInBounds_toArray, List.set_cons_succ, List.set_cons_zero]
      go_wp2_with fail
      all_goals
       go_meet
       case rel => exact ⟨_, qa, qn, qc, qm, qk, qz, _, _, rfl, rfl, HBs, HXs, HKs⟩
  case rest =>
    obtain ⟨g10, sa0, sn0, sc0, sm0, sk0, sz0, lo2, hi2, e2, e3, HBr, HXr, HKr⟩ := hcut
    subst e2 e3
    obtain ⟨w2, hw2⟩ : ∃ w2 : World, w2 = wc := ⟨_, rfl⟩
    subst hw2
    have HFR := Lib.hid (fun (W : World) (hW : Below w2.heap.size w2 W) => show (BkIn W W.heap.size (some ⟨db, dd, none⟩) m none 0 none 0 B ∧ BBox W g9 (some ⟨db, dd, none⟩) m vc none 0 0 none 0 0) ∧ SBox W g10 sa0 sn0 sc0 sm0 sk0 sz0 ∧ Kp13 W lo2 hi2 sa0 sn0 sm0 sk0 s0 ∧ W.cell? ⟨db, dd + k * 3, none⟩ = some (.int .i64 kd) from ⟨HF.out W (below_on HBr.out hW), HXr.out.on13 hW, HKr.out.on13 hW, ((below_on HBr.out hW).cell (p := ⟨db, dd + k * 3, none⟩) hdb).trans HQK.out⟩)
    have HS2 := Lib.hid (fun (W : World) (hW : Below w2.heap.size w2 W) => show (W.cell? ⟨g9, 0, none⟩ = some (.slice (some ⟨db, dd, none⟩) m vc) ∧ W.cell? ⟨g9, 1, none⟩ = some (.slice none 0 0) ∧ W.cell? ⟨g9, 2, none⟩ = some (.slice none 0 0)) ∧ W.cell? ⟨g10, 0, none⟩ = some (.slice sa0 sn0 sc0) ∧ W.cell? ⟨g10, 1, none⟩ = some (.slice sm0 sk0 sz0) from ⟨(HFR.out W hW).1.2.cells, (HFR.out W hW).2.1.cells⟩)
    have HBQ := Lib.hid (below_on HBW.out HBr.out)
    clear HBr HF HS HBW
    go_upto_region 7 with fail
    go_cut [63] (fun v wx => v = .bool false ∧ Hid (Below w2.heap.size w2 wx))
    case first =>
      have HBd := Lib.hid (show Below w2.heap.size w2 w2.drew from bel_drewN (Below.refl _ _) 1)
      obtain ⟨wd, hwd⟩ : ∃ wd : World, wd = w2.drew := ⟨_, rfl⟩
      rw [← hwd] at HBd
      refine wp_region_held_drew (S := fun W => (W.cell? ⟨g9, 0, none⟩ = some (.slice (some ⟨db, dd, none⟩) m vc) ∧ W.cell? ⟨g9, 1, none⟩ = some (.slice none 0 0) ∧ W.cell? ⟨g9, 2, none⟩ = some (.slice none 0 0)) ∧ W.cell? ⟨g10, 0, none⟩ = some (.slice sa0 sn0 sc0) ∧ W.cell? ⟨g10, 1, none⟩ = some (.slice sm0 sk0 sz0)) (by kernel_rfl) (by rw [← hwd]; exact HS2.out _ HBd.out) (fun hHeld => ?_)
      rw [← hwd]
      rw [← hwd] at hHeld
      clear hwd
      try simp only [Act.put, List.setIfInBounds_toArray]
      refine' wpAnyH_take (i := 0) (v := _) rfl (by kernel_rfl) (by kernel_rfl) (by kernel_rfl) (fun _ _ _ h => h) (Or.inl ⟨by kernel_rfl, ?hyb0⟩) (by assumption) ?restb0
      case hyb0 => intro W hSw; (try dsimp only at hSw); first | (go_simp; done) | (go_simp; with_reducible rfl)
      try simp only [Act.put, List.getElem_toArray, List.getElem_cons_zero, List.setIfInBounds_toArray, List.set_cons_succ, List.set_cons_zero]
      refine' wpAnyH_take (i := 1) (v := _) rfl (by kernel_rfl) (by kernel_rfl) (by kernel_rfl) (fun _ _ _ h => h) (Or.inl ⟨by kernel_rfl, ?hyb1⟩) (by assumption) ?restb1
      case hyb1 => intro W hSw; (try dsimp only at hSw); first | (go_simp; done) | (go_simp; with_reducible rfl)
      try simp only [Act.put]
      refine' wpAnyH_take (i := 2) (v := _) rfl (by kernel_rfl) (by kernel_rfl) (by kernel_rfl) (fun _ _ _ h => h) (Or.inl ⟨by kernel_rfl, ?hyb2⟩) (by assumption) ?restb2
      case hyb2 => intro W hSw; (try dsimp only at hSw); first | (go_simp; done) | (go_simp; with_reducible rfl)
      try simp only [Act.put, List.getElem_toArray, List.getElem_cons_succ, List.getElem_cons_zero, List.setIfInBounds_toArray, List.set_cons_succ, List.set_cons_zero]
      refine' wpAnyH_take (i := 3) (v := _) rfl (by kernel_rfl) (by kernel_rfl) (by kernel_rfl) (fun _ _ _ h => h) (Or.inl ⟨by kernel_rfl, ?hyb3⟩) (by assumption) ?restb3
      case hyb3 => intro W hSw; (try dsimp only at hSw); first | (go_simp; done) | (go_simp; with_reducible rfl)
      try simp only [Act.put]
      refine' wpAnyH_take (i := 5) (v := _) rfl (by kernel_rfl) (by kernel_rfl) (by kernel_rfl) (fun _ _ _ h => h) (Or.inl ⟨by kernel_rfl, ?hyb5⟩) (by assumption) ?restb5
      case hyb5 => intro W hSw; (try dsimp only at hSw); first | (go_simp; done) | (go_simp; with_reducible rfl)
      try simp only [Act.put, List.getElem_toArray, List.getElem_cons_succ, List.getElem_cons_zero, List.setIfInBounds_toArray, List.set_cons_succ, List.set_cons_zero]
      refine wpAnyH_ready (rs := [4]) (by kernel_rfl) (by simp) ?_
      refine AllReadyH.cons (i := 4) (o := _) rfl (fun K hK => ?_) AllReadyH.nil
      go_simp
      go_at_call 38
      with_reducible refine (ab_any wd).mono ?_
      rintro e wb4 ⟨⟨gwb4, rfl, hswb4⟩, hbwb4⟩
      have HBwb4 := Lib.hid (HBd.out.trans ((hbwb4).mono HBd.out.size))
      have HRwb4 := Lib.hid hswb4
      clear hswb4 hbwb4
      refine hK.out _ _ (HS2.out _ HBwb4.out) (fun hHeld => ?_)
      clear hK K
      try simp only [Act.put, List.getElem_toArray, List.getElem_cons_succ, List.getElem_cons_zero, List.setIfInBounds_toArray, List.set_cons_succ, List.set_cons_zero]
      refine wpAnyH_ready (rs := [6]) (by kernel_rfl) (by simp) ?_
      refine AllReadyH.cons (i := 6) (o := _) rfl (fun K hK => ?_) AllReadyH.nil
      go_simp
      go_at_call 34
      with_reducible refine (stOver_any (some ⟨db, dd, none⟩) m vc none 0 0 none 0 0 (some ⟨gwb4, 0, none⟩) 2 2 sa0 sn0 sc0 sm0 sk0 sz0 B abS s0 wb4 (Nat.le_refl _) (stageIn13 (HFR.out _ HBwb4.out).1.1 HRwb4.out (HFR.out _ HBwb4.out).2.2.1.now)).mono ?_
      rintro e wb6 ⟨rfl, hbwb6⟩
      rw [HOVS.out]
      have HBwb6 := Lib.hid (HBwb4.out.trans ((hbwb6).mono HBwb4.out.size))
      clear hbwb6
      refine hK.out _ _ (HS2.out _ HBwb6.out) (fun hHeld => ?_)
      clear hK K
      try simp only [Act.put, List.setIfInBounds_toArray]
      refine' wpAnyH_take (i := 7) (v := _) rfl (by kernel_rfl) (by kernel_rfl) (by kernel_rfl) (fun _ _ _ h => h) (Or.inl ⟨by kernel_rfl, ?hyb7⟩) (by assumption) ?restb7
      case hyb7 => intro W hSw; (try dsimp only at hSw); first | (go_simp; done) | (go_simp; with_reducible rfl)
      try simp only [Act.put, List.getElem_toArray, List.getElem_cons_succ, List.getElem_cons_zero, List.setIfInBounds_toArray, List.set_cons_succ, List.set_cons_zero]
      refine' wpAnyH_take (i := 8) (v := _) rfl (by kernel_rfl) (by kernel_rfl) (by kernel_rfl) (fun _ _ _ h => h) (Or.inl ⟨by kernel_rfl, ?hyb8⟩) (by assumption) ?restb8
      case hyb8 => intro W hSw; (try dsimp only at hSw); first | (go_simp; done) | (go_simp; with_reducible rfl)
      try simp only [Act.put]
      refine' wpAnyH_take (i := 9) (v := _) rfl (by kernel_rfl) (by kernel_rfl) (by kernel_rfl) (fun _ _ _ h => h) (Or.inl ⟨by kernel_rfl, ?hyb9⟩) (by assumption) ?restb9
      case hyb9 => intro W hSw; (try dsimp only at hSw); first | (go_simp; done) | (go_simp; with_reducible rfl)
      try simp only [Act.put, List.getElem_toArray, List.getElem_cons_succ, List.getElem_cons_zero, List.setIfInBounds_toArray, List.set_cons_succ, List.set_cons_zero]
      refine' wpAnyH_take (i := 10) (v := _) rfl (by kernel_rfl) (by kernel_rfl) (by kernel_rfl) (fun _ _ _ h => h) (Or.inl ⟨by kernel_rfl, ?hyb10⟩) (by assumption) ?restb10
      case hyb10 => intro W hSw; (try dsimp only at hSw); first | (go_simp; done) | (go_simp; with_reducible rfl)
      try simp only [Act.put]
      refine' wpAnyH_take (i := 12) (v := _) rfl (by kernel_rfl) (by kernel_rfl) (by kernel_rfl) (fun _ _ _ h => h) (Or.inl ⟨by kernel_rfl, ?hyb12⟩) (by assumption) ?restb12
      case hyb12 => intro W hSw; (try dsimp only at hSw); first | (go_simp; done) | (go_simp; with_reducible rfl)
      try simp only [Act.put, List.getElem_toArray, List.getElem_cons_succ, List.getElem_cons_zero, List.setIfInBounds_toArray, List.set_cons_succ, List.set_cons_zero]
      refine wpAnyH_ready (rs := [11]) (by kernel_rfl) (by simp) ?_
      refine AllReadyH.cons (i := 11) (o := _) rfl (fun K hK => ?_) AllReadyH.nil
      go_simp
      go_at_call 38
      with_reducible refine (ab_any wb6).mono ?_
      rintro e wb11 ⟨⟨gwb11, rfl, hswb11⟩, hbwb11⟩
      have HBwb11 := Lib.hid (HBwb6.out.trans ((hbwb11).mono HBwb6.out.size))
      have HRwb11 := Lib.hid hswb11
      clear hswb11 hbwb11
      refine hK.out _ _ (HS2.out _ HBwb11.out) (fun hHeld => ?_)
      clear hK K
      try simp only [Act.put, List.getElem_toArray, List.getElem_cons_succ, List.getElem_cons_zero, List.setIfInBounds_toArray, List.set_cons_succ, List.set_cons_zero]
      refine wpAnyH_ready (rs := [13]) (by kernel_rfl) (by simp) ?_
      refine AllReadyH.cons (i := 13) (o := _) rfl (fun K hK => ?_) AllReadyH.nil
      go_simp
      go_at_call 32
      with_reducible refine (stMoves_any (some ⟨db, dd, none⟩) m vc none 0 0 none 0 0 (some ⟨gwb11, 0, none⟩) 2 2 sa0 sn0 sc0 sm0 sk0 sz0 B abS s0 wb11 (Nat.le_refl _) (stageIn13 (HFR.out _ HBwb11.out).1.1 HRwb11.out (HFR.out _ HBwb11.out).2.2.1.now)).mono ?_
      rintro e wb13 ⟨⟨vwb13, rfl, howb13⟩, hbwb13⟩
      rw [HMVS.out] at howb13
      obtain ⟨xa, xc, hvwb13, _, _, _⟩ := howb13.sees (by simp)
      replace hvwb13 : vwb13 = .slice xa 0 xc := hvwb13
      subst hvwb13
      have HBwb13 := Lib.hid (HBwb11.out.trans ((hbwb13).mono HBwb11.out.size))
      clear howb13 hbwb13
      refine hK.out _ _ (HS2.out _ HBwb13.out) (fun hHeld => ?_)
      clear hK K
      try simp only [Act.put, List.setIfInBounds_toArray]
      refine' wpAnyH_take (i := 14) (v := _) rfl (by kernel_rfl) (by kernel_rfl) (by kernel_rfl) (fun _ _ _ h => h) (Or.inl ⟨by kernel_rfl, ?hyb14⟩) (by assumption) ?restb14
      case hyb14 => intro W hSw; (try dsimp only at hSw); first | (go_simp; done) | (go_simp; with_reducible rfl)
      try simp only [Act.put, List.getElem_toArray, List.getElem_cons_succ, List.getElem_cons_zero, List.setIfInBounds_toArray, List.set_cons_succ, List.set_cons_zero]
      refine' wpAnyH_take (i := 15) (v := _) rfl (by kernel_rfl) (by kernel_rfl) (by kernel_rfl) (fun _ _ _ h => h) (Or.inl ⟨by kernel_rfl, ?hyb15⟩) (by assumption) ?restb15
      case hyb15 => intro W hSw; (try dsimp only at hSw); first | (go_simp; done) | (go_simp; with_reducible rfl)
      try simp only [Act.put]
      refine' wpAnyH_take (i := 16) (v := _) rfl (by kernel_rfl) (by kernel_rfl) (by kernel_rfl) (fun _ _ _ h => h) (Or.inl ⟨by kernel_rfl, ?hyb16⟩) (by assumption) ?restb16
      case hyb16 => intro W hSw; (try dsimp only at hSw); first | (go_simp; done) | (go_simp; with_reducible rfl)
      try simp only [Act.put, List.getElem_toArray, List.getElem_cons_succ, List.getElem_cons_zero, List.setIfInBounds_toArray, List.set_cons_succ, List.set_cons_zero]
      refine' wpAnyH_take (i := 17) (v := _) rfl (by kernel_rfl) (by kernel_rfl) (by kernel_rfl) (fun _ _ _ h => h) (Or.inl ⟨by kernel_rfl, ?hyb17⟩) (by assumption) ?restb17
      case hyb17 => intro W hSw; (try dsimp only at hSw); first | (go_simp; done) | (go_simp; with_reducible rfl)
      try simp only [Act.put]
      refine' wpAnyH_take (i := 18) (v := _) rfl (by kernel_rfl) (by kernel_rfl) (by kernel_rfl) (fun _ _ _ h => h) (Or.inl ⟨by kernel_rfl, ?hyb18⟩) (by assumption) ?restb18
      case hyb18 => intro W hSw; (try dsimp only at hSw); first | (go_simp; done) | (go_simp; with_reducible rfl)
      try simp only [Act.put, List.getElem_toArray, List.getElem_cons_succ, List.getElem_cons_zero, List.setIfInBounds_toArray, List.set_cons_succ, List.set_cons_zero]
      refine wpAnyH_ready (rs := [19]) (by kernel_rfl) (by simp) ?_
      refine AllReadyH.cons (i := 19) (o := _) rfl (fun K hK => ?_) AllReadyH.nil
      go_simp
      go_at_call 39
      with_reducible refine (bookMay_any (some ⟨db, dd, none⟩) m vc none 0 0 none 0 0 B wb13 wb13.heap.size (Nat.le_refl _) (HFR.out _ HBwb13.out).1.1).mono ?_
      rintro e wb19 ⟨rfl, hbwb19⟩
      rw [HBB.out]
      have HBwb19 := Lib.hid (HBwb13.out.trans ((hbwb19).mono HBwb13.out.size))
      clear hbwb19
      refine hK.out _ _ (HS2.out _ HBwb19.out) (fun hHeld => ?_)
      clear hK K
      try simp only [Act.put, List.setIfInBounds_toArray]
      refine' wpAnyH_take (i := 20) (v := _) rfl (by kernel_rfl) (by kernel_rfl) (by kernel_rfl) (fun _ _ _ h => h) (Or.inl ⟨by kernel_rfl, ?hyb20⟩) (by assumption) ?restb20
      case hyb20 => intro W hSw; (try dsimp only at hSw); first | (go_simp; done) | (go_simp; with_reducible rfl)
      try simp only [Act.put, List.getElem_toArray, List.getElem_cons_succ, List.getElem_cons_zero, List.setIfInBounds_toArray, List.set_cons_succ, List.set_cons_zero]
      refine' wpAnyH_take (i := 21) (v := _) rfl (by kernel_rfl) (by kernel_rfl) (by kernel_rfl) (fun _ _ _ h => h) (Or.inl ⟨by kernel_rfl, ?hyb21⟩) (by assumption) ?restb21
      case hyb21 => intro W hSw; (try dsimp only at hSw); first | (go_simp; done) | (go_simp; with_reducible rfl)
      try simp only [Act.put, List.getElem_toArray, List.getElem_cons_succ, List.getElem_cons_zero, List.setIfInBounds_toArray, List.set_cons_succ, List.set_cons_zero]
      refine wpAnyH_done (by kernel_rfl) ?_ _
      try simp only [Act.put, List.getElem_toArray, List.getElem_cons_succ, List.getElem_cons_zero, List.setIfInBounds_toArray, List.set_cons_succ, List.set_cons_zero]
      go_wp2_with fail
      all_goals
       go_meet
       case rel => exact ⟨rfl, HBwb19⟩
    case rest =>
      obtain ⟨e4, HB3⟩ := hcut
      subst e4
      obtain ⟨w3, hw3⟩ : ∃ w3 : World, w3 = wc := ⟨_, rfl⟩
      subst hw3
      go_upto_region 10 with fail
      have hkt := HKT.out w3
      have hz3 : (((w3.alloc (.cells #[.int .i64 (nn : Int), .int .i64 (nn : Int)] 3)).alloc (.cells #[.string lab] 9)).alloc (.cells #[.slice none 0 0, .slice (some ⟨w3.heap.size + 1, 0, none⟩) 1 1, .slice none 0 0, .slice none 0 0] 23)).heap.size = w3.heap.size + 1 + 1 + 1 := by simp
      have HKT4 := Lib.hid (hkt.on13 (tu1 (((w3.alloc (.cells #[.int .i64 (nn : Int), .int .i64 (nn : Int)] 3)).alloc (.cells #[.string lab] 9)).alloc (.cells #[.slice none 0 0, .slice (some ⟨w3.heap.size + 1, 0, none⟩) 1 1, .slice none 0 0, .slice none 0 0] 23)) (.cells #[.slice (some ⟨w3.heap.size, 0, none⟩) 2 2, .slice (some ⟨w3.heap.size + 1 + 1, 0, none⟩) 4 4] 38)))
      have HXT4 := Lib.hid (show SBox ((((w3.alloc (.cells #[.int .i64 (nn : Int), .int .i64 (nn : Int)] 3)).alloc (.cells #[.string lab] 9)).alloc (.cells #[.slice none 0 0, .slice (some ⟨w3.heap.size + 1, 0, none⟩) 1 1, .slice none 0 0, .slice none 0 0] 23)).alloc (.cells #[.slice (some ⟨w3.heap.size, 0, none⟩) 2 2, .slice (some ⟨w3.heap.size + 1 + 1, 0, none⟩) 4 4] 38)) (w3.heap.size + 1 + 1 + 1) (some ⟨w3.heap.size, 0, none⟩) 2 2 (some ⟨w3.heap.size + 1 + 1, 0, none⟩) 4 4 from by rw [← hz3]; exact heap_alloc_new _ _)
      have HB4 := Lib.hid (show Below w3.heap.size w3 ((((w3.alloc (.cells #[.int .i64 (nn : Int), .int .i64 (nn : Int)] 3)).alloc (.cells #[.string lab] 9)).alloc (.cells #[.slice none 0 0, .slice (some ⟨w3.heap.size + 1, 0, none⟩) 1 1, .slice none 0 0, .slice none 0 0] 23)).alloc (.cells #[.slice (some ⟨w3.heap.size, 0, none⟩) 2 2, .slice (some ⟨w3.heap.size + 1 + 1, 0, none⟩) 4 4] 38)) from (((tu1 w3 _).alloc (by simp) _).alloc (by simp; omega) _).alloc (by simp; omega) _)
      clear hkt hz3 HKT
      generalize w3.heap.size + 1 + 1 + 1 = g12 at HXT4 ⊢
      generalize (((w3.alloc (.cells #[.int .i64 (nn : Int), .int .i64 (nn : Int)] 3)).alloc (.cells #[.string lab] 9)).alloc (.cells #[.slice none 0 0, .slice (some ⟨w3.heap.size + 1, 0, none⟩) 1 1, .slice none 0 0, .slice none 0 0] 23)).alloc (.cells #[.slice (some ⟨w3.heap.size, 0, none⟩) 2 2, .slice (some ⟨w3.heap.size + 1 + 1, 0, none⟩) 4 4] 38) = w4 at HKT4 HXT4 HB4 ⊢
      obtain ⟨ta, hta⟩ : ∃ ta : Option Addr, ta = some ⟨w3.heap.size, 0, none⟩ := ⟨_, rfl⟩
      obtain ⟨tm, htm⟩ : ∃ tm : Option Addr, tm = some ⟨w3.heap.size + 1 + 1, 0, none⟩ := ⟨_, rfl⟩
      rw [← hta, ← htm] at HKT4 HXT4
      clear hta htm
      have HFW := Lib.hid (fun (W : World) (hW : Below w4.heap.size w4 W) => And.intro (HFR.out W (below_on (below_on HB3.out HB4.out) hW)) (And.intro (HXT4.out.on13 hW) (HKT4.out.on13 hW)))
      have HF4 := Lib.hid (fun (W : World) (hW : Below w4.heap.size w4 W) => show BkIn W W.heap.size (some ⟨db, dd, none⟩) m none 0 none 0 B ∧ BBox W g9 (some ⟨db, dd, none⟩) m vc none 0 0 none 0 0 from (HFW.out W hW).1.1)
      have HS4 := Lib.hid (fun (W : World) (hW : Below w4.heap.size w4 W) => show W.cell? ⟨g9, 0, none⟩ = some (.slice (some ⟨db, dd, none⟩) m vc) ∧ W.cell? ⟨g9, 1, none⟩ = some (.slice none 0 0) ∧ W.cell? ⟨g9, 2, none⟩ = some (.slice none 0 0) from (HF4.out W hW).2.cells)
      go_upto_region 11 with fail
      go_cut [14, 15] (fun v er wx => ∃ (g2 : Nat) (qa : Option Addr) (qn qc : Nat) (qm : Option Addr) (qk qz lo hi : Nat), v = .pointer (some ⟨g2, 0, none⟩) ∧ er = .int .i64 0 ∧ Hid (Below w4.heap.size w4 wx) ∧ Hid (SBox wx g2 qa qn qc qm qk qz) ∧ Hid (Kp13 wx lo hi qa qn qm qk u0))
      case first =>
        have HBd := Lib.hid (show Below w4.heap.size w4 w4.drew from bel_drewN (Below.refl _ _) 1)
        obtain ⟨wd, hwd⟩ : ∃ wd : World, wd = w4.drew := ⟨_, rfl⟩
        rw [← hwd] at HBd
        refine wp_region_held_drew (S := fun W => W.cell? ⟨g9, 0, none⟩ = some (.slice (some ⟨db, dd, none⟩) m vc) ∧ W.cell? ⟨g9, 1, none⟩ = some (.slice none 0 0) ∧ W.cell? ⟨g9, 2, none⟩ = some (.slice none 0 0)) (by kernel_rfl) (by rw [← hwd]; exact HS4.out _ HBd.out) (fun hHeld => ?_)
        rw [← hwd]
        rw [← hwd] at hHeld
        clear hwd
        try simp only [Act.put, List.setIfInBounds_toArray]
        refine' wpAnyH_take (i := 0) (v := _) rfl (by kernel_rfl) (by kernel_rfl) (by kernel_rfl) (fun _ _ _ h => h) (Or.inl ⟨by kernel_rfl, ?hyc0⟩) (by assumption) ?restc0
        case hyc0 => intro W hSw; (try dsimp only at hSw); first | (go_simp; done) | (go_simp; with_reducible rfl)
        try simp only [Act.put]
        refine' wpAnyH_take (i := 2) (v := _) rfl (by kernel_rfl) (by kernel_rfl) (by kernel_rfl) (fun _ _ _ h => h) (Or.inl ⟨by kernel_rfl, ?hyc2⟩) (by assumption) ?restc2
        case hyc2 => intro W hSw; (try dsimp only at hSw); first | (go_simp; done) | (go_simp; with_reducible rfl)
        try simp only [Act.put, List.getElem_toArray, List.getElem_cons_succ, List.getElem_cons_zero, List.setIfInBounds_toArray, List.set_cons_succ, List.set_cons_zero]
        refine' wpAnyH_take (i := 3) (v := _) rfl (by kernel_rfl) (by kernel_rfl) (by kernel_rfl) (fun _ _ _ h => h) (Or.inl ⟨by kernel_rfl, ?hyc3⟩) (by assumption) ?restc3
        case hyc3 => intro W hSw; (try dsimp only at hSw); first | (go_simp; done) | (go_simp; with_reducible rfl)
        try simp only [Act.put, List.getElem_toArray, List.getElem_cons_succ, List.getElem_cons_zero, List.setIfInBounds_toArray, List.set_cons_succ, List.set_cons_zero]
        refine wpAnyH_ready (rs := [1, 4, 9]) (by kernel_rfl) (by simp) ?_
        refine (AllReadyH.cons (i := 1) (o := _) rfl (fun K hK => ?brc1) (AllReadyH.cons (i := 4) (o := _) rfl (fun K hK => ?brc4) (AllReadyH.cons (i := 9) (o := _) rfl (fun K hK => ?brc9) AllReadyH.nil)))
        case brc1 =>
         go_simp
         go_at_call 38
         with_reducible refine (ab_any wd).mono ?_
         rintro e wc1 ⟨⟨ga, rfl, hswc1⟩, hbwc1⟩
         have HBwc1 := Lib.hid (HBd.out.trans ((hbwc1).mono HBd.out.size))
         have HRwc1n := Lib.hid hswc1
         clear hswc1 hbwc1
         refine hK.out _ _ (HS4.out _ HBwc1.out) (fun hHeld => ?_)
         clear hK K
         try simp only [Act.put, List.getElem_toArray, List.getElem_cons_succ, List.getElem_cons_zero, List.setIfInBounds_toArray, List.set_cons_succ, List.set_cons_zero]
         refine wpAnyH_ready (rs := [4, 9]) (by kernel_rfl) (by simp) ?_
         refine (AllReadyH.cons (i := 4) (o := _) rfl (fun K hK => ?brcx14) (AllReadyH.cons (i := 9) (o := _) rfl (fun K hK => ?brcx19) AllReadyH.nil))
         case brcx14 =>
          go_simp
          obtain ⟨wcx14, hwcx14⟩ : ∃ W : World, W = wc1.alloc (.cells #[.int .i64 (nn : Int), .int .i64 (k : Int)] 3) := ⟨_, rfl⟩
          have htwcx14 : Below wc1.heap.size wc1 wcx14 := by rw [hwcx14]; exact tu1 wc1 _
          have HBwcx14 := Lib.hid (HBwc1.out.trans ((htwcx14).mono HBwc1.out.size))
          have HRwcx14 := Lib.hid (HRwc1n.out.on13 htwcx14)
          have HIwcx14n := Lib.hid (show Nums wcx14 wcx14.heap.size (some ⟨wc1.heap.size, 0, none⟩) 2 [(nn : Int), (k : Int)] by rw [hwcx14]; exact ints01 (heap_alloc_new wc1 _))
          rw [← hwcx14]
          clear hwcx14 htwcx14
          refine hK.out _ _ (HS4.out _ HBwcx14.out) (fun hHeld => ?_)
          clear hK K
          try simp only [Act.put, List.getElem_toArray, List.getElem_cons_succ, List.getElem_cons_zero, List.setIfInBounds_toArray, List.set_cons_succ, List.set_cons_zero]
          refine wpAnyH_ready (rs := [5, 9]) (by kernel_rfl) (by simp) ?_
          refine (AllReadyH.cons (i := 5) (o := _) rfl (fun K hK => ?brcx1x45) (AllReadyH.cons (i := 9) (o := _) rfl (fun K hK => ?brcx1x49) AllReadyH.nil))
          case brcx1x45 =>
           go_simp
           go_at_call 24
           with_reducible refine (stBegin_any (some ⟨db, dd, none⟩) m vc none 0 0 none 0 0 (some ⟨ga, 0, none⟩) 2 2 (some ⟨wc1.heap.size, 0, none⟩) 2 2 B abS [(nn : Int), (k : Int)] wcx14 (Nat.le_refl _) (by omega) (HF4.out _ HBwcx14.out).1 HRwcx14.out HIwcx14n.out).mono ?_
           rintro e wcx1x45 ⟨hstwcx1x45, hbwcx1x45⟩
           obtain ⟨qa, qn, qc, qm, qk, qz, rfl, hkpwcx1x45⟩ := hstwcx1x45.kp hbwcx1x45
           rw [HBGU.out] at hkpwcx1x45 ⊢
           have HBwcx1x45 := Lib.hid (HBwcx14.out.trans ((hbwcx1x45).mono HBwcx14.out.size))
           have HKwcx1x45n := Lib.hid hkpwcx1x45
           clear hkpwcx1x45 hstwcx1x45 hbwcx1x45
           refine hK.out _ _ (HS4.out _ HBwcx1x45.out) (fun hHeld => ?_)
           clear hK K
           refine' wpAnyH_take (i := 6) (v := _) rfl (by kernel_rfl) (by kernel_rfl) (by kernel_rfl) (fun _ _ _ h => h) (Or.inl ⟨by kernel_rfl, ?hycx1x4x56⟩) (by assumption) ?restcx1x4x56
           case hycx1x4x56 => intro W hSw; (try dsimp only at hSw); first | (go_simp; done) | (go_simp; with_reducible rfl)
           try simp only [Act.put]
           refine' wpAnyH_take (i := 7) (v := _) rfl (by kernel_rfl) (by kernel_rfl) (by kernel_rfl) (fun _ _ _ h => h) (Or.inl ⟨by kernel_rfl, ?hycx1x4x57⟩) (by assumption) ?restcx1x4x57
           case hycx1x4x57 => intro W hSw; (try dsimp only at hSw); first | (go_simp; done) | (go_simp; with_reducible rfl)
           try simp only [Act.put, List.getElem_toArray, List.getElem_cons_succ, List.getElem_cons_zero, List.setIfInBounds_toArray, List.set_cons_succ, List.set_cons_zero]
           refine' wpAnyH_take (i := 8) (v := _) rfl (by kernel_rfl) (by kernel_rfl) (by kernel_rfl) (fun _ _ _ h => h) (Or.inl ⟨by kernel_rfl, ?hycx1x4x58⟩) (by assumption) ?restcx1x4x58
           case hycx1x4x58 => intro W hSw; (try dsimp only at hSw); first | (go_simp; done) | (go_simp; with_reducible rfl)
           try simp only [Act.put, List.getElem_toArray, List.getElem_cons_succ, List.getElem_cons_zero, List.setIfInBounds_toArray, List.set_cons_succ, List.set_cons_zero]
           refine wpAnyH_ready (rs := [9]) (by kernel_rfl) (by simp) ?_
           refine AllReadyH.cons (i := 9) (o := _) rfl (fun K hK => ?_) AllReadyH.nil
           go_simp
           obtain ⟨wcx1x4x59, hwcx1x4x59⟩ : ∃ W : World, W = wcx1x45.alloc (.cells #[.slice none 0 0, .slice none 0 0] 38) := ⟨_, rfl⟩
           have htwcx1x4x59 : Below wcx1x45.heap.size wcx1x45 wcx1x4x59 := by rw [hwcx1x4x59]; exact tu1 wcx1x45 _
           have HBwcx1x4x59 := Lib.hid (HBwcx1x45.out.trans ((htwcx1x4x59).mono HBwcx1x45.out.size))
           have HKwcx1x4x59 := Lib.hid (HKwcx1x45n.out.on13 htwcx1x4x59)
           have HXwcx1x4x59n := Lib.hid (show SBox wcx1x4x59 wcx1x45.heap.size none 0 0 none 0 0 by rw [hwcx1x4x59]; exact heap_alloc_new wcx1x45 _)
           have hgewcx1x4x59 : w4.heap.size ≤ wcx1x45.heap.size := HBwcx1x45.out.size
           rw [← hwcx1x4x59]
           clear hwcx1x4x59 htwcx1x4x59
           have hap : wcx1x45.heap.size < wcx14.heap.size ∨ wcx1x45.heap.size ≤ wcx1x45.heap.size := .inr (by have := HKwcx1x45n.out.le; omega)
           refine hK.out _ _ (HS4.out _ HBwcx1x4x59.out) (fun hHeld => ?_)
           clear hK K
           try simp only [Act.put, List.getElem_toArray, List.getElem_cons_succ, List.getElem_cons_zero, List.setIfInBounds_toArray, List.set_cons_succ, List.set_cons_zero]
           refine wpAnyH_ready (rs := [10]) (by kernel_rfl) (by simp) ?_
           refine AllReadyH.cons (i := 10) (o := _) rfl (fun K hK => ?_) AllReadyH.nil
           obtain ⟨y0, y1⟩ := HXwcx1x4x59n.out.cells
           have f0 := HXwcx1x4x59n.out.thaw 0
           have f1 := HXwcx1x4x59n.out.thaw 1
           go_simp
           have hset := set13 wcx1x4x59 wcx1x45.heap.size (.slice qa qn qc) (.slice qm qk qz)
           have HBs := Lib.hid (HBwcx1x4x59.out.trans (hset.below hgewcx1x4x59 HBwcx1x4x59.out.size))
           have HKs := Lib.hid (HKwcx1x4x59.out.aside hset hap)
           have HXs := Lib.hid (SBox.fill (a' := qa) (n' := qn) (c' := qc) (ma' := qm) (mn' := qk) (mc' := qz) HXwcx1x4x59n.out)
           clear hset y0 y1 f0 f1
           refine hK.out _ _ (HS4.out _ HBs.out) (fun hHeld => ?_)
           clear hK K
           try simp only [Act.put, List.setIfInBounds_toArray]
           refine' wpAnyH_take (i := 11) (v := _) rfl (by kernel_rfl) (by kernel_rfl) (by kernel_rfl) (fun _ _ _ h => h) (Or.inl ⟨by kernel_rfl, ?hycx1x4x511⟩) (by assumption) ?restcx1x4x511
           case hycx1x4x511 => intro W hSw; (try dsimp only at hSw); first | (go_simp; done) | (go_simp; with_reducible rfl)
           try simp only [Act.put, List.getElem_toArray, List.getElem_cons_succ, List.getElem_cons_zero, List.setIfInBounds_toArray, List.set_cons_succ, List.set_cons_zero]
           refine wpAnyH_done (by kernel_rfl) ?_ _
           try simp only [Act.put, List.getElem_toArray, List.getElem_cons_succ, List.getElem_cons_zero, List.setIfInBounds_toArray, List.set_cons_succ, List.set_cons_zero]
           go_wp2_with fail
           all_goals
            go_meet
            case rel => exact ⟨_, qa, qn, qc, qm, qk, qz, _, _, rfl, rfl, HBs, HXs, HKs⟩
          case brcx1x49 =>
           go_simp
           obtain ⟨wcx1x49, hwcx1x49⟩ : ∃ W : World, W = wcx14.alloc (.cells #[.slice none 0 0, .slice none 0 0] 38) := ⟨_, rfl⟩
           have htwcx1x49 : Below wcx14.heap.size wcx14 wcx1x49 := by rw [hwcx1x49]; exact tu1 wcx14 _
           have HBwcx1x49 := Lib.hid (HBwcx14.out.trans ((htwcx1x49).mono HBwcx14.out.size))
           have HRwcx1x49 := Lib.hid (HRwcx14.out.on13 htwcx1x49)
           have HIwcx1x49 := Lib.hid (HIwcx14n.out.on13 htwcx1x49)
           have HXwcx1x49n := Lib.hid (show SBox wcx1x49 wcx14.heap.size none 0 0 none 0 0 by rw [hwcx1x49]; exact heap_alloc_new wcx14 _)
           have hgewcx1x49 : w4.heap.size ≤ wcx14.heap.size := HBwcx14.out.size
           rw [← hwcx1x49]
           clear hwcx1x49 htwcx1x49
           refine hK.out _ _ (HS4.out _ HBwcx1x49.out) (fun hHeld => ?_)
           clear hK K
           try simp only [Act.put, List.getElem_toArray, List.getElem_cons_succ, List.getElem_cons_zero, List.setIfInBounds_toArray, List.set_cons_succ, List.set_cons_zero]
           refine wpAnyH_ready (rs := [5]) (by kernel_rfl) (by simp) ?_
           refine AllReadyH.cons (i := 5) (o := _) rfl (fun K hK => ?_) AllReadyH.nil
           go_simp
           go_at_call 24
           with_reducible refine (stBegin_any (some ⟨db, dd, none⟩) m vc none 0 0 none 0 0 (some ⟨ga, 0, none⟩) 2 2 (some ⟨wc1.heap.size, 0, none⟩) 2 2 B abS [(nn : Int), (k : Int)] wcx1x49 (Nat.le_refl _) (by omega) (HF4.out _ HBwcx1x49.out).1 HRwcx1x49.out HIwcx1x49.out).mono ?_
           rintro e wcx1x4x95 ⟨hstwcx1x4x95, hbwcx1x4x95⟩
           obtain ⟨qa, qn, qc, qm, qk, qz, rfl, hkpwcx1x4x95⟩ := hstwcx1x4x95.kp hbwcx1x4x95
           rw [HBGU.out] at hkpwcx1x4x95 ⊢
           have HBwcx1x4x95 := Lib.hid (HBwcx1x49.out.trans ((hbwcx1x4x95).mono HBwcx1x49.out.size))
           have HXwcx1x4x95 := Lib.hid (HXwcx1x49n.out.on13 hbwcx1x4x95)
           have HKwcx1x4x95n := Lib.hid hkpwcx1x4x95
           have hap : wcx14.heap.size < wcx1x49.heap.size ∨ wcx1x4x95.heap.size ≤ wcx14.heap.size := .inl HXwcx1x49n.out.lt
           clear hkpwcx1x4x95 hstwcx1x4x95 hbwcx1x4x95
           refine hK.out _ _ (HS4.out _ HBwcx1x4x95.out) (fun hHeld => ?_)
           clear hK K
           refine' wpAnyH_take (i := 6) (v := _) rfl (by kernel_rfl) (by kernel_rfl) (by kernel_rfl) (fun _ _ _ h => h) (Or.inl ⟨by kernel_rfl, ?hycx1x4x96⟩) (by assumption) ?restcx1x4x96
           case hycx1x4x96 => intro W hSw; (try dsimp only at hSw); first | (go_simp; done) | (go_simp; with_reducible rfl)
           try simp only [Act.put]
           refine' wpAnyH_take (i := 7) (v := _) rfl (by kernel_rfl) (by kernel_rfl) (by kernel_rfl) (fun _ _ _ h => h) (Or.inl ⟨by kernel_rfl, ?hycx1x4x97⟩) (by assumption) ?restcx1x4x97
           case hycx1x4x97 => intro W hSw; (try dsimp only at hSw); first | (go_simp; done) | (go_simp; with_reducible rfl)
           try simp only [Act.put, List.getElem_toArray, List.getElem_cons_succ, List.getElem_cons_zero, List.setIfInBounds_toArray, List.set_cons_succ, List.set_cons_zero]
           refine' wpAnyH_take (i := 8) (v := _) rfl (by kernel_rfl) (by kernel_rfl) (by kernel_rfl) (fun _ _ _ h => h) (Or.inl ⟨by kernel_rfl, ?hycx1x4x98⟩) (by assumption) ?restcx1x4x98
           case hycx1x4x98 => intro W hSw; (try dsimp only at hSw); first | (go_simp; done) | (go_simp; with_reducible rfl)
           try simp only [Act.put, List.getElem_toArray, List.getElem_cons_succ, List.getElem_cons_zero, List.setIfInBounds_toArray, List.set_cons_succ, List.set_cons_zero]
           refine wpAnyH_ready (rs := [10]) (by kernel_rfl) (by simp) ?_
           refine AllReadyH.cons (i := 10) (o := _) rfl (fun K hK => ?_) AllReadyH.nil
           obtain ⟨y0, y1⟩ := HXwcx1x4x95.out.cells
           have f0 := HXwcx1x4x95.out.thaw 0
           have f1 := HXwcx1x4x95.out.thaw 1
           go_simp
           have hset := set13 wcx1x4x95 wcx14.heap.size (.slice qa qn qc) (.slice qm qk qz)
           have HBs := Lib.hid (HBwcx1x4x95.out.trans (hset.below hgewcx1x49 HBwcx1x4x95.out.size))
           have HKs := Lib.hid (HKwcx1x4x95n.out.aside hset hap)
           have HXs := Lib.hid (SBox.fill (a' := qa) (n' := qn) (c' := qc) (ma' := qm) (mn' := qk) (mc' := qz) HXwcx1x4x95.out)
           clear hset y0 y1 f0 f1
           refine hK.out _ _ (HS4.out _ HBs.out) (fun hHeld => ?_)
           clear hK K
           try simp only [Act.put, List.setIfInBounds_toArray]
           refine' wpAnyH_take (i := 11) (v := _) rfl (by kernel_rfl) (by kernel_rfl) (by kernel_rfl) (fun _ _ _ h => h) (Or.inl ⟨by kernel_rfl, ?hycx1x4x911⟩) (by assumption) ?restcx1x4x911
           case hycx1x4x911 => intro W hSw; (try dsimp only at hSw); first | (go_simp; done) | (go_simp; with_reducible rfl)
           try simp only [Act.put, List.getElem_toArray, List.getElem_cons_succ, List.getElem_cons_zero, List.setIfInBounds_toArray, List.set_cons_succ, List.set_cons_zero]
           refine wpAnyH_done (by kernel_rfl) ?_ _
           try simp only [Act.put, List.getElem_toArray, List.getElem_cons_succ, List.getElem_cons_zero, List.setIfInBounds_toArray, List.set_cons_succ, List.set_cons_zero]
           go_wp2_with fail
           all_goals
            go_meet
            case rel => exact ⟨_, qa, qn, qc, qm, qk, qz, _, _, rfl, rfl, HBs, HXs, HKs⟩
         case brcx19 =>
          go_simp
          obtain ⟨wcx19, hwcx19⟩ : ∃ W : World, W = wc1.alloc (.cells #[.slice none 0 0, .slice none 0 0] 38) := ⟨_, rfl⟩
          have htwcx19 : Below wc1.heap.size wc1 wcx19 := by rw [hwcx19]; exact tu1 wc1 _
          have HBwcx19 := Lib.hid (HBwc1.out.trans ((htwcx19).mono HBwc1.out.size))
          have HRwcx19 := Lib.hid (HRwc1n.out.on13 htwcx19)
          have HXwcx19n := Lib.hid (show SBox wcx19 wc1.heap.size none 0 0 none 0 0 by rw [hwcx19]; exact heap_alloc_new wc1 _)
          have hgewcx19 : w4.heap.size ≤ wc1.heap.size := HBwc1.out.size
          rw [← hwcx19]
          clear hwcx19 htwcx19
          refine hK.out _ _ (HS4.out _ HBwcx19.out) (fun hHeld => ?_)
          clear hK K
          try simp only [Act.put, List.getElem_toArray, List.getElem_cons_succ, List.getElem_cons_zero, List.setIfInBounds_toArray, List.set_cons_succ, List.set_cons_zero]
          refine wpAnyH_ready (rs := [4]) (by kernel_rfl) (by simp) ?_
          refine AllReadyH.cons (i := 4) (o := _) rfl (fun K hK => ?_) AllReadyH.nil
          go_simp
          obtain ⟨wcx1x94, hwcx1x94⟩ : ∃ W : World, W = wcx19.alloc (.cells #[.int .i64 (nn : Int), .int .i64 (k : Int)] 3) := ⟨_, rfl⟩
          have htwcx1x94 : Below wcx19.heap.size wcx19 wcx1x94 := by rw [hwcx1x94]; exact tu1 wcx19 _
          have HBwcx1x94 := Lib.hid (HBwcx19.out.trans ((htwcx1x94).mono HBwcx19.out.size))
          have HRwcx1x94 := Lib.hid (HRwcx19.out.on13 htwcx1x94)
          have HXwcx1x94 := Lib.hid (HXwcx19n.out.on13 htwcx1x94)
          have HIwcx1x94n := Lib.hid (show Nums wcx1x94 wcx1x94.heap.size (some ⟨wcx19.heap.size, 0, none⟩) 2 [(nn : Int), (k : Int)] by rw [hwcx1x94]; exact ints01 (heap_alloc_new wcx19 _))
          rw [← hwcx1x94]
          clear hwcx1x94 htwcx1x94
          refine hK.out _ _ (HS4.out _ HBwcx1x94.out) (fun hHeld => ?_)
          clear hK K
          try simp only [Act.put, List.getElem_toArray, List.getElem_cons_succ, List.getElem_cons_zero, List.setIfInBounds_toArray, List.set_cons_succ, List.set_cons_zero]
          refine wpAnyH_ready (rs := [5]) (by kernel_rfl) (by simp) ?_
          refine AllReadyH.cons (i := 5) (o := _) rfl (fun K hK => ?_) AllReadyH.nil
          go_simp
          go_at_call 24
          with_reducible refine (stBegin_any (some ⟨db, dd, none⟩) m vc none 0 0 none 0 0 (some ⟨ga, 0, none⟩) 2 2 (some ⟨wcx19.heap.size, 0, none⟩) 2 2 B abS [(nn : Int), (k : Int)] wcx1x94 (Nat.le_refl _) (by omega) (HF4.out _ HBwcx1x94.out).1 HRwcx1x94.out HIwcx1x94n.out).mono ?_
          rintro e wcx1x95 ⟨hstwcx1x95, hbwcx1x95⟩
          obtain ⟨qa, qn, qc, qm, qk, qz, rfl, hkpwcx1x95⟩ := hstwcx1x95.kp hbwcx1x95
          rw [HBGU.out] at hkpwcx1x95 ⊢
          have HBwcx1x95 := Lib.hid (HBwcx1x94.out.trans ((hbwcx1x95).mono HBwcx1x94.out.size))
          have HXwcx1x95 := Lib.hid (HXwcx1x94.out.on13 hbwcx1x95)
          have HKwcx1x95n := Lib.hid hkpwcx1x95
          have hap : wc1.heap.size < wcx1x94.heap.size ∨ wcx1x95.heap.size ≤ wc1.heap.size := .inl HXwcx1x94.out.lt
          clear hkpwcx1x95 hstwcx1x95 hbwcx1x95
          refine hK.out _ _ (HS4.out _ HBwcx1x95.out) (fun hHeld => ?_)
          clear hK K
          refine' wpAnyH_take (i := 6) (v := _) rfl (by kernel_rfl) (by kernel_rfl) (by kernel_rfl) (fun _ _ _ h => h) (Or.inl ⟨by kernel_rfl, ?hycx1x96⟩) (by assumption) ?restcx1x96
          case hycx1x96 => intro W hSw; (try dsimp only at hSw); first | (go_simp; done) | (go_simp; with_reducible rfl)
          try simp only [Act.put]
          refine' wpAnyH_take (i := 7) (v := _) rfl (by kernel_rfl) (by kernel_rfl) (by kernel_rfl) (fun _ _ _ h => h) (Or.inl ⟨by kernel_rfl, ?hycx1x97⟩) (by assumption) ?restcx1x97
          case hycx1x97 => intro W hSw; (try dsimp only at hSw); first | (go_simp; done) | (go_simp; with_reducible rfl)
          try simp only [Act.put, List.getElem_toArray, List.getElem_cons_succ, List.getElem_cons_zero, List.setIfInBounds_toArray, List.set_cons_succ, List.set_cons_zero]
          refine' wpAnyH_take (i := 8) (v := _) rfl (by kernel_rfl) (by kernel_rfl) (by kernel_rfl) (fun _ _ _ h => h) (Or.inl ⟨by kernel_rfl, ?hycx1x98⟩) (by assumption) ?restcx1x98
          case hycx1x98 => intro W hSw; (try dsimp only at hSw); first | (go_simp; done) | (go_simp; with_reducible rfl)
          try simp only [Act.put, List.getElem_toArray, List.getElem_cons_succ, List.getElem_cons_zero, List.setIfInBounds_toArray, List.set_cons_succ, List.set_cons_zero]
          refine wpAnyH_ready (rs := [10]) (by kernel_rfl) (by simp) ?_
          refine AllReadyH.cons (i := 10) (o := _) rfl (fun K hK => ?_) AllReadyH.nil
          obtain ⟨y0, y1⟩ := HXwcx1x95.out.cells
          have f0 := HXwcx1x95.out.thaw 0
          have f1 := HXwcx1x95.out.thaw 1
          go_simp
          have hset := set13 wcx1x95 wc1.heap.size (.slice qa qn qc) (.slice qm qk qz)
          have HBs := Lib.hid (HBwcx1x95.out.trans (hset.below hgewcx19 HBwcx1x95.out.size))
          have HKs := Lib.hid (HKwcx1x95n.out.aside hset hap)
          have HXs := Lib.hid (SBox.fill (a' := qa) (n' := qn) (c' := qc) (ma' := qm) (mn' := qk) (mc' := qz) HXwcx1x95.out)
          clear hset y0 y1 f0 f1
          refine hK.out _ _ (HS4.out _ HBs.out) (fun hHeld => ?_)
          clear hK K
          try simp only [Act.put, List.setIfInBounds_toArray]
          refine' wpAnyH_take (i := 11) (v := _) rfl (by kernel_rfl) (by kernel_rfl) (by kernel_rfl) (fun _ _ _ h => h) (Or.inl ⟨by kernel_rfl, ?hycx1x911⟩) (by assumption) ?restcx1x911
          case hycx1x911 => intro W hSw; (try dsimp only at hSw); first | (go_simp; done) | (go_simp; with_reducible rfl)
          try simp only [Act.put, List.getElem_toArray, List.getElem_cons_succ, List.getElem_cons_zero, List.setIfInBounds_toArray, List.set_cons_succ, List.set_cons_zero]
          refine wpAnyH_done (by kernel_rfl) ?_ _
          try simp only [Act.put, List.getElem_toArray, List.getElem_cons_succ, List.getElem_cons_zero, List.setIfInBounds_toArray, List.set_cons_succ, List.set_cons_zero]
          go_wp2_with fail
          all_goals
           go_meet
           case rel => exact ⟨_, qa, qn, qc, qm, qk, qz, _, _, rfl, rfl, HBs, HXs, HKs⟩
        case brc4 =>
         go_simp
         obtain ⟨wc4, hwc4⟩ : ∃ W : World, W = wd.alloc (.cells #[.int .i64 (nn : Int), .int .i64 (k : Int)] 3) := ⟨_, rfl⟩
         have htwc4 : Below wd.heap.size wd wc4 := by rw [hwc4]; exact tu1 wd _
         have HBwc4 := Lib.hid (HBd.out.trans ((htwc4).mono HBd.out.size))
         have HIwc4n := Lib.hid (show Nums wc4 wc4.heap.size (some ⟨wd.heap.size, 0, none⟩) 2 [(nn : Int), (k : Int)] by rw [hwc4]; exact ints01 (heap_alloc_new wd _))
         rw [← hwc4]
         clear hwc4 htwc4
         refine hK.out _ _ (HS4.out _ HBwc4.out) (fun hHeld => ?_)
         clear hK K
         try simp only [Act.put, List.getElem_toArray, List.getElem_cons_succ, List.getElem_cons_zero, List.setIfInBounds_toArray, List.set_cons_succ, List.set_cons_zero]
         refine wpAnyH_ready (rs := [1, 9]) (by kernel_rfl) (by simp) ?_
         refine (AllReadyH.cons (i := 1) (o := _) rfl (fun K hK => ?brcx41) (AllReadyH.cons (i := 9) (o := _) rfl (fun K hK => ?brcx49) AllReadyH.nil))
         case brcx41 =>
          go_simp
          go_at_call 38
          with_reducible refine (ab_any wc4).mono ?_
          rintro e wcx41 ⟨⟨ga, rfl, hswcx41⟩, hbwcx41⟩
          have HBwcx41 := Lib.hid (HBwc4.out.trans ((hbwcx41).mono HBwc4.out.size))
          have HIwcx41 := Lib.hid (HIwc4n.out.on13 hbwcx41)
          have HRwcx41n := Lib.hid hswcx41
          clear hswcx41 hbwcx41
          refine hK.out _ _ (HS4.out _ HBwcx41.out) (fun hHeld => ?_)
          clear hK K
          try simp only [Act.put, List.getElem_toArray, List.getElem_cons_succ, List.getElem_cons_zero, List.setIfInBounds_toArray, List.set_cons_succ, List.set_cons_zero]
          refine wpAnyH_ready (rs := [5, 9]) (by kernel_rfl) (by simp) ?_
          refine (AllReadyH.cons (i := 5) (o := _) rfl (fun K hK => ?brcx4x15) (AllReadyH.cons (i := 9) (o := _) rfl (fun K hK => ?brcx4x19) AllReadyH.nil))
          case brcx4x15 =>
           go_simp
           go_at_call 24
           with_reducible refine (stBegin_any (some ⟨db, dd, none⟩) m vc none 0 0 none 0 0 (some ⟨ga, 0, none⟩) 2 2 (some ⟨wd.heap.size, 0, none⟩) 2 2 B abS [(nn : Int), (k : Int)] wcx41 (Nat.le_refl _) (by omega) (HF4.out _ HBwcx41.out).1 HRwcx41n.out HIwcx41.out).mono ?_
           rintro e wcx4x15 ⟨hstwcx4x15, hbwcx4x15⟩
           obtain ⟨qa, qn, qc, qm, qk, qz, rfl, hkpwcx4x15⟩ := hstwcx4x15.kp hbwcx4x15
           rw [HBGU.out] at hkpwcx4x15 ⊢
           have HBwcx4x15 := Lib.hid (HBwcx41.out.trans ((hbwcx4x15).mono HBwcx41.out.size))
           have HKwcx4x15n := Lib.hid hkpwcx4x15
           clear hkpwcx4x15 hstwcx4x15 hbwcx4x15
           refine hK.out _ _ (HS4.out _ HBwcx4x15.out) (fun hHeld => ?_)
           clear hK K
           refine' wpAnyH_take (i := 6) (v := _) rfl (by kernel_rfl) (by kernel_rfl) (by kernel_rfl) (fun _ _ _ h => h) (Or.inl ⟨by kernel_rfl, ?hycx4x1x56⟩) (by assumption) ?restcx4x1x56
           case hycx4x1x56 => intro W hSw; (try dsimp only at hSw); first | (go_simp; done) | (go_simp; with_reducible rfl)
           try simp only [Act.put]
           refine' wpAnyH_take (i := 7) (v := _) rfl (by kernel_rfl) (by kernel_rfl) (by kernel_rfl) (fun _ _ _ h => h) (Or.inl ⟨by kernel_rfl, ?hycx4x1x57⟩) (by assumption) ?restcx4x1x57
           case hycx4x1x57 => intro W hSw; (try dsimp only at hSw); first | (go_simp; done) | (go_simp; with_reducible rfl)
           try simp only [Act.put, List.getElem_toArray, List.getElem_cons_succ, List.getElem_cons_zero, List.setIfInBounds_toArray, List.set_cons_succ, List.set_cons_zero]
           refine' wpAnyH_take (i := 8) (v := _) rfl (by kernel_rfl) (by kernel_rfl) (by kernel_rfl) (fun _ _ _ h => h) (Or.inl ⟨by kernel_rfl, ?hycx4x1x58⟩) (by assumption) ?restcx4x1x58
           case hycx4x1x58 => intro W hSw; (try dsimp only at hSw); first | (go_simp; done) | (go_simp; with_reducible rfl)
           try simp only [Act.put, List.getElem_toArray, List.getElem_cons_succ, List.getElem_cons_zero, List.setIfInBounds_toArray, List.set_cons_succ, List.set_cons_zero]
           refine wpAnyH_ready (rs := [9]) (by kernel_rfl) (by simp) ?_
           refine AllReadyH.cons (i := 9) (o := _) rfl (fun K hK => ?_) AllReadyH.nil
           go_simp
           obtain ⟨wcx4x1x59, hwcx4x1x59⟩ : ∃ W : World, W = wcx4x15.alloc (.cells #[.slice none 0 0, .slice none 0 0] 38) := ⟨_, rfl⟩
           have htwcx4x1x59 : Below wcx4x15.heap.size wcx4x15 wcx4x1x59 := by rw [hwcx4x1x59]; exact tu1 wcx4x15 _
           have HBwcx4x1x59 := Lib.hid (HBwcx4x15.out.trans ((htwcx4x1x59).mono HBwcx4x15.out.size))
           have HKwcx4x1x59 := Lib.hid (HKwcx4x15n.out.on13 htwcx4x1x59)
           have HXwcx4x1x59n := Lib.hid (show SBox wcx4x1x59 wcx4x15.heap.size none 0 0 none 0 0 by rw [hwcx4x1x59]; exact heap_alloc_new wcx4x15 _)
           have hgewcx4x1x59 : w4.heap.size ≤ wcx4x15.heap.size := HBwcx4x15.out.size
           rw [← hwcx4x1x59]
           clear hwcx4x1x59 htwcx4x1x59
           have hap : wcx4x15.heap.size < wcx41.heap.size ∨ wcx4x15.heap.size ≤ wcx4x15.heap.size := .inr (by have := HKwcx4x15n.out.le; omega)
           refine hK.out _ _ (HS4.out _ HBwcx4x1x59.out) (fun hHeld => ?_)
           clear hK K
           try simp only [Act.put, List.getElem_toArray, List.getElem_cons_succ, List.getElem_cons_zero, List.setIfInBounds_toArray, List.set_cons_succ, List.set_cons_zero]
           refine wpAnyH_ready (rs := [10]) (by kernel_rfl) (by simp) ?_
           refine AllReadyH.cons (i := 10) (o := _) rfl (fun K hK => ?_) AllReadyH.nil
           obtain ⟨y0, y1⟩ := HXwcx4x1x59n.out.cells
           have f0 := HXwcx4x1x59n.out.thaw 0
           have f1 := HXwcx4x1x59n.out.thaw 1
           go_simp
           have hset := set13 wcx4x1x59 wcx4x15.heap.size (.slice qa qn qc) (.slice qm qk qz)
           have HBs := Lib.hid (HBwcx4x1x59.out.trans (hset.below hgewcx4x1x59 HBwcx4x1x59.out.size))
           have HKs := Lib.hid (HKwcx4x1x59.out.aside hset hap)
           have HXs := Lib.hid (SBox.fill (a' := qa) (n' := qn) (c' := qc) (ma' := qm) (mn' := qk) (mc' := qz) HXwcx4x1x59n.out)
           clear hset y0 y1 f0 f1
           refine hK.out _ _ (HS4.out _ HBs.out) (fun hHeld => ?_)
           clear hK K
           try simp only [Act.put, List.setIfInBounds_toArray]
           refine' wpAnyH_take (i := 11) (v := _) rfl (by kernel_rfl) (by kernel_rfl) (by kernel_rfl) (fun _ _ _ h => h) (Or.inl ⟨by kernel_rfl, ?hycx4x1x511⟩) (by assumption) ?restcx4x1x511
           case hycx4x1x511 => intro W hSw; (try dsimp only at hSw); first | (go_simp; done) | (go_simp; with_reducible rfl)
           try simp only [Act.put, List.getElem_toArray, List.getElem_cons_succ, List.getElem_cons_zero, List.setIfInBounds_toArray, List.set_cons_succ, List.set_cons_zero]
           refine wpAnyH_done (by kernel_rfl) ?_ _
           try simp only [Act.put, List.getElem_toArray, List.getElem_cons_succ, List.getElem_cons_zero, List.setIfInBounds_toArray, List.set_cons_succ, List.set_cons_zero]
           go_wp2_with fail
           all_goals
            go_meet
            case rel => exact ⟨_, qa, qn, qc, qm, qk, qz, _, _, rfl, rfl, HBs, HXs, HKs⟩
          case brcx4x19 =>
           go_simp
           obtain ⟨wcx4x19, hwcx4x19⟩ : ∃ W : World, W = wcx41.alloc (.cells #[.slice none 0 0, .slice none 0 0] 38) := ⟨_, rfl⟩
           have htwcx4x19 : Below wcx41.heap.size wcx41 wcx4x19 := by rw [hwcx4x19]; exact tu1 wcx41 _
           have HBwcx4x19 := Lib.hid (HBwcx41.out.trans ((htwcx4x19).mono HBwcx41.out.size))
           have HIwcx4x19 := Lib.hid (HIwcx41.out.on13 htwcx4x19)
           have HRwcx4x19 := Lib.hid (HRwcx41n.out.on13 htwcx4x19)
           have HXwcx4x19n := Lib.hid (show SBox wcx4x19 wcx41.heap.size none 0 0 none 0 0 by rw [hwcx4x19]; exact heap_alloc_new wcx41 _)
           have hgewcx4x19 : w4.heap.size ≤ wcx41.heap.size := HBwcx41.out.size
           rw [← hwcx4x19]
           clear hwcx4x19 htwcx4x19
           refine hK.out _ _ (HS4.out _ HBwcx4x19.out) (fun hHeld => ?_)
           clear hK K
           try simp only [Act.put, List.getElem_toArray, List.getElem_cons_succ, List.getElem_cons_zero, List.setIfInBounds_toArray, List.set_cons_succ, List.set_cons_zero]
           refine wpAnyH_ready (rs := [5]) (by kernel_rfl) (by simp) ?_
           refine AllReadyH.cons (i := 5) (o := _) rfl (fun K hK => ?_) AllReadyH.nil
           go_simp
           go_at_call 24
           with_reducible refine (stBegin_any (some ⟨db, dd, none⟩) m vc none 0 0 none 0 0 (some ⟨ga, 0, none⟩) 2 2 (some ⟨wd.heap.size, 0, none⟩) 2 2 B abS [(nn : Int), (k : Int)] wcx4x19 (Nat.le_refl _) (by omega) (HF4.out _ HBwcx4x19.out).1 HRwcx4x19.out HIwcx4x19.out).mono ?_
           rintro e wcx4x1x95 ⟨hstwcx4x1x95, hbwcx4x1x95⟩
           obtain ⟨qa, qn, qc, qm, qk, qz, rfl, hkpwcx4x1x95⟩ := hstwcx4x1x95.kp hbwcx4x1x95
           rw [HBGU.out] at hkpwcx4x1x95 ⊢
           have HBwcx4x1x95 := Lib.hid (HBwcx4x19.out.trans ((hbwcx4x1x95).mono HBwcx4x19.out.size))
           have HXwcx4x1x95 := Lib.hid (HXwcx4x19n.out.on13 hbwcx4x1x95)
           have HKwcx4x1x95n := Lib.hid hkpwcx4x1x95
           have hap : wcx41.heap.size < wcx4x19.heap.size ∨ wcx4x1x95.heap.size ≤ wcx41.heap.size := .inl HXwcx4x19n.out.lt
           clear hkpwcx4x1x95 hstwcx4x1x95 hbwcx4x1x95
           refine hK.out _ _ (HS4.out _ HBwcx4x1x95.out) (fun hHeld => ?_)
           clear hK K
           refine' wpAnyH_take (i := 6) (v := _) rfl (by kernel_rfl) (by kernel_rfl) (by kernel_rfl) (fun _ _ _ h => h) (Or.inl ⟨by kernel_rfl, ?hycx4x1x96⟩) (by assumption) ?restcx4x1x96
           case hycx4x1x96 => intro W hSw; (try dsimp only at hSw); first | (go_simp; done) | (go_simp; with_reducible rfl)
           try simp only [Act.put]
           refine' wpAnyH_take (i := 7) (v := _) rfl (by kernel_rfl) (by kernel_rfl) (by kernel_rfl) (fun _ _ _ h => h) (Or.inl ⟨by kernel_rfl, ?hycx4x1x97⟩) (by assumption) ?restcx4x1x97
           case hycx4x1x97 => intro W hSw; (try dsimp only at hSw); first | (go_simp; done) | (go_simp; with_reducible rfl)
           try simp only [Act.put, List.getElem_toArray, List.getElem_cons_succ, List.getElem_cons_zero, List.setIfInBounds_toArray, List.set_cons_succ, List.set_cons_zero]
           refine' wpAnyH_take (i := 8) (v := _) rfl (by kernel_rfl) (by kernel_rfl) (by kernel_rfl) (fun _ _ _ h => h) (Or.inl ⟨by kernel_rfl, ?hycx4x1x98⟩) (by assumption) ?restcx4x1x98
           case hycx4x1x98 => intro W hSw; (try dsimp only at hSw); first | (go_simp; done) | (go_simp; with_reducible rfl)
           try simp only [Act.put, List.getElem_toArray, List.getElem_cons_succ, List.getElem_cons_zero, List.setIfInBounds_toArray, List.set_cons_succ, List.set_cons_zero]
           refine wpAnyH_ready (rs := [10]) (by kernel_rfl) (by simp) ?_
           refine AllReadyH.cons (i := 10) (o := _) rfl (fun K hK => ?_) AllReadyH.nil
           obtain ⟨y0, y1⟩ := HXwcx4x1x95.out.cells
           have f0 := HXwcx4x1x95.out.thaw 0
           have f1 := HXwcx4x1x95.out.thaw 1
           go_simp
           have hset := set13 wcx4x1x95 wcx41.heap.size (.slice qa qn qc) (.slice qm qk qz)
           have HBs := Lib.hid (HBwcx4x1x95.out.trans (hset.below hgewcx4x19 HBwcx4x1x95.out.size))
           have HKs := Lib.hid (HKwcx4x1x95n.out.aside hset hap)
           have HXs := Lib.hid (SBox.fill (a' := qa) (n' := qn) (c' := qc) (ma' := qm) (mn' := qk) (mc' := qz) HXwcx4x1x95.out)
           clear hset y0 y1 f0 f1
           refine hK.out _ _ (HS4.out _ HBs.out) (fun hHeld => ?_)
           clear hK K
           try simp only [Act.put, List.setIfInBounds_toArray]
           refine' wpAnyH_take (i := 11) (v := _) rfl (by kernel_rfl) (by kernel_rfl) (by kernel_rfl) (fun _ _ _ h => h) (Or.inl ⟨by kernel_rfl, ?hycx4x1x911⟩) (by assumption) ?restcx4x1x911
           case hycx4x1x911 => intro W hSw; (try dsimp only at hSw); first | (go_simp; done) | (go_simp; with_reducible rfl)
           try simp only [Act.put, List.getElem_toArray, List.getElem_cons_succ, List.getElem_cons_zero, List.setIfInBounds_toArray, List.set_cons_succ, List.set_cons_zero]
           refine wpAnyH_done (by kernel_rfl) ?_ _
           try simp only [Act.put, List.getElem_toArray, List.getElem_cons_succ, List.getElem_cons_zero, List.setIfInBounds_toArray, List.set_cons_succ, List.set_cons_zero]
           go_wp2_with fail
           all_goals
            go_meet
            case rel => exact ⟨_, qa, qn, qc, qm, qk, qz, _, _, rfl, rfl, HBs, HXs, HKs⟩
         case brcx49 =>
          go_simp
          obtain ⟨wcx49, hwcx49⟩ : ∃ W : World, W = wc4.alloc (.cells #[.slice none 0 0, .slice none 0 0] 38) := ⟨_, rfl⟩
          have htwcx49 : Below wc4.heap.size wc4 wcx49 := by rw [hwcx49]; exact tu1 wc4 _
          have HBwcx49 := Lib.hid (HBwc4.out.trans ((htwcx49).mono HBwc4.out.size))
          have HIwcx49 := Lib.hid (HIwc4n.out.on13 htwcx49)
          have HXwcx49n := Lib.hid (show SBox wcx49 wc4.heap.size none 0 0 none 0 0 by rw [hwcx49]; exact heap_alloc_new wc4 _)
          have hgewcx49 : w4.heap.size ≤ wc4.heap.size := HBwc4.out.size
          rw [← hwcx49]
          clear hwcx49 htwcx49
          refine hK.out _ _ (HS4.out _ HBwcx49.out) (fun hHeld => ?_)
          clear hK K
          try simp only [Act.put, List.getElem_toArray, List.getElem_cons_succ, List.getElem_cons_zero, List.setIfInBounds_toArray, List.set_cons_succ, List.set_cons_zero]
          refine wpAnyH_ready (rs := [1]) (by kernel_rfl) (by simp) ?_
          refine AllReadyH.cons (i := 1) (o := _) rfl (fun K hK => ?_) AllReadyH.nil
          go_simp
          go_at_call 38
          with_reducible refine (ab_any wcx49).mono ?_
          rintro e wcx4x91 ⟨⟨ga, rfl, hswcx4x91⟩, hbwcx4x91⟩
          have HBwcx4x91 := Lib.hid (HBwcx49.out.trans ((hbwcx4x91).mono HBwcx49.out.size))
          have HIwcx4x91 := Lib.hid (HIwcx49.out.on13 hbwcx4x91)
          have HXwcx4x91 := Lib.hid (HXwcx49n.out.on13 hbwcx4x91)
          have HRwcx4x91n := Lib.hid hswcx4x91
          clear hswcx4x91 hbwcx4x91
          refine hK.out _ _ (HS4.out _ HBwcx4x91.out) (fun hHeld => ?_)
          clear hK K
          try simp only [Act.put, List.getElem_toArray, List.getElem_cons_succ, List.getElem_cons_zero, List.setIfInBounds_toArray, List.set_cons_succ, List.set_cons_zero]
          refine wpAnyH_ready (rs := [5]) (by kernel_rfl) (by simp) ?_
          refine AllReadyH.cons (i := 5) (o := _) rfl (fun K hK => ?_) AllReadyH.nil
          go_simp
          go_at_call 24
          with_reducible refine (stBegin_any (some ⟨db, dd, none⟩) m vc none 0 0 none 0 0 (some ⟨ga, 0, none⟩) 2 2 (some ⟨wd.heap.size, 0, none⟩) 2 2 B abS [(nn : Int), (k : Int)] wcx4x91 (Nat.le_refl _) (by omega) (HF4.out _ HBwcx4x91.out).1 HRwcx4x91n.out HIwcx4x91.out).mono ?_
          rintro e wcx4x95 ⟨hstwcx4x95, hbwcx4x95⟩
          obtain ⟨qa, qn, qc, qm, qk, qz, rfl, hkpwcx4x95⟩ := hstwcx4x95.kp hbwcx4x95
          rw [HBGU.out] at hkpwcx4x95 ⊢
          have HBwcx4x95 := Lib.hid (HBwcx4x91.out.trans ((hbwcx4x95).mono HBwcx4x91.out.size))
          have HXwcx4x95 := Lib.hid (HXwcx4x91.out.on13 hbwcx4x95)
          have HKwcx4x95n := Lib.hid hkpwcx4x95
          have hap : wc4.heap.size < wcx4x91.heap.size ∨ wcx4x95.heap.size ≤ wc4.heap.size := .inl HXwcx4x91.out.lt
          clear hkpwcx4x95 hstwcx4x95 hbwcx4x95
          refine hK.out _ _ (HS4.out _ HBwcx4x95.out) (fun hHeld => ?_)
          clear hK K
          refine' wpAnyH_take (i := 6) (v := _) rfl (by kernel_rfl) (by kernel_rfl) (by kernel_rfl) (fun _ _ _ h => h) (Or.inl ⟨by kernel_rfl, ?hycx4x96⟩) (by assumption) ?restcx4x96
          case hycx4x96 => intro W hSw; (try dsimp only at hSw); first | (go_simp; done) | (go_simp; with_reducible rfl)
          try simp only [Act.put]
          refine' wpAnyH_take (i := 7) (v := _) rfl (by kernel_rfl) (by kernel_rfl) (by kernel_rfl) (fun _ _ _ h => h) (Or.inl ⟨by kernel_rfl, ?hycx4x97⟩) (by assumption) ?restcx4x97
          case hycx4x97 => intro W hSw; (try dsimp only at hSw); first | (go_simp; done) | (go_simp; with_reducible rfl)
          try simp only [Act.put, List.getElem_toArray, List.getElem_cons_succ, List.getElem_cons_zero, List.setIfInBounds_toArray, List.set_cons_succ, List.set_cons_zero]
          refine' wpAnyH_take (i := 8) (v := _) rfl (by kernel_rfl) (by kernel_rfl) (by kernel_rfl) (fun _ _ _ h => h) (Or.inl ⟨by kernel_rfl, ?hycx4x98⟩) (by assumption) ?restcx4x98
          case hycx4x98 => intro W hSw; (try dsimp only at hSw); first | (go_simp; done) | (go_simp; with_reducible rfl)
          try simp only [Act.put, List.getElem_toArray, List.getElem_cons_succ, List.getElem_cons_zero, List.setIfInBounds_toArray, List.set_cons_succ, List.set_cons_zero]
          refine wpAnyH_ready (rs := [10]) (by kernel_rfl) (by simp) ?_
          refine AllReadyH.cons (i := 10) (o := _) rfl (fun K hK => ?_) AllReadyH.nil
          obtain ⟨y0, y1⟩ := HXwcx4x95.out.cells
          have f0 := HXwcx4x95.out.thaw 0
          have f1 := HXwcx4x95.out.thaw 1
          go_simp
          have hset := set13 wcx4x95 wc4.heap.size (.slice qa qn qc) (.slice qm qk qz)
          have HBs := Lib.hid (HBwcx4x95.out.trans (hset.below hgewcx49 HBwcx4x95.out.size))
          have HKs := Lib.hid (HKwcx4x95n.out.aside hset hap)
          have HXs := Lib.hid (SBox.fill (a' := qa) (n' := qn) (c' := qc) (ma' := qm) (mn' := qk) (mc' := qz) HXwcx4x95.out)
          clear hset y0 y1 f0 f1
          refine hK.out _ _ (HS4.out _ HBs.out) (fun hHeld => ?_)
          clear hK K
          try simp only [Act.put, List.setIfInBounds_toArray]
          refine' wpAnyH_take (i := 11) (v := _) rfl (by kernel_rfl) (by kernel_rfl) (by kernel_rfl) (fun _ _ _ h => h) (Or.inl ⟨by kernel_rfl, ?hycx4x911⟩) (by assumption) ?restcx4x911
          case hycx4x911 => intro W hSw; (try dsimp only at hSw); first | (go_simp; done) | (go_simp; with_reducible rfl)
          try simp only [Act.put, List.getElem_toArray, List.getElem_cons_succ, List.getElem_cons_zero, List.setIfInBounds_toArray, List.set_cons_succ, List.set_cons_zero]
          refine wpAnyH_done (by kernel_rfl) ?_ _
          try simp only [Act.put, List.getElem_toArray, List.getElem_cons_succ, List.getElem_cons_zero, List.setIfInBounds_toArray, List.set_cons_succ, List.set_cons_zero]
          go_wp2_with fail
          all_goals
           go_meet
           case rel => exact ⟨_, qa, qn, qc, qm, qk, qz, _, _, rfl, rfl, HBs, HXs, HKs⟩
        case brc9 =>
         go_simp
         obtain ⟨wc9, hwc9⟩ : ∃ W : World, W = wd.alloc (.cells #[.slice none 0 0, .slice none 0 0] 38) := ⟨_, rfl⟩
         have htwc9 : Below wd.heap.size wd wc9 := by rw [hwc9]; exact tu1 wd _
         have HBwc9 := Lib.hid (HBd.out.trans ((htwc9).mono HBd.out.size))
         have HXwc9n := Lib.hid (show SBox wc9 wd.heap.size none 0 0 none 0 0 by rw [hwc9]; exact heap_alloc_new wd _)
         have hgewc9 : w4.heap.size ≤ wd.heap.size := HBd.out.size
         rw [← hwc9]
         clear hwc9 htwc9
         refine hK.out _ _ (HS4.out _ HBwc9.out) (fun hHeld => ?_)
         clear hK K
         try simp only [Act.put, List.getElem_toArray, List.getElem_cons_succ, List.getElem_cons_zero, List.setIfInBounds_toArray, List.set_cons_succ, List.set_cons_zero]
         refine wpAnyH_ready (rs := [1, 4]) (by kernel_rfl) (by simp) ?_
         refine (AllReadyH.cons (i := 1) (o := _) rfl (fun K hK => ?brcx91) (AllReadyH.cons (i := 4) (o := _) rfl (fun K hK => ?brcx94) AllReadyH.nil))
         case brcx91 =>
          go_simp
          go_at_call 38
          with_reducible refine (ab_any wc9).mono ?_
          rintro e wcx91 ⟨⟨ga, rfl, hswcx91⟩, hbwcx91⟩
          have HBwcx91 := Lib.hid (HBwc9.out.trans ((hbwcx91).mono HBwc9.out.size))
          have HXwcx91 := Lib.hid (HXwc9n.out.on13 hbwcx91)
          have HRwcx91n := Lib.hid hswcx91
          clear hswcx91 hbwcx91
          refine hK.out _ _ (HS4.out _ HBwcx91.out) (fun hHeld => ?_)
          clear hK K
          try simp only [Act.put, List.getElem_toArray, List.getElem_cons_succ, List.getElem_cons_zero, List.setIfInBounds_toArray, List.set_cons_succ, List.set_cons_zero]
          refine wpAnyH_ready (rs := [4]) (by kernel_rfl) (by simp) ?_
          refine AllReadyH.cons (i := 4) (o := _) rfl (fun K hK => ?_) AllReadyH.nil
          go_simp
          obtain ⟨wcx9x14, hwcx9x14⟩ : ∃ W : World, W = wcx91.alloc (.cells #[.int .i64 (nn : Int), .int .i64 (k : Int)] 3) := ⟨_, rfl⟩
          have htwcx9x14 : Below wcx91.heap.size wcx91 wcx9x14 := by rw [hwcx9x14]; exact tu1 wcx91 _
          have HBwcx9x14 := Lib.hid (HBwcx91.out.trans ((htwcx9x14).mono HBwcx91.out.size))
          have HXwcx9x14 := Lib.hid (HXwcx91.out.on13 htwcx9x14)
          have HRwcx9x14 := Lib.hid (HRwcx91n.out.on13 htwcx9x14)
          have HIwcx9x14n := Lib.hid (show Nums wcx9x14 wcx9x14.heap.size (some ⟨wcx91.heap.size, 0, none⟩) 2 [(nn : Int), (k : Int)] by rw [hwcx9x14]; exact ints01 (heap_alloc_new wcx91 _))
          rw [← hwcx9x14]
          clear hwcx9x14 htwcx9x14
          refine hK.out _ _ (HS4.out _ HBwcx9x14.out) (fun hHeld => ?_)
          clear hK K
          try simp only [Act.put, List.getElem_toArray, List.getElem_cons_succ, List.getElem_cons_zero, List.setIfInBounds_toArray, List.set_cons_succ, List.set_cons_zero]
          refine wpAnyH_ready (rs := [5]) (by kernel_rfl) (by simp) ?_
          refine AllReadyH.cons (i := 5) (o := _) rfl (fun K hK => ?_) AllReadyH.nil
          go_simp
          go_at_call 24
          with_reducible refine (stBegin_any (some ⟨db, dd, none⟩) m vc none 0 0 none 0 0 (some ⟨ga, 0, none⟩) 2 2 (some ⟨wcx91.heap.size, 0, none⟩) 2 2 B abS [(nn : Int), (k : Int)] wcx9x14 (Nat.le_refl _) (by omega) (HF4.out _ HBwcx9x14.out).1 HRwcx9x14.out HIwcx9x14n.out).mono ?_
          rintro e wcx9x15 ⟨hstwcx9x15, hbwcx9x15⟩
          obtain ⟨qa, qn, qc, qm, qk, qz, rfl, hkpwcx9x15⟩ := hstwcx9x15.kp hbwcx9x15
          rw [HBGU.out] at hkpwcx9x15 ⊢
          have HBwcx9x15 := Lib.hid (HBwcx9x14.out.trans ((hbwcx9x15).mono HBwcx9x14.out.size))
          have HXwcx9x15 := Lib.hid (HXwcx9x14.out.on13 hbwcx9x15)
          have HKwcx9x15n := Lib.hid hkpwcx9x15
          have hap : wd.heap.size < wcx9x14.heap.size ∨ wcx9x15.heap.size ≤ wd.heap.size := .inl HXwcx9x14.out.lt
          clear hkpwcx9x15 hstwcx9x15 hbwcx9x15
          refine hK.out _ _ (HS4.out _ HBwcx9x15.out) (fun hHeld => ?_)
          clear hK K
          refine' wpAnyH_take (i := 6) (v := _) rfl (by kernel_rfl) (by kernel_rfl) (by kernel_rfl) (fun _ _ _ h => h) (Or.inl ⟨by kernel_rfl, ?hycx9x16⟩) (by assumption) ?restcx9x16
          case hycx9x16 => intro W hSw; (try dsimp only at hSw); first | (go_simp; done) | (go_simp; with_reducible rfl)
          try simp only [Act.put]
          refine' wpAnyH_take (i := 7) (v := _) rfl (by kernel_rfl) (by kernel_rfl) (by kernel_rfl) (fun _ _ _ h => h) (Or.inl ⟨by kernel_rfl, ?hycx9x17⟩) (by assumption) ?restcx9x17
          case hycx9x17 => intro W hSw; (try dsimp only at hSw); first | (go_simp; done) | (go_simp; with_reducible rfl)
          try simp only [Act.put, List.getElem_toArray, List.getElem_cons_succ, List.getElem_cons_zero, List.setIfInBounds_toArray, List.set_cons_succ, List.set_cons_zero]
          refine' wpAnyH_take (i := 8) (v := _) rfl (by kernel_rfl) (by kernel_rfl) (by kernel_rfl) (fun _ _ _ h => h) (Or.inl ⟨by kernel_rfl, ?hycx9x18⟩) (by assumption) ?restcx9x18
          case hycx9x18 => intro W hSw; (try dsimp only at hSw); first | (go_simp; done) | (go_simp; with_reducible rfl)
          try simp only [Act.put, List.getElem_toArray, List.getElem_cons_succ, List.getElem_cons_zero, List.setIfInBounds_toArray, List.set_cons_succ, List.set_cons_zero]
          refine wpAnyH_ready (rs := [10]) (by kernel_rfl) (by simp) ?_
          refine AllReadyH.cons (i := 10) (o := _) rfl (fun K hK => ?_) AllReadyH.nil
          obtain ⟨y0, y1⟩ := HXwcx9x15.out.cells
          have f0 := HXwcx9x15.out.thaw 0
          have f1 := HXwcx9x15.out.thaw 1
          go_simp
          have hset := set13 wcx9x15 wd.heap.size (.slice qa qn qc) (.slice qm qk qz)
          have HBs := Lib.hid (HBwcx9x15.out.trans (hset.below hgewc9 HBwcx9x15.out.size))
          have HKs := Lib.hid (HKwcx9x15n.out.aside hset hap)
          have HXs := Lib.hid (SBox.fill (a' := qa) (n' := qn) (c' := qc) (ma' := qm) (mn' := qk) (mc' := qz) HXwcx9x15.out)
          clear hset y0 y1 f0 f1
          refine hK.out _ _ (HS4.out _ HBs.out) (fun hHeld => ?_)
          clear hK K
          try simp only [Act.put, List.setIfInBounds_toArray]
          refine' wpAnyH_take (i := 11) (v := _) rfl (by kernel_rfl) (by kernel_rfl) (by kernel_rfl) (fun _ _ _ h => h) (Or.inl ⟨by kernel_rfl, ?hycx9x111⟩) (by assumption) ?restcx9x111
          case hycx9x111 => intro W hSw; (try dsimp only at hSw); first | (go_simp; done) | (go_simp; with_reducible rfl)
          try simp only [Act.put, List.getElem_toArray, List.getElem_cons_succ, List.getElem_cons_zero, List.setIfInBounds_toArray, List.set_cons_succ, List.set_cons_zero]
          refine wpAnyH_done (by kernel_rfl) ?_ _
          try simp only [Act.put, List.getElem_toArray, List.getElem_cons_succ, List.getElem_cons_zero, List.setIfInBounds_toArray, List.set_cons_succ, List.set_cons_zero]
          go_wp2_with fail
          all_goals
           go_meet
           case rel => exact ⟨_, qa, qn, qc, qm, qk, qz, _, _, rfl, rfl, HBs, HXs, HKs⟩
         case brcx94 =>
          go_simp
          obtain ⟨wcx94, hwcx94⟩ : ∃ W : World, W = wc9.alloc (.cells #[.int .i64 (nn : Int), .int .i64 (k : Int)] 3) := ⟨_, rfl⟩
          have htwcx94 : Below wc9.heap.size wc9 wcx94 := by rw [hwcx94]; exact tu1 wc9 _
          have HBwcx94 := Lib.hid (HBwc9.out.trans ((htwcx94).mono HBwc9.out.size))
          have HXwcx94 := Lib.hid (HXwc9n.out.on13 htwcx94)
          have HIwcx94n := Lib.hid (show Nums wcx94 wcx94.heap.size (some ⟨wc9.heap.size, 0, none⟩) 2 [(nn : Int), (k : Int)] by rw [hwcx94]; exact ints01 (heap_alloc_new wc9 _))
          rw [← hwcx94]
          clear hwcx94 htwcx94
          refine hK.out _ _ (HS4.out _ HBwcx94.out) (fun hHeld => ?_)
          clear hK K
          try simp only [Act.put, List.getElem_toArray, List.getElem_cons_succ, List.getElem_cons_zero, List.setIfInBounds_toArray, List.set_cons_succ, List.set_cons_zero]
          refine wpAnyH_ready (rs := [1]) (by kernel_rfl) (by simp) ?_
          refine AllReadyH.cons (i := 1) (o := _) rfl (fun K hK => ?_) AllReadyH.nil
          go_simp
          go_at_call 38
          with_reducible refine (ab_any wcx94).mono ?_
          rintro e wcx9x41 ⟨⟨ga, rfl, hswcx9x41⟩, hbwcx9x41⟩
          have HBwcx9x41 := Lib.hid (HBwcx94.out.trans ((hbwcx9x41).mono HBwcx94.out.size))
          have HXwcx9x41 := Lib.hid (HXwcx94.out.on13 hbwcx9x41)
          have HIwcx9x41 := Lib.hid (HIwcx94n.out.on13 hbwcx9x41)
          have HRwcx9x41n := Lib.hid hswcx9x41
          clear hswcx9x41 hbwcx9x41
          refine hK.out _ _ (HS4.out _ HBwcx9x41.out) (fun hHeld => ?_)
          clear hK K
          try simp only [Act.put, List.getElem_toArray, List.getElem_cons_succ, List.getElem_cons_zero, List.setIfInBounds_toArray, List.set_cons_succ, List.set_cons_zero]
          refine wpAnyH_ready (rs := [5]) (by kernel_rfl) (by simp) ?_
          refine AllReadyH.cons (i := 5) (o := _) rfl (fun K hK => ?_) AllReadyH.nil
          go_simp
          go_at_call 24
          with_reducible refine (stBegin_any (some ⟨db, dd, none⟩) m vc none 0 0 none 0 0 (some ⟨ga, 0, none⟩) 2 2 (some ⟨wc9.heap.size, 0, none⟩) 2 2 B abS [(nn : Int), (k : Int)] wcx9x41 (Nat.le_refl _) (by omega) (HF4.out _ HBwcx9x41.out).1 HRwcx9x41n.out HIwcx9x41.out).mono ?_
          rintro e wcx9x45 ⟨hstwcx9x45, hbwcx9x45⟩
          obtain ⟨qa, qn, qc, qm, qk, qz, rfl, hkpwcx9x45⟩ := hstwcx9x45.kp hbwcx9x45
          rw [HBGU.out] at hkpwcx9x45 ⊢
          have HBwcx9x45 := Lib.hid (HBwcx9x41.out.trans ((hbwcx9x45).mono HBwcx9x41.out.size))
          have HXwcx9x45 := Lib.hid (HXwcx9x41.out.on13 hbwcx9x45)
          have HKwcx9x45n := Lib.hid hkpwcx9x45
          have hap : wd.heap.size < wcx9x41.heap.size ∨ wcx9x45.heap.size ≤ wd.heap.size := .inl HXwcx9x41.out.lt
          clear hkpwcx9x45 hstwcx9x45 hbwcx9x45
          refine hK.out _ _ (HS4.out _ HBwcx9x45.out) (fun hHeld => ?_)
          clear hK K
          refine' wpAnyH_take (i := 6) (v := _) rfl (by kernel_rfl) (by kernel_rfl) (by kernel_rfl) (fun _ _ _ h => h) (Or.inl ⟨by kernel_rfl, ?hycx9x46⟩) (by assumption) ?restcx9x46
          case hycx9x46 => intro W hSw; (try dsimp only at hSw); first | (go_simp; done) | (go_simp; with_reducible rfl)
          try simp only [Act.put]
          refine' wpAnyH_take (i := 7) (v := _) rfl (by kernel_rfl) (by kernel_rfl) (by kernel_rfl) (fun _ _ _ h => h) (Or.inl ⟨by kernel_rfl, ?hycx9x47⟩) (by assumption) ?restcx9x47
          case hycx9x47 => intro W hSw; (try dsimp only at hSw); first | (go_simp; done) | (go_simp; with_reducible rfl)
          try simp only [Act.put, List.getElem_toArray, List.getElem_cons_succ, List.getElem_cons_zero, List.setIfInBounds_toArray, List.set_cons_succ, List.set_cons_zero]
          refine' wpAnyH_take (i := 8) (v := _) rfl (by kernel_rfl) (by kernel_rfl) (by kernel_rfl) (fun _ _ _ h => h) (Or.inl ⟨by kernel_rfl, ?hycx9x48⟩) (by assumption) ?restcx9x48
          case hycx9x48 => intro W hSw; (try dsimp only at hSw); first | (go_simp; done) | (go_simp; with_reducible rfl)
          try simp only [Act.put, List.getElem_toArray, List.getElem_cons_succ, List.getElem_cons_zero, List.setIfInBounds_toArray, List.set_cons_succ, List.set_cons_zero]
          refine wpAnyH_ready (rs := [10]) (by kernel_rfl) (by simp) ?_
          refine AllReadyH.cons (i := 10) (o := _) rfl (fun K hK => ?_) AllReadyH.nil
          obtain ⟨y0, y1⟩ := HXwcx9x45.out.cells
          have f0 := HXwcx9x45.out.thaw 0
          have f1 := HXwcx9x45.out.thaw 1
          go_simp
          have hset := set13 wcx9x45 wd.heap.size (.slice qa qn qc) (.slice qm qk qz)
          have HBs := Lib.hid (HBwcx9x45.out.trans (hset.below hgewc9 HBwcx9x45.out.size))
          have HKs := Lib.hid (HKwcx9x45n.out.aside hset hap)
          have HXs := Lib.hid (SBox.fill (a' := qa) (n' := qn) (c' := qc) (ma' := qm) (mn' := qk) (mc' := qz) HXwcx9x45.out)
          clear hset y0 y1 f0 f1
          refine hK.out _ _ (HS4.out _ HBs.out) (fun hHeld => ?_)
          clear hK K
          try simp only [Act.put, List.setIfInBounds_toArray]
          refine' wpAnyH_take (i := 11) (v := _) rfl (by kernel_rfl) (by kernel_rfl) (by kernel_rfl) (fun _ _ _ h => h) (Or.inl ⟨by kernel_rfl, ?hycx9x411⟩) (by assumption) ?restcx9x411
          case hycx9x411 => intro W hSw; (try dsimp only at hSw); first | (go_simp; done) | (go_simp; with_reducible rfl)
          try simp only [Act.put, List.getElem_toArray, List.getElem_cons_succ, List.getElem_cons_zero, List.setIfInBounds_toArray, List.set_cons_succ, List.set_cons_zero]
          refine wpAnyH_done (by kernel_rfl) ?_ _
          try simp only [Act.put, List.getElem_toArray, List.getElem_cons_succ, List.getElem_cons_zero, List.setIfInBounds_toArray, List.set_cons_succ, List.set_cons_zero]
          go_wp2_with fail
          all_goals
           go_meet
           case rel => exact ⟨_, qa, qn, qc, qm, qk, qz, _, _, rfl, rfl, HBs, HXs, HKs⟩
      case rest =>
        obtain ⟨g14, ua, un, uc, um, uk, uz, lo4, hi4, e5, e6, HB5, HX5, HK5⟩ := hcut
        subst e5 e6
        obtain ⟨w5, hw5⟩ : ∃ w5 : World, w5 = wc := ⟨_, rfl⟩
        subst hw5
        have HF5 := Lib.hid (fun (W : World) (hW : Below w5.heap.size w5 W) => And.intro (HFW.out W (below_on HB5.out hW)) (And.intro (HX5.out.on13 hW) (HK5.out.on13 hW)))
        have HS5 := Lib.hid (fun (W : World) (hW : Below w5.heap.size w5 W) => show ((W.cell? ⟨g9, 0, none⟩ = some (.slice (some ⟨db, dd, none⟩) m vc) ∧ W.cell? ⟨g9, 1, none⟩ = some (.slice none 0 0) ∧ W.cell? ⟨g9, 2, none⟩ = some (.slice none 0 0)) ∧ W.cell? ⟨g10, 0, none⟩ = some (.slice sa0 sn0 sc0) ∧ W.cell? ⟨g10, 1, none⟩ = some (.slice sm0 sk0 sz0)) ∧ (W.cell? ⟨g12, 0, none⟩ = some (.slice ta 2 2) ∧ W.cell? ⟨g12, 1, none⟩ = some (.slice tm 4 4)) ∧ (W.cell? ⟨g14, 0, none⟩ = some (.slice ua un uc) ∧ W.cell? ⟨g14, 1, none⟩ = some (.slice um uk uz)) ∧ W.cell? ⟨db, dd + k * 3, none⟩ = some (.int .i64 kd) from ⟨⟨(HF5.out W hW).1.1.1.2.cells, (HF5.out W hW).1.1.2.1.cells⟩, (HF5.out W hW).1.2.1.cells, (HF5.out W hW).2.1.cells, (HF5.out W hW).1.1.2.2.2⟩)
        go_upto_region 12 with fail
        have HBd := Lib.hid (show Below w5.heap.size w5 w5.drew from bel_drewN (Below.refl _ _) 1)
        obtain ⟨wd, hwd⟩ : ∃ wd : World, wd = w5.drew := ⟨_, rfl⟩
        rw [← hwd] at HBd
        refine wp_region_held_drew (S := fun W => ((W.cell? ⟨g9, 0, none⟩ = some (.slice (some ⟨db, dd, none⟩) m vc) ∧ W.cell? ⟨g9, 1, none⟩ = some (.slice none 0 0) ∧ W.cell? ⟨g9, 2, none⟩ = some (.slice none 0 0)) ∧ W.cell? ⟨g10, 0, none⟩ = some (.slice sa0 sn0 sc0) ∧ W.cell? ⟨g10, 1, none⟩ = some (.slice sm0 sk0 sz0)) ∧ (W.cell? ⟨g12, 0, none⟩ = some (.slice ta 2 2) ∧ W.cell? ⟨g12, 1, none⟩ = some (.slice tm 4 4)) ∧ (W.cell? ⟨g14, 0, none⟩ = some (.slice ua un uc) ∧ W.cell? ⟨g14, 1, none⟩ = some (.slice um uk uz)) ∧ W.cell? ⟨db, dd + k * 3, none⟩ = some (.int .i64 kd)) (by kernel_rfl) (by rw [← hwd]; exact HS5.out _ HBd.out) (fun hHeld => ?_)
        rw [← hwd]
        rw [← hwd] at hHeld
        clear hwd
        try simp only [Act.put, List.setIfInBounds_toArray]
        refine' wpAnyH_take (i := 0) (v := _) rfl (by kernel_rfl) (by kernel_rfl) (by kernel_rfl) (fun _ _ _ h => h) (Or.inl ⟨by kernel_rfl, ?hyd0⟩) (by assumption) ?restd0
        case hyd0 => intro W hSw; (try dsimp only at hSw); first | (go_simp; done) | (go_simp; with_reducible rfl)
        try simp only [Act.put, List.getElem_toArray, List.getElem_cons_zero, List.setIfInBounds_toArray, List.set_cons_succ, List.set_cons_zero]
        refine' wpAnyH_take (i := 1) (v := _) rfl (by kernel_rfl) (by kernel_rfl) (by kernel_rfl) (fun _ _ _ h => h) (Or.inl ⟨by kernel_rfl, ?hyd1⟩) (by assumption) ?restd1
        case hyd1 => intro W hSw; (try dsimp only at hSw); first | (go_simp; done) | (go_simp; with_reducible rfl)
        try simp only [Act.put]
        refine' wpAnyH_take (i := 2) (v := _) rfl (by kernel_rfl) (by kernel_rfl) (by kernel_rfl) (fun _ _ _ h => h) (Or.inl ⟨by kernel_rfl, ?hyd2⟩) (by assumption) ?restd2
        case hyd2 => intro W hSw; (try dsimp only at hSw); first | (go_simp; done) | (go_simp; with_reducible rfl)
        try simp only [Act.put, List.getElem_toArray, List.getElem_cons_succ, List.getElem_cons_zero, List.setIfInBounds_toArray, List.set_cons_succ, List.set_cons_zero]
        refine' wpAnyH_take (i := 3) (v := _) rfl (by kernel_rfl) (by kernel_rfl) (by kernel_rfl) (fun _ _ _ h => h) (Or.inl ⟨by kernel_rfl, ?hyd3⟩) (by assumption) ?restd3
        case hyd3 => intro W hSw; (try dsimp only at hSw); first | (go_simp; done) | (go_simp; with_reducible rfl)
        try simp only [Act.put]
        refine' wpAnyH_take (i := 5) (v := _) rfl (by kernel_rfl) (by kernel_rfl) (by kernel_rfl) (fun _ _ _ h => h) (Or.inl ⟨by kernel_rfl, ?hyd5⟩) (by assumption) ?restd5
        case hyd5 => intro W hSw; (try dsimp only at hSw); first | (go_simp; done) | (go_simp; with_reducible rfl)
        try simp only [Act.put, List.getElem_toArray, List.getElem_cons_succ, List.getElem_cons_zero, List.setIfInBounds_toArray, List.set_cons_succ, List.set_cons_zero]
        refine wpAnyH_ready (rs := [4]) (by kernel_rfl) (by simp) ?_
        refine AllReadyH.cons (i := 4) (o := _) rfl (fun K hK => ?_) AllReadyH.nil
        go_simp
        go_at_call 38
        with_reducible refine (ab_any wd).mono ?_
        rintro e wd4 ⟨⟨gwd4, rfl, hswd4⟩, hbwd4⟩
        have HBwd4 := Lib.hid (HBd.out.trans ((hbwd4).mono HBd.out.size))
        have HRwd4 := Lib.hid hswd4
        clear hswd4 hbwd4
        refine hK.out _ _ (HS5.out _ HBwd4.out) (fun hHeld => ?_)
        clear hK K
        try simp only [Act.put, List.getElem_toArray, List.getElem_cons_succ, List.getElem_cons_zero, List.setIfInBounds_toArray, List.set_cons_succ, List.set_cons_zero]
        refine wpAnyH_ready (rs := [6]) (by kernel_rfl) (by simp) ?_
        refine AllReadyH.cons (i := 6) (o := _) rfl (fun K hK => ?_) AllReadyH.nil
        go_simp
        go_at_call 34
        with_reducible refine (stOver_any (some ⟨db, dd, none⟩) m vc none 0 0 none 0 0 (some ⟨gwd4, 0, none⟩) 2 2 ta 2 2 tm 4 4 B abS t0 wd4 (Nat.le_refl _) (stageIn13 (HF5.out _ HBwd4.out).1.1.1.1 HRwd4.out (HF5.out _ HBwd4.out).1.2.2.now)).mono ?_
        rintro e wd6 ⟨rfl, hbwd6⟩
        rw [HOVT.out]
        have HBwd6 := Lib.hid (HBwd4.out.trans ((hbwd6).mono HBwd4.out.size))
        clear hbwd6
        refine hK.out _ _ (HS5.out _ HBwd6.out) (fun hHeld => ?_)
        clear hK K
        try simp only [Act.put, List.setIfInBounds_toArray]
        refine' wpAnyH_take (i := 7) (v := _) rfl (by kernel_rfl) (by kernel_rfl) (by kernel_rfl) (fun _ _ _ h => h) (Or.inl ⟨by kernel_rfl, ?hyd7⟩) (by assumption) ?restd7
        case hyd7 => intro W hSw; (try dsimp only at hSw); first | (go_simp; done) | (go_simp; with_reducible rfl)
        try simp only [Act.put, List.getElem_toArray, List.getElem_cons_succ, List.getElem_cons_zero, List.setIfInBounds_toArray, List.set_cons_succ, List.set_cons_zero]
        refine' wpAnyH_take (i := 8) (v := _) rfl (by kernel_rfl) (by kernel_rfl) (by kernel_rfl) (fun _ _ _ h => h) (Or.inl ⟨by kernel_rfl, ?hyd8⟩) (by assumption) ?restd8
        case hyd8 => intro W hSw; (try dsimp only at hSw); first | (go_simp; done) | (go_simp; with_reducible rfl)
        try simp only [Act.put]
        refine' wpAnyH_take (i := 9) (v := _) rfl (by kernel_rfl) (by kernel_rfl) (by kernel_rfl) (fun _ _ _ h => h) (Or.inl ⟨by kernel_rfl, ?hyd9⟩) (by assumption) ?restd9
        case hyd9 => intro W hSw; (try dsimp only at hSw); first | (go_simp; done) | (go_simp; with_reducible rfl)
        try simp only [Act.put, List.getElem_toArray, List.getElem_cons_succ, List.getElem_cons_zero, List.setIfInBounds_toArray, List.set_cons_succ, List.set_cons_zero]
        refine' wpAnyH_take (i := 10) (v := _) rfl (by kernel_rfl) (by kernel_rfl) (by kernel_rfl) (fun _ _ _ h => h) (Or.inl ⟨by kernel_rfl, ?hyd10⟩) (by assumption) ?restd10
        case hyd10 => intro W hSw; (try dsimp only at hSw); first | (go_simp; done) | (go_simp; with_reducible rfl)
        try simp only [Act.put]
        refine' wpAnyH_take (i := 12) (v := _) rfl (by kernel_rfl) (by kernel_rfl) (by kernel_rfl) (fun _ _ _ h => h) (Or.inl ⟨by kernel_rfl, ?hyd12⟩) (by assumption) ?restd12
        case hyd12 => intro W hSw; (try dsimp only at hSw); first | (go_simp; done) | (go_simp; with_reducible rfl)
        try simp only [Act.put, List.getElem_toArray, List.getElem_cons_succ, List.getElem_cons_zero, List.setIfInBounds_toArray, List.set_cons_succ, List.set_cons_zero]
        refine wpAnyH_ready (rs := [11]) (by kernel_rfl) (by simp) ?_
        refine AllReadyH.cons (i := 11) (o := _) rfl (fun K hK => ?_) AllReadyH.nil
        go_simp
        go_at_call 38
        with_reducible refine (ab_any wd6).mono ?_
        rintro e wd11 ⟨⟨gwd11, rfl, hswd11⟩, hbwd11⟩
        have HBwd11 := Lib.hid (HBwd6.out.trans ((hbwd11).mono HBwd6.out.size))
        have HRwd11 := Lib.hid hswd11
        clear hswd11 hbwd11
        refine hK.out _ _ (HS5.out _ HBwd11.out) (fun hHeld => ?_)
        clear hK K
        try simp only [Act.put, List.getElem_toArray, List.getElem_cons_succ, List.getElem_cons_zero, List.setIfInBounds_toArray, List.set_cons_succ, List.set_cons_zero]
        refine wpAnyH_ready (rs := [13]) (by kernel_rfl) (by simp) ?_
        refine AllReadyH.cons (i := 13) (o := _) rfl (fun K hK => ?_) AllReadyH.nil
        go_simp
        go_at_call 32
        with_reducible refine (stMoves_any (some ⟨db, dd, none⟩) m vc none 0 0 none 0 0 (some ⟨gwd11, 0, none⟩) 2 2 ta 2 2 tm 4 4 B abS t0 wd11 (Nat.le_refl _) (stageIn13 (HF5.out _ HBwd11.out).1.1.1.1 HRwd11.out (HF5.out _ HBwd11.out).1.2.2.now)).mono ?_
        rintro e wd13 ⟨⟨vwd13, rfl, howd13⟩, hbwd13⟩
        rw [HMVT.out] at howd13
        obtain ⟨xa, xc, hvwd13, _, _, _⟩ := howd13.sees (by simp)
        replace hvwd13 : vwd13 = .slice xa 0 xc := hvwd13
        subst hvwd13
        have HBwd13 := Lib.hid (HBwd11.out.trans ((hbwd13).mono HBwd11.out.size))
        clear howd13 hbwd13
        refine hK.out _ _ (HS5.out _ HBwd13.out) (fun hHeld => ?_)
        clear hK K
        try simp only [Act.put, List.setIfInBounds_toArray]
        refine' wpAnyH_take (i := 14) (v := _) rfl (by kernel_rfl) (by kernel_rfl) (by kernel_rfl) (fun _ _ _ h => h) (Or.inl ⟨by kernel_rfl, ?hyd14⟩) (by assumption) ?restd14
        case hyd14 => intro W hSw; (try dsimp only at hSw); first | (go_simp; done) | (go_simp; with_reducible rfl)
        try simp only [Act.put, List.getElem_toArray, List.getElem_cons_succ, List.getElem_cons_zero, List.setIfInBounds_toArray, List.set_cons_succ, List.set_cons_zero]
        refine' wpAnyH_take (i := 15) (v := _) rfl (by kernel_rfl) (by kernel_rfl) (by kernel_rfl) (fun _ _ _ h => h) (Or.inl ⟨by kernel_rfl, ?hyd15⟩) (by assumption) ?restd15
        case hyd15 => intro W hSw; (try dsimp only at hSw); first | (go_simp; done) | (go_simp; with_reducible rfl)
        try simp only [Act.put]
        refine' wpAnyH_take (i := 16) (v := _) rfl (by kernel_rfl) (by kernel_rfl) (by kernel_rfl) (fun _ _ _ h => h) (Or.inl ⟨by kernel_rfl, ?hyd16⟩) (by assumption) ?restd16
        case hyd16 => intro W hSw; (try dsimp only at hSw); first | (go_simp; done) | (go_simp; with_reducible rfl)
        try simp only [Act.put, List.getElem_toArray, List.getElem_cons_succ, List.getElem_cons_zero, List.setIfInBounds_toArray, List.set_cons_succ, List.set_cons_zero]
        refine' wpAnyH_take (i := 17) (v := _) rfl (by kernel_rfl) (by kernel_rfl) (by kernel_rfl) (fun _ _ _ h => h) (Or.inl ⟨by kernel_rfl, ?hyd17⟩) (by assumption) ?restd17
        case hyd17 => intro W hSw; (try dsimp only at hSw); first | (go_simp; done) | (go_simp; with_reducible rfl)
        try simp only [Act.put]
        refine' wpAnyH_take (i := 18) (v := _) rfl (by kernel_rfl) (by kernel_rfl) (by kernel_rfl) (fun _ _ _ h => h) (Or.inl ⟨by kernel_rfl, ?hyd18⟩) (by assumption) ?restd18
        case hyd18 => intro W hSw; (try dsimp only at hSw); first | (go_simp; done) | (go_simp; with_reducible rfl)
        try simp only [Act.put, List.getElem_toArray, List.getElem_cons_succ, List.getElem_cons_zero, List.setIfInBounds_toArray, List.set_cons_succ, List.set_cons_zero]
        refine' wpAnyH_take (i := 20) (v := _) rfl (by kernel_rfl) (by kernel_rfl) (by kernel_rfl) (fun _ _ _ h => h) (Or.inl ⟨by kernel_rfl, ?hyd20⟩) (by assumption) ?restd20
        case hyd20 => intro W hSw; (try dsimp only at hSw); first | (go_simp; done) | (go_simp; with_reducible rfl)
        try simp only [Act.put]
        refine' wpAnyH_take (i := 22) (v := _) rfl (by kernel_rfl) (by kernel_rfl) (by kernel_rfl) (fun _ _ _ h => h) (Or.inl ⟨by kernel_rfl, ?hyd22⟩) (by assumption) ?restd22
        case hyd22 => intro W hSw; (try dsimp only at hSw); first | (go_simp; done) | (go_simp; with_reducible rfl)
        try simp only [Act.put, List.getElem_toArray, List.getElem_cons_succ, List.getElem_cons_zero, List.setIfInBounds_toArray, List.set_cons_succ, List.set_cons_zero]
        refine' wpAnyH_take (i := 23) (v := _) rfl (by kernel_rfl) (by kernel_rfl) (by kernel_rfl) (fun _ _ _ h => h) (Or.inl ⟨by kernel_rfl, ?hyd23⟩) (by assumption) ?restd23
        case hyd23 => intro W hSw; (try dsimp only at hSw); first | (go_simp; done) | (go_simp; with_reducible rfl)
        try simp only [Act.put]
        refine' wpAnyH_take (i := 24) (v := _) rfl (by kernel_rfl) (by kernel_rfl) (by kernel_rfl) (fun _ _ _ h => h) (Or.inl ⟨by kernel_rfl, ?hyd24⟩) (by assumption) ?restd24
        case hyd24 => intro W hSw; (try dsimp only at hSw); first | (go_simp; done) | (go_simp; with_reducible rfl)
        try simp only [Act.put, List.getElem_toArray, List.getElem_cons_succ, List.getElem_cons_zero, List.setIfInBounds_toArray, List.set_cons_succ, List.set_cons_zero]
        refine' wpAnyH_take (i := 25) (v := _) rfl (by kernel_rfl) (by kernel_rfl) (by kernel_rfl) (fun _ _ _ h => h) (Or.inl ⟨by kernel_rfl, ?hyd25⟩) (by assumption) ?restd25
        case hyd25 => intro W hSw; (try dsimp only at hSw); first | (go_simp; done) | (go_simp; with_reducible rfl)
        try simp only [Act.put]
        refine' wpAnyH_take (i := 26) (v := _) rfl (by kernel_rfl) (by kernel_rfl) (by kernel_rfl) (fun _ _ _ h => h) (Or.inl ⟨by kernel_rfl, ?hyd26⟩) (by assumption) ?restd26
        case hyd26 => intro W hSw; (try dsimp only at hSw); first | (go_simp; done) | (go_simp; with_reducible rfl)
        try simp only [Act.put, List.getElem_toArray, List.getElem_cons_succ, List.getElem_cons_zero, List.setIfInBounds_toArray, List.set_cons_succ, List.set_cons_zero]
        refine' wpAnyH_take (i := 27) (v := _) rfl (by kernel_rfl) (by kernel_rfl) (by kernel_rfl) (fun _ _ _ h => h) (Or.inl ⟨by kernel_rfl, ?hyd27⟩) (by assumption) ?restd27
        case hyd27 => intro W hSw; (try dsimp only at hSw); first | (go_simp; done) | (go_simp; with_reducible rfl)
        try simp only [Act.put]
        refine' wpAnyH_take (i := 28) (v := _) rfl (by kernel_rfl) (by kernel_rfl) (by kernel_rfl) (fun _ _ _ h => h) (Or.inl ⟨by kernel_rfl, ?hyd28⟩) (by assumption) ?restd28
        case hyd28 => intro W hSw; (try dsimp only at hSw); first | (go_simp; done) | (go_simp; with_reducible rfl)
        try simp only [Act.put, List.getElem_toArray, List.getElem_cons_succ, List.getElem_cons_zero, List.setIfInBounds_toArray, List.set_cons_succ, List.set_cons_zero]
        refine wpAnyH_ready (rs := [19]) (by kernel_rfl) (by simp) ?_
        refine AllReadyH.cons (i := 19) (o := _) rfl (fun K hK => ?_) AllReadyH.nil
        go_simp
        go_at_call 38
        with_reducible refine (ab_any wd13).mono ?_
        rintro e wd19 ⟨⟨gwd19, rfl, hswd19⟩, hbwd19⟩
        have HBwd19 := Lib.hid (HBwd13.out.trans ((hbwd19).mono HBwd13.out.size))
        have HRwd19 := Lib.hid hswd19
        clear hswd19 hbwd19
        refine hK.out _ _ (HS5.out _ HBwd19.out) (fun hHeld => ?_)
        clear hK K
        try simp only [Act.put, List.getElem_toArray, List.getElem_cons_succ, List.getElem_cons_zero, List.setIfInBounds_toArray, List.set_cons_succ, List.set_cons_zero]
        refine wpAnyH_ready (rs := [21]) (by kernel_rfl) (by simp) ?_
        refine AllReadyH.cons (i := 21) (o := _) rfl (fun K hK => ?_) AllReadyH.nil
        go_simp
        go_at_call 34
        with_reducible refine (stOver_any (some ⟨db, dd, none⟩) m vc none 0 0 none 0 0 (some ⟨gwd19, 0, none⟩) 2 2 ua un uc um uk uz B abS u0 wd19 (Nat.le_refl _) (stageIn13 (HF5.out _ HBwd19.out).1.1.1.1 HRwd19.out (HF5.out _ HBwd19.out).2.2.now)).mono ?_
        rintro e wd21 ⟨rfl, hbwd21⟩
        rw [HOVU.out]
        have HBwd21 := Lib.hid (HBwd19.out.trans ((hbwd21).mono HBwd19.out.size))
        clear hbwd21
        refine hK.out _ _ (HS5.out _ HBwd21.out) (fun hHeld => ?_)
        clear hK K
        try simp only [Act.put, List.setIfInBounds_toArray]
        refine' wpAnyH_take (i := 29) (v := _) rfl (by kernel_rfl) (by kernel_rfl) (by kernel_rfl) (fun _ _ _ h => h) (Or.inl ⟨by kernel_rfl, ?hyd29⟩) (by assumption) ?restd29
        case hyd29 => intro W hSw; (try dsimp only at hSw); first | (go_simp; done) | (go_simp; with_reducible rfl)
        try simp only [Act.put, List.getElem_toArray, List.getElem_cons_succ, List.getElem_cons_zero, List.setIfInBounds_toArray, List.set_cons_succ, List.set_cons_zero]
        refine' wpAnyH_take (i := 30) (v := _) rfl (by kernel_rfl) (by kernel_rfl) (by kernel_rfl) (fun _ _ _ h => h) (Or.inl ⟨by kernel_rfl, ?hyd30⟩) (by assumption) ?restd30
        case hyd30 => intro W hSw; (try dsimp only at hSw); first | (go_simp; done) | (go_simp; with_reducible rfl)
        try simp only [Act.put]
        refine' wpAnyH_take (i := 31) (v := _) rfl (by kernel_rfl) (by kernel_rfl) (by kernel_rfl) (fun _ _ _ h => h) (Or.inl ⟨by kernel_rfl, ?hyd31⟩) (by assumption) ?restd31
        case hyd31 => intro W hSw; (try dsimp only at hSw); first | (go_simp; done) | (go_simp; with_reducible rfl)
        try simp only [Act.put, List.getElem_toArray, List.getElem_cons_succ, List.getElem_cons_zero, List.setIfInBounds_toArray, List.set_cons_succ, List.set_cons_zero]
        refine' wpAnyH_take (i := 32) (v := _) rfl (by kernel_rfl) (by kernel_rfl) (by kernel_rfl) (fun _ _ _ h => h) (Or.inl ⟨by kernel_rfl, ?hyd32⟩) (by assumption) ?restd32
        case hyd32 => intro W hSw; (try dsimp only at hSw); first | (go_simp; done) | (go_simp; with_reducible rfl)
        try simp only [Act.put]
        refine' wpAnyH_take (i := 33) (v := _) rfl (by kernel_rfl) (by kernel_rfl) (by kernel_rfl) (fun _ _ _ h => h) (Or.inl ⟨by kernel_rfl, ?hyd33⟩) (by assumption) ?restd33
        case hyd33 => intro W hSw; (try dsimp only at hSw); first | (go_simp; done) | (go_simp; with_reducible rfl)
        try simp only [Act.put, List.getElem_toArray, List.getElem_cons_succ, List.getElem_cons_zero, List.setIfInBounds_toArray, List.set_cons_succ, List.set_cons_zero]
        refine wpAnyH_ready (rs := [34]) (by kernel_rfl) (by simp) ?_
        refine AllReadyH.cons (i := 34) (o := _) rfl (fun K hK => ?_) AllReadyH.nil
        go_simp
        go_at_call 36
        with_reducible refine (stSame_any sa0 sn0 sc0 sm0 sk0 sz0 ta 2 2 tm 4 4 s0 t0 wd21 (HF5.out _ HBwd21.out).1.1.2.2.1.now (HF5.out _ HBwd21.out).1.2.2.now HSM.out HTM.out).mono ?_
        rintro e wd34 ⟨rfl, hbwd34⟩
        rw [HSAM.out]
        have HBwd34 := Lib.hid (HBwd21.out.trans ((hbwd34).mono HBwd21.out.size))
        clear hbwd34
        refine hK.out _ _ (HS5.out _ HBwd34.out) (fun hHeld => ?_)
        clear hK K
        try simp only [Act.put, List.setIfInBounds_toArray]
        refine' wpAnyH_take (i := 35) (v := _) rfl (by kernel_rfl) (by kernel_rfl) (by kernel_rfl) (fun _ _ _ h => h) (Or.inl ⟨by kernel_rfl, ?hyd35⟩) (by assumption) ?restd35
        case hyd35 => intro W hSw; (try dsimp only at hSw); first | (go_simp; done) | (go_simp; with_reducible rfl)
        try simp only [Act.put, List.getElem_toArray, List.getElem_cons_succ, List.getElem_cons_zero, List.setIfInBounds_toArray, List.set_cons_succ, List.set_cons_zero]
        refine' wpAnyH_take (i := 36) (v := _) rfl (by kernel_rfl) (by kernel_rfl) (by kernel_rfl) (fun _ _ _ h => h) (Or.inl ⟨by kernel_rfl, ?hyd36⟩) (by assumption) ?restd36
        case hyd36 => intro W hSw; (try dsimp only at hSw); first | (go_simp; done) | (go_simp; with_reducible rfl)
        try simp only [Act.put]
        refine' wpAnyH_take (i := 37) (v := _) rfl (by kernel_rfl) (by kernel_rfl) (by kernel_rfl) (fun _ _ _ h => h) (Or.inl ⟨by kernel_rfl, ?hyd37⟩) (by assumption) ?restd37
        case hyd37 => intro W hSw; (try dsimp only at hSw); first | (go_simp; done) | (go_simp; with_reducible rfl)
        try simp only [Act.put, List.getElem_toArray, List.getElem_cons_succ, List.getElem_cons_zero, List.setIfInBounds_toArray, List.set_cons_succ, List.set_cons_zero]
        refine wpAnyH_done (by kernel_rfl) ?_ _
        try simp only [Act.put, List.getElem_toArray, List.getElem_cons_succ, List.getElem_cons_zero, List.setIfInBounds_toArray, List.set_cons_succ, List.set_cons_zero]
        go_wp2_with fail
        go_ret
        exact ⟨rfl, below_on (below_on (below_on (below_on HBQ.out HB3.out) HB4.out) HB5.out) HBwd34.out⟩
end Go.Proofs.Ytgefhgcpnfbigaa

/- The statement StageOver holds for every argument, with no condition. -/
namespace Go.Proofs.Ytgefhgcpnfbigaa.stageOver
open Go Go.ChangeShapes Go.WideShapes Go.ChangeAt Go.RowKit
open Go.ChangeMaps (open_string shut_string)

set_option maxRecDepth 100000 in
theorem lifted (os : Os) (started : os.Started) (H : Type) (enc : TypeId × Value → H) :
    ReturnsInHanded {} Try.checked os 8 .any (Rows.stageOverSpec.pre6 enc Try.prog Try.f8 Rows.stageOverRow.domain false) (Rows.stageOverSpec.post enc Try.prog Try.f8 false true false false) := by
  refine returnsInHanded_of_change_sized (C := Try.checked) seatOwn started (by kernel_rfl) Try.func8
    (ChangeSpec.witness6 (enc := enc) (C := Try.checked) false ⟨#[], #[.slice none 0 0, .int .i64 0, .string ByteArray.empty], []⟩ 8 (by kernel_rfl) (by kernel_rfl) (by kernel_rfl) (by kernel_rfl)) ?_
  intro W base args ds gs before hval0 hW hcnd hsz0 _
  have hval : ∀ (j : Nat) t v, Try.f8.params[j]? = some t → args[j]? = some v → Value.okWide Try.prog W .any base t v := hval0
  have hsz : (DataW.weightsEach Try.prog (Try.f8.params.toList ++ Rows.stageOverSpec.plain.varTypes Try.prog) (ds ++ gs)).all (· ≤ reachBytes) = true := hsz0
  have hW' := hW
  obtain ⟨p, q, hA0, hV, rfl, hfz, hnd⟩ := hW
  have hA : DataW.TrodAll enc Try.prog W 0 (fun _ => true) true Try.f8.params.toList args.toList ds p := hA0
  rw [Try.params8] at hA hval hsz
  obtain ⟨v0, vs0, d0, ds0, p0, q0, hargs, rfl, rfl, h0, r0⟩ := trodAll_cons hA
  obtain ⟨v1, vs1, d1, ds1, p1, q1, rfl, rfl, rfl, h1, r1⟩ := trodAll_cons r0
  obtain ⟨v2, vs2, d2, ds2, p2, q2, rfl, rfl, rfl, h2, r2⟩ := trodAll_cons r1
  obtain ⟨rfl, rfl, rfl⟩ := trodAll_nil r2
  obtain rfl : args = #[v0, v1, v2] := by cases args; simp_all
  obtain ⟨rfl, rfl⟩ := trodVars_none hV
  have k0 := h0
  have lt0 := args_below k0
  obtain ⟨fu0, hf0⟩ := h0
  obtain ⟨ia0, ilen0, icap0, rfl⟩ := okWide_slice Try.underlying24 (hval 0 24 v0 rfl rfl)
  obtain ⟨a0, n0, c0, l0, hv0, hn0, hi0, hc0, hm0, hz0⟩ := open_ints hf0 (fun elems spare e => by
    have := sized_slice hsz (j := 0) (t := 24) (e := 3) rfl (congrArg some e) Try.underlying24
    rwa [seatBytes2] at this)
  obtain ⟨ea0, en0, ec0⟩ := Value.slice.inj hv0
  subst ea0 en0 ec0
  have k1 := h1
  have lt1 := args_below k1
  obtain ⟨a1, rfl, rfl, rfl, w1⟩ := open_int Try.underlying3 (hval 1 3 v1 rfl rfl) h1
  have k2 := h2
  have lt2 := args_below k2
  obtain ⟨s2, rfl, rfl, rfl, w2⟩ := open_string Try.underlying9 (hval 2 9 v2 rfl rfl) h2
  clear hA0 hval0 hsz0
  refine (stageOver_walk ia0 ilen0 icap0 l0 a1 s2 W hn0 hz0 w2).mono fun e W' ⟨he, bel⟩ => ?_
  subst he
  exact ⟨_, rfl, _, _, _, [], _, [], hW', trodAll_mk1 (shut_bool Try.underlying4 _), (trodAll_cons_mk (Below.trod seatLaidOut (by kernel_rfl) (of_decide_eq_true (by kernel_rfl)) k0 bel lt0) (trodAll_cons_mk (Below.trod seatLaidOut (by kernel_rfl) (of_decide_eq_true (by kernel_rfl)) k1 bel lt1) (trodAll_cons_mk (Below.trod seatLaidOut (by kernel_rfl) (of_decide_eq_true (by kernel_rfl)) k2 bel lt2) trodAll_mk0))), rfl, bel.frame _, fun h => by cases h⟩

theorem over : Rows.stageOverRow.holds Try.pinned (OpenSpec.ofChange Rows.stageOverSpec) :=
  OpenClaim.holds_of_wide 8 Try.f8 rfl rfl rfl rfl rfl rfl rfl ⟨rfl, rfl, rfl, rfl, rfl⟩ rfl rfl rfl rfl rfl (by kernel_rfl) Try.func8 (by kernel_rfl)
    (of_decide_eq_true (by kernel_rfl)) (by unfold Func.isWrapper; first | (rw [if_pos (by decide +kernel)]; kernel_rfl) | (rw [if_neg (by decide +kernel)]; exact ⟨rfl, rfl⟩))
    (fun os started H enc _ => lifted os started H enc)

theorem proved : Rows.StageOverSaid :=
  over
#print axioms proved
end Go.Proofs.Ytgefhgcpnfbigaa.stageOver
