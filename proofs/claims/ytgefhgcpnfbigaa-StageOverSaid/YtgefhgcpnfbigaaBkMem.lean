/- Edges and nodes in memory. -/
import Derived.Test.YtgefhgcpnfbigaaTmMems
import Derived.Test.YtgefhgcpnfbigaaBkPlain
namespace Go.Proofs.Ytgefhgcpnfbigaa
open Go.RowKit

/-- The slice with this address and length, however long, reads as these edges; all that is read lies in a block below bound. -/
def Edges (w : World) (bound : Nat) (a : Option Addr) (n : Nat) (l : List EdgeL) : Prop :=
  l.length = n ∧ n ≤ 9223372036854775807 ∧ (0 < n → ∃ b off, a = some ⟨b, off, none⟩ ∧ b < bound ∧ ∀ (j : Nat) (x : EdgeL), l[j]? = some x → ∃ s : ByteArray,
    (w.cell? ⟨b, off + j * 4, none⟩ = some (.string s) ∧ w.cell? ⟨b, off + j * 4 + 1, none⟩ = some (.int .i64 x.sk) ∧ w.cell? ⟨b, off + j * 4 + 2, none⟩ = some (.int .i64 x.at_) ∧ w.cell? ⟨b, off + j * 4 + 3, none⟩ = some (.int .i64 x.next)) ∧
    (s.toList = x.label ∧ s.size ≤ maxLen))
/-- The slice with this address and length, however long, reads as these nodes. -/
def Nodes (w : World) (bound : Nat) (a : Option Addr) (n : Nat) (ts : List NodeL) : Prop :=
  ts.length = n ∧ n ≤ 9223372036854775807 ∧ (0 < n → ∃ b off, a = some ⟨b, off, none⟩ ∧ b < bound ∧ ∀ (j : Nat) (x : NodeL), ts[j]? = some x → ∃ (s : ByteArray) (aa : Option Addr) (an ac : Nat),
    (w.cell? ⟨b, off + j * 3, none⟩ = some (.int .i64 x.kind) ∧ w.cell? ⟨b, off + j * 3 + 1, none⟩ = some (.string s) ∧ w.cell? ⟨b, off + j * 3 + 2, none⟩ = some (.slice aa an ac)) ∧
    (s.toList = x.peer ∧ s.size ≤ maxLen ∧ Edges w bound aa an x.arms))
section
variable {w w' : World} {bound bound' : Nat} {a : Option Addr} {n : Nat} {l : List EdgeL} {ts : List NodeL}
theorem Edges.keep (h : Edges w bound a n l) (hk : ∀ p : Addr, p.block < bound → w'.cell? p = w.cell? p) : Edges w' bound a n l :=
  ⟨h.1, h.2.1, fun hn => by
    obtain ⟨b, off, e, hb, hc⟩ := h.2.2 hn
    refine ⟨b, off, e, hb, fun j x hj => ?_⟩
    obtain ⟨s, ⟨c0, c1, c2, c3⟩, h1⟩ := hc j x hj
    exact ⟨s, ⟨(hk _ hb).trans c0, (hk _ hb).trans c1, (hk _ hb).trans c2, (hk _ hb).trans c3⟩, h1⟩⟩
theorem Edges.below (h : Edges w bound a n l) (hb : Below bound w w') : Edges w' bound a n l := h.keep fun _ hp => hb.cell hp
theorem Edges.more (h : Edges w bound a n l) (hb : bound ≤ bound') : Edges w bound' a n l :=
  ⟨h.1, h.2.1, fun hn => by
    obtain ⟨b, off, e, hlt, hc⟩ := h.2.2 hn
    exact ⟨b, off, e, by omega, hc⟩⟩
theorem Edges.zero (w : World) (bound : Nat) (a : Option Addr) : Edges w bound a 0 [] := ⟨rfl, by omega, fun h => absurd h (Nat.lt_irrefl 0)⟩
theorem Edges.on {W W' : World} {a : Option Addr} {n : Nat} {l : List EdgeL} (h : Edges W W.heap.size a n l) (hb : Below W.heap.size W W') : Edges W' W'.heap.size a n l := (h.below hb).more hb.size
theorem Edges.at_ (h : Edges w bound a n l) {k : Nat} (hk : k < n) : ∃ (b off : Nat) (s : ByteArray) (sk ta nx : Int), a = some ⟨b, off, none⟩ ∧ b < bound ∧ l[k]? = some ⟨s.toList, sk, ta, nx⟩ ∧
    (w.cell? ⟨b, off + k * 4, none⟩ = some (.string s) ∧ w.cell? ⟨b, off + k * 4 + 1, none⟩ = some (.int .i64 sk) ∧ w.cell? ⟨b, off + k * 4 + 2, none⟩ = some (.int .i64 ta) ∧ w.cell? ⟨b, off + k * 4 + 3, none⟩ = some (.int .i64 nx)) ∧
    s.size ≤ maxLen := by
  obtain ⟨b, off, e, hb, hc⟩ := h.2.2 (by omega)
  have hk' : k < l.length := by rw [h.1]; exact hk
  obtain ⟨s, c, h1, h3⟩ := hc k _ (List.getElem?_eq_getElem hk')
  exact ⟨b, off, s, l[k].sk, l[k].at_, l[k].next, e, hb, by rw [List.getElem?_eq_getElem hk', h1], c, h3⟩
theorem Nodes.keep (h : Nodes w bound a n ts) (hk : ∀ p : Addr, p.block < bound → w'.cell? p = w.cell? p) : Nodes w' bound a n ts :=
  ⟨h.1, h.2.1, fun hn => by
    obtain ⟨b, off, e, hb, hc⟩ := h.2.2 hn
    refine ⟨b, off, e, hb, fun j x hj => ?_⟩
    obtain ⟨s, aa, an, ac, ⟨c0, c1, c2⟩, h1, h2, h3⟩ := hc j x hj
    exact ⟨s, aa, an, ac, ⟨(hk _ hb).trans c0, (hk _ hb).trans c1, (hk _ hb).trans c2⟩, h1, h2, h3.keep hk⟩⟩
theorem Nodes.below (h : Nodes w bound a n ts) (hb : Below bound w w') : Nodes w' bound a n ts := h.keep fun _ hp => hb.cell hp
theorem Nodes.more (h : Nodes w bound a n ts) (hb : bound ≤ bound') : Nodes w bound' a n ts :=
  ⟨h.1, h.2.1, fun hn => by
    obtain ⟨b, off, e, hlt, hc⟩ := h.2.2 hn
    refine ⟨b, off, e, by omega, fun j x hj => ?_⟩
    obtain ⟨s, aa, an, ac, c, h1, h2, h3⟩ := hc j x hj
    exact ⟨s, aa, an, ac, c, h1, h2, h3.more hb⟩⟩
theorem Nodes.zero (w : World) (bound : Nat) (a : Option Addr) : Nodes w bound a 0 [] := ⟨rfl, by omega, fun h => absurd h (Nat.lt_irrefl 0)⟩
theorem Nodes.on {W W' : World} {a : Option Addr} {n : Nat} {ts : List NodeL} (h : Nodes W W.heap.size a n ts) (hb : Below W.heap.size W W') : Nodes W' W'.heap.size a n ts := (h.below hb).more hb.size
theorem Nodes.at_ (h : Nodes w bound a n ts) {k : Nat} (hk : k < n) : ∃ (b off : Nat) (kd : Int) (s : ByteArray) (aa : Option Addr) (an ac : Nat) (l : List EdgeL), a = some ⟨b, off, none⟩ ∧ b < bound ∧ ts[k]? = some ⟨kd, s.toList, l⟩ ∧
    (w.cell? ⟨b, off + k * 3, none⟩ = some (.int .i64 kd) ∧ w.cell? ⟨b, off + k * 3 + 1, none⟩ = some (.string s) ∧ w.cell? ⟨b, off + k * 3 + 2, none⟩ = some (.slice aa an ac)) ∧ s.size ≤ maxLen ∧ Edges w bound aa an l := by
  obtain ⟨b, off, e, hb, hc⟩ := h.2.2 (by omega)
  have hk' : k < ts.length := by rw [h.1]; exact hk
  obtain ⟨s, aa, an, ac, c, h1, h2, h3⟩ := hc k _ (List.getElem?_eq_getElem hk')
  exact ⟨b, off, ts[k].kind, s, aa, an, ac, ts[k].arms, e, hb, by rw [List.getElem?_eq_getElem hk', h1], c, h2, h3⟩
end
end Go.Proofs.Ytgefhgcpnfbigaa
