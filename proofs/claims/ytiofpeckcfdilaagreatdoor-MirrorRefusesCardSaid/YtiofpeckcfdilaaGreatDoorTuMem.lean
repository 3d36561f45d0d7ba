/- Arms and turns in memory. -/
import Derived.Test.YtiofpeckcfdilaaGreatDoorTmMem
import Derived.Test.YtiofpeckcfdilaaGreatDoorRef2
import Derived.Test.YtiofpeckcfdilaaGreatDoorTuLaws
namespace Go.Proofs.YtiofpeckcfdilaaGreatDoor
open Go.RowKit

/-- The slice with this address and length, however long, reads as these arms; all that is read lies in a block below bound. -/
def Arms (w : World) (bound : Nat) (a : Option Addr) (n : Nat) (l : List ArmL) : Prop :=
  l.length = n ∧ n ≤ 9223372036854775807 ∧ (0 < n → ∃ b off, a = some ⟨b, off, none⟩ ∧ b < bound ∧ ∀ (j : Nat) (x : ArmL), l[j]? = some x → ∃ s u : ByteArray,
    (w.cell? ⟨b, off + j * 4, none⟩ = some (.string s) ∧ w.cell? ⟨b, off + j * 4 + 1, none⟩ = some (.int .i64 x.ck) ∧ w.cell? ⟨b, off + j * 4 + 2, none⟩ = some (.string u) ∧ w.cell? ⟨b, off + j * 4 + 3, none⟩ = some (.int .i64 x.next)) ∧
    (s.toList = x.label ∧ u.toList = x.cn ∧ s.size ≤ maxLen ∧ u.size ≤ maxLen))
/-- The slice with this address and length, however long, reads as these turns. -/
def Turns (w : World) (bound : Nat) (a : Option Addr) (n : Nat) (ts : List TurnL) : Prop :=
  ts.length = n ∧ n ≤ 9223372036854775807 ∧ (0 < n → ∃ b off, a = some ⟨b, off, none⟩ ∧ b < bound ∧ ∀ (j : Nat) (x : TurnL), ts[j]? = some x → ∃ (s : ByteArray) (aa : Option Addr) (an ac : Nat),
    (w.cell? ⟨b, off + j * 3, none⟩ = some (.int .i64 x.kind) ∧ w.cell? ⟨b, off + j * 3 + 1, none⟩ = some (.string s) ∧ w.cell? ⟨b, off + j * 3 + 2, none⟩ = some (.slice aa an ac)) ∧
    (s.toList = x.peer ∧ s.size ≤ maxLen ∧ Arms w bound aa an x.arms))
section
variable {w w' : World} {bound bound' : Nat} {a : Option Addr} {n : Nat} {l : List ArmL} {ts : List TurnL}
theorem Arms.keep (h : Arms w bound a n l) (hk : ∀ p : Addr, p.block < bound → w'.cell? p = w.cell? p) : Arms w' bound a n l :=
  ⟨h.1, h.2.1, fun hn => by
    obtain ⟨b, off, e, hb, hc⟩ := h.2.2 hn
    refine ⟨b, off, e, hb, fun j x hj => ?_⟩
    obtain ⟨s, u, ⟨c0, c1, c2, c3⟩, h1⟩ := hc j x hj
    exact ⟨s, u, ⟨(hk _ hb).trans c0, (hk _ hb).trans c1, (hk _ hb).trans c2, (hk _ hb).trans c3⟩, h1⟩⟩
theorem Arms.below (h : Arms w bound a n l) (hb : Below bound w w') : Arms w' bound a n l := h.keep fun _ hp => hb.cell hp
theorem Arms.more (h : Arms w bound a n l) (hb : bound ≤ bound') : Arms w bound' a n l :=
  ⟨h.1, h.2.1, fun hn => by
    obtain ⟨b, off, e, hlt, hc⟩ := h.2.2 hn
    exact ⟨b, off, e, by omega, hc⟩⟩
theorem Arms.zero (w : World) (bound : Nat) (a : Option Addr) : Arms w bound a 0 [] := ⟨rfl, by omega, fun h => absurd h (Nat.lt_irrefl 0)⟩
theorem Arms.on {W W' : World} {a : Option Addr} {n : Nat} {l : List ArmL} (h : Arms W W.heap.size a n l) (hb : Below W.heap.size W W') : Arms W' W'.heap.size a n l := (h.below hb).more hb.size
theorem Arms.at_ (h : Arms w bound a n l) {k : Nat} (hk : k < n) : ∃ (b off : Nat) (s u : ByteArray) (ck nx : Int), a = some ⟨b, off, none⟩ ∧ b < bound ∧ l[k]? = some ⟨s.toList, ck, u.toList, nx⟩ ∧
    (w.cell? ⟨b, off + k * 4, none⟩ = some (.string s) ∧ w.cell? ⟨b, off + k * 4 + 1, none⟩ = some (.int .i64 ck) ∧ w.cell? ⟨b, off + k * 4 + 2, none⟩ = some (.string u) ∧ w.cell? ⟨b, off + k * 4 + 3, none⟩ = some (.int .i64 nx)) ∧
    s.size ≤ maxLen ∧ u.size ≤ maxLen := by
  obtain ⟨b, off, e, hb, hc⟩ := h.2.2 (by omega)
  have hk' : k < l.length := by rw [h.1]; exact hk
  obtain ⟨s, u, c, h1, h2, h3, h4⟩ := hc k _ (List.getElem?_eq_getElem hk')
  exact ⟨b, off, s, u, l[k].ck, l[k].next, e, hb, by rw [List.getElem?_eq_getElem hk', h1, h2], c, h3, h4⟩
theorem Turns.keep (h : Turns w bound a n ts) (hk : ∀ p : Addr, p.block < bound → w'.cell? p = w.cell? p) : Turns w' bound a n ts :=
  ⟨h.1, h.2.1, fun hn => by
    obtain ⟨b, off, e, hb, hc⟩ := h.2.2 hn
    refine ⟨b, off, e, hb, fun j x hj => ?_⟩
    obtain ⟨s, aa, an, ac, ⟨c0, c1, c2⟩, h1, h2, h3⟩ := hc j x hj
    exact ⟨s, aa, an, ac, ⟨(hk _ hb).trans c0, (hk _ hb).trans c1, (hk _ hb).trans c2⟩, h1, h2, h3.keep hk⟩⟩
theorem Turns.below (h : Turns w bound a n ts) (hb : Below bound w w') : Turns w' bound a n ts := h.keep fun _ hp => hb.cell hp
theorem Turns.more (h : Turns w bound a n ts) (hb : bound ≤ bound') : Turns w bound' a n ts :=
  ⟨h.1, h.2.1, fun hn => by
    obtain ⟨b, off, e, hlt, hc⟩ := h.2.2 hn
    refine ⟨b, off, e, by omega, fun j x hj => ?_⟩
    obtain ⟨s, aa, an, ac, c, h1, h2, h3⟩ := hc j x hj
    exact ⟨s, aa, an, ac, c, h1, h2, h3.more hb⟩⟩
theorem Turns.zero (w : World) (bound : Nat) (a : Option Addr) : Turns w bound a 0 [] := ⟨rfl, by omega, fun h => absurd h (Nat.lt_irrefl 0)⟩
theorem Turns.on {W W' : World} {a : Option Addr} {n : Nat} {ts : List TurnL} (h : Turns W W.heap.size a n ts) (hb : Below W.heap.size W W') : Turns W' W'.heap.size a n ts := (h.below hb).more hb.size
theorem Turns.at_ (h : Turns w bound a n ts) {k : Nat} (hk : k < n) : ∃ (b off : Nat) (kd : Int) (s : ByteArray) (aa : Option Addr) (an ac : Nat) (l : List ArmL), a = some ⟨b, off, none⟩ ∧ b < bound ∧ ts[k]? = some ⟨kd, s.toList, l⟩ ∧
    (w.cell? ⟨b, off + k * 3, none⟩ = some (.int .i64 kd) ∧ w.cell? ⟨b, off + k * 3 + 1, none⟩ = some (.string s) ∧ w.cell? ⟨b, off + k * 3 + 2, none⟩ = some (.slice aa an ac)) ∧ s.size ≤ maxLen ∧ Arms w bound aa an l := by
  obtain ⟨b, off, e, hb, hc⟩ := h.2.2 (by omega)
  have hk' : k < ts.length := by rw [h.1]; exact hk
  obtain ⟨s, aa, an, ac, c, h1, h2, h3⟩ := hc k _ (List.getElem?_eq_getElem hk')
  exact ⟨b, off, ts[k].kind, s, aa, an, ac, ts[k].arms, e, hb, by rw [List.getElem?_eq_getElem hk', h1], c, h2, h3⟩
end
end Go.Proofs.YtiofpeckcfdilaaGreatDoor
