/-
  The walk of the reference's Rows: the rows of a set in a new slice; nothing that was there before the call has changed. Conditions: none.
-/
import Derived.Test.YtgckhkdjjmeboaaSetRef3
import Derived.Test.YtgckhkdjjmeboaaSetRowsC
import Derived.Test.YtgckhkdjjmeboaaSetPairs
import Derived.Deep.RegionLaw
namespace Go.Proofs.Ytgckhkdjjmeboaa
open Go.RowKit

/-- An append to a row of the call's own, as one step of a region that draws its order. -/
theorem step_append_own {P : Program} {ops : Array Oper} {o : Oper} {a : Act} {w : World} {K : Act → World → Prop} {Q : Exit → Act → World → Prop} {E : Prop}
    (hg : o.guard = none) (s x : Operand) (t : TypeId) (hop : o.op = Op.call { callee := Callee.builtin Builtin.append, args := #[s, x], argTypes := #[t, t] })
    (base : Nat) (e : TypeId) (i : TypeInfo) (z : Value) (size bytes : Nat) (h1 : P.underlying t = some (.slice e)) (h2 : P.info? e = some i) (h3 : i.zero = some z) (h4 : i.size = size) (h5 : i.bytes = bytes) (h6 : z.cells.size = size) (h7 : 0 < size)
    (v : Value) (k : Nat) (xs : List Value) (hs : a.eval s = v) (hown : w.ownsRow base e size v k xs) (ad : Addr) (m c : Nat) (news : List Value) (hx : a.eval x = .slice (some ad) m c) (hn : news.length = m * size)
    (hc : ∀ j u, news[j]? = some u → w.cell? (ad.add j) = some u) (h1c : ∀ u ∈ news, u.oneCell' = true) (b1 : k + m ≤ maxLen) (b2 : (k + m) * bytes ≤ 140737488355328) (b3 : base ≤ w.heap.size)
    (hK : ∀ v' w', w'.ownsRow base e size v' (k + m) (xs ++ news) → w.grownBy w' v.ownBlock → K (a.put o.dst v') w') :
    if Region.wanted o (yielded ops a.tmps) = true then Oper.wp P o a w K Q else E := by
  have hw : Region.wanted o (yielded ops a.tmps) = true := by simp [Region.wanted, hg]
  rw [if_pos hw]
  obtain ⟨v', w', hrun, r1, r2, _⟩ := run_append_own (P := P) w base t o.type e i z size bytes h1 h2 h3 h4 h5 h6 h7 v k xs hown ad m c news hn hc h1c b1 b2 b3
  have := hK v' w' r1 r2
  unfold Oper.wp
  simp [execOp, hop, resolve, invoke, builtin, hs, hx, hrun, Result.andThen]
  exact this

/-- The slice of bytes, read: its block lies below a bound. -/
def BAt (W : World) (ao : Option Addr) (l : List Nat) (base : Nat) : Prop :=
  0 < l.length → ∃ g, ao = some ⟨g, 0, none⟩ ∧ g < base ∧ ∀ i, i < l.length → W.cell? ⟨g, i, none⟩ = some (.int .u8 ((l.getD i 0 : Nat) : Int))
theorem BAt.below {W W' : World} {ao : Option Addr} {l : List Nat} {base : Nat} (h : BAt W ao l base) (hb : Below base W W') : BAt W' ao l base := by
  intro hp
  obtain ⟨g, hg, hlt, hc⟩ := h hp
  exact ⟨g, hg, hlt, fun i hi => (hb.cell (p := ⟨g, _, none⟩) hlt).trans (hc i hi)⟩

end Go.Proofs.Ytgckhkdjjmeboaa
