/-
  Maps from texts to numbers that a call has made: looked up, kept. Conditions: those that each names.
-/
import Derived.Test.YtbnnfhpphelmfaaSetKit
import Derived.Maps.OwnSet
import Derived.Maps.OwnOps
import Derived.Maps.Views
import Derived.Laws.OwnMore
namespace Go.Proofs.Ytbnnfhpphelmfaa
open Go.RowKit Go.Maps

theorem law_str : Keyed Try.prog 9 := string_keyed Try.underlying9
theorem zero_int (w : World) : (zeroValue 3).run Try.prog w = .ok (.int .i64 0) w := by kernel_rfl

/-- A look-up of which is known what it gives. -/
theorem lookup_known {H : Type} {P : Program} (w : World) {ops : Array Oper} {rest : List Oper} {o : Oper} {a : Act} {Q : Exit → Act → World → Prop} (hg : o.guard = none) (m x : Operand) (t : TypeId) (hop : o.op = Op.lookup t m x true)
    (k e : TypeId) (q : IntKind) (K : Keyed P k) (ht : P.underlying t = some (.map k e)) (he : P.underlying e = some (.int q)) (hz : (zeroValue e).run P w = .ok (.int q 0) w) (b n : Nat) (D : DataW H)
    (hm : a.eval m = .map (some b)) (hown : w.ownsMap P k (plainElem P e) b n D) (key : Value) (kl : Lit) (hx : a.eval x = key) (hkey : keyOf P k key = some kl)
    (c : Int) (h : Bool) (hc : D.atKey kl (.lit (.int q 0)) = .lit (.int q c)) (hh : Maps.has D kl = h)
    (hK : wpList P ops Q rest (a.put o.dst (.tuple #[.int q c, .bool h])) w) :
    wpList P ops Q (o :: rest) a w :=
  wpList_lookup_own_ok_int w hg m x t hop k e q K ht he hz b n D hm hown key kl hx hkey fun c' h' _ => by
    rw [hc] at h'
    cases h'
    rw [hh]
    exact hK

/-- The map's block is no row's. -/
theorem map_row {H : Type} {w : World} {R : Value → Option (DataW H × List MemPlace)} {k e : TypeId} {base b n m size : Nat} {D : DataW H} {v : Value} {xs : List Value} (h : w.ownsMap Try.prog k R b n D) (hr : w.ownsRow base e size v m xs) : some b ≠ v.ownBlock := by
  obtain ⟨es, clock, hb, _⟩ := h
  rcases hr.2 with ⟨rfl, _⟩ | ⟨g, cap, cur, rfl, _, hg, _⟩
  · simp [Value.ownBlock]
  · intro e'
    obtain rfl : b = g := by simpa [Value.ownBlock] using e'
    rw [hb] at hg; cases hg
theorem ownsMap_belowN {H : Type} {w w' : World} {R : Value → Option (DataW H × List MemPlace)} {k : TypeId} {b n m : Nat} {D : DataW H} (h : w.ownsMap Try.prog k R b n D) (hb : Below m w w') (hm : b < m) : w'.ownsMap Try.prog k R b n D := by
  obtain ⟨es, clock, hh, r⟩ := h
  exact ⟨es, clock, (hb.block b hm).trans hh, r⟩
theorem ownsMap_below {H : Type} {w w' : World} {R : Value → Option (DataW H × List MemPlace)} {k : TypeId} {b n : Nat} {D : DataW H} (h : w.ownsMap Try.prog k R b n D) (hb : Below w.heap.size w w') : w'.ownsMap Try.prog k R b n D := by
  have hl := h.lt
  obtain ⟨es, clock, hh, r⟩ := h
  exact ⟨es, clock, (hb.block b hl).trans hh, r⟩
end Go.Proofs.Ytbnnfhpphelmfaa
