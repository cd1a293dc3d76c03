/-
  A region that draws its order, whose operations give the same values in every world in which nothing that was there has changed: walked once. Conditions: those that each names.
-/
import Derived.Test.YtgckhkdjjmeboaaSetKit
import Derived.BigQuiet
namespace Go.Proofs.Ytgckhkdjjmeboaa
open Go.RowKit

/-- A world in which nothing that was there in w0 has changed. -/
structure Past (w0 : World) where
  w : World
  h : Below w0.heap.size w0 w
instance (w0 : World) : Nonempty (Past w0) := ⟨⟨w0, Below.refl _ _⟩⟩
/-- A region that draws its order, whose operations give the same values in every such world: walked once, in the order of the text. -/
theorem wp_region_past {P : Program} {id : Nat} {Q : Exit → Act → World → Prop} {a : Act} {w0 w : World} {l : List Oper} (hm : P.follows .mixedOrders = true) (hB : Region.lexB .any l.toArray = true) (hC : Below w0.heap.size w0 w)
    (h : wpQuiet P l.toArray (fun w' => ∃ p : Past w0, w' = p.w) (fun a' => ∀ p : Past w0, Q .normal a' p.w) l a) : (Code.region id l.toArray true).wp P Q a w := by
  refine wp_region_quiet (C := fun w' => ∃ p : Past w0, w' = p.w) hm hB ⟨⟨w.drew, hC.drew⟩, rfl⟩ ?_
  have e : (fun a' => ∀ w' : World, (∃ p : Past w0, w' = p.w) → Q .normal a' w') = fun a' => ∀ p : Past w0, Q .normal a' p.w := by
    funext a'
    exact propext ⟨fun h p => h p.w ⟨p, rfl⟩, fun h w' ⟨p, hp⟩ => hp ▸ h p⟩
  rw [e]
  exact h
theorem Calls.past {P : Program} {f : FuncId} {args : Array Value} {v : Value} {w0 : World} {p : Past w0} (h : Calls P f args p.w fun e w' => e = .returned v ∧ Below p.w.heap.size p.w w') :
    Calls P f args p.w fun e w' => e = .returned v ∧ ∃ q : Past w0, w' = q.w :=
  h.mono fun _ w' ⟨he, hb⟩ => ⟨he, ⟨w', btr p.h hb⟩, rfl⟩
end Go.Proofs.Ytgckhkdjjmeboaa
