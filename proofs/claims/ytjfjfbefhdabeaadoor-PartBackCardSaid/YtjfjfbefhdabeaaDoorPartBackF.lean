/-
  The walk of the statement PartBack, of any arguments: it returns true; nothing that was there before the call has changed. Conditions: the sets and the numbers lie in memory as slices; the table of math/bits as it is laid.
-/
import Derived.Test.YtjfjfbefhdabeaaDoorPartBackW
namespace Go.Proofs.YtjfjfbefhdabeaaDoor
open Go.RowKit

theorem partBack_walk (ao bo : Option Addr) (len cap n bc : Nat) (L : List (Nat → Bool)) (xs : List Int) (hl : L.length = len) (hn : xs.length = n) (hlen : len ≤ maxLen) (hlen2 : n ≤ maxLen) (w : World) (hT : Tab w) (hS : SAt w ao L w.heap.size) (hX : IAt w bo xs w.heap.size) :
    Calls Tryd.prog 5 #[.slice ao len cap, .slice bo n bc] w fun e w' => e = .returned (.bool true) ∧ Below w.heap.size w w' := by
  unfold maxLen at hlen hlen2
  by_cases h1 : 30 < len
  · have g1 : (30 : Int) < (len : Int) := by omega
    clear hS hX hT hl hn
    go_enter Tryd.func5, Tryd.ntmps5
    go_wp2
    go_ret
    exact ⟨rfl, Below.refl _ _⟩
  · by_cases h2 : 300 < n
    · have g1 : ¬ (30 : Int) < (len : Int) := by omega
      have g2 : (300 : Int) < (n : Int) := by omega
      clear hS hX hT hl hn
      go_enter Tryd.func5, Tryd.ntmps5
      go_wp2
      go_ret
      exact ⟨rfl, Below.refl _ _⟩
    · exact partBack_main ao bo len cap n bc L xs hl hn (by omega) (by omega) w hT hS hX
end Go.Proofs.YtjfjfbefhdabeaaDoor
