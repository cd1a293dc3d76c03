/-
  What a row that lists the table of math/bits lays, as the walks ask it; a world in which it lies. Conditions: none.
-/
import Derived.Test.YtgckhkdjjmeboaaDoorCards
import Derived.Test.YtgckhkdjjmeboaaDoorTie
import Derived.Test.YtgckhkdjjmeboaaDoorPost
import Derived.Test.YtgckhkdjjmeboaaDoorSetKit
import Derived.Laws.IdiomArrays
import Derived.Lib.LaidTab
namespace Go.Proofs.YtgckhkdjjmeboaaDoor
open Go.ChangeShapes Go.WideShapes Go.ChangeAt Go.RowKit

theorem gTab : Tryd.prog.globalNamed "math/bits.deBruijn64tab" = some 1 := by kernel_rfl
theorem gTabType : (Tryd.prog.globals[1]?).map (·.type) = some 74 := by kernel_rfl
theorem cellsTab : Tryd.prog.cellsOf 74 = 64 := by kernel_rfl
theorem cellsByte : Tryd.prog.cellsOf 5 = 1 := by kernel_rfl

/-- What the row's list gives: the table's cells. -/
theorem table {W : World} (h : laidMetH Tryd.prog [("math/bits.deBruijn64tab", Rows.laid_math_bits_deBruijn64tab)] W) : Tab W := by
  have ht : Lib.TabIs Tryd.prog W "math/bits.deBruijn64tab" .u8 (Lib.deBruijn64tab.map fun n : Nat => (n : Int)) :=
    Lib.tabIs_of_head (rest := []) gTab gTabType Tryd.underlying74 Tryd.underlying5 cellsByte cellsTab h
  intro j hj
  have := ht.cell gTab j (by simpa using hj)
  rw [this]
  simp [List.getD, List.getElem?_map, List.getElem?_eq_getElem hj]

/-- The settled world, the table in its block. -/
noncomputable def laidWorld (os : Os) : World :=
  { World.holding Tryd.prog os ⟨#[], #[], []⟩ with heap := (World.holding Tryd.prog os ⟨#[], #[], []⟩).heap.modify 1 fun
      | .cells _ t frozen => .cells (Lib.deBruijn64tab.map fun n : Nat => Value.int .u8 (n : Int)).toArray t frozen
      | o => o }
end Go.Proofs.YtgckhkdjjmeboaaDoor
