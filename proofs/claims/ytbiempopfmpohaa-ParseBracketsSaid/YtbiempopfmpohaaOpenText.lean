/-
  A text as an argument. Conditions: none but those that each names.
-/
import Derived.Test.YtbiempopfmpohaaPost
import Derived.ChangeMaps5
namespace Go.Proofs.Ytbiempopfmpohaa
open Go.ChangeShapes Go.WideShapes Go.ChangeAt Go.RowKit

set_option maxRecDepth 100000 in
theorem open_text {H : Type} {enc : TypeId × Value → H} {W : World} {base : Nat} {v : Value} {d : DataW H} {ps : List MemPlace} {sp : Nat → Bool} {held : Bool} {b0 : Nat}
    (hval : Value.okWide Try.prog W .any base 9 v) (h : DataW.Trod enc Try.prog W b0 sp held 9 v d ps) : ∃ s : ByteArray, v = .string s ∧ d = .lit (.string s.data.toList) := by
  obtain ⟨s, h1, h2, _, _⟩ := ChangeMaps.open_string Try.underlying9 hval h
  exact ⟨s, h1, h2⟩
/-- .. and its size, out of the row's reach. -/
theorem text_size {H : Type} {P : Program} {ts : List TypeId} {ds : List (DataW H)} (hz : (DataW.weightsEach P ts ds).all (· ≤ reachBytes) = true) (j : Nat) {t : TypeId} {s : ByteArray} (ht : ts[j]? = some t) (hd : ds[j]? = some (.lit (.string s.data.toList))) : s.size ≤ 140737488355328 := by
  have := sized_string hz ht hd
  rw [Array.length_toList] at this
  exact Nat.le_trans this (by decide)
end Go.Proofs.Ytbiempopfmpohaa
