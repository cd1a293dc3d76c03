/-
  A row of n numbers in memory, each by its place: read, and one stored anew. Conditions: those that each names.
-/
import Derived.Test.YtbnnfhpphelmfaaSetKit
import Derived.Laws.MakeOwn
namespace Go.Proofs.Ytbnnfhpphelmfaa
open Go.RowKit

/-- A row of n numbers. -/
def nums (q : IntKind) (n : Nat) (f : Nat → Int) : Array Value := (Array.range n).map fun i => Value.int q (f i)
theorem nums_size (q : IntKind) (n : Nat) (f : Nat → Int) : (nums q n f).size = n := by simp [nums]
theorem nums_get (q : IntKind) (n : Nat) (f : Nat → Int) (k : Nat) (hk : k < n) : (nums q n f)[k]? = some (.int q (f k)) := by
  unfold nums
  rw [Array.getElem?_map, Array.getElem?_range]
  simp [hk]
theorem nums_made (q : IntKind) (n : Nat) : madeCells #[Value.int q 0] n = nums q n fun _ => 0 := by
  unfold madeCells nums
  congr 1
  funext i
  show #[Value.int q 0][i % 1]! = _
  rw [Nat.mod_one]
  rfl
theorem nums_ext {q : IntKind} {n : Nat} {f g : Nat → Int} (h : ∀ i, i < n → f i = g i) : nums q n f = nums q n g := by
  apply Array.ext_getElem?
  intro i
  by_cases hi : i < n
  · rw [nums_get _ _ _ _ hi, nums_get _ _ _ _ hi, h i hi]
  · rw [Array.getElem?_eq_none (by rw [nums_size]; omega), Array.getElem?_eq_none (by rw [nums_size]; omega)]
theorem nums_set (q : IntKind) (n : Nat) (f : Nat → Int) (x : Nat) (y : Int) : (nums q n f).setIfInBounds x (.int q y) = nums q n fun i => if i = x then y else f i := by
  apply Array.ext_getElem?
  intro i
  rw [Array.getElem?_setIfInBounds]
  by_cases hi : i < n
  · rw [nums_get _ _ _ _ hi, nums_get _ _ _ _ hi]
    by_cases e : x = i
    · subst e; simp [nums_size, hi]
    · have : ¬ i = x := fun h => e h.symm
      simp [e, this]
  · have h1 : (nums q n f)[i]? = none := Array.getElem?_eq_none (by rw [nums_size]; omega)
    have h2 : (nums q n fun i => if i = x then y else f i)[i]? = none := Array.getElem?_eq_none (by rw [nums_size]; omega)
    rw [h1, h2]
    by_cases e : x = i
    · subst e; simp [nums_size, hi]
    · simp [e]

end Go.Proofs.Ytbnnfhpphelmfaa
