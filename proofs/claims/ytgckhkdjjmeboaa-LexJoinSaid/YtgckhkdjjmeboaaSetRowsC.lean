/-
  The walk of package set's Rows (a range over the iterator rows): it returns a new slice that holds the rows of the set, one after the other; nothing that was there before the call has changed. Conditions: the table of math/bits as it is laid.
-/
import Derived.Test.YtgckhkdjjmeboaaSetRowsW
namespace Go.Proofs.Ytgckhkdjjmeboaa
open Go.RowKit Go.Shelf
attribute [local go_sem] Oper.semAt_some

/-- The cells of a row of pairs of bytes. -/
def pairCells : List (Nat × Nat) → List Value
  | [] => []
  | x :: r => .int .u8 (x.1 : Int) :: .int .u8 (x.2 : Int) :: pairCells r
theorem pairCells_append (a b : List (Nat × Nat)) : pairCells (a ++ b) = pairCells a ++ pairCells b := by
  induction a with
  | nil => rfl
  | cons x r ih => simp [pairCells, ih]

theorem blk_own {β : Type} (B : Nat) (t : TypeId) (f : β → Array Value) : Own (fun s W => Blk W B t (f s)) := by
  intro s X Y row hs hg hrow
  refine (hg.block B hs.lt (fun e => ?_)).trans hs
  obtain ⟨o, ho, hc⟩ := hrow B e.symm
  rw [show X.heap[B]? = _ from hs] at ho; cases ho; cases hc

theorem Blk.not_row {W : World} {B : Nat} {t e : TypeId} {vs : Array Value} (h : Blk W B t vs) (hte : t ≠ e) {base size k : Nat} {v : Value} {xs : List Value} (hr : W.ownsRow base e size v k xs) : some B ≠ v.ownBlock := by
  rcases hr.2 with ⟨rfl, _⟩ | ⟨g, cap, cur, rfl, _, hgb, _⟩
  · simp [Value.ownBlock]
  · intro e'
    obtain rfl : B = g := by simpa [Value.ownBlock] using e'
    have := (show W.heap[B]? = _ from h).symm.trans hgb
    simp at this
    exact hte this.2

end Go.Proofs.Ytgckhkdjjmeboaa
