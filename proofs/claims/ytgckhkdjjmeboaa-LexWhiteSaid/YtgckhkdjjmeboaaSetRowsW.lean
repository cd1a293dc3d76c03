/-
  Walks of package set's rows (an iterator) and Rows (a range over it): Rows returns a new slice that holds the rows of the set, one after the other; nothing that was there before the call has changed. Conditions: the table of math/bits as it is laid.
-/
import Derived.RangeFuncNested
import Derived.RangeFuncBound
import Derived.RangeFuncCalls
import Derived.RangeFuncLeaves
import Derived.RangeFuncBox
import Derived.Shelf.Abstract
import Derived.Shelf.RegionOpen
import Derived.OwnWalkIn
import Derived.TacticsInMore
import Derived.LoopNIn
import Derived.LoopIn
import Derived.Maps.AppendAt
import Derived.Test.YtgckhkdjjmeboaaSetW2
import Derived.Test.YtgckhkdjjmeboaaSetRowsPlain
namespace Go.Proofs.Ytgckhkdjjmeboaa
open Go.RowKit Go.Shelf
attribute [local go_sem] Oper.semAt_some

theorem grown_of_below {W W' : World} (h : Below W.heap.size W W') : W.grownBy W' none := ⟨h.os, h.tape, h.output, h.size, fun k hk _ => h.block k hk⟩

theorem not_to (S : Nat → Bool) (w : World) :
    Calls Try.prog 29 #[sv S] w fun e w' => e = .returned (sv (neg S)) ∧ Below w.heap.size w w' := not_any S w

/-- Blocks of sets lie as they lay. -/
def KeepSets (W W' : World) : Prop := ∀ B vs, Blk W B 28 vs → Blk W' B 28 vs
def Kp (n₀ : Nat) (W W' : World) : Prop := KeepSets W W' ∧ Below n₀ W W'
theorem Kp.t {n₀ : Nat} {A B C : World} (h : Kp n₀ A B) (k : Kp n₀ B C) : Kp n₀ A C := ⟨fun b vs hb => k.1 b vs (h.1 b vs hb), h.2.trans k.2⟩
theorem Kp.b {n₀ : Nat} {w : World} (hn : n₀ ≤ w.heap.size) (W : World) (l : Nat) (o o' : Obj) (hl : w.heap.size ≤ l) (h : W.heap[l]? = some o) (hc : o.isCells = false) (hw : o.isWalk = false) : Kp n₀ W (W.putObj l o') := by
  refine ⟨fun b vs hb => ?_, belowK_b hn W l o o' hl h hc hw⟩
  have hne : b ≠ l := by
    rintro rfl
    rw [show W.heap[b]? = _ from hb] at h
    cases h; cases hc
  exact ((grownBy_putObj' W l o').block b hb.lt (by simpa using hne)).trans hb

def encs (x : Nat × Nat) : Array Value := #[.agg #[.int .u8 (x.1 : Int), .int .u8 (x.2 : Int)]]

end Go.Proofs.Ytgckhkdjjmeboaa
