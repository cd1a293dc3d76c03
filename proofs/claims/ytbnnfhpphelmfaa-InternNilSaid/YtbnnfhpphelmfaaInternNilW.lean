/-
  The walk of the statement InternNil: of any row and number it returns true; nothing that was there before the call has changed. Conditions: none.
-/
import Derived.Test.YtbnnfhpphelmfaaInternAwake
namespace Go.Proofs.Ytbnnfhpphelmfaa
open Go.RowKit

set_option maxRecDepth 100000 in
set_option maxHeartbeats 1000000 in
theorem internNil_walk (v u : Value) (w : World) :
    Calls Try.prog 8 #[v, u] w fun e w' => e = .returned (.bool true) ∧ Below w.heap.size w w' := by
  go_enter Try.func8, Try.ntmps8
  go_wp2_with fail
  refine (put_nil v w).mono ?_
  rintro e w1 ⟨rfl, hb1⟩
  go_wp2_with fail
  refine (find_nil v w1).mono ?_
  rintro e w2 ⟨rfl, hb2⟩
  have hB2 := btr hb1 hb2
  go_wp2_with fail
  refine (row_nil u w2).mono ?_
  rintro e w3 ⟨⟨so, sc, rfl⟩, hb3⟩
  have hB3 := btr hB2 hb3
  go_wp2_with fail
  refine (awake_intern w3).mono ?_
  rintro e w4 ⟨rfl, hb4⟩
  have hB4 := btr hB3 hb4
  go_wp2_with fail
  refine (size_nil w4).mono ?_
  rintro e w5 ⟨rfl, hb5⟩
  have hB5 := btr hB4 hb5
  go_wp2
  go_ret
  exact ⟨rfl, hB5⟩
end Go.Proofs.Ytbnnfhpphelmfaa
