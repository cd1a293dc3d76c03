/-
  Walks of package set's Both, Any, Less, Size, next and First: what each returns; nothing that was there before the call has changed. Conditions: the table of math/bits as it is laid.
-/
import Derived.Test.YtgckhkdjjmeboaaSetW1
import Derived.RegionTactic
import Derived.ChangeAlike
import Derived.BigRegion
import Derived.Lib.Hide
namespace Go.Proofs.Ytgckhkdjjmeboaa
open Go.RowKit

set_option maxHeartbeats 800000 in
theorem any_any (S T : Nat → Bool) (w : World) :
    Calls Try.prog 28 #[sv S, sv T] w fun e w' => e = .returned (sv fun i => S i || T i) ∧ Below w.heap.size w w' := by
  have h0 := wd_or S T 0
  have h1 := wd_or S T 1
  have h2 := wd_or S T 2
  have h3 := wd_or S T 3
  go_enter Try.func28, Try.ntmps28
  go_wp2
  refine wp_loop_rounds 5 ?_
  iterate 4 (rw [rounds_succ]; go_wp2; go_region; go_wp2)
  rw [rounds_succ]
  go_wp2
  refine bodyPost_ret (v := sv fun i => S i || T i) (by simp [results, Try.results28, go_sem]) rfl ⟨rfl, ?_⟩
  repeat (first | exact Below.refl _ _ | apply Below.drew | apply bal)

theorem rest_int (S : Nat → Bool) (b : Nat) : (((wd S (b / 64) : Nat) : Int) / 2 ^ (b % 64)) = ((rest S b : Nat) : Int) := by
  unfold rest; rw [Int.natCast_ediv, Int.natCast_pow]; rfl

end Go.Proofs.Ytgckhkdjjmeboaa
