/-
  How Go's == on two pairs of bytes, and on two sets of bytes, is reckoned. Conditions: none.
-/
import Derived.Test.YtgckhkdjjmeboaaSetKit
namespace Go.Proofs.Ytgckhkdjjmeboaa
open Go.RowKit

theorem eq_sets (S : Nat → Bool) (w : World) : (Op.equalIn 10000 28 (sv S) (sv S)).run Try.prog w = .ok true w := by
  have hs : (sizeOf 26).run Try.prog w = .ok 1 w := by kernel_rfl
  have p0 : (part 26 (cells4 S) 0).run Try.prog w = .ok (.int .u64 ((wd S 0 : Nat) : Int)) w := by kernel_rfl
  have p1 : (part 26 (cells4 S) 1).run Try.prog w = .ok (.int .u64 ((wd S 1 : Nat) : Int)) w := by kernel_rfl
  have p2 : (part 26 (cells4 S) 2).run Try.prog w = .ok (.int .u64 ((wd S 2 : Nat) : Int)) w := by kernel_rfl
  have p3 : (part 26 (cells4 S) 3).run Try.prog w = .ok (.int .u64 ((wd S 3 : Nat) : Int)) w := by kernel_rfl
  have e : ∀ i : Nat, (Op.equalIn 9999 26 (.int .u64 ((wd S i : Nat) : Int)) (.int .u64 ((wd S i : Nat) : Int))).run Try.prog w = .ok true w := fun i => by
    rw [run_equalIn_int w 9998 26 .u64 .u64 _ _ Try.underlying26, beq_self_eq_true]
  rw [show (10000 : Nat) = 9999 + 1 from rfl, Op.equalIn]
  simp only [Sem.run_bind, run_underlying Try.underlying28, Result.andThen_ok, hs]
  rw [Std.Legacy.Range.forIn_eq_forIn_range']
  simp [List.range', Std.Legacy.Range.size, Sem.run_bind, p0, p1, p2, p3, e]

theorem eql_sets (S : Nat → Bool) (w : World) : (binOp .eql 28 (sv S) (sv S)).run Try.prog w = .ok (.bool true) w := by
  rw [run_eql_struct, eq_sets]; rfl
theorem eql_sets_of {S T : Nat → Bool} (h : ∀ i, i < 256 → S i = T i) (w : World) : (binOp .eql 28 (sv S) (sv T)).run Try.prog w = .ok (.bool true) w := by
  rw [sv_ext h]; exact eql_sets T w
theorem guard25 : Try.prog.eqGuardType Try.prog.depth 28 = false := by kernel_rfl
end Go.Proofs.Ytgckhkdjjmeboaa
