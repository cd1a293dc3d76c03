/-
  How Go's == on two pairs of bytes, and on two sets of bytes, is reckoned. Conditions: none.
-/
import Derived.Test.YtgckhkdjjmeboaaDoorSetKit
namespace Go.Proofs.YtgckhkdjjmeboaaDoor
open Go.RowKit

theorem eq_arr44 (a b c d : Int) (k : Nat) (w : World) : (Op.equalIn (k + 2) 47 (.agg #[.int .u8 a, .int .u8 b]) (.agg #[.int .u8 c, .int .u8 d])).run Tryd.prog w = .ok (a == c && b == d) w := by
  have hs : (sizeOf 5).run Tryd.prog w = .ok 1 w := by kernel_rfl
  have p0 : (part 5 #[.int .u8 a, .int .u8 b] 0).run Tryd.prog w = .ok (.int .u8 a) w := by kernel_rfl
  have p1 : (part 5 #[.int .u8 a, .int .u8 b] 1).run Tryd.prog w = .ok (.int .u8 b) w := by kernel_rfl
  have q0 : (part 5 #[.int .u8 c, .int .u8 d] 0).run Tryd.prog w = .ok (.int .u8 c) w := by kernel_rfl
  have q1 : (part 5 #[.int .u8 c, .int .u8 d] 1).run Tryd.prog w = .ok (.int .u8 d) w := by kernel_rfl
  have e0 : (Op.equalIn (k + 1) 5 (.int .u8 a) (.int .u8 c)).run Tryd.prog w = .ok (a == c) w := run_equalIn_int w k 5 .u8 .u8 a c Tryd.underlying5
  have e1 : (Op.equalIn (k + 1) 5 (.int .u8 b) (.int .u8 d)).run Tryd.prog w = .ok (b == d) w := run_equalIn_int w k 5 .u8 .u8 b d Tryd.underlying5
  rw [Op.equalIn]
  simp only [Sem.run_bind, run_underlying Tryd.underlying47, Result.andThen_ok, hs]
  rw [Std.Legacy.Range.forIn_eq_forIn_range']
  simp [List.range', Std.Legacy.Range.size, Sem.run_bind, p0, p1, q0, q1, e0, e1]
  by_cases h1 : a = c <;> by_cases h2 : b = d <;> simp [h1, h2]

theorem eq_pair (x y : Nat × Nat) (w : World) : (Op.equalIn 10000 47 (.agg #[.int .u8 (x.1 : Int), .int .u8 (x.2 : Int)]) (.agg #[.int .u8 (y.1 : Int), .int .u8 (y.2 : Int)])).run Tryd.prog w = .ok (decide (x = y)) w := by
  rw [eq_arr44 _ _ _ _ 9998]
  congr 1
  rw [Bool.eq_iff_iff]
  obtain ⟨a, b⟩ := x
  obtain ⟨c, d⟩ := y
  simp
  omega

theorem eq_sets (S : Nat → Bool) (w : World) : (Op.equalIn 10000 24 (sv S) (sv S)).run Tryd.prog w = .ok true w := by
  have hs : (sizeOf 22).run Tryd.prog w = .ok 1 w := by kernel_rfl
  have p0 : (part 22 (cells4 S) 0).run Tryd.prog w = .ok (.int .u64 ((wd S 0 : Nat) : Int)) w := by kernel_rfl
  have p1 : (part 22 (cells4 S) 1).run Tryd.prog w = .ok (.int .u64 ((wd S 1 : Nat) : Int)) w := by kernel_rfl
  have p2 : (part 22 (cells4 S) 2).run Tryd.prog w = .ok (.int .u64 ((wd S 2 : Nat) : Int)) w := by kernel_rfl
  have p3 : (part 22 (cells4 S) 3).run Tryd.prog w = .ok (.int .u64 ((wd S 3 : Nat) : Int)) w := by kernel_rfl
  have e : ∀ i : Nat, (Op.equalIn 9999 22 (.int .u64 ((wd S i : Nat) : Int)) (.int .u64 ((wd S i : Nat) : Int))).run Tryd.prog w = .ok true w := fun i => by
    rw [run_equalIn_int w 9998 22 .u64 .u64 _ _ Tryd.underlying22, beq_self_eq_true]
  rw [show (10000 : Nat) = 9999 + 1 from rfl, Op.equalIn]
  simp only [Sem.run_bind, run_underlying Tryd.underlying24, Result.andThen_ok, hs]
  rw [Std.Legacy.Range.forIn_eq_forIn_range']
  simp [List.range', Std.Legacy.Range.size, Sem.run_bind, p0, p1, p2, p3, e]

theorem eql_sets (S : Nat → Bool) (w : World) : (binOp .eql 24 (sv S) (sv S)).run Tryd.prog w = .ok (.bool true) w := by
  rw [run_eql_struct, eq_sets]; rfl
theorem eql_sets_of {S T : Nat → Bool} (h : ∀ i, i < 256 → S i = T i) (w : World) : (binOp .eql 24 (sv S) (sv T)).run Tryd.prog w = .ok (.bool true) w := by
  rw [sv_ext h]; exact eql_sets T w
theorem guard44 : Tryd.prog.eqGuardType Tryd.prog.depth 47 = false := by kernel_rfl
theorem guard25 : Tryd.prog.eqGuardType Tryd.prog.depth 24 = false := by kernel_rfl
theorem eq_pair_t {x y : Nat × Nat} (h : x = y) (w : World) : (Op.equalIn 10000 47 (.agg #[.int .u8 (x.1 : Int), .int .u8 (x.2 : Int)]) (.agg #[.int .u8 (y.1 : Int), .int .u8 (y.2 : Int)])).run Tryd.prog w = .ok true w := by rw [eq_pair, decide_eq_true h]
theorem eq_pair_f {x y : Nat × Nat} (h : ¬ x = y) (w : World) : (Op.equalIn 10000 47 (.agg #[.int .u8 (x.1 : Int), .int .u8 (x.2 : Int)]) (.agg #[.int .u8 (y.1 : Int), .int .u8 (y.2 : Int)])).run Tryd.prog w = .ok false w := by rw [eq_pair, decide_eq_false h]
end Go.Proofs.YtgckhkdjjmeboaaDoor
