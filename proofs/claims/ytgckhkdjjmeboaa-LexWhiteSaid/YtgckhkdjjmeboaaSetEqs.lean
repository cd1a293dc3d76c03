/-
  When two sets are equal by Go's ==, at any depth. Conditions: none.
-/
import Derived.Test.YtgckhkdjjmeboaaSetKit
namespace Go.Proofs.Ytgckhkdjjmeboaa
open Go.RowKit

/-- Equal below 256. -/
def eqs (S T : Nat → Bool) : Bool := (List.range 256).all fun i => S i == T i
theorem eqs_iff (S T : Nat → Bool) : eqs S T = true ↔ ∀ i, i < 256 → S i = T i := by simp [eqs]
theorem wd_eqs (S T : Nat → Bool) : eqs S T = (wd S 0 == wd T 0 && (wd S 1 == wd T 1 && (wd S 2 == wd T 2 && wd S 3 == wd T 3))) := by
  rw [Bool.eq_iff_iff, eqs_iff]
  simp only [Bool.and_eq_true, beq_iff_eq]
  constructor
  · intro h
    exact ⟨wd_ext fun j hj => h _ (by omega), wd_ext fun j hj => h _ (by omega), wd_ext fun j hj => h _ (by omega), wd_ext fun j hj => h _ (by omega)⟩
  · rintro ⟨h0, h1, h2, h3⟩ i hi
    have := wd_inj (S := S) (T := T) (k := i / 64) (by
      have : i / 64 = 0 ∨ i / 64 = 1 ∨ i / 64 = 2 ∨ i / 64 = 3 := by omega
      rcases this with e | e | e | e <;> rw [e] <;> assumption) (i % 64) (by omega)
    rwa [show 64 * (i / 64) + i % 64 = i by omega] at this
set_option maxRecDepth 100000 in
/-- At any depth. -/
theorem eq_sets_at (d : Nat) (S T : Nat → Bool) (w : World) : (Op.equalIn (d + 2) 28 (sv S) (sv T)).run Try.prog w = .ok (eqs S T) w := by
  have hs : (sizeOf 26).run Try.prog w = .ok 1 w := by kernel_rfl
  have p0 : ∀ S, (part 26 (cells4 S) 0).run Try.prog w = .ok (.int .u64 ((wd S 0 : Nat) : Int)) w := fun S => by kernel_rfl
  have p1 : ∀ S, (part 26 (cells4 S) 1).run Try.prog w = .ok (.int .u64 ((wd S 1 : Nat) : Int)) w := fun S => by kernel_rfl
  have p2 : ∀ S, (part 26 (cells4 S) 2).run Try.prog w = .ok (.int .u64 ((wd S 2 : Nat) : Int)) w := fun S => by kernel_rfl
  have p3 : ∀ S, (part 26 (cells4 S) 3).run Try.prog w = .ok (.int .u64 ((wd S 3 : Nat) : Int)) w := fun S => by kernel_rfl
  have e : ∀ i : Nat, (Op.equalIn (d + 1) 26 (.int .u64 ((wd S i : Nat) : Int)) (.int .u64 ((wd T i : Nat) : Int))).run Try.prog w = .ok (wd S i == wd T i) w := fun i => by
    rw [run_equalIn_int w d 26 .u64 .u64 _ _ Try.underlying26]
    congr 1
    rw [Bool.eq_iff_iff, beq_iff_eq, beq_iff_eq]; omega
  rw [wd_eqs, Op.equalIn]
  simp only [Sem.run_bind, run_underlying Try.underlying28, Result.andThen_ok, hs]
  rw [Std.Legacy.Range.forIn_eq_forIn_range']
  simp [List.range', Std.Legacy.Range.size, Sem.run_bind, p0, p1, p2, p3, e]
  by_cases h0 : wd S 0 = wd T 0 <;> by_cases h1 : wd S 1 = wd T 1 <;> by_cases h2 : wd S 2 = wd T 2 <;> by_cases h3 : wd S 3 = wd T 3 <;> simp [h0, h1, h2, h3]
theorem eq_sets2 (S T : Nat → Bool) (w : World) : (Op.equalIn 10000 28 (sv S) (sv T)).run Try.prog w = .ok (eqs S T) w := eq_sets_at 9998 S T w
end Go.Proofs.Ytgckhkdjjmeboaa
