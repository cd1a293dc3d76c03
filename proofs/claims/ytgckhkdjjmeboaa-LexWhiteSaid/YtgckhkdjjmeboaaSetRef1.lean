/-
  Walks of the reference's power, Has and Make: two to a number, whether a byte is in a set, the set of those that are asked for; nothing that was there before the call has changed. Conditions: numbers up to 63, bytes up to 255, a slice of 256 truth values.
-/
import Derived.Test.YtgckhkdjjmeboaaSetW2
import Derived.Deep.QuietTactic
import Derived.BigQuiet
import Derived.Deep.RegionWith
namespace Go.Proofs.Ytgckhkdjjmeboaa
open Go.RowKit

theorem pow_le (k n : Nat) (h : k ≤ n) (hn : n ≤ 63) : 2 ^ k ≤ 9223372036854775808 := by
  have : 2 ^ k ≤ 2 ^ 63 := Nat.pow_le_pow_right (by decide) (by omega)
  simpa using this

theorem refhas_test (S : Nat → Bool) (x : Nat) : ((IntKind.u64.wrap (((wd S (x / 64) : Nat) : Int) / ((2 ^ (x % 64) : Nat) : Int))).tmod 2 == 1) = S x := by
  have hw : IntKind.u64.wrap ((wd S (x / 64) / 2 ^ (x % 64) : Nat) : Int) = ((wd S (x / 64) / 2 ^ (x % 64) : Nat) : Int) := by
    have := Nat.lt_of_le_of_lt (Nat.div_le_self (wd S (x / 64)) (2 ^ (x % 64))) (wd_lt S (x / 64))
    rw [IntKind.wrap_u64]
    generalize wd S (x / 64) / 2 ^ (x % 64) = d at *
    omega
  rw [← Int.natCast_ediv, hw]
  have e : (((wd S (x / 64) / 2 ^ (x % 64) : Nat) : Int).tmod 2) = ((wd S (x / 64) / 2 ^ (x % 64) % 2 : Nat) : Int) := by
    rw [Int.tmod_eq_emod_of_nonneg (Int.natCast_nonneg _)]; omega
  rw [e, has_iff]
  cases S x <;> rfl

/-- The bytes below b that are asked for. -/
def under (f : Nat → Bool) (b : Nat) : Nat → Bool := fun i => decide (i < b) && f i
theorem under_zero (f : Nat → Bool) : under f 0 = fun _ => false := by funext i; simp [under]
theorem under_snoc_t (f : Nat → Bool) (b : Nat) (h : f b = true) : under f (b + 1) = upd (under f b) b := by
  funext i
  unfold under upd
  rw [Bool.eq_iff_iff]
  simp only [Bool.and_eq_true, Bool.or_eq_true, decide_eq_true_eq, beq_iff_eq]
  constructor
  · rintro ⟨h1, h2⟩
    by_cases e : i = b
    · exact .inr e
    · exact .inl ⟨by omega, h2⟩
  · rintro (⟨h1, h2⟩ | rfl)
    · exact ⟨by omega, h2⟩
    · exact ⟨by omega, h⟩
theorem under_snoc_f (f : Nat → Bool) (b : Nat) (h : f b = false) : under f (b + 1) = under f b := by
  funext i
  unfold under
  by_cases e : i = b
  · subst e; simp [h]
  · have : (i < b + 1) = (i < b) := by apply propext; omega
    simp only [this]
theorem under_self (f : Nat → Bool) (b : Nat) : under f b b = false := by simp [under]

theorem add_walk (S : Nat → Bool) (x : Nat) (h : S x = false) : IntKind.u64.wrap (((wd S (x / 64) : Nat) : Int) + ((2 ^ (x % 64) : Nat) : Int)) = ((wd (upd S x) (x / 64) : Nat) : Int) := by
  have e := wd_upd_add S x (x / 64) rfl h
  have hlt := wd_lt (upd S x) (x / 64)
  rw [e] at hlt ⊢
  rw [IntKind.wrap_u64]
  generalize 2 ^ (x % 64) = d at *
  omega

end Go.Proofs.Ytgckhkdjjmeboaa
