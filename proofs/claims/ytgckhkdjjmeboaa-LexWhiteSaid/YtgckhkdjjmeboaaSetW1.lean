/-
  Walks of the small functions of package set, of math/bits and of the reference: what each returns; nothing that was there before the call has changed. Conditions: bytes up to 255, the table of math/bits as it is laid.
-/
import Derived.Test.YtgckhkdjjmeboaaSetKit
namespace Go.Proofs.Ytgckhkdjjmeboaa
open Go.RowKit

theorem and64 (x m : Nat) (hm : m < 18446744073709551616) (hx : x < 18446744073709551616) : bits .and .u64 (x : Int) (m : Int) = ((x &&& m : Nat) : Int) := bits_and_u64_nat x m hx hm
theorem stepA (x : Nat) (hx : x < 18446744073709551616) : IntKind.u64.wrap (bits BinOp.and IntKind.u64 ((x : Int) / 2) 6148914691236517205 + bits BinOp.and IntKind.u64 (x : Int) 6148914691236517205) = ((pA x : Nat) : Int) := by
  have e1 := and64 (x / 2) 6148914691236517205 (by decide) (by omega)
  have e2 := and64 x 6148914691236517205 (by decide) hx
  have l1 := Nat.and_le_right (n := x / 2) (m := 6148914691236517205)
  have l2 := Nat.and_le_right (n := x) (m := 6148914691236517205)
  simp only [Int.natCast_ediv] at e1
  rw [show ((x : Int) / 2) = (x : Int) / ((2 : Nat) : Int) from rfl]
  erw [e1, e2]
  rw [IntKind.wrap_u64]
  unfold pA
  omega
theorem pA_lt (x : Nat) : pA x < 18446744073709551616 := by
  have l1 := Nat.and_le_right (n := x / 2) (m := 6148914691236517205)
  have l2 := Nat.and_le_right (n := x) (m := 6148914691236517205)
  unfold pA; omega
theorem stepB (x : Nat) (hx : x < 18446744073709551616) : IntKind.u64.wrap (bits BinOp.and IntKind.u64 ((x : Int) / 4) 3689348814741910323 + bits BinOp.and IntKind.u64 (x : Int) 3689348814741910323) = ((pB x : Nat) : Int) := by
  have e1 := and64 (x / 4) 3689348814741910323 (by decide) (by omega)
  have e2 := and64 x 3689348814741910323 (by decide) hx
  have l1 := Nat.and_le_right (n := x / 4) (m := 3689348814741910323)
  have l2 := Nat.and_le_right (n := x) (m := 3689348814741910323)
  simp only [Int.natCast_ediv] at e1
  rw [show ((x : Int) / 4) = (x : Int) / ((4 : Nat) : Int) from rfl]
  erw [e1, e2]
  rw [IntKind.wrap_u64]
  unfold pB
  omega
theorem pB_lt (x : Nat) : pB x ≤ 7378697629483820646 := by
  have l1 := Nat.and_le_right (n := x / 4) (m := 3689348814741910323)
  have l2 := Nat.and_le_right (n := x) (m := 3689348814741910323)
  unfold pB; omega
theorem stepC (x : Nat) (hx : x ≤ 7378697629483820646) : bits BinOp.and IntKind.u64 (IntKind.u64.wrap ((x : Int) / 16 + (x : Int))) 1085102592571150095 = ((pC x : Nat) : Int) := by
  have e : IntKind.u64.wrap ((x : Int) / 16 + (x : Int)) = ((x / 16 + x : Nat) : Int) := by rw [IntKind.wrap_u64]; omega
  have e1 := and64 (x / 16 + x) 1085102592571150095 (by decide) (by omega)
  rw [e]
  exact e1
theorem stepD (x : Nat) : IntKind.u64.wrap ((x : Int) + (x : Int) / 256) = ((pD x : Nat) : Int) := by rw [IntKind.wrap_u64]; unfold pD; omega
theorem stepE (x : Nat) : IntKind.u64.wrap ((x : Int) + (x : Int) / 65536) = ((pE x : Nat) : Int) := by rw [IntKind.wrap_u64]; unfold pE; omega
theorem stepF (x : Nat) : IntKind.u64.wrap ((x : Int) + (x : Int) / 4294967296) = ((pF x : Nat) : Int) := by rw [IntKind.wrap_u64]; unfold pF; omega

theorem last7 (y : Nat) (hy : y < 18446744073709551616) : bits BinOp.and IntKind.i64 (wrap64 (y : Int)) 127 = ((y % 128 : Nat) : Int) := by
  have h1 : (BitVec.ofInt 64 (wrap64 (y : Int))).toNat = y := by
    rw [BitVec.toNat_ofInt]; unfold wrap64; omega
  have h2 : (BitVec.ofInt 64 (127 : Int)).toNat = 127 := by decide
  show IntKind.i64.wrap ((BitVec.ofInt 64 (wrap64 (y : Int)) &&& BitVec.ofInt 64 127).toNat : Int) = _
  rw [BitVec.toNat_and, h1, h2, show (127 : Nat) = 2 ^ 7 - 1 from rfl, Nat.and_two_pow_sub_one_eq_mod]
  have h3 : y % 2 ^ 7 < 128 := Nat.mod_lt _ (by decide)
  generalize y % 2 ^ 7 = z at h3
  simp [IntKind.wrap, IntKind.bits, IntKind.signed]
  omega

set_option maxHeartbeats 400000 in
theorem not_any (S : Nat → Bool) (w : World) :
    Calls Try.prog 29 #[sv S] w fun e w' => e = .returned (sv fun i => !S i) ∧ Below w.heap.size w w' := by
  have h0 := wd_not S 0
  have h1 := wd_not S 1
  have h2 := wd_not S 2
  have h3 := wd_not S 3
  go_enter Try.func29, Try.ntmps29
  go_wp2
  refine wp_loop_rounds 5 ?_
  iterate 5 (rw [rounds_succ]; go_wp2)
  refine bodyPost_ret (v := sv fun i => !S i) (by simp [results, Try.results29, go_sem]) rfl ⟨rfl, ?_⟩
  exact ((Below.refl _ _).alloc (Nat.le_refl _) _).alloc (by simp) _

theorem has_test (S : Nat → Bool) (x : Nat) : (bits BinOp.and IntKind.u64 (((wd S (x / 64) : Nat) : Int) / 2 ^ (x % 64)) 1 == 1) = S x := by
  have e : (((wd S (x / 64) : Nat) : Int) / 2 ^ (x % 64)) = ((wd S (x / 64) / 2 ^ (x % 64) : Nat) : Int) := by rw [Int.natCast_ediv, Int.natCast_pow]; rfl
  have e2 : bits BinOp.and IntKind.u64 ((wd S (x / 64) / 2 ^ (x % 64) : Nat) : Int) 1 = _ := bits_and_u64_nat (wd S (x / 64) / 2 ^ (x % 64)) 1 (Nat.lt_of_le_of_lt (Nat.div_le_self _ _) (wd_lt _ _)) (by decide)
  rw [e, e2, Nat.and_one_is_mod, has_iff]
  cases S x <;> rfl

end Go.Proofs.Ytgckhkdjjmeboaa
