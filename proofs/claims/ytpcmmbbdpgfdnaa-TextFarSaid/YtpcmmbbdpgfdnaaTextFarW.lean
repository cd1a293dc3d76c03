/-
  The walk of the statement TextFar: of any three texts it returns true; nothing that was there before the call has changed. Conditions: sizes up to 2^47.
-/
import Derived.Test.YtpcmmbbdpgfdnaaTextAwake
namespace Go.Proofs.Ytpcmmbbdpgfdnaa
open Go.RowKit

set_option maxRecDepth 100000 in
set_option maxHeartbeats 1000000 in
theorem textFar_walk (a b c : ByteArray) (ha : a.size ≤ 140737488355328) (hb : b.size ≤ 140737488355328) (hc : c.size ≤ 140737488355328) (w : World) :
    Calls Try.prog 5 #[.string a, .string b, .string c] w fun e w' => e = .returned (.bool true) ∧ Below w.heap.size w w' := by
  have w1 : IntKind.i64.wrap ((a.size : Int) + (b.size : Int)) = (a.size : Int) + (b.size : Int) := IntWalk.i64_in _ (by omega)
  have w2 : IntKind.i64.wrap ((a.size : Int) + (b.size : Int) + (c.size : Int)) = (a.size : Int) + (b.size : Int) + (c.size : Int) := IntWalk.i64_in _ (by omega)
  by_cases hs : a.size + b.size + c.size ≤ 900
  · have hsi : ¬ (900 : Int) < (a.size : Int) + (b.size : Int) + (c.size : Int) := by omega
    have F1 := Lib.hid (far_any a b (by omega) (by omega))
    have F2 := Lib.hid (far_any b a (by omega) (by omega))
    have F3 := Lib.hid (far_any a c (by omega) (by omega))
    have F4 := Lib.hid (far_any c b (by omega) (by omega))
    rw [farN_symm (bl b) (bl a)] at F2
    have h3 := farN_three (bl a) (bl b) (bl c)
    have hz : (((farN (bl a) (bl b) : Nat) : Int) == 0) = (a.toList == b.toList) := by
      rw [eq_bl, Bool.eq_iff_iff, beq_iff_eq, decide_eq_true_iff, ← farN_zero]; omega
    have u1 : farN (bl a) (bl c) ≤ a.size + c.size := by unfold farN; rw [bl_length, bl_length]; omega
    have u2 : farN (bl c) (bl b) ≤ c.size + b.size := by unfold farN; rw [bl_length, bl_length]; omega
    generalize farN (bl a) (bl b) = n at *
    generalize farN (bl a) (bl c) = m at *
    generalize farN (bl c) (bl b) = k at *
    have w3 : IntKind.i64.wrap ((m : Int) + (k : Int)) = (m : Int) + (k : Int) := IntWalk.i64_in _ (by omega)
    have hle : (n : Int) ≤ (m : Int) + (k : Int) := by omega
    obtain ⟨t, ht⟩ : ∃ t, (a.toList == b.toList) = t := ⟨_, rfl⟩
    rw [ht] at hz
    have htt : (t == t) = true := beq_self_eq_true t
    clear h3 u1 u2
    go_enter Try.func5, Try.ntmps5
    go_wp2_with fail
    refine (F1.out w).mono ?_
    rintro e x1 ⟨rfl, hb1⟩
    go_wp2_with fail
    refine (awake_text x1).mono ?_
    rintro e x2 ⟨rfl, hb2⟩
    have hB2 := btr hb1 hb2
    clear hb1 hb2
    go_wp2_with fail
    refine (F2.out x2).mono ?_
    rintro e x3 ⟨rfl, hb3⟩
    have hB3 := btr hB2 hb3
    clear hB2 hb3
    go_wp2_with fail
    refine (F3.out x3).mono ?_
    rintro e x4 ⟨rfl, hb4⟩
    have hB4 := btr hB3 hb4
    clear hB3 hb4
    go_wp2_with fail
    refine (F4.out x4).mono ?_
    rintro e x5 ⟨rfl, hb5⟩
    have hB5 := btr hB4 hb5
    clear hB4 hb5
    go_wp2
    go_ret
    exact ⟨rfl, hB5⟩
  · have hsi : (900 : Int) < (a.size : Int) + (b.size : Int) + (c.size : Int) := by omega
    go_enter Try.func5, Try.ntmps5
    go_wp2
    go_ret
    exact ⟨rfl, Below.refl _ _⟩
end Go.Proofs.Ytpcmmbbdpgfdnaa
