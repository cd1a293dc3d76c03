/-
  The walk of the statement InternOrder: of any three rows it returns true; nothing that was there before the call has changed. Conditions: the numbers lie in memory as slices; sizes up to 2^47.
-/
import Derived.Test.YtbnnfhpphelmfaaInternAwake
namespace Go.Proofs.Ytbnnfhpphelmfaa
open Go.RowKit

set_option maxRecDepth 100000 in
set_option maxHeartbeats 2000000 in
theorem internOrder_walk (ao bo co : Option Addr) (la ca lb cb lc cc : Nat) (A B C : List Int) (hla : A.length = la) (hlb : B.length = lb) (hlc : C.length = lc) (hma : la ≤ 140737488355328) (hmb : lb ≤ 140737488355328) (hmc : lc ≤ 140737488355328) (w : World) (hA : IAt w ao A w.heap.size) (hB : IAt w bo B w.heap.size) (hC : IAt w co C w.heap.size) :
    Calls Try.prog 6 #[.slice ao la ca, .slice bo lb cb, .slice co lc cc] w fun e w' => e = .returned (.bool true) ∧ Below w.heap.size w w' := by
  have w1 : IntKind.i64.wrap ((la : Int) + (lb : Int)) = (la : Int) + (lb : Int) := IntWalk.i64_in _ (by omega)
  have w2 : IntKind.i64.wrap ((la : Int) + (lb : Int) + (lc : Int)) = (la : Int) + (lb : Int) + (lc : Int) := IntWalk.i64_in _ (by omega)
  by_cases hs : la + lb + lc ≤ 300
  · have hsi : ¬ (300 : Int) < (la : Int) + (lb : Int) + (lc : Int) := by omega
    have HA := Lib.hid (fun (W : World) (h : Below w.heap.size w W) => (hA.below h (Nat.le_refl _)).mono h.size)
    have HBB := Lib.hid (fun (W : World) (h : Below w.heap.size w W) => (hB.below h (Nat.le_refl _)).mono h.size)
    have HCC := Lib.hid (fun (W : World) (h : Below w.heap.size w W) => (hC.below h (Nat.le_refl _)).mono h.size)
    have HLA := Lib.hid hla
    have HLB := Lib.hid hlb
    have HLC := Lib.hid hlc
    have hr1 := cmpL_range A B
    have hr2 := cmpL_range B C
    have HN := Lib.hid (cmpL_neg A B)
    have HZ := Lib.hid (cmpL_zero A B)
    have HT := Lib.hid (cmpL_trans A B C)
    have C1 := Lib.hid (fun (W : World) (h : Below w.heap.size w W) => compare_any ao bo la ca lb cb A B hla hlb (by omega) (by omega) W (HA.out W h) (HBB.out W h))
    have C2 := Lib.hid (fun (W : World) (h : Below w.heap.size w W) => compare_any bo co lb cb lc cc B C hlb hlc (by omega) (by omega) W (HBB.out W h) (HCC.out W h))
    have C3 := Lib.hid (fun (W : World) (h : Below w.heap.size w W) => compare_any bo ao lb cb la ca B A hlb hla (by omega) (by omega) W (HBB.out W h) (HA.out W h))
    have C4 := Lib.hid (fun (W : World) (h : Below w.heap.size w W) => compare_any ao co la ca lc cc A C hla hlc (by omega) (by omega) W (HA.out W h) (HCC.out W h))
    have I1 := Lib.hid (fun (W : World) (h : Below w.heap.size w W) => ints2_any ao bo la ca lb cb A B hla hlb (by unfold maxLen; omega) W (HA.out W h) (HBB.out W h))
    rw [HN.out] at C3
    have hd : decide (A = B) = (cmpL A B == 0) := by
      rw [Bool.eq_iff_iff, decide_eq_true_iff, beq_iff_eq]
      exact HZ.out.symm
    rw [hd] at I1
    clear hla hlb hlc hA hB hC hd
    generalize cmpL A B = x at *
    generalize cmpL B C = y at *
    generalize cmpL A C = z at *
    have hw : IntKind.i64.wrap (0 - x) = -x := by rw [Int.zero_sub]; exact IntWalk.i64_in _ (by omega)
    have he1 : ((x == 0) == (x == 0)) = true := beq_self_eq_true _
    have he2 : ((-x) == (-x)) = true := beq_self_eq_true _
    by_cases hx : 0 < x
    · have hxi : (0 : Int) < x := hx
      go_enter Try.func6, Try.ntmps6
      go_wp2_with fail
      refine (C1.out w (Below.refl _ _)).mono ?_
      rintro e v1 ⟨rfl, hb1⟩
      go_wp2_with fail
      refine (C2.out v1 hb1).mono ?_
      rintro e v2 ⟨rfl, hb2⟩
      have hB2 := btr hb1 hb2
      go_wp2_with fail
      refine (awake_intern v2).mono ?_
      rintro e v3 ⟨rfl, hb3⟩
      have hB3 := btr hB2 hb3
      go_wp2_with fail
      refine (I1.out v3 hB3).mono ?_
      rintro e v4 ⟨rfl, hb4⟩
      have hB4 := btr hB3 hb4
      go_wp2_with fail
      refine (C3.out v4 hB4).mono ?_
      rintro e v5 ⟨rfl, hb5⟩
      have hB5 := btr hB4 hb5
      go_wp2
      go_ret
      exact ⟨rfl, hB5⟩
    · by_cases hy : 0 < y
      · have hxi : ¬ (0 : Int) < x := hx
        go_enter Try.func6, Try.ntmps6
        go_wp2_with fail
        refine (C1.out w (Below.refl _ _)).mono ?_
        rintro e v1 ⟨rfl, hb1⟩
        go_wp2_with fail
        refine (C2.out v1 hb1).mono ?_
        rintro e v2 ⟨rfl, hb2⟩
        have hB2 := btr hb1 hb2
        go_wp2_with fail
        refine (awake_intern v2).mono ?_
        rintro e v3 ⟨rfl, hb3⟩
        have hB3 := btr hB2 hb3
        go_wp2_with fail
        refine (I1.out v3 hB3).mono ?_
        rintro e v4 ⟨rfl, hb4⟩
        have hB4 := btr hB3 hb4
        go_wp2_with fail
        refine (C3.out v4 hB4).mono ?_
        rintro e v5 ⟨rfl, hb5⟩
        have hB5 := btr hB4 hb5
        go_wp2
        go_ret
        exact ⟨rfl, hB5⟩
      · have hz : z = if y < x then y else x := by
          rw [HT.out hx hy]
          by_cases h : y < x
          · rw [if_pos h]; omega
          · rw [if_neg h]; omega
        have hze : (z == if y < x then y else x) = true := beq_iff_eq.2 hz
        have hz2 : z = min x y := by rw [hz]; by_cases h : y < x <;> simp [h] <;> omega
        have hze2 : (z == min x y) = true := beq_iff_eq.2 hz2
        clear hz hz2
        go_enter Try.func6, Try.ntmps6
        go_wp2_with fail
        refine (C1.out w (Below.refl _ _)).mono ?_
        rintro e v1 ⟨rfl, hb1⟩
        go_wp2_with fail
        refine (C2.out v1 hb1).mono ?_
        rintro e v2 ⟨rfl, hb2⟩
        have hB2 := btr hb1 hb2
        go_wp2_with fail
        refine (awake_intern v2).mono ?_
        rintro e v3 ⟨rfl, hb3⟩
        have hB3 := btr hB2 hb3
        go_wp2_with fail
        refine (I1.out v3 hB3).mono ?_
        rintro e v4 ⟨rfl, hb4⟩
        have hB4 := btr hB3 hb4
        go_wp2_with fail
        refine (C3.out v4 hB4).mono ?_
        rintro e v5 ⟨rfl, hb5⟩
        have hB5 := btr hB4 hb5
        go_wp2_with fail
        refine (C4.out v5 hB5).mono ?_
        rintro e v6 ⟨rfl, hb6⟩
        have hB6 := btr hB5 hb6
        go_wp2
        all_goals
          go_ret
          exact ⟨rfl, hB6⟩
  · have hsi : (300 : Int) < (la : Int) + (lb : Int) + (lc : Int) := by omega
    go_enter Try.func6, Try.ntmps6
    go_wp2
    go_ret
    exact ⟨rfl, Below.refl _ _⟩
end Go.Proofs.Ytbnnfhpphelmfaa
