/-
  The walk of package intern's Compare. Conditions: the numbers lie in memory as slices, at most 1000 of them each.
-/
import Derived.Test.YtbnnfhpphelmfaaInternKit
namespace Go.Proofs.Ytbnnfhpphelmfaa
open Go.RowKit

/-- Which of two numbers is less? -/
def cmpI (x y : Int) : Int := if x < y then -1 else if y < x then 1 else 0
set_option maxRecDepth 100000 in
theorem isnan_any (x : Int) (w : World) : Calls Try.prog 47 #[.int .i64 x] w fun e w' => e = .returned (.bool false) ∧ Below w.heap.size w w' := by
  have e0 : (x != x) = false := by simp
  go_enter Try.func47, Try.ntmps47
  go_wp2
  go_ret
  exact ⟨rfl, Below.refl _ _⟩
set_option maxRecDepth 100000 in
theorem cmpcmp_any (x y : Int) (w : World) : Calls Try.prog 35 #[.int .i64 x, .int .i64 y] w fun e w' => e = .returned (.int .i64 (cmpI x y)) ∧ Below w.heap.size w w' := by
  unfold cmpI
  by_cases h1 : x < y
  · rw [if_pos h1]
    go_enter Try.func35, Try.ntmps35
    go_wp2_with fail
    refine (isnan_any x _).mono ?_
    rintro e w1 ⟨rfl, hb1⟩
    go_wp2_with fail
    refine (isnan_any y _).mono ?_
    rintro e w2 ⟨rfl, hb2⟩
    go_wp2
    go_ret
    exact ⟨rfl, btr hb1 hb2⟩
  · rw [if_neg h1]
    by_cases h2 : y < x
    · rw [if_pos h2]
      go_enter Try.func35, Try.ntmps35
      go_wp2_with fail
      refine (isnan_any x _).mono ?_
      rintro e w1 ⟨rfl, hb1⟩
      go_wp2_with fail
      refine (isnan_any y _).mono ?_
      rintro e w2 ⟨rfl, hb2⟩
      go_wp2
      go_ret
      exact ⟨rfl, btr hb1 hb2⟩
    · rw [if_neg h2]
      go_enter Try.func35, Try.ntmps35
      go_wp2_with fail
      refine (isnan_any x _).mono ?_
      rintro e w1 ⟨rfl, hb1⟩
      go_wp2_with fail
      refine (isnan_any y _).mono ?_
      rintro e w2 ⟨rfl, hb2⟩
      go_wp2
      go_ret
      exact ⟨rfl, btr hb1 hb2⟩

theorem cmpL_stepI (A B : List Int) (j : Nat) (ha : j < A.length) (hb : j < B.length) : cmpL (A.drop j) (B.drop j) = if cmpI (A.getD j 0) (B.getD j 0) = 0 then cmpL (A.drop (j + 1)) (B.drop (j + 1)) else cmpI (A.getD j 0) (B.getD j 0) := by
  rw [cmpL_step A B j ha hb]
  unfold cmpI
  split
  · simp
  · split <;> simp

set_option maxRecDepth 100000 in
theorem slcompare_any (ao bo : Option Addr) (la ca lb cb : Nat) (A B : List Int) (hla : A.length = la) (hlb : B.length = lb) (hm : la ≤ 1000) (hm2 : lb ≤ 1000) (w : World) (hA : IAt w ao A w.heap.size) (hB : IAt w bo B w.heap.size) :
    Calls Try.prog 28 #[.slice ao la ca, .slice bo lb cb] w fun e w' => e = .returned (.int .i64 (cmpL A B)) ∧ Below w.heap.size w w' := by
  have HA := IAt.hid hla hA
  have HB := IAt.hid hlb hB
  have HST := Lib.hid (fun j (h1 : j < la) (h2 : j < lb) => cmpL_stepI A B j (by omega) (by omega))
  have HEN := Lib.hid (fun j (h1 : j ≤ la) (h2 : j ≤ lb) (h : ¬ (j < la ∧ j < lb)) => by
    have := cmpL_end A B j (by omega) (by omega) (by rw [hla, hlb]; exact h)
    rwa [hla, hlb] at this)
  clear hla hlb hA hB
  obtain ⟨r, hr⟩ : ∃ r, cmpL A B = r := ⟨_, rfl⟩
  have H0 := Lib.hid (show cmpL (A.drop 0) (B.drop 0) = r from by rw [List.drop_zero, List.drop_zero]; exact hr)
  rw [hr]
  clear hr
  go_enter Try.func28, Try.ntmps28
  go_wp2
  go_loopw [11] (fun i wr => ∃ j : Nat, j ≤ la ∧ j ≤ lb ∧ i = .int .i64 j ∧ cmpL (A.drop j) (B.drop j) = r ∧ Below w.heap.size w wr)
    (fun i _ => la - (intOf i).toNat)
  case atStart => exact ⟨0, Nat.zero_le _, Nat.zero_le _, rfl, H0.out, Below.refl _ _⟩
  case round =>
    obtain ⟨j, hj1, hj2, rfl, hr, hW⟩ := hrel
    have HR := Lib.hid hr
    clear hr
    have k0 : (0 : Int) ≤ (j : Int) := by omega
    by_cases h1 : j < la
    · have k1 : (j : Int) < (la : Int) := by omega
      obtain ⟨g, off, rfl, hg, hc⟩ := HA.out (by omega)
      have e1 := hc j h1 wr hW
      by_cases h2 : j < lb
      · have k2 : (j : Int) < (lb : Int) := by omega
        have k3 : ¬ (lb : Int) ≤ (j : Int) := by omega
        obtain ⟨g', off', rfl, hg', hc'⟩ := HB.out (by omega)
        have e2 := hc' j h2 wr hW
        have HS := Lib.hid (HST.out j h1 h2)
        clear hc hc' HA HB HST HEN H0
        generalize A.getD j 0 = x at *
        generalize B.getD j 0 = y at *
        have hC := cmpcmp_any x y
        obtain ⟨c, hcc⟩ : ∃ c, cmpI x y = c := ⟨_, rfl⟩
        have HS' := Lib.hid HS.out
        rw [hcc] at hC
        have HCC := Lib.hid hcc
        clear hcc HS
        go_wp2_with fail
        refine (hC _).mono ?_
        rintro e w1 ⟨rfl, hb1⟩
        have hW1 := btr hW hb1
        by_cases c1 : c = 0
        · have d1 : (c != 0) = false := by simp [c1]
          have HF := Lib.hid (show cmpL (A.drop (j + 1)) (B.drop (j + 1)) = r from by rw [← HR.out, HS'.out, HCC.out, if_pos c1])
          have HC1 := Lib.hid c1
          clear c1 e1 e2
          go_wp2
          go_roundw
          case rel => exact ⟨j + 1, by omega, by omega, by go_num, HF.out, hW1⟩
          case measure => simp [intOf]; omega
        · have d1 : (c != 0) = true := by simp [c1]
          have HF := Lib.hid (show c = r from by rw [← HR.out, HS'.out, HCC.out, if_neg c1])
          have HC1 := Lib.hid c1
          clear c1 e1 e2
          go_wp2
          go_ret
          exact ⟨by rw [HF.out]; rfl, hW1⟩
      · obtain rfl : j = lb := by omega
        have k3 : (j : Int) ≤ (j : Int) := by omega
        have HF := Lib.hid (show r = 1 from by rw [← HR.out, HEN.out j hj1 (Nat.le_refl _) (by omega), if_neg (by omega), if_pos h1])
        go_wp2
        go_ret
        exact ⟨by rw [HF.out]; rfl, hW⟩
    · obtain rfl : j = la := by omega
      have k1 : ¬ (j : Int) < (j : Int) := by omega
      by_cases h2 : j < lb
      · have k2 : (j : Int) < (lb : Int) := by omega
        have HF := Lib.hid (show r = -1 from by rw [← HR.out, HEN.out j (Nat.le_refl _) hj2 (by omega), if_pos h2])
        go_wp2
        go_ret
        exact ⟨by rw [HF.out]; rfl, hW⟩
      · have k2 : ¬ (j : Int) < (lb : Int) := by omega
        have HF := Lib.hid (show r = 0 from by rw [← HR.out, HEN.out j (Nat.le_refl _) hj2 (by omega), if_neg h2, if_neg (by omega)])
        go_wp2
        go_ret
        exact ⟨by rw [HF.out]; rfl, hW⟩

set_option maxRecDepth 100000 in
theorem compare_any (ao bo : Option Addr) (la ca lb cb : Nat) (A B : List Int) (hla : A.length = la) (hlb : B.length = lb) (hm : la ≤ 1000) (hm2 : lb ≤ 1000) (w : World) (hA : IAt w ao A w.heap.size) (hB : IAt w bo B w.heap.size) :
    Calls Try.prog 14 #[.slice ao la ca, .slice bo lb cb] w fun e w' => e = .returned (.int .i64 (cmpL A B)) ∧ Below w.heap.size w w' := by
  have HC := Lib.hid (slcompare_any ao bo la ca lb cb A B hla hlb hm hm2 w hA hB)
  clear hA hB hla hlb
  obtain ⟨r, hr⟩ : ∃ r, cmpL A B = r := ⟨_, rfl⟩
  rw [hr] at HC ⊢
  clear hr
  go_enter Try.func14, Try.ntmps14
  go_wp2_with fail
  refine HC.out.mono ?_
  rintro e w1 ⟨rfl, hb1⟩
  go_wp2
  go_ret
  exact ⟨rfl, hb1⟩
end Go.Proofs.Ytbnnfhpphelmfaa
