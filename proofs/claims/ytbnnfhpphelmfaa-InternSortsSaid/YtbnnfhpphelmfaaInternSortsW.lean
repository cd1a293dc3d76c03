/-
  The walk of the statement InternSorts: of any two rows it returns true; nothing that was there before the call has changed. Conditions: the numbers lie in memory as slices.
-/
import Derived.Test.YtbnnfhpphelmfaaInternAwake
namespace Go.Proofs.Ytbnnfhpphelmfaa
open Go.RowKit

set_option maxRecDepth 100000 in
set_option maxHeartbeats 1000000 in
theorem internSorts_walk (ao bo : Option Addr) (la ca lb cb : Nat) (A B : List Int) (hla : A.length = la) (hlb : B.length = lb) (w : World) (hA : IAt w ao A w.heap.size) (hB : IAt w bo B w.heap.size) :
    Calls Try.prog 3 #[.slice ao la ca, .slice bo lb cb] w fun e w' => e = .returned (.bool true) ∧ Below w.heap.size w w' := by
  by_cases h1 : la ≤ 200
  · by_cases h2 : lb ≤ 200
    · have g1 : ¬ (200 : Int) < (la : Int) := by omega
      have g2 : ¬ (200 : Int) < (lb : Int) := by omega
      have HA := Lib.hid (fun (W : World) (h : Below w.heap.size w W) => (hA.below h (Nat.le_refl _)).mono h.size)
      have HBB := Lib.hid (fun (W : World) (h : Below w.heap.size w W) => (hB.below h (Nat.le_refl _)).mono h.size)
      have HLA := Lib.hid hla
      have HLB := Lib.hid hlb
      have hsl := srt_length A
      have HO := Lib.hid (ownints_any ao la ca A hla (by omega) w hA)
      clear hla hlb hA hB
      go_enter Try.func3, Try.ntmps3
      go_wp2_with fail
      refine HO.out.mono ?_
      rintro e w1 ⟨v, rfl, hown, hb1⟩
      have hla2 := HLA.out
      subst hla2
      obtain ⟨xo, xc, rfl, _, _, hx⟩ := IAt.of_owns hown
      have HX1 := Lib.hid hx
      clear hown hx
      go_wp2_with fail
      refine (awake_intern w1).mono ?_
      rintro e w2 ⟨rfl, hb2⟩
      have hB2 := btr hb1 hb2
      have hx2 := (HX1.out.below hb2 (Nat.le_refl _)).mono hb2.size
      go_wp2_with fail
      refine (sort_own xo A.length xc A rfl (by omega) w2 hx2).mono ?_
      rintro e w3 ⟨v, rfl, hown, hb3⟩
      obtain ⟨so, sc, rfl, _, _, hs3⟩ := IAt.of_owns hown
      have hB3 := btr hB2 hb3
      have hx3 := (hx2.below hb3 (Nat.le_refl _)).mono hb3.size
      clear hown hx2
      go_wp2_with fail
      refine (refsort_own ao A.length ca A rfl (by omega) w3 (HA.out w3 hB3)).mono ?_
      rintro e w4 ⟨v, rfl, hown, hb4⟩
      obtain ⟨to, tc, rfl, _, _, ht4⟩ := IAt.of_owns hown
      have hB4 := btr hB3 hb4
      have hx4 := (hx3.below hb4 (Nat.le_refl _)).mono hb4.size
      have hs4 := (hs3.below hb4 (Nat.le_refl _)).mono hb4.size
      clear hown hx3 hs3
      go_wp2_with fail
      refine (ints2_any so to _ sc _ tc (srt A) (srt A) rfl rfl (by unfold maxLen; omega) w4 hs4 ht4).mono ?_
      rw [decide_eq_true (rfl : srt A = srt A)]
      rintro e w5 ⟨rfl, hb5⟩
      have hB5 := btr hB4 hb5
      have hx5 := (hx4.below hb5 (Nat.le_refl _)).mono hb5.size
      clear hx4 hs4 ht4
      go_wp2_with fail
      refine (ints2_any xo ao _ xc _ ca A A rfl rfl (by unfold maxLen; omega) w5 hx5 (HA.out w5 hB5)).mono ?_
      rw [decide_eq_true (rfl : A = A)]
      rintro e w6 ⟨rfl, hb6⟩
      have hB6 := btr hB5 hb6
      clear hx5
      go_wp2_with fail
      refine (compare_any ao bo _ ca lb cb A B rfl HLB.out (by omega) (by omega) w6 (HA.out w6 hB6) (HBB.out w6 hB6)).mono ?_
      rintro e w7 ⟨rfl, hb7⟩
      have hB7 := btr hB6 hb7
      go_wp2_with fail
      refine (refcompare_any ao bo _ ca lb cb A B rfl HLB.out (by omega) (by omega) w7 (HA.out w7 hB7) (HBB.out w7 hB7)).mono ?_
      rintro e w8 ⟨rfl, hb8⟩
      have hB8 := btr hB7 hb8
      go_wp2
      go_ret
      exact ⟨rfl, hB8⟩
    · have g1 : ¬ (200 : Int) < (la : Int) := by omega
      have g2 : (200 : Int) < (lb : Int) := by omega
      go_enter Try.func3, Try.ntmps3
      go_wp2
      go_ret
      exact ⟨rfl, Below.refl _ _⟩
  · have g1 : (200 : Int) < (la : Int) := by omega
    go_enter Try.func3, Try.ntmps3
    go_wp2
    go_ret
    exact ⟨rfl, Below.refl _ _⟩
end Go.Proofs.Ytbnnfhpphelmfaa
