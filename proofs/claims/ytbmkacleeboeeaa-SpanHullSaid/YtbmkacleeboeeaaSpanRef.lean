/-
  The reference's Rise and Through. Conditions: a row lies in memory as a slice.
-/
import Derived.Test.YtbmkacleeboeeaaSpanKit
namespace Go.Proofs.Ytbmkacleeboeeaa
open Go.RowKit

set_option maxRecDepth 100000 in
theorem refrise_any (ao : Option Addr) (len cap : Nat) (L : List Sp) (hl : L.length = len) (hm : len ≤ 1099511627776) (w : World) (hS : PAt w ao L w.heap.size) :
    Calls Try.prog 15 #[.slice ao len cap] w fun e w' => e = .returned (.bool (rise L)) ∧ Below w.heap.size w w' := by
  have HC := Lib.hid (show 0 < len → ∃ g off, ao = some ⟨g, off, none⟩ ∧ ∀ i, i < len → ∀ W : World, Below w.heap.size w W → W.cell? ⟨g, off + i * 2, none⟩ = some (.int .i64 (L.getD i (0, 0)).1) ∧ W.cell? ⟨g, off + i * 2 + 1, none⟩ = some (.int .i64 (L.getD i (0, 0)).2) from fun h => by
      obtain ⟨g, off, rfl, hg, hc⟩ := hS (by omega)
      exact ⟨g, off, rfl, fun i hi W hb => ⟨(hb.cell (p := ⟨g, _, none⟩) hg).trans (hc i (by omega)).1, (hb.cell (p := ⟨g, _, none⟩) hg).trans (hc i (by omega)).2⟩⟩)
  have HL := Lib.hid hl
  clear hS hl
  go_enter Try.func15, Try.ntmps15
  go_wp2
  go_loopw [3] (fun i wr => ∃ j : Nat, j ≤ len ∧ i = .int .i64 j ∧ (∀ k, k < j → risesAt L k) ∧ Below w.heap.size w wr)
    (fun i _ => len - (intOf i).toNat)
  case atStart => exact ⟨0, Nat.zero_le _, rfl, fun k hk => absurd hk (Nat.not_lt_zero _), Below.refl _ _⟩
  case round =>
    obtain ⟨j, hj, rfl, hr, hB⟩ := hrel
    have HR := Lib.hid hr
    clear hr
    have hw : IntKind.i64.wrap ((j : Int) + 1) = (j : Int) + 1 := IntWalk.i64_in _ (by omega)
    by_cases hlt : j + 1 < len
    · obtain ⟨g, off, rfl, hc⟩ := HC.out (by omega)
      obtain ⟨e1, e2⟩ := hc j (by omega) wr hB
      obtain ⟨f1, f2⟩ := hc (j + 1) hlt wr hB
      have HX := Lib.hid (show risesAt L j ↔ (L.getD j (0, 0)).1 ≤ (L.getD (j + 1) (0, 0)).1 ∧ (L.getD j (0, 0)).2 ≤ (L.getD (j + 1) (0, 0)).2 from Iff.rfl)
      have i0 : (0 : Int) ≤ (j : Int) := by omega
      have i1 : (j : Int) < (len : Int) := by omega
      have i2 : (0 : Int) ≤ (j : Int) + 1 := by omega
      have i3 : (j : Int) + 1 < (len : Int) := by omega
      have i4 : ((j : Int) + 1).toNat = j + 1 := by omega
      generalize L.getD j (0, 0) = x at *
      generalize L.getD (j + 1) (0, 0) = y at *
      clear hc
      by_cases h1 : x.1 ≤ y.1
      · have d1 : decide (y.1 < x.1) = false := decide_eq_false (by omega)
        by_cases h2 : x.2 ≤ y.2
        · have d2 : decide (y.2 < x.2) = false := decide_eq_false (by omega)
          have HN := Lib.hid (HX.out.2 ⟨h1, h2⟩)
          clear h1 h2
          go_wp2_with fail
          go_quiet (fail)
          go_wp2
          go_roundw
          case rel =>
            refine ⟨j + 1, by omega, by go_num, fun k hk => ?_, below_drewN hB _⟩
            rcases Nat.lt_or_ge k j with h | h
            · exact HR.out k h
            · obtain rfl : k = j := by omega
              exact HN.out
          case measure => simp [intOf]; omega
        · have d2 : decide (y.2 < x.2) = true := decide_eq_true (by omega)
          have HF := Lib.hid (rise_false (L := L) (i := j) (by rw [HL.out]; exact hlt) fun h => h2 (HX.out.1 h).2)
          clear h1 h2
          go_wp2_with fail
          go_quiet (fail)
          go_wp2
          go_ret
          exact ⟨by rw [HF.out]; rfl, below_drewN hB _⟩
      · have d1 : decide (y.1 < x.1) = true := decide_eq_true (by omega)
        have HF := Lib.hid (rise_false (L := L) (i := j) (by rw [HL.out]; exact hlt) fun h => h1 (HX.out.1 h).1)
        clear h1
        go_wp2_with fail
        go_quiet (fail)
        go_wp2
        go_ret
        exact ⟨by rw [HF.out]; rfl, below_drewN hB _⟩
    · have HT := Lib.hid (rise_true (L := L) fun k hk => HR.out k (by rw [HL.out] at hk; omega))
      have i5 : ¬ (j : Int) + 1 < (len : Int) := by omega
      go_wp2
      go_ret
      exact ⟨by rw [HT.out]; rfl, hB⟩
end Go.Proofs.Ytbmkacleeboeeaa
