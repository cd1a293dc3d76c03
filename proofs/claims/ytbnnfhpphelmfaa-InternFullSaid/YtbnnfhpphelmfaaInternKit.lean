/-
  Rows of numbers in the walk: the reference's Compare. Conditions: those that each names.
-/
import Derived.Test.YtbnnfhpphelmfaaIAt
import Derived.Test.YtbnnfhpphelmfaaInternPlain
import Derived.Lib.Hide
import Derived.Deep.QuietTactic
import Derived.BigQuiet
import Derived.StillTailTactics
namespace Go.Proofs.Ytbnnfhpphelmfaa
open Go.RowKit

set_option maxRecDepth 100000 in
theorem refcompare_any (ao bo : Option Addr) (la ca lb cb : Nat) (A B : List Int) (hla : A.length = la) (hlb : B.length = lb) (hm : la ≤ 1099511627776) (hm2 : lb ≤ 1099511627776) (w : World) (hA : IAt w ao A w.heap.size) (hB : IAt w bo B w.heap.size) :
    Calls Try.prog 15 #[.slice ao la ca, .slice bo lb cb] w fun e w' => e = .returned (.int .i64 (cmpL A B)) ∧ Below w.heap.size w w' := by
  have HA := IAt.hid hla hA
  have HB := IAt.hid hlb hB
  have HST := Lib.hid (fun j (h1 : j < la) (h2 : j < lb) => cmpL_step A B j (by omega) (by omega))
  have HEN := Lib.hid (fun j (h1 : j ≤ la) (h2 : j ≤ lb) (h : ¬ (j < la ∧ j < lb)) => by
    have := cmpL_end A B j (by omega) (by omega) (by rw [hla, hlb]; exact h)
    rwa [hla, hlb] at this)
  clear hla hlb hA hB
  obtain ⟨r, hr⟩ : ∃ r, cmpL A B = r := ⟨_, rfl⟩
  have H0 := Lib.hid (show cmpL (A.drop 0) (B.drop 0) = r from by rw [List.drop_zero, List.drop_zero]; exact hr)
  rw [hr]
  clear hr
  go_enter Try.func15, Try.ntmps15
  go_wp2
  go_loopw [5] (fun i wr => ∃ j : Nat, j ≤ la ∧ j ≤ lb ∧ i = .int .i64 j ∧ cmpL (A.drop j) (B.drop j) = r ∧ Below w.heap.size w wr)
    (fun i _ => la - (intOf i).toNat)
  case atStart => exact ⟨0, Nat.zero_le _, Nat.zero_le _, rfl, H0.out, Below.refl _ _⟩
  case round =>
    obtain ⟨j, hj1, hj2, rfl, hr, hW⟩ := hrel
    have HR := Lib.hid hr
    clear hr
    by_cases h1 : j < la
    · have k1 : (j : Int) < (la : Int) := by omega
      by_cases h2 : j < lb
      · have k2 : (j : Int) < (lb : Int) := by omega
        have k0 : (0 : Int) ≤ (j : Int) := by omega
        obtain ⟨g, off, rfl, hg, hc⟩ := HA.out (by omega)
        obtain ⟨g', off', rfl, hg', hc'⟩ := HB.out (by omega)
        have e1 := hc j h1 wr hW
        have e2 := hc' j h2 wr hW
        have HS := Lib.hid (HST.out j h1 h2)
        clear hc hc' HA HB HST HEN H0
        generalize A.getD j 0 = x at *
        generalize B.getD j 0 = y at *
        by_cases c1 : x < y
        · have HF := Lib.hid (show r = -1 from by rw [← HR.out, HS.out, if_pos c1])
          have d1 : decide (x < y) = true := decide_eq_true c1
          clear HS HR
          go_wp2_with fail
          go_quiet (fail)
          go_wp2
          go_ret
          exact ⟨by rw [HF.out]; rfl, below_drewN hW _⟩
        · have d1 : decide (x < y) = false := decide_eq_false c1
          by_cases c2 : y < x
          · have HF := Lib.hid (show r = 1 from by rw [← HR.out, HS.out, if_neg c1, if_pos c2])
            have d2 : decide (y < x) = true := decide_eq_true c2
            clear HS HR
            go_wp2_with fail
            go_quiet (fail)
            have e1' : (wr.drewN nq).cell? ⟨g, off + j, none⟩ = some (.int .i64 x) := e1
            have e2' : (wr.drewN nq).cell? ⟨g', off' + j, none⟩ = some (.int .i64 y) := e2
            have hW' := below_drewN hW nq
            generalize wr.drewN nq = wn at e1' e2' hW' ⊢
            go_wp2_with fail
            go_quiet (fail)
            go_wp2
            go_ret
            exact ⟨by rw [HF.out]; rfl, below_drewN hW' _⟩
          · have d2 : decide (y < x) = false := decide_eq_false c2
            have HF := Lib.hid (show cmpL (A.drop (j + 1)) (B.drop (j + 1)) = r from by rw [← HR.out, HS.out, if_neg c1, if_neg c2])
            clear HS HR
            go_wp2_with fail
            go_quiet (fail)
            have e1' : (wr.drewN nq).cell? ⟨g, off + j, none⟩ = some (.int .i64 x) := e1
            have e2' : (wr.drewN nq).cell? ⟨g', off' + j, none⟩ = some (.int .i64 y) := e2
            have hW' := below_drewN hW nq
            generalize wr.drewN nq = wn at e1' e2' hW' ⊢
            go_wp2_with fail
            go_quiet (fail)
            go_wp2
            go_roundw
            case rel => exact ⟨j + 1, by omega, by omega, by go_num, HF.out, below_drewN hW' _⟩
            case measure => simp [intOf]; omega
      · have k2 : ¬ (j : Int) < (lb : Int) := by omega
        have HF := Lib.hid (show r = 1 from by rw [← HR.out, HEN.out j hj1 hj2 (by omega), if_neg (by omega), if_pos (by omega)])
        have k3 : ¬ (la : Int) < (lb : Int) := by omega
        have k4 : (lb : Int) < (la : Int) := by omega
        go_wp2
        go_ret
        exact ⟨by rw [HF.out]; rfl, hW⟩
    · have k1 : ¬ (j : Int) < (la : Int) := by omega
      by_cases h3 : la < lb
      · have HF := Lib.hid (show r = -1 from by rw [← HR.out, HEN.out j hj1 hj2 (by omega), if_pos h3])
        have k3 : (la : Int) < (lb : Int) := by omega
        go_wp2
        go_ret
        exact ⟨by rw [HF.out]; rfl, hW⟩
      · have HF := Lib.hid (show r = 0 from by rw [← HR.out, HEN.out j hj1 hj2 (by omega), if_neg h3, if_neg (by omega)])
        have k3 : ¬ (la : Int) < (lb : Int) := by omega
        have k4 : ¬ (lb : Int) < (la : Int) := by omega
        go_wp2
        go_ret
        exact ⟨by rw [HF.out]; rfl, hW⟩
end Go.Proofs.Ytbnnfhpphelmfaa
