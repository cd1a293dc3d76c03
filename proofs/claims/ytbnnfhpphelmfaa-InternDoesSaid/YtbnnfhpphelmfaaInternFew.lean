/-
  The walk of the statements' few: are there at most 80 rows, each of at most 60 numbers? Conditions: the rows lie in memory as a slice.
-/
import Derived.Test.YtbnnfhpphelmfaaInternAwake
namespace Go.Proofs.Ytbnnfhpphelmfaa
open Go.RowKit

def FewL (L : List (List Int)) : Prop := L.length ≤ 80 ∧ ∀ i, i < L.length → (L.getD i []).length ≤ 60
open Classical in
noncomputable def fewB (L : List (List Int)) : Bool := decide (FewL L)
theorem fewB_iff (L : List (List Int)) : fewB L = true ↔ FewL L := by simp [fewB]
theorem fewB_f {L : List (List Int)} (h : ¬ FewL L) : fewB L = false := by simp [fewB, h]

set_option maxRecDepth 100000 in
theorem few_any (ao : Option Addr) (len cap : Nat) (L : List (List Int)) (hl : L.length = len) (hlen : len ≤ maxLen) (w : World) (hA : RsAt w ao L w.heap.size) :
    Calls Try.prog 16 #[.slice ao len cap] w fun e w' => e = .returned (.bool (fewB L)) ∧ Below w.heap.size w w' := by
  have HA := RsAt.hid hl hA
  have HL := Lib.hid hl
  unfold maxLen at hlen
  clear hl hA
  by_cases h80 : len ≤ 80
  · have hi80 : (len : Int) ≤ 80 := by omega
    go_enter Try.func16, Try.ntmps16
    go_wp2
    go_loopw [3] (fun i wr => ∃ k : Nat, k ≤ len ∧ i = .int .i64 k ∧ Hid (∀ j, j < k → (L.getD j []).length ≤ 60) ∧ Below w.heap.size w wr)
      (fun i _ => len - (intOf i).toNat)
    case atStart => exact ⟨0, Nat.zero_le _, rfl, Lib.hid fun j h => absurd h (Nat.not_lt_zero _), Below.refl _ _⟩
    case round =>
      obtain ⟨k, hk, rfl, hall, hB⟩ := hrel
      by_cases hlt : k < len
      · obtain ⟨g, off, rfl, hg, hc⟩ := HA.out (by omega)
        obtain ⟨so, sc, hsc, hsm, hcw⟩ := hc k hlt
        have ck := (hcw wr hB).1
        have hlti : (k : Int) < (len : Int) := by omega
        have hk0 : (0 : Int) ≤ (k : Int) := by omega
        have HF := Lib.hid (fun (h : ¬ (L.getD k []).length ≤ 60) => fewB_f (L := L) fun f => h (f.2 k (by rw [HL.out]; exact hlt)))
        have HS := Lib.hid (fun (e : (L.getD k []).length ≤ 60) j (hj : j < k + 1) => show (L.getD j []).length ≤ 60 by
          rcases Nat.lt_or_ge j k with h | h
          · exact hall.out j h
          · obtain rfl : j = k := by omega
            exact e)
        clear hc hcw
        generalize (L.getD k []).length = n at *
        by_cases hn : n ≤ 60
        · have hni : ¬ (60 : Int) < (n : Int) := by omega
          have HS2 := Lib.hid (HS.out hn)
          clear HS HF
          go_wp2
          go_roundw
          case rel => exact ⟨k + 1, by omega, by go_num, HS2, hB⟩
          case measure => simp [intOf]; omega
        · have hni : (60 : Int) < (n : Int) := by omega
          have HF2 := Lib.hid (HF.out hn)
          clear HS HF
          go_wp2
          go_ret
          exact ⟨by rw [HF2.out]; rfl, hB⟩
      · obtain rfl : k = len := by omega
        have HT := Lib.hid ((fewB_iff L).2 ⟨by rw [HL.out]; exact h80, fun i hi => hall.out i (by rw [← HL.out]; exact hi)⟩)
        clear hall
        go_wp2
        go_ret
        exact ⟨by rw [HT.out]; rfl, hB⟩
  · have hi80 : ¬ (len : Int) ≤ 80 := by omega
    have hi0 : (0 : Int) < (len : Int) := by omega
    have HF := Lib.hid (fewB_f (L := L) fun h => by have := h.1; rw [HL.out] at this; exact h80 this)
    go_enter Try.func16, Try.ntmps16
    go_wp2
    refine wp_loop_rounds 1 ?_
    rw [rounds_succ]
    go_wp2
    go_ret
    exact ⟨by rw [HF.out]; exact congrArg (fun b => Ending.returned (Value.bool b)) (decide_eq_false (by omega)), Below.refl _ _⟩
end Go.Proofs.Ytbnnfhpphelmfaa
