/-
  The walks of the reference's Same and Ints: of two slices that hold the same sets, or the same numbers, they return true; nothing that was there before the call has changed. Conditions: the slices lie in memory.
-/
import Derived.Test.YtjfjfbefhdabeaaDoorPartKit
import Derived.Deep.QuietTactic
import Derived.BigQuiet
namespace Go.Proofs.YtjfjfbefhdabeaaDoor
open Go.RowKit

set_option maxRecDepth 100000 in
set_option maxHeartbeats 4000000 in
theorem same_any (ao bo : Option Addr) (len cap cap' : Nat) (L : List (Nat → Bool)) (hl : L.length = len) (hlen : len ≤ 1099511627776) (w : World) (ha : SAt w ao L w.heap.size) (hb : SAt w bo L w.heap.size) :
    Calls Tryd.prog 13 #[.slice ao len cap, .slice bo len cap'] w fun e w' => e = .returned (.bool true) ∧ Below w.heap.size w w' := by
  have HL := Lib.hid hl
  have HA := Lib.hid ha
  have HB := Lib.hid hb
  have hgd := guard25
  clear hl ha hb
  go_enter Tryd.func13, Tryd.ntmps13
  go_wp2
  go_loopw [5] (fun i wr => ∃ k : Nat, k ≤ len ∧ i = .int .i64 k ∧ Below w.heap.size w wr)
    (fun i _ => len - (intOf i).toNat)
  case atStart => exact ⟨0, Nat.zero_le _, rfl, Below.refl _ _⟩
  case round =>
    obtain ⟨k, hk, rfl, hB⟩ := hrel
    by_cases hlt : k < len
    · obtain ⟨g, off, rfl, hg, hc⟩ := HA.out (by rw [HL.out]; omega)
      obtain ⟨g', off', rfl, hg', hc'⟩ := HB.out (by rw [HL.out]; omega)
      obtain ⟨s0, s1, s2, s3⟩ := (hc k (by rw [HL.out]; exact hlt)).below hB hg
      obtain ⟨t0, t1, t2, t3⟩ := (hc' k (by rw [HL.out]; exact hlt)).below hB hg'
      clear hc hc'
      generalize L.getD k no = S at s0 s1 s2 s3 t0 t1 t2 t3
      have heq : ∀ w, (Op.equalIn 10000 35 (sv S) (sv S)).run Tryd.prog w = .ok true w := eq_sets S
      have hlti : (k : Int) < (len : Int) := by omega
      go_wp2
      go_quiet (fail)
      go_wp2
      go_roundw
      case rel => exact ⟨k + 1, by omega, by go_num, below_drewN hB _⟩
      case measure => simp [intOf]; omega
    · obtain rfl : k = len := by omega
      go_wp2
      go_ret
      exact ⟨rfl, hB⟩

set_option maxRecDepth 100000 in
set_option maxHeartbeats 4000000 in
theorem ints_any (ao bo : Option Addr) (len cap cap' : Nat) (xs : List Int) (hl : xs.length = len) (hlen : len ≤ 1099511627776) (w : World) (ha : IAt w ao xs w.heap.size) (hb : IAt w bo xs w.heap.size) :
    Calls Tryd.prog 14 #[.slice ao len cap, .slice bo len cap'] w fun e w' => e = .returned (.bool true) ∧ Below w.heap.size w w' := by
  have HL := Lib.hid hl
  have HA := Lib.hid ha
  have HB := Lib.hid hb
  clear hl ha hb
  go_enter Tryd.func14, Tryd.ntmps14
  go_wp2
  go_loopw [5] (fun i wr => ∃ k : Nat, k ≤ len ∧ i = .int .i64 k ∧ Below w.heap.size w wr)
    (fun i _ => len - (intOf i).toNat)
  case atStart => exact ⟨0, Nat.zero_le _, rfl, Below.refl _ _⟩
  case round =>
    obtain ⟨k, hk, rfl, hB⟩ := hrel
    by_cases hlt : k < len
    · obtain ⟨g, off, rfl, hg, hc⟩ := HA.out (by rw [HL.out]; omega)
      obtain ⟨g', off', rfl, hg', hc'⟩ := HB.out (by rw [HL.out]; omega)
      have s0 := (hB.cell (p := ⟨g, off + k, none⟩) hg).trans (hc k (by rw [HL.out]; exact hlt))
      have t0 := (hB.cell (p := ⟨g', off' + k, none⟩) hg').trans (hc' k (by rw [HL.out]; exact hlt))
      clear hc hc'
      generalize xs.getD k 0 = x at s0 t0
      have hlti : (k : Int) < (len : Int) := by omega
      have he : (x == x) = true := beq_self_eq_true x
      have he' : (x != x) = false := by simp
      go_wp2
      go_quiet (fail)
      go_wp2
      go_roundw
      case rel => exact ⟨k + 1, by omega, by go_num, below_drewN hB _⟩
      case measure => simp [intOf]; omega
    · obtain rfl : k = len := by omega
      go_wp2
      go_ret
      exact ⟨rfl, hB⟩
end Go.Proofs.YtjfjfbefhdabeaaDoor
