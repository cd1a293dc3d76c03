/-
  The walk of the statement LexShows: of any bytes and any set it returns true; nothing that was there before the call has changed. Conditions: none.
-/
import Derived.Test.YtgckhkdjjmeboaaDoorLexAwake
import Derived.Test.YtgckhkdjjmeboaaDoorPast
namespace Go.Proofs.YtgckhkdjjmeboaaDoor
open Go.RowKit

set_option maxRecDepth 100000 in
set_option maxHeartbeats 1000000 in
theorem lexShows_walk (b : ByteArray) (S : Nat → Bool) (w : World) (hT : Tab w) :
    Calls Tryd.prog 3 #[.string b, sv S] w fun e w' => e = .returned (.bool true) ∧ Below w.heap.size w w' := by
  by_cases h : b.size ≤ 600
  · have hi : ¬ (600 : Int) < (b.size : Int) := by omega
    have T1 := Lib.hid (text_any b (by omega))
    have T2 := Lib.hid (reftext_any b (by omega))
    have S1 := Lib.hid (fun W h => lset_any S W h)
    have S2 := Lib.hid (refset_any S)
    generalize mkS (textW (bl b)) = x at *
    generalize mkS (setW S) = y at *
    have e1 : (x.toList == x.toList) = true := beq_self_eq_true _
    have e2 : (y.toList == y.toList) = true := beq_self_eq_true _
    go_enter Tryd.func3, Tryd.ntmps3
    go_wp2_with fail
    obtain ⟨w0, hw0⟩ : ∃ w0, w.alloc (.cells (cells4 S) 24) = w0 := ⟨_, rfl⟩
    have hS := Blk.new w 24 (cells4 S)
    have hB := bal (Below.refl w.heap.size w) (.cells (cells4 S) 24)
    rw [hw0] at hS hB
    have hTp : ∀ p : Past w0, Tab p.w := fun p => (hT.below' hB).below' p.h
    have q0 : ∀ p : Past w0, p.w.cell? ⟨w.heap.size, 0, none⟩ = some (.int .u64 ((wd S 0 : Nat) : Int)) := fun p => (hS.below p.h hS.lt).cell 0
    have q1 : ∀ p : Past w0, p.w.cell? ⟨w.heap.size, 1, none⟩ = some (.int .u64 ((wd S 1 : Nat) : Int)) := fun p => (hS.below p.h hS.lt).cell 1
    have q2 : ∀ p : Past w0, p.w.cell? ⟨w.heap.size, 2, none⟩ = some (.int .u64 ((wd S 2 : Nat) : Int)) := fun p => (hS.below p.h hS.lt).cell 2
    have q3 : ∀ p : Past w0, p.w.cell? ⟨w.heap.size, 3, none⟩ = some (.int .u64 ((wd S 3 : Nat) : Int)) := fun p => (hS.below p.h hS.lt).cell 3
    rw [hw0]
    clear hw0 hS
    refine wp_region_past (w0 := w0) (by kernel_rfl) (by kernel_rfl) (Below.refl _ _) ?_
    repeat (go_big_quiet_step (first | exact Calls.past (awake_lex _) | exact Calls.past (T1.out _) | exact Calls.past (T2.out _) | exact Calls.past (S1.out _ (hTp _)) | exact Calls.past (S2.out _)))
    refine wpQuiet_nil ?_
    intro p
    have HB := Lib.hid (btr hB p.h)
    go_wp2
    go_ret
    exact ⟨rfl, HB.out⟩
  · have hi : (600 : Int) < (b.size : Int) := by omega
    go_enter Tryd.func3, Tryd.ntmps3
    go_wp2
    go_ret
    exact ⟨rfl, bal (Below.refl _ _) _⟩
end Go.Proofs.YtgckhkdjjmeboaaDoor
