/-
  The walk of the statement SetLaws: of any two sets it returns true; nothing that was there before the call has changed. Conditions: the table of math/bits as it is laid.
-/
import Derived.Test.YtanpammidlphbaaDoorSetAwake
import Derived.Test.YtanpammidlphbaaDoorSetOps
import Derived.Deep.RegionHeld3
namespace Go.Proofs.YtanpammidlphbaaDoor
open Go.RowKit

/-- What holds throughout: the four sets' blocks, the table, the old memory. -/
def LawsInv (w0 : World) (b2 b3 b5 b6 : Nat) (S T : Nat → Bool) (W : World) : Prop :=
  Blk W b2 25 (cells4 S) ∧ Blk W b3 25 (cells4 T) ∧ Blk W b5 25 (cells4 (neg S)) ∧ Blk W b6 25 (cells4 (neg T)) ∧ Tab W ∧ Below w0.heap.size w0 W
abbrev LawsS (w0 : World) (b2 b3 b5 b6 : Nat) (S T : Nat → Bool) (W : World) : Prop :=
  (W.cell? ⟨b2, 0, none⟩ = some (.int .u64 ((wd S 0 : Nat) : Int)) ∧ W.cell? ⟨b2, 1, none⟩ = some (.int .u64 ((wd S 1 : Nat) : Int)) ∧ W.cell? ⟨b2, 2, none⟩ = some (.int .u64 ((wd S 2 : Nat) : Int)) ∧ W.cell? ⟨b2, 3, none⟩ = some (.int .u64 ((wd S 3 : Nat) : Int))) ∧
  (W.cell? ⟨b3, 0, none⟩ = some (.int .u64 ((wd T 0 : Nat) : Int)) ∧ W.cell? ⟨b3, 1, none⟩ = some (.int .u64 ((wd T 1 : Nat) : Int)) ∧ W.cell? ⟨b3, 2, none⟩ = some (.int .u64 ((wd T 2 : Nat) : Int)) ∧ W.cell? ⟨b3, 3, none⟩ = some (.int .u64 ((wd T 3 : Nat) : Int))) ∧
  (W.cell? ⟨b5, 0, none⟩ = some (.int .u64 ((wd (neg S) 0 : Nat) : Int)) ∧ W.cell? ⟨b5, 1, none⟩ = some (.int .u64 ((wd (neg S) 1 : Nat) : Int)) ∧ W.cell? ⟨b5, 2, none⟩ = some (.int .u64 ((wd (neg S) 2 : Nat) : Int)) ∧ W.cell? ⟨b5, 3, none⟩ = some (.int .u64 ((wd (neg S) 3 : Nat) : Int))) ∧
  (W.cell? ⟨b6, 0, none⟩ = some (.int .u64 ((wd (neg T) 0 : Nat) : Int)) ∧ W.cell? ⟨b6, 1, none⟩ = some (.int .u64 ((wd (neg T) 1 : Nat) : Int)) ∧ W.cell? ⟨b6, 2, none⟩ = some (.int .u64 ((wd (neg T) 2 : Nat) : Int)) ∧ W.cell? ⟨b6, 3, none⟩ = some (.int .u64 ((wd (neg T) 3 : Nat) : Int))) ∧
  LawsInv w0 b2 b3 b5 b6 S T W
theorem LawsInv.all {w0 : World} {b2 b3 b5 b6 : Nat} {S T : Nat → Bool} {W : World} (h : LawsInv w0 b2 b3 b5 b6 S T W) : LawsS w0 b2 b3 b5 b6 S T W :=
  ⟨h.1.cells, h.2.1.cells, h.2.2.1.cells, h.2.2.2.1.cells, h⟩
theorem LawsInv.step {w0 : World} {b2 b3 b5 b6 : Nat} {S T : Nat → Bool} {W W' : World} (hb : Below W.heap.size W W') (h : LawsInv w0 b2 b3 b5 b6 S T W) : LawsInv w0 b2 b3 b5 b6 S T W' := by
  obtain ⟨h1, h2, h3, h4, h5, h6⟩ := h
  exact ⟨h1.below hb h1.lt, h2.below hb h2.lt, h3.below hb h3.lt, h4.below hb h4.lt, h5.below' hb, btr h6 hb⟩
theorem LawsInv.drew {w0 : World} {b2 b3 b5 b6 : Nat} {S T : Nat → Bool} {W : World} (h : LawsInv w0 b2 b3 b5 b6 S T W) : LawsInv w0 b2 b3 b5 b6 S T W.drew :=
  ⟨h.1, h.2.1, h.2.2.1, h.2.2.2.1, h.2.2.2.2.1, h.2.2.2.2.2.drew⟩
theorem lawsS_step {w0 : World} {b2 b3 b5 b6 : Nat} {S T : Nat → Bool} {W W' : World} (hb : Below W.heap.size W W') (h : LawsS w0 b2 b3 b5 b6 S T W) : LawsS w0 b2 b3 b5 b6 S T W' := (h.2.2.2.2.step hb).all

theorem lawsS_drew {w0 : World} {b2 b3 b5 b6 : Nat} {S T : Nat → Bool} {W : World} (h : LawsS w0 b2 b3 b5 b6 S T W) : LawsS w0 b2 b3 b5 b6 S T W.drew := h.2.2.2.2.drew.all
theorem lawsS_tab {w0 : World} {b2 b3 b5 b6 : Nat} {S T : Nat → Bool} {W : World} (h : LawsS w0 b2 b3 b5 b6 S T W) : Tab W := h.2.2.2.2.2.2.2.2.1
theorem lawsS_below {w0 : World} {b2 b3 b5 b6 : Nat} {S T : Nat → Bool} {W : World} (h : LawsS w0 b2 b3 b5 b6 S T W) : Below w0.heap.size w0 W := h.2.2.2.2.2.2.2.2.2

set_option maxRecDepth 100000 in
set_option maxHeartbeats 4000000 in
theorem setLaws_walk (S T : Nat → Bool) (w : World) (hT : Tab w) :
    Calls Tryd.prog 5 #[sv S, sv T] w fun e w' => e = .returned (.bool true) ∧ Below w.heap.size w w' := by
  have hq1 : ∀ w, (Op.equalIn 10000 25 (sv (neg (neg S))) (sv S)).run Tryd.prog w = .ok true w := fun w => by rw [sv_ext (S := neg (neg S)) (T := S) (fun i _ => by simp [neg])]; exact eq_sets S w
  have hq2 : ∀ w, (Op.equalIn 10000 25 (sv (neg (cor S T))) (sv (cand (neg S) (neg T)))).run Tryd.prog w = .ok true w := fun w => by rw [sv_ext (S := neg (cor S T)) (T := cand (neg S) (neg T)) (fun i _ => by simp [neg, cor, cand])]; exact eq_sets _ w
  have hq3 : ∀ w, (Op.equalIn 10000 25 (sv (cless S T)) (sv (cand S (neg T)))).run Tryd.prog w = .ok true w := fun w => by rw [sv_ext (S := cless S T) (T := cand S (neg T)) (fun i _ => by simp [neg, cless, cand])]; exact eq_sets _ w
  have hgd := guard25
  go_enter Tryd.func5, Tryd.ntmps5
  go_wp2_with fail
  have hS := (Blk.new w 25 (cells4 S)).alloc (.cells (cells4 T) 25)
  have hTT := Blk.new (w.alloc (.cells (cells4 S) 25)) 25 (cells4 T)
  have hB0 := bal (bal (Below.refl w.heap.size w) (.cells (cells4 S) 25)) (.cells (cells4 T) 25)
  rw [World.size_alloc] at hTT
  refine (neg_to S _).mono ?_
  rintro e w1 ⟨rfl, hb1⟩
  have hS1 := (hS.below hb1 hS.lt).alloc (.cells (cells4 (neg S)) 25)
  have hT1 := (hTT.below hb1 hTT.lt).alloc (.cells (cells4 (neg S)) 25)
  have hN1 := Blk.new w1 25 (cells4 (neg S))
  have hB1 := bal (btr hB0 hb1) (.cells (cells4 (neg S)) 25)
  clear hb1 hS hTT hB0
  obtain ⟨t0, t1, t2, t3⟩ := hT1.cells
  go_wp2_with fail
  refine (neg_to T _).mono ?_
  rintro e w2 ⟨rfl, hb2⟩
  clear t0 t1 t2 t3
  have hI : LawsInv w w.heap.size (w.heap.size + 1) w1.heap.size w2.heap.size S T (w2.alloc (.cells (cells4 (neg T)) 25)) :=
    ⟨(hS1.below hb2 hS1.lt).alloc _, (hT1.below hb2 hT1.lt).alloc _, (hN1.below hb2 hN1.lt).alloc _, Blk.new _ _ _, hT.below' (bal (btr hB1 hb2) _), bal (btr hB1 hb2) _⟩
  clear hS1 hT1 hN1 hB1 hb2 hT
  have HI := hI.drew.all
  clear hI
  go_wp2_with fail
  obtain ⟨W, hW⟩ : ∃ W, w2.alloc (.cells (cells4 (neg T)) 25) = W := ⟨_, rfl⟩
  rw [hW] at HI ⊢
  clear hW
  generalize w2.heap.size = b6 at *
  generalize w1.heap.size = b5 at *
  go_region_held3 (fun W' => (W'.cell? ⟨w.heap.size, 0, none⟩ = some (.int .u64 ((wd S 0 : Nat) : Int)) ∧ W'.cell? ⟨w.heap.size, 1, none⟩ = some (.int .u64 ((wd S 1 : Nat) : Int)) ∧ W'.cell? ⟨w.heap.size, 2, none⟩ = some (.int .u64 ((wd S 2 : Nat) : Int)) ∧ W'.cell? ⟨w.heap.size, 3, none⟩ = some (.int .u64 ((wd S 3 : Nat) : Int))) ∧ (W'.cell? ⟨w.heap.size + 1, 0, none⟩ = some (.int .u64 ((wd T 0 : Nat) : Int)) ∧ W'.cell? ⟨w.heap.size + 1, 1, none⟩ = some (.int .u64 ((wd T 1 : Nat) : Int)) ∧ W'.cell? ⟨w.heap.size + 1, 2, none⟩ = some (.int .u64 ((wd T 2 : Nat) : Int)) ∧ W'.cell? ⟨w.heap.size + 1, 3, none⟩ = some (.int .u64 ((wd T 3 : Nat) : Int))) ∧ (W'.cell? ⟨b5, 0, none⟩ = some (.int .u64 ((wd (neg S) 0 : Nat) : Int)) ∧ W'.cell? ⟨b5, 1, none⟩ = some (.int .u64 ((wd (neg S) 1 : Nat) : Int)) ∧ W'.cell? ⟨b5, 2, none⟩ = some (.int .u64 ((wd (neg S) 2 : Nat) : Int)) ∧ W'.cell? ⟨b5, 3, none⟩ = some (.int .u64 ((wd (neg S) 3 : Nat) : Int))) ∧ (W'.cell? ⟨b6, 0, none⟩ = some (.int .u64 ((wd (neg T) 0 : Nat) : Int)) ∧ W'.cell? ⟨b6, 1, none⟩ = some (.int .u64 ((wd (neg T) 1 : Nat) : Int)) ∧ W'.cell? ⟨b6, 2, none⟩ = some (.int .u64 ((wd (neg T) 2 : Nat) : Int)) ∧ W'.cell? ⟨b6, 3, none⟩ = some (.int .u64 ((wd (neg T) 3 : Nat) : Int))) ∧ LawsInv w w.heap.size (w.heap.size + 1) b5 b6 S T W')
    ((first | exact HI | exact lawsS_step (by assumption) (by assumption)))
    (first | (go_at_call 20; refine (neg_to _ _).mono ?_; rintro e w' ⟨rfl, hb⟩) | (go_at_call 18; refine (any_to _ _ _).mono ?_; rintro e w' ⟨rfl, hb⟩) | (go_at_call 16; refine (both_to _ _ _).mono ?_; rintro e w' ⟨rfl, hb⟩) | (go_at_call 19; refine (less_to _ _ _).mono ?_; rintro e w' ⟨rfl, hb⟩))
  clear hq1 hq2 hq3 HI
  have l1 := sz_le (cand S T)
  have l2 := sz_le (cor S T)
  have l3 := sz_le S
  have l4 := sz_le T
  have l5 := sz_le (neg S)
  have hs1 : (((sz (cand S T) : Nat) : Int) + ((sz (cor S T) : Nat) : Int) == ((sz S : Nat) : Int) + ((sz T : Nat) : Int)) = true := by have := sz_and_or S T; rw [beq_iff_eq]; omega
  have hs2 : (((sz S : Nat) : Int) + ((sz (neg S) : Nat) : Int) == 256) = true := by have := sz_neg S; rw [beq_iff_eq]; omega
  have hw1 : IntKind.i64.wrap (((sz (cand S T) : Nat) : Int) + ((sz (cor S T) : Nat) : Int)) = ((sz (cand S T) : Nat) : Int) + ((sz (cor S T) : Nat) : Int) := IntWalk.i64_in _ (by omega)
  have hw2 : IntKind.i64.wrap (((sz S : Nat) : Int) + ((sz T : Nat) : Int)) = ((sz S : Nat) : Int) + ((sz T : Nat) : Int) := IntWalk.i64_in _ (by omega)
  have hw3 : IntKind.i64.wrap (((sz S : Nat) : Int) + ((sz (neg S) : Nat) : Int)) = ((sz S : Nat) : Int) + ((sz (neg S) : Nat) : Int) := IntWalk.i64_in _ (by omega)
  go_wp2_with fail
  go_region_held3 (fun W' => (W'.cell? ⟨w.heap.size, 0, none⟩ = some (.int .u64 ((wd S 0 : Nat) : Int)) ∧ W'.cell? ⟨w.heap.size, 1, none⟩ = some (.int .u64 ((wd S 1 : Nat) : Int)) ∧ W'.cell? ⟨w.heap.size, 2, none⟩ = some (.int .u64 ((wd S 2 : Nat) : Int)) ∧ W'.cell? ⟨w.heap.size, 3, none⟩ = some (.int .u64 ((wd S 3 : Nat) : Int))) ∧ (W'.cell? ⟨w.heap.size + 1, 0, none⟩ = some (.int .u64 ((wd T 0 : Nat) : Int)) ∧ W'.cell? ⟨w.heap.size + 1, 1, none⟩ = some (.int .u64 ((wd T 1 : Nat) : Int)) ∧ W'.cell? ⟨w.heap.size + 1, 2, none⟩ = some (.int .u64 ((wd T 2 : Nat) : Int)) ∧ W'.cell? ⟨w.heap.size + 1, 3, none⟩ = some (.int .u64 ((wd T 3 : Nat) : Int))) ∧ (W'.cell? ⟨b5, 0, none⟩ = some (.int .u64 ((wd (neg S) 0 : Nat) : Int)) ∧ W'.cell? ⟨b5, 1, none⟩ = some (.int .u64 ((wd (neg S) 1 : Nat) : Int)) ∧ W'.cell? ⟨b5, 2, none⟩ = some (.int .u64 ((wd (neg S) 2 : Nat) : Int)) ∧ W'.cell? ⟨b5, 3, none⟩ = some (.int .u64 ((wd (neg S) 3 : Nat) : Int))) ∧ (W'.cell? ⟨b6, 0, none⟩ = some (.int .u64 ((wd (neg T) 0 : Nat) : Int)) ∧ W'.cell? ⟨b6, 1, none⟩ = some (.int .u64 ((wd (neg T) 1 : Nat) : Int)) ∧ W'.cell? ⟨b6, 2, none⟩ = some (.int .u64 ((wd (neg T) 2 : Nat) : Int)) ∧ W'.cell? ⟨b6, 3, none⟩ = some (.int .u64 ((wd (neg T) 3 : Nat) : Int))) ∧ LawsInv w w.heap.size (w.heap.size + 1) b5 b6 S T W')
    ((first | exact lawsS_step (by assumption) (by assumption) | exact lawsS_drew (by assumption)))
    (first | (go_at_call 7; refine (awake_any _ (lawsS_tab (by assumption))).mono ?_; rintro e w' ⟨rfl, hb⟩) | (go_at_call 18; refine (any_to _ _ _).mono ?_; rintro e w' ⟨rfl, hb⟩) | (go_at_call 16; refine (both_to _ _ _).mono ?_; rintro e w' ⟨rfl, hb⟩) | (go_at_call 21; refine (size_to _ _).mono ?_; rintro e w' ⟨rfl, hb⟩))
  go_wp2
  go_ret
  exact ⟨rfl, lawsS_below (by assumption)⟩
end Go.Proofs.YtanpammidlphbaaDoor
