/-
  The document's example, that every statement of this layer asks first: it returns true; nothing that was there before the call has changed. Conditions: the table of math/bits as it is laid.
-/
import Derived.Test.YtanpammidlphbaaDoorSetPairs
import Derived.Test.YtanpammidlphbaaDoorSetOf
namespace Go.Proofs.YtanpammidlphbaaDoor
open Go.RowKit Go.Shelf

theorem rows_example : rowsOf (ofL [97, 98, 0, 255]) = [(0, 0), (97, 98), (255, 255)] := by decide +kernel

set_option maxRecDepth 100000 in
set_option maxHeartbeats 1000000 in
theorem awake_any (w : World) (hT : Tab w) :
    Calls Tryd.prog 7 #[] w fun e w' => e = .returned (.bool true) ∧ Below w.heap.size w w' := by
  go_enter Tryd.func7, Tryd.ntmps7
  go_wp2_with fail
  have hA := Blk.new w 5 #[.int .u8 97, .int .u8 98, .int .u8 0, .int .u8 255]
  refine (of_any (some ⟨w.heap.size, 0, none⟩) 4 4 [97, 98, 0, 255] rfl (by decide) (by decide) _ (fun _ => ⟨w.heap.size, 0, rfl, fun i hi => ?_⟩)).mono ?_
  · rw [Nat.zero_add, hA.cell i]
    match i, hi with
    | 0, _ => rfl
    | 1, _ => rfl
    | 2, _ => rfl
    | 3, _ => rfl
  rintro e w1 ⟨rfl, hb1⟩
  have hB1 := btr (bal (Below.refl w.heap.size w) _) hb1
  have hT1 := hT.below' hB1
  clear hA hb1
  go_wp2_with fail
  refine (setRows_any _ _ hT1).mono ?_
  rintro e w2 ⟨v, rfl, hown, hb2⟩
  have hps := PS.of_owns hown
  rw [rows_example] at hps
  have hB2 := btr hB1 hb2
  have hT2 := hT1.below' hb2
  clear hown hb2 hB1 hT1
  go_wp2_with fail
  have hL := Blk.new w2 44 #[.int .u8 0, .int .u8 0, .int .u8 97, .int .u8 98, .int .u8 255, .int .u8 255]
  refine (pairs_any v _ [(0, 0), (97, 98), (255, 255)] [(0, 0), (97, 98), (255, 255)] (by decide) _ (hps.below (bal (Below.refl _ _) _)) (.inr ⟨w2.heap.size, 3, rfl, fun i hi => ?_⟩)).mono ?_
  · rw [hL.cell, hL.cell]
    match i, hi with
    | 0, _ => exact ⟨rfl, rfl⟩
    | 1, _ => exact ⟨rfl, rfl⟩
    | 2, _ => exact ⟨rfl, rfl⟩
  rw [decide_eq_true rfl]
  rintro e w3 ⟨rfl, hb3⟩
  have hB3 := btr (bal hB2 _) hb3
  have hT3 := (hT2.below' (bal (Below.refl _ _) _)).below' hb3
  clear hL hps hb3 hB2 hT2
  go_wp2_with fail
  have hC := Blk.new w3 5 #[.int .u8 3]
  refine (of_any (some ⟨w3.heap.size, 0, none⟩) 1 1 [3] rfl (by decide) (by decide) _ (fun _ => ⟨w3.heap.size, 0, rfl, fun i hi => ?_⟩)).mono ?_
  · rw [Nat.zero_add, hC.cell i]
    match i, hi with
    | 0, _ => rfl
  rintro e w4 ⟨rfl, hb4⟩
  have hB4 := btr (bal hB3 _) hb4
  clear hC hb4 hB3 hT3
  go_wp2_with fail
  refine (has_any (ofL [3]) 3 (by decide) _).mono ?_
  rw [show ofL [3] 3 = true from rfl]
  rintro e w5 ⟨rfl, hb5⟩
  have hB5 := btr hB4 hb5
  clear hb5 hB4
  go_wp2_with fail
  go_ret
  exact ⟨rfl, hB5⟩
end Go.Proofs.YtanpammidlphbaaDoor
