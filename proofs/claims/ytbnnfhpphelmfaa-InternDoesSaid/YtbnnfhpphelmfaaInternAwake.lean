/-
  The document's example, that every statement of this layer asks: it returns true; nothing that was there before the call has changed. Conditions: none.
-/
import Derived.Test.YtbnnfhpphelmfaaInternPkg
namespace Go.Proofs.Ytbnnfhpphelmfaa
open Go.RowKit

theorem three_nums (W : World) (a b c : Int) : IAt (W.alloc (.cells #[.int .i64 a, .int .i64 b, .int .i64 c] 3)) (some ⟨W.heap.size, 0, none⟩) [a, b, c] (W.alloc (.cells #[.int .i64 a, .int .i64 b, .int .i64 c] 3)).heap.size := by
  intro _
  have hb := Blk.new W 3 #[.int .i64 a, .int .i64 b, .int .i64 c]
  refine ⟨W.heap.size, 0, rfl, hb.lt, fun i hi => ?_⟩
  match i, hi with
  | 0, _ => exact hb.cell 0
  | 1, _ => exact hb.cell 1
  | 2, _ => exact hb.cell 2
theorem two_nums (W : World) (a b : Int) : IAt (W.alloc (.cells #[.int .i64 a, .int .i64 b] 3)) (some ⟨W.heap.size, 0, none⟩) [a, b] (W.alloc (.cells #[.int .i64 a, .int .i64 b] 3)).heap.size := by
  intro _
  have hb := Blk.new W 3 #[.int .i64 a, .int .i64 b]
  refine ⟨W.heap.size, 0, rfl, hb.lt, fun i hi => ?_⟩
  match i, hi with
  | 0, _ => exact hb.cell 0
  | 1, _ => exact hb.cell 1
theorem one_num (W : World) (a : Int) : IAt (W.alloc (.cells #[.int .i64 a] 3)) (some ⟨W.heap.size, 0, none⟩) [a] (W.alloc (.cells #[.int .i64 a] 3)).heap.size := by
  intro _
  have hb := Blk.new W 3 #[.int .i64 a]
  refine ⟨W.heap.size, 0, rfl, hb.lt, fun i hi => ?_⟩
  match i, hi with
  | 0, _ => exact hb.cell 0
theorem no_nums (W : World) (ao : Option Addr) : IAt W ao [] W.heap.size := fun h => by simp at h
theorem Tb.below {W W' : World} {a : Nat} {L : List (List Int)} {F : Nat → Prop} (h : Tb W a L F) (hb : Below W.heap.size W W') : Tb W' a L F :=
  h.but (But.of_below (F := fun _ => False) hb) fun _ _ f => f

theorem ex_s1 : srt [2, 1, 2] = [1, 2] := by decide +kernel
theorem ex_s2 : srt [1, 2] = [1, 2] := by decide +kernel
theorem ex_p1 : putN [] [1, 2] = 0 ∧ putB [] [1, 2] = true ∧ putE [] [1, 2] = 0 ∧ putL [] [1, 2] = [[1, 2]] := by decide +kernel
theorem ex_p2 : putN [[1, 2]] [1, 2] = 0 ∧ putB [[1, 2]] [1, 2] = false ∧ putE [[1, 2]] [1, 2] = 0 ∧ putL [[1, 2]] [1, 2] = [[1, 2]] := by decide +kernel
theorem ex_p3 : putN [[1, 2]] [] = 1 ∧ putB [[1, 2]] [] = true ∧ putE [[1, 2]] [] = 0 ∧ putL [[1, 2]] [] = [[1, 2], []] := by decide +kernel
theorem ex_s3 : srt [] = [] := rfl

set_option maxRecDepth 100000 in
set_option maxHeartbeats 1000000 in
theorem awake_intern (w : World) :
    Calls Try.prog 10 #[] w fun e w' => e = .returned (.bool true) ∧ Below w.heap.size w w' := by
  go_enter Try.func10, Try.ntmps10
  go_wp2_with fail
  refine (new_any w).mono ?_
  rintro e w1 ⟨a, F, rfl, hT1, hb1, hF⟩
  have hat1 := three_nums w1 2 1 2
  have hTa := hT1.below (bal (Below.refl w1.heap.size w1) (.cells #[.int .i64 2, .int .i64 1, .int .i64 2] 3))
  have hBa := bal hb1 (.cells #[.int .i64 2, .int .i64 1, .int .i64 2] 3)
  clear hT1
  go_wp2_with fail
  refine (put_any a [] F _ 3 3 [2, 1, 2] rfl (by decide) (by unfold Rng; decide) (by decide) _ hTa hat1).mono ?_
  rw [ex_s1, ex_p1.1, ex_p1.2.1, ex_p1.2.2.1, ex_p1.2.2.2]
  rintro e w2 ⟨rfl, F2, hT2, hu2, hF2⟩
  have hB2 : Below w.heap.size w w2 := hBa.trans (hu2.below hBa.size hF)
  have hF2' : ∀ k, F2 k → w.heap.size ≤ k := fun k hk => by
    rcases hF2 k hk with h | h
    · exact hF k h
    · exact Nat.le_trans hBa.size h
  have hat2 := two_nums w2 1 2
  have hTb := hT2.below (bal (Below.refl w2.heap.size w2) (.cells #[.int .i64 1, .int .i64 2] 3))
  have hBb := bal hB2 (.cells #[.int .i64 1, .int .i64 2] 3)
  clear hat1 hTa hT2 hu2 hF2 hBa hb1 hB2
  go_wp2_with fail
  refine (put_any a [[1, 2]] F2 _ 2 2 [1, 2] rfl (by decide) (by unfold Rng; decide) (by decide) _ hTb hat2).mono ?_
  rw [ex_s2, ex_p2.1, ex_p2.2.1, ex_p2.2.2.1, ex_p2.2.2.2]
  rintro e w3 ⟨rfl, F3, hT3, hu3, hF3⟩
  have hB3 : Below w.heap.size w w3 := hBb.trans (hu3.below hBb.size hF2')
  have hF3' : ∀ k, F3 k → w.heap.size ≤ k := fun k hk => by
    rcases hF3 k hk with h | h
    · exact hF2' k h
    · exact Nat.le_trans hBb.size h
  clear hat2 hTb hu3 hF3 hBb
  go_wp2_with fail
  refine (put_any a [[1, 2]] F3 none 0 0 [] rfl (by decide) (by unfold Rng; decide) (by decide) _ hT3 (no_nums _ _)).mono ?_
  rw [ex_s3, ex_p3.1, ex_p3.2.1, ex_p3.2.2.1, ex_p3.2.2.2]
  rintro e w4 ⟨rfl, F4, hT4, hu4, hF4⟩
  have hB4 : Below w.heap.size w w4 := hB3.trans (hu4.below hB3.size hF3')
  clear hT3 hu4 hF4 hB3
  go_wp2_with fail
  refine (size_any a [[1, 2], []] F4 (by decide) _ hT4).mono ?_
  rintro e w5 ⟨rfl, hb5⟩
  have hB5 := btr hB4 hb5
  go_wp2
  go_ret
  exact ⟨rfl, hB5⟩
end Go.Proofs.Ytbnnfhpphelmfaa
