/-
  Walks of package set's rows (an iterator) and Rows (a range over it): Rows returns a new slice that holds the rows of the set, one after the other; nothing that was there before the call has changed. Conditions: the table of math/bits as it is laid.
-/
import Derived.RangeFuncNested
import Derived.RangeFuncBound
import Derived.RangeFuncCalls
import Derived.RangeFuncLeaves
import Derived.RangeFuncBox
import Derived.Shelf.Abstract
import Derived.Shelf.RegionOpen
import Derived.OwnWalkIn
import Derived.TacticsInMore
import Derived.LoopNIn
import Derived.LoopIn
import Derived.Maps.AppendAt
import Derived.Test.YtgckhkdjjmeboaaDoorSetW2
import Derived.Test.YtgckhkdjjmeboaaDoorSetRowsPlain
namespace Go.Proofs.YtgckhkdjjmeboaaDoor
open Go.RowKit Go.Shelf
attribute [local go_sem] Oper.semAt_some

theorem grown_of_below {W W' : World} (h : Below W.heap.size W W') : W.grownBy W' none := ⟨h.os, h.tape, h.output, h.size, fun k hk _ => h.block k hk⟩

theorem next_to (S : Nat → Bool) (a n : Nat) (ha : a ≤ 256) (h : nxt S a = n) (w : World) (hT : Tab w) :
    Calls Tryd.prog 43 #[sv S, .int .i64 a] w fun e w' => e = .returned (.int .i64 n) ∧ Below w.heap.size w w' := by
  subst h; exact next_any S a ha w hT

theorem next_up (S : Nat → Bool) (g n : Nat) (ha : g + 1 ≤ 256) (h : nxt S (g + 1) = n) (w : World) (hT : Tab w) :
    Calls Tryd.prog 43 #[sv S, .int .i64 ((g : Int) + 1)] w fun e w' => e = .returned (.int .i64 n) ∧ Below w.heap.size w w' := by
  have := next_to S (g + 1) n ha h w hT
  rwa [Int.natCast_add] at this

theorem not_to (S : Nat → Bool) (w : World) :
    Calls Tryd.prog 17 #[sv S] w fun e w' => e = .returned (sv (neg S)) ∧ Below w.heap.size w w' := not_any S w

/-- Blocks of sets lie as they lay. -/
def KeepSets (W W' : World) : Prop := ∀ B vs, Blk W B 24 vs → Blk W' B 24 vs
def Kp (n₀ : Nat) (W W' : World) : Prop := KeepSets W W' ∧ Below n₀ W W'
theorem Kp.t {n₀ : Nat} {A B C : World} (h : Kp n₀ A B) (k : Kp n₀ B C) : Kp n₀ A C := ⟨fun b vs hb => k.1 b vs (h.1 b vs hb), h.2.trans k.2⟩
theorem Kp.b {n₀ : Nat} {w : World} (hn : n₀ ≤ w.heap.size) (W : World) (l : Nat) (o o' : Obj) (hl : w.heap.size ≤ l) (h : W.heap[l]? = some o) (hc : o.isCells = false) (hw : o.isWalk = false) : Kp n₀ W (W.putObj l o') := by
  refine ⟨fun b vs hb => ?_, belowK_b hn W l o o' hl h hc hw⟩
  have hne : b ≠ l := by
    rintro rfl
    rw [show W.heap[b]? = _ from hb] at h
    cases h; cases hc
  exact ((grownBy_putObj' W l o').block b hb.lt (by simpa using hne)).trans hb

def encs (x : Nat × Nat) : Array Value := #[.agg #[.int .u8 (x.1 : Int), .int .u8 (x.2 : Int)]]

theorem rows_any (S : Nat → Bool) (n : Nat) (w : World) :
    CallsIn Fence.wide n Tryd.prog 30 #[sv S] w fun e w' => e = .returned (.func (.func 42) #[] #[.pointer (some ⟨w.heap.size, 0, none⟩)]) ∧ w' = w.alloc (.cells (cells4 S) 24) := by
  refine callsIn_wide.2 ?_
  go_enter Tryd.func30, Tryd.ntmps30
  go_wp2
  go_ret
  exact ⟨rfl, rfl⟩

set_option maxRecDepth 100000 in
set_option maxHeartbeats 1000000 in
theorem rows1_in (S : Nat → Bool) (n : Nat) (hn : 1 ≤ n) (l Bn n₀ : Nat) (J Jx : List (Nat × Nat) → World → Prop) (W : World) (hJ : AbidesFrom W.heap.size J)
    (hn₀ : 1 < n₀) (hT : Tab W) (hBn : Blk W Bn 24 (cells4 S))
    (hY : ∀ pre x W1, J pre W1 → pre.length < (rowsOf S).length → YieldAt Fence.wide (n - 1) Tryd.prog l (encs x) W1 fun e W' =>
      (e = .returned (.bool true) ∧ J (pre ++ [x]) W' ∧ Kp n₀ W1 W') ∨ (e = .returned (.bool false) ∧ Jx (pre ++ [x]) W'))
    (h0 : J [] W) :
    CallsIn Fence.wide n Tryd.prog 42 #[.func (.yield l) #[] #[], .pointer (some ⟨Bn, 0, none⟩)] W fun e W' => (∃ v, e = .returned v) ∧
      ((∃ ys, ys = rowsOf S ∧ J ys W') ∨ (∃ pre, pre <+: rowsOf S ∧ Jx pre W')) := by
  refine callsIn_of_wp Tryd.func42 rfl trivial ?_ rfl
  simp only [Tryd.ntmps42, List.size_toArray, List.length_cons, List.length_nil, Nat.reduceAdd, Nat.reduceSub, Array.replicate_succ, Array.replicate_zero, List.push_toArray, List.append_toArray, List.nil_append, List.cons_append]
  obtain ⟨c0, c1, c2, c3⟩ := hBn.cells
  gi_wp2_with fail
  refine ⟨trivial, (callsIn_wide.2 (not_to S W)).mono ?_⟩
  rintro e W1 ⟨rfl, hb1⟩
  clear c0 c1 c2 c3
  have hBn1 : Blk (W1.alloc (.cells (cells4 (neg S)) 24)) Bn 24 (cells4 S) := (hBn.below hb1 hBn.lt).alloc _
  have hBo1 : Blk (W1.alloc (.cells (cells4 (neg S)) 24)) W1.heap.size 24 (cells4 (neg S)) := Blk.new _ _ _
  have hT1 : Tab (W1.alloc (.cells (cells4 (neg S)) 24)) := (hT.below' hb1).below' (bal (Below.refl _ _) _)
  have hJ1 : J [] (W1.alloc (.cells (cells4 (neg S)) 24)) := hJ _ _ _ none (hJ _ _ _ none h0 (grown_of_below hb1) (by simp)) (grown_of_below (bal (Below.refl _ _) _)) (by simp)
  obtain ⟨c0, c1, c2, c3⟩ := hBn1.cells
  gi_wp2_with fail
  refine ⟨trivial, (callsIn_wide.2 (next_any S 0 (by decide) _ hT1)).mono ?_⟩
  rintro e W2 ⟨rfl, hb2⟩
  clear c0 c1 c2 c3
  have hBn2 : Blk W2 Bn 24 (cells4 S) := hBn1.below hb2 hBn1.lt
  have hBo2 : Blk W2 W1.heap.size 24 (cells4 (neg S)) := hBo1.below hb2 hBo1.lt
  have hT2 : Tab W2 := hT1.below' hb2
  have hJ2 : J [] W2 := hJ _ _ _ none hJ1 (grown_of_below hb2) (by simp)
  have hR2 : Hid (rowsOf S = [] ++ rowsL S (nxt S 0)) := Lib.hid rfl
  have hle := (nxt_spec S 0 (by decide)).2.1
  have hS0 := Lib.hid (nxt_spec S 0 (by decide)).2.2.2
  clear hBn1 hBo1 hT1 hJ1 hb1 hb2
  generalize hb0 : nxt S 0 = b0 at hR2 hle hS0
  clear hb0
  gi_wp2_with fail
  gi_loopw [4] (fun p wr => ∃ (pre : List (Nat × Nat)) (b : Nat), p = .int .i64 b ∧ b ≤ 256 ∧ Hid (b < 256 → S b = true) ∧ Hid (rowsOf S = pre ++ rowsL S b) ∧ Blk wr Bn 24 (cells4 S) ∧ Blk wr W1.heap.size 24 (cells4 (neg S)) ∧ Tab wr ∧ J pre wr)
    (fun p _ => 256 - (intOf p).toNat)
  case atStart => exact ⟨[], b0, rfl, hle, hS0, hR2, hBn2, hBo2, hT2, hJ2⟩
  case round =>
    obtain ⟨pre, b, rfl, hb, hSb, hpre, hBn3, hBo3, hT3, hJ3⟩ := hrel
    by_cases hlt : b < 256
    · obtain ⟨hg1, hg2⟩ := neg_gt S b hlt (hSb.out hlt)
      obtain ⟨g, hg⟩ : ∃ g, nxt (neg S) b = g + 1 := ⟨nxt (neg S) b - 1, by omega⟩
      obtain ⟨b', hb'⟩ : ∃ b', nxt S (g + 1) = b' := ⟨_, rfl⟩
      have hst := nxt_step S b hlt
      have hS' := Lib.hid (nxt_spec S (g + 1) (by omega)).2.2.2
      have hrow := Lib.hid (rowsL_cons S b hlt)
      have HG := Lib.hid hg
      rw [hg] at hrow hst hg1 hg2
      rw [hb'] at hrow hst hS'
      simp only [Nat.add_sub_cancel] at hrow
      have HB := Lib.hid hb'
      obtain ⟨hst1, hst2⟩ := hst
      have hbg : b ≤ g := by omega
      have hg255 : g ≤ 255 := by omega
      clear hg hb' hg1 hg2
      obtain ⟨c0, c1, c2, c3⟩ := hBo3.cells
      gi_wp2_with fail
      refine ⟨trivial, (callsIn_wide.2 (next_to (neg S) b (g + 1) hb HG.out _ hT3)).mono ?_⟩
      rintro e W4 ⟨rfl, hb4⟩
      clear c0 c1 c2 c3
      have hBn4 := hBn3.below hb4 hBn3.lt
      have hBo4 := hBo3.below hb4 hBo3.lt
      have hT4 := hT3.below' hb4
      have hJ4 := hJ _ _ _ none hJ3 (grown_of_below hb4) (by simp)
      have hlen : pre.length < (rowsOf S).length := by rw [hpre.out, hrow.out]; simp
      obtain ⟨fn, tmps, assign, body, hy, hR⟩ := hY pre (b, g) W4 hJ4 hlen
      clear hBn3 hBo3 hT3 hJ3 hlen
      unfold encs at hy
      dsimp only at hy
      gi_wp2
      refine hR.mono ?_
      rintro e W5 (⟨rfl, hJ5, hk5⟩ | ⟨rfl, hJx5⟩)
      · have hBn5 := hk5.1 _ _ hBn4
        have hBo5 := hk5.1 _ _ hBo4
        have hT5 := hT4.below hk5.2 hn₀
        clear hBn4 hBo4 hT4 hJ4 hk5 hb4 hy hR
        obtain ⟨c0, c1, c2, c3⟩ := hBn5.cells
        gi_wp2_with fail
        refine ⟨trivial, (callsIn_wide.2 (next_up S g b' (by omega) HB.out _ hT5)).mono ?_⟩
        rintro e W6 ⟨rfl, hb6⟩
        clear c0 c1 c2 c3
        have hBn6 := hBn5.below hb6 hBn5.lt
        have hBo6 := hBo5.below hb6 hBo5.lt
        have hT6 := hT5.below' hb6
        have hJ6 := hJ _ _ _ none hJ5 (grown_of_below hb6) (by simp)
        gi_wp2
        go_roundw
        case rel => exact ⟨pre ++ [(b, g)], b', rfl, hst2, hS', Lib.hid (by rw [hpre.out, hrow.out, List.append_assoc]; rfl), hBn6, hBo6, hT6, hJ6⟩
        case measure => simp [intOf]; omega
      · gi_wp2
        refine bodyPost_ret (results_none rfl _ _ _) rfl ?_
        exact ⟨⟨_, rfl⟩, .inr ⟨pre ++ [(b, g)], ⟨rowsL S b', by rw [hpre.out, hrow.out, List.append_assoc]; rfl⟩, hJx5⟩⟩
    · obtain rfl : b = 256 := by omega
      gi_wp2
      go_end0
      exact ⟨⟨_, rfl⟩, .inl ⟨pre, by rw [hpre.out, rowsL_end, List.append_nil], hJ3⟩⟩

end Go.Proofs.YtgckhkdjjmeboaaDoor
