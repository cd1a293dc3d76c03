/-
  The walk of the statement SetRows: of any set and any two bytes it returns true; nothing that was there before the call has changed. Conditions: bytes up to 255, the table of math/bits as it is laid.
-/
import Derived.Test.YtanpammidlphbaaDoorSetAwake
import Derived.Test.YtanpammidlphbaaDoorSetOps
import Derived.Test.YtanpammidlphbaaDoorSetRowsMath
import Derived.Deep.RegionHeld3
import Derived.Deep.QuietTactic
import Derived.BigQuiet
namespace Go.Proofs.YtanpammidlphbaaDoor
open Go.RowKit

/-- v is a slice of these pairs, each at its place. -/
def At (W : World) (ao : Option Addr) (p : List (Nat × Nat)) : Prop :=
  0 < p.length → ∃ g, ao = some ⟨g, 0, none⟩ ∧ ∀ i, i < p.length →
      W.cell? ⟨g, i * 2, none⟩ = some (.int .u8 (((p.getD i (0, 0)).1 : Nat) : Int)) ∧ W.cell? ⟨g, i * 2 + 1, none⟩ = some (.int .u8 (((p.getD i (0, 0)).2 : Nat) : Int))
theorem PS.at {W : World} {v : Value} {p : List (Nat × Nat)} (h : PS W v p) : ∃ ao cap, v = .slice ao p.length cap ∧ At W ao p := by
  rcases h with ⟨rfl, rfl⟩ | ⟨g, cap, rfl, h⟩
  · exact ⟨none, 0, rfl, fun h => by simp at h⟩
  · exact ⟨_, _, rfl, fun _ => ⟨g, rfl, h⟩⟩
theorem At.below {W W' : World} {ao : Option Addr} {p : List (Nat × Nat)} (h : At W ao p) {n : Nat} (hb : Below n W W') (hn : W.heap.size ≤ n) : At W' ao p := by
  intro hp
  obtain ⟨g, rfl, hc⟩ := h hp
  refine ⟨g, rfl, fun i hi => ?_⟩
  have hg : g < W.heap.size := by
    rcases Nat.lt_or_ge g W.heap.size with h' | h'
    · exact h'
    · have := (hc 0 hp).1; simp [World.cell?, Array.getElem?_eq_none h'] at this
  exact ⟨(hb.cell (p := ⟨g, _, none⟩) (by simp only; omega)).trans (hc i hi).1, (hb.cell (p := ⟨g, _, none⟩) (by simp only; omega)).trans (hc i hi).2⟩

theorem far4 {w : World} {g b8 : Nat} (h : g < b8) (u0 u1 u2 u3 : Value) (o : Nat) :
    ((((w.setCell ⟨b8, 0, none⟩ u0).setCell ⟨b8, 1, none⟩ u1).setCell ⟨b8, 2, none⟩ u2).setCell ⟨b8, 3, none⟩ u3).cell? ⟨g, o, none⟩ = w.cell? ⟨g, o, none⟩ :=
  Below.cell (B := b8) (((((Below.refl b8 w).setCell (p := ⟨b8, 0, none⟩) (Nat.le_refl _) u0).setCell (p := ⟨b8, 1, none⟩) (Nat.le_refl _) u1).setCell (p := ⟨b8, 2, none⟩) (Nat.le_refl _) u2).setCell (p := ⟨b8, 3, none⟩) (Nat.le_refl _) u3) (p := ⟨g, o, none⟩) h
theorem set4 {w : World} {b8 : Nat} {A : Nat → Bool} (h : Blk w b8 25 (cells4 A)) (T : Nat → Bool) :
    Blk ((((w.setCell ⟨b8, 0, none⟩ (.int .u64 ((wd T 0 : Nat) : Int))).setCell ⟨b8, 1, none⟩ (.int .u64 ((wd T 1 : Nat) : Int))).setCell ⟨b8, 2, none⟩ (.int .u64 ((wd T 2 : Nat) : Int))).setCell ⟨b8, 3, none⟩ (.int .u64 ((wd T 3 : Nat) : Int))) b8 25 (cells4 T) :=
  (((h.set 0 _).set 1 _).set 2 _).set 3 _

theorem low4 (w : World) (b8 : Nat) (u0 u1 u2 u3 : Value) : Below b8 w ((((w.setCell ⟨b8, 0, none⟩ u0).setCell ⟨b8, 1, none⟩ u1).setCell ⟨b8, 2, none⟩ u2).setCell ⟨b8, 3, none⟩ u3) :=
  ((((Below.refl b8 w).setCell (p := ⟨b8, 0, none⟩) (Nat.le_refl _) u0).setCell (p := ⟨b8, 1, none⟩) (Nat.le_refl _) u1).setCell (p := ⟨b8, 2, none⟩) (Nat.le_refl _) u2).setCell (p := ⟨b8, 3, none⟩) (Nat.le_refl _) u3
theorem At.low {W W' : World} {g : Nat} {p : List (Nat × Nat)} (h : At W (some ⟨g, 0, none⟩) p) {n : Nat} (hb : Below n W W') (hg : g < n) : At W' (some ⟨g, 0, none⟩) p := by
  intro hp
  obtain ⟨g', e, hc⟩ := h hp
  cases e
  exact ⟨g, rfl, fun i hi => ⟨(hb.cell (p := ⟨g, _, none⟩) hg).trans (hc i hi).1, (hb.cell (p := ⟨g, _, none⟩) hg).trans (hc i hi).2⟩⟩

set_option maxRecDepth 100000 in
set_option maxHeartbeats 20000000 in
theorem setRows_walk (S : Nat → Bool) (a z : Nat) (ha : a ≤ 255) (hz : z ≤ 255) (w : World) (hT : Tab w) :
    Calls Tryd.prog 6 #[sv S, .int .u8 a, .int .u8 z] w fun e w' => e = .returned (.bool true) ∧ Below w.heap.size w w' := by
  have hgd := guard25
  go_enter Tryd.func6, Tryd.ntmps6
  go_wp2_with fail
  have hS0 := Blk.new w 25 (cells4 S)
  have hB0 := bal (Below.refl w.heap.size w) (.cells (cells4 S) 25)
  refine (setRows_any S _ (hT.below' hB0)).mono ?_
  rintro e w1 ⟨v, rfl, hown, hb1⟩
  obtain ⟨ao, cap, rfl, hat0⟩ := (PS.of_owns hown).at
  have hok := Lib.hid (rowsOf_ok S)
  have hlen := rowsOf_length S
  have hacc := Lib.hid (fun i (hi : i < 256) => accOf_rows S i hi)
  generalize rowsOf S = p at *
  have hB1 := bal (btr hB0 hb1) (.cells zero4 25)
  have hS1 := (hS0.below hb1 hS0.lt).alloc (.cells zero4 25)
  have hA1 : Blk (w1.alloc (.cells zero4 25)) w1.heap.size 25 (cells4 (accOf (p.take 0))) := by rw [List.take_zero]; exact Blk.new _ _ _
  have hT1 := hT.below' hB1
  have hat1 := Lib.hid (hat0.below (bal (Below.refl _ _) (.cells zero4 25)) (Nat.le_refl _))
  have hgt : w.heap.size < w1.heap.size := by have := hb1.size; simp at this; omega
  have hlow := Lib.hid (show ∀ g, ao = some ⟨g, 0, none⟩ → 0 < p.length → g < w1.heap.size from fun g hg hp => by
    obtain ⟨g', e, hc⟩ := hat0 hp
    rw [e] at hg; cases hg
    rcases Nat.lt_or_ge g w1.heap.size with h' | h'
    · exact h'
    · have := (hc 0 hp).1; simp [World.cell?, Array.getElem?_eq_none h'] at this)
  obtain ⟨n, hn⟩ : ∃ n, p.length = n := ⟨_, rfl⟩
  have HN := Lib.hid hn
  rw [hn] at hlen hlow ⊢
  clear hat0 hown hb1 hB0 hS0 hT hn
  go_wp2_with fail
  generalize w1.heap.size = b8 at *
  go_loopw [9] (fun i wr => ∃ k : Nat, k ≤ n ∧ i = .int .i64 k ∧ Blk wr b8 25 (cells4 (accOf (p.take k))) ∧ Blk wr w.heap.size 25 (cells4 S) ∧ Tab wr ∧ Hid (At wr ao p) ∧ Below w.heap.size w wr)
    (fun i _ => n - (intOf i).toNat)
  case atStart => exact ⟨0, Nat.zero_le _, rfl, hA1, hS1, hT1, hat1, hB1⟩
  case round =>
    clear hA1 hS1 hT1 hat1 hB1
    obtain ⟨k, hk, rfl, hA, hS, hT, hat, hB⟩ := hrel
    by_cases hlt : k < n
    · obtain ⟨g, rfl, hc⟩ := hat.out (by rw [HN.out]; omega)
      have hlow' := hlow.out g rfl (by omega)
      have hr := hok.out.at k (by rw [HN.out]; exact hlt)
      have hacck := Lib.hid (accOf_take p k (by rw [HN.out]; exact hlt))
      obtain ⟨c1, c2⟩ := hc k (by rw [HN.out]; exact hlt)
      have hprev : 0 < k → ∃ y : Nat, wr.cell? ⟨g, (k - 1) * 2 + 1, none⟩ = some (.int .u8 (y : Int)) ∧ y + 2 ≤ (p.getD k (0, 0)).1 := fun h0 => by
        refine ⟨_, (hc (k - 1) (by rw [HN.out]; omega)).2, ?_⟩
        have := hok.out.gap (k - 1) (by rw [HN.out]; omega)
        rwa [show k - 1 + 1 = k by omega] at this
      clear hc
      generalize p.getD k (0, 0) = x at hr hacck c1 c2 hprev
      obtain ⟨xa, xz⟩ := x
      simp only at hr hacck c1 c2 hprev
      obtain ⟨-, hr1, hr2⟩ := hr
      have hlti : (k : Int) < (n : Int) := by omega
      have hk0 : (0 : Int) ≤ (k : Int) := by omega
      have hd1 : decide (xz < xa) = false := decide_eq_false (by omega)
      obtain ⟨y, hy⟩ : ∃ y : Nat, 0 < k → (wr.cell? ⟨g, (k - 1) * 2 + 1, none⟩ = some (.int .u8 (y : Int)) ∧ y + 2 ≤ xa) := by
        by_cases h0 : 0 < k
        · obtain ⟨y, hy⟩ := hprev h0
          exact ⟨y, fun _ => hy⟩
        · exact ⟨0, fun h => absurd h h0⟩
      have HY := Lib.hid hy
      clear hprev hy
      have hd2 : Hid (0 < k → decide ((xa : Int) ≤ (y : Int) + 1) = false) := Lib.hid fun h => by have := (HY.out h).2; exact decide_eq_false (by omega)
      by_cases h0 : 0 < k
      · have hd0 : decide (0 < k) = true := decide_eq_true h0
        have hk1 : (1 : Int) ≤ (k : Int) := by omega
        have cy := (HY.out h0).1
        have hy2 := (HY.out h0).2
        have hd2' := hd2.out h0
        go_wp2_with fail
        go_quiet (fail)
        clear hd0 hk1 cy hy2 hd2' HY hd2 h0 hd1
        go_wp2_with fail
        have hA0 : Blk (wr.drewN nq).drew b8 25 (cells4 (accOf (List.take k p))) := hA
        have hS0 : Blk (wr.drewN nq).drew w.heap.size 25 (cells4 S) := hS
        have hT0 : Tab (wr.drewN nq).drew := hT
        have hB0 : Below w.heap.size w (wr.drewN nq).drew := (below_drewN hB nq).drew
        have hat0 : Hid (At (wr.drewN nq).drew (some ⟨g, 0, none⟩) p) := hat
        have hgW : g < (wr.drewN nq).drew.heap.size := Nat.lt_trans hlow' hA0.lt
        obtain ⟨a0, a1, a2, a3⟩ := hA.cells
        clear hA hS hT hB hat hok hlow ha hz hgd
        go_region_with (first | (go_at_call 10; refine (span_any xa xz (by omega) hr2 _).mono ?_; rintro e w1 ⟨rfl, hb1⟩; have hA1 := hA0.below hb1 hA0.lt; have hgW1 : g < w1.heap.size := Nat.lt_of_lt_of_le hgW hb1.size; obtain ⟨e0, e1, e2, e3⟩ := hA1.cells) | (go_at_call 18; refine (any_to _ _ _).mono ?_; rintro e w2 ⟨rfl, hb2⟩; have hA2 := hA1.below hb2 hA1.lt; obtain ⟨f0, f1, f2, f3⟩ := hA2.cells; have g0 := hA2.frozen 0; have g1 := hA2.frozen 1; have g2 := hA2.frozen 2; have g3 := hA2.frozen 3))
        all_goals
          have hB2 := low4 w2 b8 (.int .u64 ((wd (cor (accOf (List.take k p)) (fromTo xa (xz + 1))) 0 : Nat) : Int)) (.int .u64 ((wd (cor (accOf (List.take k p)) (fromTo xa (xz + 1))) 1 : Nat) : Int)) (.int .u64 ((wd (cor (accOf (List.take k p)) (fromTo xa (xz + 1))) 2 : Nat) : Int)) (.int .u64 ((wd (cor (accOf (List.take k p)) (fromTo xa (xz + 1))) 3 : Nat) : Int))
          clear a0 a1 a2 a3 e0 e1 e2 e3 f0 f1 f2 f3 g0 g1 g2 g3
          go_wp2
          go_roundw
          case rel =>
            have hS1 := hS0.below hb1 hS0.lt
            have hT1 := hT0.below' hb1
            have hS2 := hS1.below hb2 hS1.lt
            have hT2 := hT1.below' hb2
            have hat2 := (hat0.out.low hb1 hgW).low hb2 hgW1
            exact ⟨k + 1, by omega, by go_num, by rw [hacck.out]; exact set4 hA2 _, hS2.below hB2 hgt, hT2.below hB2 (by omega), Lib.hid (hat2.low hB2 hlow'), (btr (btr hB0 hb1) hb2).trans (hB2.mono (by omega))⟩
          case measure => simp [intOf]; omega
      · have hd0 : decide (0 < k) = false := decide_eq_false (by omega)
        go_wp2_with fail
        go_quiet (fail)
        clear hd0 HY hd2 h0 hd1
        go_wp2_with fail
        have hA0 : Blk (wr.drewN nq).drew b8 25 (cells4 (accOf (List.take k p))) := hA
        have hS0 : Blk (wr.drewN nq).drew w.heap.size 25 (cells4 S) := hS
        have hT0 : Tab (wr.drewN nq).drew := hT
        have hB0 : Below w.heap.size w (wr.drewN nq).drew := (below_drewN hB nq).drew
        have hat0 : Hid (At (wr.drewN nq).drew (some ⟨g, 0, none⟩) p) := hat
        have hgW : g < (wr.drewN nq).drew.heap.size := Nat.lt_trans hlow' hA0.lt
        obtain ⟨a0, a1, a2, a3⟩ := hA.cells
        clear hA hS hT hB hat hok hlow ha hz hgd
        go_region_with (first | (go_at_call 10; refine (span_any xa xz (by omega) hr2 _).mono ?_; rintro e w1 ⟨rfl, hb1⟩; have hA1 := hA0.below hb1 hA0.lt; have hgW1 : g < w1.heap.size := Nat.lt_of_lt_of_le hgW hb1.size; obtain ⟨e0, e1, e2, e3⟩ := hA1.cells) | (go_at_call 18; refine (any_to _ _ _).mono ?_; rintro e w2 ⟨rfl, hb2⟩; have hA2 := hA1.below hb2 hA1.lt; obtain ⟨f0, f1, f2, f3⟩ := hA2.cells; have g0 := hA2.frozen 0; have g1 := hA2.frozen 1; have g2 := hA2.frozen 2; have g3 := hA2.frozen 3))
        all_goals
          have hB2 := low4 w2 b8 (.int .u64 ((wd (cor (accOf (List.take k p)) (fromTo xa (xz + 1))) 0 : Nat) : Int)) (.int .u64 ((wd (cor (accOf (List.take k p)) (fromTo xa (xz + 1))) 1 : Nat) : Int)) (.int .u64 ((wd (cor (accOf (List.take k p)) (fromTo xa (xz + 1))) 2 : Nat) : Int)) (.int .u64 ((wd (cor (accOf (List.take k p)) (fromTo xa (xz + 1))) 3 : Nat) : Int))
          clear a0 a1 a2 a3 e0 e1 e2 e3 f0 f1 f2 f3 g0 g1 g2 g3
          go_wp2
          go_roundw
          case rel =>
            have hS1 := hS0.below hb1 hS0.lt
            have hT1 := hT0.below' hb1
            have hS2 := hS1.below hb2 hS1.lt
            have hT2 := hT1.below' hb2
            have hat2 := (hat0.out.low hb1 hgW).low hb2 hgW1
            exact ⟨k + 1, by omega, by go_num, by rw [hacck.out]; exact set4 hA2 _, hS2.below hB2 hgt, hT2.below hB2 (by omega), Lib.hid (hat2.low hB2 hlow'), (btr (btr hB0 hb1) hb2).trans (hB2.mono (by omega))⟩
          case measure => simp [intOf]; omega
    · obtain rfl : k = n := by omega
      have hfull : p.take k = p := by rw [← HN.out]; exact List.take_length
      have hqA : ∀ w, (Op.equalIn 10000 25 (sv (accOf (p.take k))) (sv S)).run Tryd.prog w = .ok true w := fun w => by rw [hfull, sv_ext (S := accOf p) (T := S) hacc.out]; exact eq_sets S w
      have hlto : ¬ (k : Int) < (k : Int) := by omega
      clear hok hat hlow hlt hfull
      by_cases haz : z < a
      · have hdz : decide (z < a) = true := decide_eq_true haz
        have hrow := Lib.hid (rows_span_none a z haz)
        clear haz
        go_wp2_with fail
        refine (span_any a z ha hz wr).mono ?_
        rintro e w3 ⟨rfl, hb3⟩
        have hA3 := hA.below hb3 hA.lt
        have hS3 := hS.below hb3 hS.lt
        have hT3 := hT.below' hb3
        have hB3 := btr hB hb3
        clear hA hS hT hB hb3
        go_wp2_with fail
        refine (setRows_any _ w3 hT3).mono ?_
        rintro e w4 ⟨v, rfl, hown, hb4⟩
        rw [hrow.out] at hown
        obtain ⟨mo, mcap, rfl, -⟩ := (PS.of_owns (p := []) hown).at
        have hA4 := hA3.below hb4 hA3.lt
        have hS4 := hS3.below hb4 hS3.lt
        have hT4 := hT3.below' hb4
        have hB4 := btr hB3 hb4
        clear hA3 hS3 hT3 hB3 hb4 hown
        go_wp2_with fail
        refine (awake_any w4 hT4).mono ?_
        rintro e w5 ⟨rfl, hb5⟩
        have hA5 := hA4.below hb5 hA4.lt
        have hS5 := hS4.below hb5 hS4.lt
        have hB5 := btr hB4 hb5
        obtain ⟨a0, a1, a2, a3⟩ := hA5.cells
        obtain ⟨s0, s1, s2, s3⟩ := hS5.cells
        clear hA4 hS4 hT4 hB4 hb5
        go_wp2
        go_ret
        exact ⟨rfl, hB5⟩
      · have hdz : decide (z < a) = false := decide_eq_false haz
        have hrow := Lib.hid (rows_span_one a z (by omega) hz)
        have hqp := eq_pair_t (x := (a, z)) (y := (a, z)) rfl
        simp only at hqp
        have hgp := guard44
        clear haz
        go_wp2_with fail
        refine (span_any a z ha hz wr).mono ?_
        rintro e w3 ⟨rfl, hb3⟩
        have hA3 := hA.below hb3 hA.lt
        have hS3 := hS.below hb3 hS.lt
        have hT3 := hT.below' hb3
        have hB3 := btr hB hb3
        clear hA hS hT hB hb3
        go_wp2_with fail
        refine (setRows_any _ w3 hT3).mono ?_
        rintro e w4 ⟨v, rfl, hown, hb4⟩
        rw [hrow.out] at hown
        obtain ⟨mo, mcap, rfl, hm⟩ := (PS.of_owns (p := [(a, z)]) hown).at
        have hA4 := hA3.below hb4 hA3.lt
        have hS4 := hS3.below hb4 hS3.lt
        have hT4 := hT3.below' hb4
        have hB4 := btr hB3 hb4
        clear hA3 hS3 hT3 hB3 hb4 hown
        go_wp2_with fail
        refine (awake_any w4 hT4).mono ?_
        rintro e w5 ⟨rfl, hb5⟩
        have hA5 := hA4.below hb5 hA4.lt
        have hS5 := hS4.below hb5 hS4.lt
        have hB5 := btr hB4 hb5
        obtain ⟨g, rfl, hm5⟩ := (hm.below hb5 (Nat.le_refl _)) (by simp)
        obtain ⟨m0, m1⟩ := hm5 0 (by simp)
        simp only [Nat.zero_mul, Nat.zero_add, List.getD_cons_zero] at m0 m1
        obtain ⟨a0, a1, a2, a3⟩ := hA5.cells
        obtain ⟨s0, s1, s2, s3⟩ := hS5.cells
        clear hA4 hS4 hT4 hB4 hb5 hm hm5
        go_wp2
        go_ret
        exact ⟨rfl, hB5⟩
end Go.Proofs.YtanpammidlphbaaDoor
