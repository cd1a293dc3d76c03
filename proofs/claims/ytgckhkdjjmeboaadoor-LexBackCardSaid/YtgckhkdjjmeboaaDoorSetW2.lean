/-
  Walks of package set's Both, Any, Less, Size, next and First: what each returns; nothing that was there before the call has changed. Conditions: the table of math/bits as it is laid.
-/
import Derived.Test.YtgckhkdjjmeboaaDoorSetW1
import Derived.RegionTactic
import Derived.ChangeAlike
import Derived.BigRegion
import Derived.Lib.Hide
namespace Go.Proofs.YtgckhkdjjmeboaaDoor
open Go.RowKit

set_option maxHeartbeats 800000 in
theorem any_any (S T : Nat → Bool) (w : World) :
    Calls Tryd.prog 49 #[sv S, sv T] w fun e w' => e = .returned (sv fun i => S i || T i) ∧ Below w.heap.size w w' := by
  have h0 := wd_or S T 0
  have h1 := wd_or S T 1
  have h2 := wd_or S T 2
  have h3 := wd_or S T 3
  go_enter Tryd.func49, Tryd.ntmps49
  go_wp2
  refine wp_loop_rounds 5 ?_
  iterate 4 (rw [rounds_succ]; go_wp2; go_region; go_wp2)
  rw [rounds_succ]
  go_wp2
  refine bodyPost_ret (v := sv fun i => S i || T i) (by simp [results, Tryd.results49, go_sem]) rfl ⟨rfl, ?_⟩
  repeat (first | exact Below.refl _ _ | apply Below.drew | apply bal)

set_option maxHeartbeats 400000 in
theorem size_any (S : Nat → Bool) (w : World) :
    Calls Tryd.prog 16 #[sv S] w fun e w' => e = .returned (.int .i64 ((cnt S 256 : Nat) : Int)) ∧ Below w.heap.size w w' := by
  have i0 : ∀ w, (Instr.index 24 (sv S) (.int .i64 0)).run Tryd.prog w = .ok (.int .u64 ((wd S 0 : Nat) : Int)) w := fun _ => by kernel_rfl
  have i1 : ∀ w, (Instr.index 24 (sv S) (.int .i64 1)).run Tryd.prog w = .ok (.int .u64 ((wd S 1 : Nat) : Int)) w := fun _ => by kernel_rfl
  have i2 : ∀ w, (Instr.index 24 (sv S) (.int .i64 2)).run Tryd.prog w = .ok (.int .u64 ((wd S 2 : Nat) : Int)) w := fun _ => by kernel_rfl
  have i3 : ∀ w, (Instr.index 24 (sv S) (.int .i64 3)).run Tryd.prog w = .ok (.int .u64 ((wd S 3 : Nat) : Int)) w := fun _ => by kernel_rfl
  have l0 := c64_le S 0
  have l1 := c64_le S 1
  have l2 := c64_le S 2
  have l3 := c64_le S 3
  have hs := Lib.hid (size_cnt S)
  go_enter Tryd.func16, Tryd.ntmps16
  go_wp2
  refine wp_loop_rounds 5 ?_
  iterate 5 (rw [rounds_succ]; go_wp2_with (go_at_call 29; refine (ones_any S _ _).mono ?_; rintro e w' ⟨rfl, rfl⟩))
  go_ret
  exact ⟨ret_int (by have := hs.out; omega), bal (Below.refl _ _) _⟩

theorem tz_core (x k idx : Nat) (w : World) (hx0 : ((x : Int) == 0) = false)
    (key : IntKind.u64.wrap (bits BinOp.and IntKind.u64 (x : Int) (IntKind.u64.wrap (-(x : Int))) * 285870213051353865) / 288230376151711744 = (idx : Int))
    (hi : idx < 64) (hk : k < 64) (hcell : w.cell? ⟨1, idx, none⟩ = some (.int .u8 k)) :
    Calls Tryd.prog 52 #[.int .u64 x] w fun e w' => e = .returned (.int .i64 k) ∧ w = w' := by
  go_enter Tryd.func52, Tryd.ntmps52
  go_wp2_with (simp only [key])
  go_ret
  exact ⟨rfl, rfl⟩

theorem tz_zero (w : World) :
    Calls Tryd.prog 52 #[.int .u64 0] w fun e w' => e = .returned (.int .i64 64) ∧ w = w' := by
  go_enter Tryd.func52, Tryd.ntmps52
  go_wp2
  go_ret
  exact ⟨rfl, rfl⟩

/-- math/bits.TrailingZeros64. -/
theorem tz_any (x : Nat) (hx : x < 18446744073709551616) (w : World) (hT : Tab w) :
    Calls Tryd.prog 52 #[.int .u64 x] w fun e w' => e = .returned (.int .i64 (Lib.ctz 64 x)) ∧ w = w' := by
  by_cases hx0 : x = 0
  · subst hx0
    exact tz_zero w
  · obtain ⟨hlow, hk⟩ := Lib.lowest_bit 64 x hx0 hx
    obtain ⟨hi, htab⟩ := Lib.deBruijn64_at _ hk
    refine tz_core x (Lib.ctz 64 x) _ w (by simp; omega) (tz64_key x _ hx hx0 hlow) hi hk ?_
    have hc := hT _ (show 2 ^ Lib.ctz 64 x * 285870213051353865 % 18446744073709551616 / 288230376151711744 < Lib.deBruijn64tab.length from hi)
    rw [htab] at hc
    exact hc

theorem rest_int (S : Nat → Bool) (b : Nat) : (((wd S (b / 64) : Nat) : Int) / 2 ^ (b % 64)) = ((rest S b : Nat) : Int) := by
  unfold rest; rw [Int.natCast_ediv, Int.natCast_pow]; rfl

set_option maxRecDepth 100000 in
set_option maxHeartbeats 1000000 in
theorem next_any (S : Nat → Bool) (a : Nat) (ha : a ≤ 256) (w : World) (hT : Tab w) :
    Calls Tryd.prog 43 #[sv S, .int .i64 a] w fun e w' => e = .returned (.int .i64 ((nxt S a : Nat) : Int)) ∧ Below w.heap.size w w' := by
  obtain ⟨n, hn⟩ : ∃ n, nxt S a = n := ⟨_, rfl⟩
  have HN := Lib.hid hn
  rw [hn]
  clear hn
  have hT1 : Tab (w.alloc (.cells (cells4 S) 24)) := hT.below' (bal (Below.refl _ _) _)
  go_enter Tryd.func43, Tryd.ntmps43
  go_wp2
  go_loop [1] (fun t => ∃ b : Nat, b ≤ 256 ∧ Hid (nxt S b = n) ∧ t = .int .i64 b) (fun t => 256 - (intOf t).toNat)
  case atStart => exact ⟨a, ha, HN, rfl⟩
  case round =>
    obtain ⟨b, hb, hbn, rfl⟩ := hrel
    by_cases hlt : b < 256
    · have h := ((Blk.new w 24 (cells4 S)).cell (b / 64)).trans (cells4_get S (b / 64) (by omega))
      have hr := rest_int S b
      by_cases h0 : rest S b = 0
      · have h1 : (((rest S b : Nat) : Int) == 0) = true := by simpa using h0
        have h2 : (((rest S b : Nat) : Int) != 0) = false := by simpa using h0
        have hsk := Lib.hid (nxt_skip S b hlt h0)
        clear h0
        go_wp2
        go_round
        case rel => exact ⟨b + (64 - b % 64), by omega, Lib.hid (hsk.out.symm.trans hbn.out), by go_num⟩
        case measure => simp [intOf]; omega
      · have h1 : (((rest S b : Nat) : Int) == 0) = false := by simpa using h0
        have h2 : (((rest S b : Nat) : Int) != 0) = true := by simpa using h0
        obtain ⟨hh, hk⟩ := nxt_here S b hlt h0
        have hhh := Lib.hid hh
        clear h0 hh
        go_wp2_with (go_at_call 52; refine (tz_any (rest S b) (rest_lt S b) _ (by exact hT1)).mono ?_; rintro e w' ⟨rfl, rfl⟩)
        go_ret
        exact ⟨ret_int (by have := hhh.out; have := hbn.out; omega), bal (Below.refl _ _) _⟩
    · have he : nxt S b = b := by
        have := nxt_spec S b hb; omega
      have hee := Lib.hid he
      clear he
      go_wp2
      go_ret
      exact ⟨ret_int (by have := hee.out; have := hbn.out; omega), bal (Below.refl _ _) _⟩

end Go.Proofs.YtgckhkdjjmeboaaDoor
