/-
  The walk of package intern's rowOf: a key's row, in memory of the call's own. Conditions: the key is that of a row of at most 1000 numbers.
-/
import Derived.Test.YtbnnfhpphelmfaaInternKeyW
import Derived.Test.YtbnnfhpphelmfaaNums
import Derived.Laws.Bits64b
namespace Go.Proofs.Ytbnnfhpphelmfaa
open Go.RowKit

theorem make_ints (n : Nat) (hn : n ≤ 1099511627776) (w : World) : (Instr.makeSlice 22 (.int .i64 (n : Int)) (.int .i64 (n : Int))).run Try.prog w = .ok (.slice (some ⟨w.heap.size, 0, none⟩) n n) (w.alloc (.cells (nums .i64 n fun _ => 0) 3)) := by
  obtain ⟨i0, hi, hz0, hz1, hz2⟩ := info_parts info_num
  have := run_make (P := Try.prog) w 22 3 i0 (.int .i64 0) Try.underlying22 hi hz0 .i64 .i64 (n : Int) (n : Int) (by omega) (by omega) (by rw [hz2]; omega) (by omega)
  rw [this]
  have e : madeCells (Value.int .i64 0).cells ((n : Int).toNat * i0.size) = nums .i64 n fun _ => 0 := by
    rw [hz1, Int.toNat_natCast, Nat.mul_one]; exact nums_made _ _
  rw [e]
  rfl
/-- The first k of them, stored. -/
def rowTo (L : List Int) (k : Nat) : Nat → Int := fun i => if i < k then L.getD i 0 else 0
theorem rowTo_succ (L : List Int) (k : Nat) : rowTo L (k + 1) = fun i => if i = k then L.getD k 0 else rowTo L k i := by
  funext i
  unfold rowTo
  by_cases e : i = k
  · subst e; simp
  · have : (i < k + 1) = (i < k) := by apply propext; omega
    simp only [this, if_neg e]
theorem key_size (L : List Int) : (strOfNums (keyI L)).size = 8 * L.length := by rw [strOfNums_size, keyI_len]
theorem key_byte (L : List Int) (k i : Nat) (hk : k < L.length) (hi : i < 8) (h : 8 * k + i < (strOfNums (keyI L)).size) : ((strOfNums (keyI L))[8 * k + i]'h).toNat = byt (L.getD k 0) i := by
  have h2 := keyI_at L k i hk hi
  have h3 : 8 * k + i < (keyI L).length := by rw [keyI_len]; omega
  have e : (strOfNums (keyI L))[8 * k + i]'h = UInt8.ofNat ((keyI L)[8 * k + i]).toNat := by
    show (strOfNums (keyI L)).data[8 * k + i]'_ = _
    simp [strOfNums]
  rw [e]
  rw [List.getD, List.getElem?_eq_getElem h3, Option.getD_some] at h2
  rw [h2, UInt8.toNat_ofNat']
  have := byt_lt (L.getD k 0) i
  omega

theorem wrap_u (n : Nat) (h : n < 18446744073709551616) : IntKind.u64.wrap (n : Int) = (n : Int) := by
  show (n : Int) % 18446744073709551616 = n
  omega
theorem byt_top (x : Int) (p : Nat) (hp : p < 8) : byt x p * 2 ^ (8 * p) < 18446744073709551616 := by
  have h1 := byt_lt x p
  have h2 : 2 ^ (8 * p) ≤ 2 ^ 56 := Nat.pow_le_pow_right (by decide) (by omega)
  have h3 : byt x p * 2 ^ (8 * p) ≤ 255 * 2 ^ 56 := Nat.mul_le_mul (by omega) h2
  omega
theorem or_step (x : Int) (p b : Nat) (hp : p < 8) (hb : b = byt x p) : bits BinOp.or IntKind.u64 ((low x p : Nat) : Int) (IntKind.u64.wrap (IntKind.u64.wrap (b : Int) * 2 ^ (8 * p))) = ((low x (p + 1) : Nat) : Int) := by
  subst hb
  have h1 := byt_lt x p
  have h2 := byt_top x p hp
  rw [wrap_u _ (by omega), show ((byt x p : Nat) : Int) * 2 ^ (8 * p) = ((byt x p * 2 ^ (8 * p) : Nat) : Int) by push_cast; rfl, wrap_u _ h2]
  have h3 : low x p < 18446744073709551616 := by have := low_lt x p; have : 2 ^ (8 * p) ≤ 2 ^ 56 := Nat.pow_le_pow_right (by decide) (by omega); omega
  rw [bits_or_u64_nat _ _ h3 h2, or_low]
theorem back_i (x : Int) (h : -9223372036854775808 ≤ x ∧ x ≤ 9223372036854775807) : IntKind.i64.wrap ((uN x : Nat) : Int) = x := by
  rw [uN_cast, IntKind.wrap_i64]
  omega
theorem owns_nums {W : World} {g n : Nat} {f : Nat → Int} {L : List Int} (hn : L.length = n) (hm : n ≤ maxLen) (h : Blk W g 3 (nums .i64 n f)) (hf : ∀ i, i < n → f i = L.getD i 0) :
    W.ownsRow g 3 1 (.slice (some ⟨g, 0, none⟩) n n) n (numCells L) := by
  refine ⟨by simp [hn], .inr ⟨g, n, _, rfl, Nat.le_refl _, h, Nat.le_refl _, hm, by rw [nums_size, Nat.mul_one], ?_⟩⟩
  refine List.ext_getElem? fun i => ?_
  rw [Nat.mul_one]
  by_cases hi : i < n
  · rw [List.getElem?_take_of_lt hi, Array.getElem?_toList, nums_get _ _ _ i hi, hf i hi]
    simp [List.getD, hn, hi]
  · rw [List.getElem?_eq_none (by simp; omega), List.getElem?_eq_none (by simp; omega)]

set_option maxRecDepth 100000 in
set_option maxHeartbeats 1000000 in
theorem row_of (L : List Int) (hm : L.length ≤ 1000) (hR : Rng L) (w : World) :
    Calls Try.prog 32 #[.string (strOfNums (keyI L))] w fun e w' => ∃ v, e = .returned v ∧ w'.ownsRow w.heap.size 3 1 v L.length (numCells L) ∧ Below w.heap.size w w' := by
  obtain ⟨n, hn⟩ : ∃ n, L.length = n := ⟨_, rfl⟩
  have HN := Lib.hid hn
  have hsz := key_size L
  have HB := Lib.hid (key_byte L)
  have HR := Lib.hid hR
  rw [hn] at hm hsz
  generalize strOfNums (keyI L) = s at hsz HB
  have hmk := make_ints n (by omega)
  have hsz' : (s.size : Int) = 8 * (n : Int) := by omega
  clear hn hR
  go_enter Try.func32, Try.ntmps32
  go_wp2
  go_loopw [13] (fun i wr => ∃ k : Nat, k ≤ n ∧ i = .int .i64 k ∧ Blk wr w.heap.size 3 (nums .i64 n (rowTo L k)) ∧ Below w.heap.size w wr)
    (fun i _ => n - (intOf i).toNat)
  case atStart => exact ⟨0, Nat.zero_le _, rfl, by have e : nums .i64 n (rowTo L 0) = nums .i64 n fun _ => 0 := nums_ext fun i _ => by simp [rowTo]
                                                   rw [e]; exact Blk.new _ _ _, bal (Below.refl _ _) _⟩
  case round =>
    obtain ⟨k, hk, rfl, hM, hB⟩ := hrel
    by_cases hlt : k < n
    · have i0 : (0 : Int) ≤ (k : Int) := by omega
      have i1 : (k : Int) < (n : Int) := by omega
      have HBK := Lib.hid (fun i (hi : i < 8) h => HB.out k i (by rw [HN.out]; exact hlt) hi h)
      have HRK := Lib.hid (HR.out.at k (by rw [HN.out]; exact hlt))
      have HTO := Lib.hid (rowTo_succ L k)
      clear HB HR
      generalize L.getD k 0 = x at *
      go_wp2
      go_loopw [5, 16] (fun v i wr' => ∃ p : Nat, p ≤ 8 ∧ i = .int .i64 p ∧ v = .int .u64 ((low x p : Nat) : Int) ∧ Blk wr' w.heap.size 3 (nums .i64 n (rowTo L k)) ∧ Below w.heap.size w wr')
        (fun _ i _ => 8 - (intOf i).toNat)
      case atStart => exact ⟨0, Nat.zero_le _, rfl, by rw [low_zero]; rfl, hM, hB⟩
      case round =>
        clear hM hB
        obtain ⟨p, hp, rfl, rfl, hM, hB⟩ := hrel
        by_cases hlt2 : p < 8
        · have j1 : (p : Int) < 8 := by omega
          have j0 : (0 : Int) ≤ 8 * (k : Int) + (p : Int) := by omega
          have j2 : 8 * (k : Int) + (p : Int) < (s.size : Int) := by omega
          have hp0 : 8 * k + p < s.size := by omega
          have HOR := Lib.hid (or_step x p _ hlt2 (HBK.out p hlt2 hp0))
          go_wp2
          go_roundw
          case rel => exact ⟨p + 1, by omega, by go_num, by rw [HOR.out], hM, hB⟩
          case measure => simp [intOf]; omega
        · obtain rfl : p = 8 := by omega
          have hp8 : ¬ ((8 : Nat) : Int) < 8 := by omega
          have HX := Lib.hid (show wrap64 ((low x 8 : Nat) : Int) = x by rw [low_eight, ← IntWalk.i64_left]; exact back_i x HRK.out)
          generalize low x 8 = u at HX ⊢
          have h1 := hM.set k (.int .i64 x)
          rw [nums_set, ← HTO.out] at h1
          have hs := (hM.cell k).trans (nums_get _ _ _ k hlt)
          have hsf := hM.frozen k
          go_wp2
          rw [HX.out]
          go_roundw
          case rel => exact ⟨k + 1, by omega, by go_num, h1, hB.setCell (by simp) _⟩
          case measure => simp [intOf]; omega
    · obtain rfl : k = n := by omega
      have i1 : ¬ (k : Int) < (k : Int) := by omega
      go_wp2
      go_ret
      refine ⟨_, rfl, ?_, hB⟩
      rw [HN.out]
      exact owns_nums HN.out (by unfold maxLen; omega) hM fun i hi => by simp [rowTo, hi]
end Go.Proofs.Ytbnnfhpphelmfaa
