/-
  Walks of the reference's power, Has and Make: two to a number, whether a byte is in a set, the set of those that are asked for; nothing that was there before the call has changed. Conditions: numbers up to 63, bytes up to 255, a slice of 256 truth values.
-/
import Derived.Test.YtgckhkdjjmeboaaDoorSetW2
import Derived.Deep.QuietTactic
import Derived.BigQuiet
import Derived.Deep.RegionWith
namespace Go.Proofs.YtgckhkdjjmeboaaDoor
open Go.RowKit

theorem pow_le (k n : Nat) (h : k ≤ n) (hn : n ≤ 63) : 2 ^ k ≤ 9223372036854775808 := by
  have : 2 ^ k ≤ 2 ^ 63 := Nat.pow_le_pow_right (by decide) (by omega)
  simpa using this

set_option maxHeartbeats 400000 in
theorem pow_any (n : Nat) (hn : n ≤ 63) (w : World) :
    Calls Tryd.prog 44 #[.int .i64 n] w fun e w' => e = .returned (.int .u64 ((2 ^ n : Nat) : Int)) ∧ w' = w := by
  obtain ⟨r, hr⟩ : ∃ r, 2 ^ n = r := ⟨_, rfl⟩
  have HR := Lib.hid hr
  rw [hr]
  clear hr
  go_enter Tryd.func44, Tryd.ntmps44
  go_wp2
  go_loop [3, 4] (fun q i => ∃ k p : Nat, k ≤ n ∧ i = .int .i64 k ∧ q = .int .u64 p ∧ Hid (p = 2 ^ k)) (fun _ i => n - (intOf i).toNat)
  case atStart => exact ⟨0, 1, Nat.zero_le _, rfl, rfl, Lib.hid rfl⟩
  case round =>
    obtain ⟨k, p, hk, rfl, rfl, hp⟩ := hrel
    by_cases hlt : k < n
    · have hle : 2 * p ≤ 9223372036854775808 := by
        have := pow_le (k + 1) n (by omega) hn
        rw [hp.out, Nat.mul_comm, ← Nat.pow_succ]; exact this
      have hw : IntKind.u64.wrap (2 * (p : Int)) = 2 * (p : Int) := by rw [IntKind.wrap_u64]; omega
      go_wp2
      go_round
      case rel => exact ⟨k + 1, 2 * p, by omega, by go_num, by go_num, Lib.hid (by rw [hp.out, Nat.pow_succ, Nat.mul_comm])⟩
      case measure => simp [intOf]; omega
    · have he : Hid (p = r) := Lib.hid (by rw [hp.out, ← HR.out, show k = n by omega])
      go_wp2
      go_ret
      exact ⟨ret_int (by rw [he.out]), rfl⟩

theorem refhas_test (S : Nat → Bool) (x : Nat) : ((IntKind.u64.wrap (((wd S (x / 64) : Nat) : Int) / ((2 ^ (x % 64) : Nat) : Int))).tmod 2 == 1) = S x := by
  have hw : IntKind.u64.wrap ((wd S (x / 64) / 2 ^ (x % 64) : Nat) : Int) = ((wd S (x / 64) / 2 ^ (x % 64) : Nat) : Int) := by
    have := Nat.lt_of_le_of_lt (Nat.div_le_self (wd S (x / 64)) (2 ^ (x % 64))) (wd_lt S (x / 64))
    rw [IntKind.wrap_u64]
    generalize wd S (x / 64) / 2 ^ (x % 64) = d at *
    omega
  rw [← Int.natCast_ediv, hw]
  have e : (((wd S (x / 64) / 2 ^ (x % 64) : Nat) : Int).tmod 2) = ((wd S (x / 64) / 2 ^ (x % 64) % 2 : Nat) : Int) := by
    rw [Int.tmod_eq_emod_of_nonneg (Int.natCast_nonneg _)]; omega
  rw [e, has_iff]
  cases S x <;> rfl

set_option maxHeartbeats 400000 in
theorem refhas_any (S : Nat → Bool) (x : Nat) (hx : x ≤ 255) (w : World) :
    Calls Tryd.prog 31 #[sv S, .int .i64 x] w fun e w' => e = .returned (.bool (S x)) ∧ Below w.heap.size w w' := by
  have h := ((Blk.new w 24 (cells4 S)).cell (x / 64)).trans (cells4_get S (x / 64) (by omega))
  have ht := Lib.hid (refhas_test S x)
  obtain ⟨d, hd⟩ : ∃ d, 2 ^ (x % 64) = d := ⟨_, rfl⟩
  have hd0 : 1 ≤ d := by rw [← hd]; exact Nat.one_le_two_pow
  have hpow := Lib.hid (fun w => pow_any (x % 64) (by omega) w)
  rw [hd] at hpow ht
  clear hd
  have hi : (x : Int) / 64 < 4 := by omega
  have hi0 : 0 ≤ (x : Int) / 64 := by omega
  go_enter Tryd.func31, Tryd.ntmps31
  go_wp2_with fail
  go_quiet ((go_at_call 44; exact Calls.quiet_of_same (hpow.out _)))
  go_wp2
  go_ret
  exact ⟨congrArg (fun b => Ending.returned (Value.bool b)) ht.out, below_drewN (bal (Below.refl _ _) _) _⟩

/-- The bytes below b that are asked for. -/
def under (f : Nat → Bool) (b : Nat) : Nat → Bool := fun i => decide (i < b) && f i
theorem under_zero (f : Nat → Bool) : under f 0 = fun _ => false := by funext i; simp [under]
theorem under_snoc_t (f : Nat → Bool) (b : Nat) (h : f b = true) : under f (b + 1) = upd (under f b) b := by
  funext i
  unfold under upd
  rw [Bool.eq_iff_iff]
  simp only [Bool.and_eq_true, Bool.or_eq_true, decide_eq_true_eq, beq_iff_eq]
  constructor
  · rintro ⟨h1, h2⟩
    by_cases e : i = b
    · exact .inr e
    · exact .inl ⟨by omega, h2⟩
  · rintro (⟨h1, h2⟩ | rfl)
    · exact ⟨by omega, h2⟩
    · exact ⟨by omega, h⟩
theorem under_snoc_f (f : Nat → Bool) (b : Nat) (h : f b = false) : under f (b + 1) = under f b := by
  funext i
  unfold under
  by_cases e : i = b
  · subst e; simp [h]
  · have : (i < b + 1) = (i < b) := by apply propext; omega
    simp only [this]
theorem under_self (f : Nat → Bool) (b : Nat) : under f b b = false := by simp [under]

theorem add_walk (S : Nat → Bool) (x : Nat) (h : S x = false) : IntKind.u64.wrap (((wd S (x / 64) : Nat) : Int) + ((2 ^ (x % 64) : Nat) : Int)) = ((wd (upd S x) (x / 64) : Nat) : Int) := by
  have e := wd_upd_add S x (x / 64) rfl h
  have hlt := wd_lt (upd S x) (x / 64)
  rw [e] at hlt ⊢
  rw [IntKind.wrap_u64]
  generalize 2 ^ (x % 64) = d at *
  omega

set_option maxRecDepth 100000 in
set_option maxHeartbeats 1000000 in
theorem make_any (f : Nat → Bool) (g : Nat) (w : World) (hc : ∀ i, i < 256 → w.cell? ⟨g, i, none⟩ = some (.bool (f i))) :
    Calls Tryd.prog 32 #[.slice (some ⟨g, 0, none⟩) 256 256] w fun e w' => e = .returned (sv f) ∧ Below w.heap.size w w' := by
  have HC := Lib.hid hc
  have hg : g < w.heap.size := by
    rcases Nat.lt_or_ge g w.heap.size with h' | h'
    · exact h'
    · have := hc 0 (by decide); simp [World.cell?, Array.getElem?_eq_none h'] at this
  clear hc
  go_enter Tryd.func32, Tryd.ntmps32
  go_wp2
  go_loopw [4] (fun i wr => ∃ k : Nat, k ≤ 256 ∧ i = .int .i64 k ∧ Blk wr (w.heap.size + 1) 24 (cells4 (under f k)) ∧ Blk wr w.heap.size 24 zero4 ∧ Below w.heap.size w wr)
    (fun i _ => 256 - (intOf i).toNat)
  case atStart => exact ⟨0, by decide, rfl, by rw [under_zero, cells4_zero]; have := Blk.new (w.alloc (.cells zero4 24)) 24 zero4; rwa [World.size_alloc] at this, (Blk.new w 24 zero4).alloc _, bal (bal (Below.refl _ _) _) _⟩
  case round =>
    obtain ⟨k, hk, rfl, hS, hR, hB⟩ := hrel
    by_cases hlt : k < 256
    · have hck := (hB.cell (p := ⟨g, k, none⟩) hg).trans (HC.out k hlt)
      have hlti : (k : Int) < 256 := by omega
      cases hf : f k with
      | true =>
        rw [hf] at hck
        have HT := Lib.hid (under_snoc_t f k hf)
        have hadd := add_walk (under f k) k (under_self f k)
        have hs := (hS.cell (k / 64)).trans (cells4_get _ (k / 64) (by omega))
        have hsf := hS.frozen (k / 64)
        obtain ⟨d, hd⟩ : ∃ d, 2 ^ (k % 64) = d := ⟨_, rfl⟩
        have hpow := Lib.hid (fun w => pow_any (k % 64) (by omega) w)
        rw [hd] at hpow hadd
        clear hd hf
        have hi : (k : Int) / 64 < 4 := by omega
        have hi0 : 0 ≤ (k : Int) / 64 := by omega
        have e1 : IntKind.i64.wrap ((k : Int) / 64) = (k : Int) / 64 := IntWalk.i64_in _ (by omega)
        have e2 : (k : Int).tmod 64 = (k : Int) % 64 := Int.tmod_eq_emod_of_nonneg (by omega)
        have e3 : ((k : Int) / 64).toNat = k / 64 := by omega
        go_wp2_with fail
        go_region_with (first | (go_at_call 44; refine (hpow.out _).mono ?_; rintro e w' ⟨rfl, rfl⟩))
        all_goals
          go_wp2
          go_roundw
          case rel => exact ⟨k + 1, by omega, by go_num, by rw [HT.out]; exact (hS.upd k (by omega)).drew, (hR.other _ _ (by simp)).drew, (hB.setCell (by simp) _).drew⟩
          case measure => simp [intOf]; omega
      | false =>
        rw [hf] at hck
        have HT := Lib.hid (under_snoc_f f k hf)
        clear hf
        go_wp2
        go_roundw
        case rel => exact ⟨k + 1, by omega, by go_num, by rw [HT.out]; exact hS, hR, hB⟩
        case measure => simp [intOf]; omega
    · obtain rfl : k = 256 := by omega
      have HE := Lib.hid (sv_ext (S := under f 256) (T := f) (fun i hi => by simp [under, hi]))
      obtain ⟨c0, c1, c2, c3⟩ := hS.cells
      have r0 := hR.cell 0
      have r1 := hR.cell 1
      have r2 := hR.cell 2
      have r3 := hR.cell 3
      have f0 := hR.frozen 0
      have f1 := hR.frozen 1
      have f2 := hR.frozen 2
      have f3 := hR.frozen 3
      go_wp2
      refine bodyPost_ret (v := sv (under f 256)) (by simp [results, Tryd.results32, go_sem, *]) rfl ⟨by rw [HE.out], ?_⟩
      repeat (first | exact hB | refine Below.setCell ?_ (by simp) _)
end Go.Proofs.YtgckhkdjjmeboaaDoor
