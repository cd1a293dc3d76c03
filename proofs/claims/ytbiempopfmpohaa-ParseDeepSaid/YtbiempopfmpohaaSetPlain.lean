/-
  Plain mathematics of sets of bytes as functions from numbers to truth values: the four words of such a set, its count, the next byte, its rows. Conditions: none but those that each theorem names; no program is named here.
-/
import Derived.Laws.Bits64
import Derived.Laws.Bits64b
import Derived.Laws.BitsAllLaws
import Derived.Lib.TrailingZeros
namespace Go.Proofs.Ytbiempopfmpohaa

/-- The number whose bits below n are f's. -/
def wsum (f : Nat → Bool) : Nat → Nat
  | 0 => 0
  | n + 1 => wsum f n + if f n then 2 ^ n else 0
/-- How many of the first n are true. -/
def cnt (f : Nat → Bool) : Nat → Nat
  | 0 => 0
  | n + 1 => cnt f n + if f n then 1 else 0

theorem wsum_lt (f : Nat → Bool) : ∀ n, wsum f n < 2 ^ n
  | 0 => by simp [wsum]
  | n + 1 => by
    have h := wsum_lt f n
    rw [wsum, Nat.pow_succ]
    split <;> omega

theorem wsum_ext {f g : Nat → Bool} : ∀ n, (∀ j, j < n → f j = g j) → wsum f n = wsum g n
  | 0, _ => rfl
  | n + 1, h => by
    rw [wsum, wsum, wsum_ext n (fun j hj => h j (by omega)), h n (by omega)]

theorem cnt_ext {f g : Nat → Bool} : ∀ n, (∀ j, j < n → f j = g j) → cnt f n = cnt g n
  | 0, _ => rfl
  | n + 1, h => by
    rw [cnt, cnt, cnt_ext n (fun j hj => h j (by omega)), h n (by omega)]

theorem cnt_le (f : Nat → Bool) : ∀ n, cnt f n ≤ n
  | 0 => by simp [cnt]
  | n + 1 => by
    have h := cnt_le f n
    rw [cnt]
    split <;> omega

theorem cnt_add (f : Nat → Bool) (m : Nat) : ∀ n, cnt f (m + n) = cnt f m + cnt (fun j => f (m + j)) n
  | 0 => by simp [cnt]
  | n + 1 => by
    rw [show m + (n + 1) = (m + n) + 1 from rfl, cnt, cnt, cnt_add f m n]
    omega

theorem wsum_add (f : Nat → Bool) (m : Nat) : ∀ n, wsum f (m + n) = wsum f m + 2 ^ m * wsum (fun j => f (m + j)) n
  | 0 => by simp [wsum]
  | n + 1 => by
    rw [show m + (n + 1) = (m + n) + 1 from rfl, wsum, wsum, wsum_add f m n, Nat.mul_add, Nat.pow_add]
    split <;> simp [Nat.add_assoc]

theorem testBit_wsum (f : Nat → Bool) : ∀ n j, (wsum f n).testBit j = (decide (j < n) && f j)
  | 0, j => by simp [wsum]
  | n + 1, j => by
    have hlt := wsum_lt f n
    have e : wsum f (n + 1) = 2 ^ n * (if f n then 1 else 0) + wsum f n := by
      rw [wsum]; split <;> omega
    rw [e, Nat.testBit_two_pow_mul_add _ hlt, testBit_wsum f n j]
    by_cases h : j < n
    · simp [h, Nat.lt_succ_of_lt h]
    · by_cases e : j = n
      · subst e; cases f j <;> simp
      · have h1 : ¬ j < n + 1 := by omega
        have h2 : j - n ≠ 0 := by omega
        simp only [h, h1, if_false, decide_false, Bool.false_and]
        split
        · exact Nat.testBit_lt_two_pow (Nat.one_lt_two_pow h2)
        · simp

/-- Word k of a set. -/
def wd (S : Nat → Bool) (k : Nat) : Nat := wsum (fun j => S (64 * k + j)) 64

theorem wd_lt (S : Nat → Bool) (k : Nat) : wd S k < 18446744073709551616 := wsum_lt _ 64

theorem wd_testBit (S : Nat → Bool) (k j : Nat) : (wd S k).testBit j = (decide (j < 64) && S (64 * k + j)) := testBit_wsum _ _ _

theorem wd_ext {S T : Nat → Bool} {k : Nat} (h : ∀ j, j < 64 → S (64 * k + j) = T (64 * k + j)) : wd S k = wd T k := wsum_ext _ h

theorem wd_inj {S T : Nat → Bool} {k : Nat} (h : wd S k = wd T k) (j : Nat) (hj : j < 64) : S (64 * k + j) = T (64 * k + j) := by
  have e := congrArg (fun n => n.testBit j) h
  simpa [wd_testBit, hj] using e

theorem wd_and (S T : Nat → Bool) (k : Nat) : bits .and .u64 (wd S k : Int) (wd T k : Int) = (wd (fun i => S i && T i) k : Int) := by
  rw [bits_and_u64_nat _ _ (wd_lt _ _) (wd_lt _ _)]
  congr 1
  apply Nat.eq_of_testBit_eq
  intro j
  rw [Nat.testBit_and, wd_testBit, wd_testBit, wd_testBit]
  cases decide (j < 64) <;> simp

theorem wd_or (S T : Nat → Bool) (k : Nat) : bits .or .u64 (wd S k : Int) (wd T k : Int) = (wd (fun i => S i || T i) k : Int) := by
  rw [bits_or_u64_nat _ _ (wd_lt _ _) (wd_lt _ _)]
  congr 1
  apply Nat.eq_of_testBit_eq
  intro j
  rw [Nat.testBit_or, wd_testBit, wd_testBit, wd_testBit]
  cases decide (j < 64) <;> simp

theorem nat_not (x j : Nat) (hx : x < 18446744073709551616) : (18446744073709551615 - x).testBit j = (decide (j < 64) && !x.testBit j) := by
  have e : 18446744073709551615 - x = 2 ^ 64 - (x + 1) := by omega
  rw [e, Nat.testBit_two_pow_sub_succ (by omega)]

theorem wd_andNot (S T : Nat → Bool) (k : Nat) : bits .andNot .u64 (wd S k : Int) (wd T k : Int) = (wd (fun i => S i && !T i) k : Int) := by
  rw [u64_andNot_nat _ _ (wd_lt _ _) (wd_lt _ _)]
  congr 1
  apply Nat.eq_of_testBit_eq
  intro j
  rw [Nat.testBit_and, nat_not _ _ (wd_lt _ _), wd_testBit, wd_testBit, wd_testBit]
  cases decide (j < 64) <;> simp

theorem wd_not (S : Nat → Bool) (k : Nat) : bits .xor .u64 IntKind.u64.max (wd S k : Int) = (wd (fun i => !S i) k : Int) := by
  have e : IntKind.u64.max = ((18446744073709551615 : Nat) : Int) := by decide
  rw [e, bits_xor_u64_nat _ _ (by decide) (wd_lt _ _)]
  congr 1
  apply Nat.eq_of_testBit_eq
  intro j
  have e1 : (18446744073709551615 : Nat) = 18446744073709551615 - 0 := rfl
  rw [Nat.testBit_xor, e1, nat_not _ _ (by decide), wd_testBit, wd_testBit]
  cases decide (j < 64) <;> simp

/-- A set and one byte more. -/
def upd (S : Nat → Bool) (x : Nat) : Nat → Bool := fun i => S i || i == x

theorem wsum_upd (f : Nat → Bool) (x : Nat) (hf : f x = false) : ∀ n, wsum (upd f x) n = wsum f n + if x < n then 2 ^ x else 0
  | 0 => by simp [wsum]
  | n + 1 => by
    rw [wsum, wsum, wsum_upd f x hf n]
    unfold upd
    by_cases e : n = x
    · subst e; simp [hf]
    · have : (x < n + 1) = (x < n) := by apply propext; omega
      simp only [this, beq_iff_eq, e, Bool.or_eq_true, or_false]
      omega

theorem wd_upd_add (S : Nat → Bool) (x k : Nat) (hk : x / 64 = k) (h : S x = false) : wd (upd S x) k = wd S k + 2 ^ (x % 64) := by
  have e : wsum (fun j => upd S x (64 * k + j)) 64 = wsum (upd (fun j => S (64 * k + j)) (x % 64)) 64 := by
    apply wsum_ext
    intro j hj
    have e1 : (64 * k + j == x) = (j == x % 64) := by rw [Bool.eq_iff_iff, beq_iff_eq, beq_iff_eq]; omega
    unfold upd
    rw [e1]
  have e2 : (fun j => S (64 * k + j)) (x % 64) = false := by
    show S (64 * k + x % 64) = false
    rw [show 64 * k + x % 64 = x by omega]; exact h
  unfold wd
  rw [e, wsum_upd (fun j => S (64 * k + j)) (x % 64) e2, if_pos (by omega)]

theorem wd_upd_other (S : Nat → Bool) (x k : Nat) (hk : x / 64 ≠ k) : wd (upd S x) k = wd S k := by
  apply wd_ext
  intro j hj
  have : 64 * k + j ≠ x := by omega
  simp [upd, this]

theorem wd_upd_or (S : Nat → Bool) (x k : Nat) (hk : x / 64 = k) : bits .or .u64 (wd S k : Int) ((2 ^ (x % 64) : Nat) : Int) = (wd (upd S x) k : Int) := by
  have hlt : 2 ^ (x % 64) < 2 ^ 64 := Nat.pow_lt_pow_right (by decide) (by omega)
  rw [bits_or_u64_nat _ _ (wd_lt _ _) hlt]
  congr 1
  apply Nat.eq_of_testBit_eq
  intro j
  rw [Nat.testBit_or, wd_testBit, wd_testBit, Nat.testBit_two_pow]
  by_cases hj : j < 64
  · have e1 : (64 * k + j == x) = decide (x % 64 = j) := by rw [Bool.eq_iff_iff, beq_iff_eq, decide_eq_true_eq]; omega
    simp [hj, upd, e1]
  · have : ¬ (x % 64 = j) := by omega
    simp [hj, this]

theorem has_iff (S : Nat → Bool) (x : Nat) : (wd S (x / 64) / 2 ^ (x % 64)) % 2 = if S x then 1 else 0 := by
  have h := wd_testBit S (x / 64) (x % 64)
  rw [Nat.testBit_eq_decide_div_mod_eq, show 64 * (x / 64) + x % 64 = x by omega] at h
  have h64 : x % 64 < 64 := Nat.mod_lt _ (by decide)
  simp only [h64, decide_true, Bool.true_and] at h
  cases hS : S x with
  | true => rw [hS] at h; simpa using h
  | false => rw [hS] at h; simp at h; simp; omega

/-- A set out of four words. -/
def ofWords (a b c d : Nat) : Nat → Bool := fun i => (if i / 64 = 0 then a else if i / 64 = 1 then b else if i / 64 = 2 then c else d).testBit (i % 64)

theorem wd_ofWords (a b c d : Nat) (ha : a < 18446744073709551616) (hb : b < 18446744073709551616) (hc : c < 18446744073709551616) (hd : d < 18446744073709551616) :
    wd (ofWords a b c d) 0 = a ∧ wd (ofWords a b c d) 1 = b ∧ wd (ofWords a b c d) 2 = c ∧ wd (ofWords a b c d) 3 = d := by
  have key : ∀ k x, x < 18446744073709551616 → (∀ j, j < 64 → ofWords a b c d (64 * k + j) = x.testBit j) → wd (ofWords a b c d) k = x := by
    intro k x hx h
    apply Nat.eq_of_testBit_eq
    intro j
    rw [wd_testBit]
    by_cases hj : j < 64
    · simp [hj, h j hj]
    · have : x < 2 ^ j := Nat.lt_of_lt_of_le hx (Nat.pow_le_pow_right (n := 2) (by decide) (show 64 ≤ j by omega))
      simp [hj, Nat.testBit_lt_two_pow this]
  refine ⟨key 0 a ha ?_, key 1 b hb ?_, key 2 c hc ?_, key 3 d hd ?_⟩
  all_goals
    intro j hj
    unfold ofWords
  · rw [show (64 * 0 + j) / 64 = 0 by omega, show (64 * 0 + j) % 64 = j by omega]; simp
  · rw [show (64 * 1 + j) / 64 = 1 by omega, show (64 * 1 + j) % 64 = j by omega]; simp
  · rw [show (64 * 2 + j) / 64 = 2 by omega, show (64 * 2 + j) % 64 = j by omega]; simp
  · rw [show (64 * 3 + j) / 64 = 3 by omega, show (64 * 3 + j) % 64 = j by omega]; simp

/-! ### The next byte -/

/-- The least byte of S from b on; b + f, if there is none below that. -/
def nxtF (S : Nat → Bool) : Nat → Nat → Nat
  | 0, b => b
  | f + 1, b => if S b then b else nxtF S f (b + 1)
/-- The least byte of S from b on, or 256. -/
def nxt (S : Nat → Bool) (b : Nat) : Nat := nxtF S (256 - b) b

theorem nxtF_spec (S : Nat → Bool) : ∀ f b, b ≤ nxtF S f b ∧ nxtF S f b ≤ b + f ∧ (∀ j, b ≤ j → j < nxtF S f b → S j = false) ∧ (nxtF S f b < b + f → S (nxtF S f b) = true)
  | 0, b => by simp [nxtF]; omega
  | f + 1, b => by
    rw [nxtF]
    split
    · rename_i h
      exact ⟨Nat.le_refl _, by omega, fun j h1 h2 => by omega, fun _ => h⟩
    · rename_i h
      obtain ⟨h1, h2, h3, h4⟩ := nxtF_spec S f (b + 1)
      refine ⟨by omega, by omega, fun j hj hj' => ?_, fun hlt => h4 (by omega)⟩
      by_cases e : j = b
      · subst e; simpa using h
      · exact h3 j (by omega) hj'

theorem nxt_spec (S : Nat → Bool) (b : Nat) (hb : b ≤ 256) : b ≤ nxt S b ∧ nxt S b ≤ 256 ∧ (∀ j, b ≤ j → j < nxt S b → S j = false) ∧ (nxt S b < 256 → S (nxt S b) = true) := by
  obtain ⟨h1, h2, h3, h4⟩ := nxtF_spec S (256 - b) b
  exact ⟨h1, by unfold nxt; omega, h3, fun h => h4 (by unfold nxt at h; omega)⟩

theorem nxt_eq (S : Nat → Bool) (b n : Nat) (h1 : b ≤ n) (h2 : n ≤ 256) (h3 : ∀ j, b ≤ j → j < n → S j = false) (h4 : n < 256 → S n = true) : nxt S b = n := by
  obtain ⟨g1, g2, g3, g4⟩ := nxt_spec S b (by omega)
  rcases Nat.lt_trichotomy (nxt S b) n with h | h | h
  · have := g4 (by omega); rw [h3 _ g1 h] at this; cases this
  · exact h
  · have := h4 (by omega); rw [g3 n h1 h] at this; cases this

/-- What 'next' reads: the bits of S from b on, as far as b's word goes. -/
def rest (S : Nat → Bool) (b : Nat) : Nat := wd S (b / 64) / 2 ^ (b % 64)

theorem rest_lt (S : Nat → Bool) (b : Nat) : rest S b < 18446744073709551616 := Nat.lt_of_le_of_lt (Nat.div_le_self _ _) (wd_lt _ _)

theorem rest_testBit (S : Nat → Bool) (b j : Nat) : (rest S b).testBit j = (decide (j + b % 64 < 64) && S (b + j)) := by
  unfold rest
  rw [Nat.testBit_div_two_pow, wd_testBit, show 64 * (b / 64) + (j + b % 64) = b + j by omega]

theorem nxt_skip (S : Nat → Bool) (b : Nat) (hb : b < 256) (h : rest S b = 0) : nxt S b = nxt S (b + (64 - b % 64)) := by
  obtain ⟨g1, g2, g3, g4⟩ := nxt_spec S (b + (64 - b % 64)) (by omega)
  refine nxt_eq S b _ (by omega) g2 (fun j h1 h2 => ?_) g4
  by_cases hj : j < b + (64 - b % 64)
  · have e := rest_testBit S b (j - b)
    rw [h, show b + (j - b) = j by omega, show (decide (j - b + b % 64 < 64)) = true from decide_eq_true (by omega)] at e
    simpa using e.symm
  · exact g3 j (by omega) h2

theorem nxt_here (S : Nat → Bool) (b : Nat) (hb : b < 256) (h : rest S b ≠ 0) : nxt S b = b + Lib.ctz 64 (rest S b) ∧ Lib.ctz 64 (rest S b) < 64 := by
  obtain ⟨m, hm, hk⟩ := Lib.ctzFrom_spec 64 (rest S b) (by omega) (rest_lt S b)
  have ec : Lib.ctz 64 (rest S b) = Lib.ctzFrom 64 (rest S b) := by simp [Lib.ctz, h]
  rw [ec]
  have hbit : ∀ j, (rest S b).testBit j = (decide (Lib.ctzFrom 64 (rest S b) ≤ j) && (2 * m + 1).testBit (j - Lib.ctzFrom 64 (rest S b))) := by
    intro j
    conv => lhs; rw [hm]
    rw [Nat.mul_comm, Nat.testBit_mul_two_pow]
  have h1 := hbit (Lib.ctzFrom 64 (rest S b))
  rw [rest_testBit] at h1
  simp only [Nat.le_refl, decide_true, Nat.sub_self, Bool.true_and, Nat.testBit_zero] at h1
  have h1' : (decide (Lib.ctzFrom 64 (rest S b) + b % 64 < 64) && S (b + Lib.ctzFrom 64 (rest S b))) = true := by rw [h1]; exact decide_eq_true (by omega)
  simp only [Bool.and_eq_true, decide_eq_true_eq] at h1'
  refine ⟨nxt_eq S b _ (by omega) (by omega) (fun j hj1 hj2 => ?_) (fun _ => h1'.2), hk⟩
  have h2 := hbit (j - b)
  rw [rest_testBit, show (decide (Lib.ctzFrom 64 (rest S b) ≤ j - b)) = false from decide_eq_false (by omega), show (decide (j - b + b % 64 < 64)) = true from decide_eq_true (by omega), show b + (j - b) = j by omega] at h2
  simpa using h2

end Go.Proofs.Ytbiempopfmpohaa
