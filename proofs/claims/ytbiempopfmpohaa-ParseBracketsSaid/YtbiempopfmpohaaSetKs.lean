/-
Plain mathematics: the sum of the bits of a number of 64 bits, as math/bits reckons it in six steps, is how many of its bits are set. Conditions: none; no program is named here.
Small laws on a block of cells: what it holds, what a store makes of it, that it stays where what lies below a bound stays. Conditions: those that each names.
When two sets are equal by Go's ==, at any depth. Conditions: none.
-/
import Derived.Test.YtbiempopfmpohaaSetPlain
import Derived.Test.YtbiempopfmpohaaChecked
import Derived.WalkKit
import Derived.WalkLawsBesides
import Derived.WalkSpells
import Derived.ProofKit
import Derived.OneCell
import Derived.Shelf.Spec.TrailingZeros
namespace Go.Proofs.Ytbiempopfmpohaa

def pA (x : Nat) : Nat := (x / 2 &&& 6148914691236517205) + (x &&& 6148914691236517205)
def pB (x : Nat) : Nat := (x / 4 &&& 3689348814741910323) + (x &&& 3689348814741910323)
def pC (x : Nat) : Nat := (x / 16 + x) &&& 1085102592571150095

/-- An 'and' digit by digit (base 256). -/
theorem and_digit (a b m M : Nat) (ha : a < 256) (hm : m < 256) : (a + 256 * b) &&& (m + 256 * M) = (a &&& m) + 256 * (b &&& M) := by
  have h1 : a &&& m < 2 ^ 8 := Nat.and_lt_two_pow _ (by omega)
  apply Nat.eq_of_testBit_eq
  intro j
  rw [Nat.testBit_and, show a + 256 * b = 2 ^ 8 * b + a by omega, show m + 256 * M = 2 ^ 8 * M + m by omega, show (a &&& m) + 256 * (b &&& M) = 2 ^ 8 * (b &&& M) + (a &&& m) by omega]
  rw [Nat.testBit_two_pow_mul_add _ (show a < 2 ^ 8 by omega), Nat.testBit_two_pow_mul_add _ (show m < 2 ^ 8 by omega), Nat.testBit_two_pow_mul_add _ h1]
  split <;> simp [Nat.testBit_and]

theorem byteA : ∀ a : Fin 256, ∀ b : Fin 2, ((a.val / 2 + 128 * b.val) &&& 85) = (a.val / 2 &&& 85) := by decide +kernel
theorem byteB : ∀ a : Fin 256, ∀ b : Fin 4, ((a.val / 4 + 64 * b.val) &&& 51) = (a.val / 4 &&& 51) := by decide +kernel
theorem byteC : ∀ a : Fin 256, (a.val &&& 15) = a.val % 16 := by decide +kernel
def gA (a : Nat) : Nat := (a / 2 &&& 85) + (a &&& 85)
def gB (a : Nat) : Nat := (a / 4 &&& 51) + (a &&& 51)
theorem gA_lt : ∀ a : Fin 256, gA a.val < 256 := by decide +kernel
theorem gB_gA : ∀ a : Fin 256, gB (gA a.val) < 256 ∧ gB (gA a.val) % 16 ≤ 4 ∧ gB (gA a.val) / 16 ≤ 4 := by decide +kernel

theorem digA (a b M : Nat) (ha : a < 256) : ((a + 256 * b) / 2 &&& (85 + 256 * M)) + ((a + 256 * b) &&& (85 + 256 * M)) = gA a + 256 * ((b / 2 &&& M) + (b &&& M)) := by
  have e : (a + 256 * b) / 2 = (a / 2 + 128 * (b % 2)) + 256 * (b / 2) := by omega
  rw [e, and_digit _ _ _ _ (by omega) (by decide), and_digit _ _ _ _ ha (by decide)]
  have h := byteA ⟨a, ha⟩ ⟨b % 2, by omega⟩
  simp only at h
  rw [h]
  unfold gA
  omega

theorem digB (a b M : Nat) (ha : a < 256) : ((a + 256 * b) / 4 &&& (51 + 256 * M)) + ((a + 256 * b) &&& (51 + 256 * M)) = gB a + 256 * ((b / 4 &&& M) + (b &&& M)) := by
  have e : (a + 256 * b) / 4 = (a / 4 + 64 * (b % 4)) + 256 * (b / 4) := by omega
  rw [e, and_digit _ _ _ _ (by omega) (by decide), and_digit _ _ _ _ ha (by decide)]
  have h := byteB ⟨a, ha⟩ ⟨b % 4, by omega⟩
  simp only at h
  rw [h]
  unfold gB
  omega

/-- The number of eight digits. -/
def num8 (d0 d1 d2 d3 d4 d5 d6 d7 : Nat) : Nat := d0 + 256 * (d1 + 256 * (d2 + 256 * (d3 + 256 * (d4 + 256 * (d5 + 256 * (d6 + 256 * (d7 + 256 * 0)))))))

theorem pA_num8 (d0 d1 d2 d3 d4 d5 d6 d7 : Nat) (h0 : d0 < 256) (h1 : d1 < 256) (h2 : d2 < 256) (h3 : d3 < 256) (h4 : d4 < 256) (h5 : d5 < 256) (h6 : d6 < 256) (h7 : d7 < 256) :
    pA (num8 d0 d1 d2 d3 d4 d5 d6 d7) = num8 (gA d0) (gA d1) (gA d2) (gA d3) (gA d4) (gA d5) (gA d6) (gA d7) := by
  unfold pA num8
  rw [show (6148914691236517205 : Nat) = 85 + 256 * (85 + 256 * (85 + 256 * (85 + 256 * (85 + 256 * (85 + 256 * (85 + 256 * (85 + 256 * 0))))))) from rfl]
  rw [digA _ _ _ h0, digA _ _ _ h1, digA _ _ _ h2, digA _ _ _ h3, digA _ _ _ h4, digA _ _ _ h5, digA _ _ _ h6, digA _ _ _ h7]
  rfl

theorem pB_num8 (d0 d1 d2 d3 d4 d5 d6 d7 : Nat) (h0 : d0 < 256) (h1 : d1 < 256) (h2 : d2 < 256) (h3 : d3 < 256) (h4 : d4 < 256) (h5 : d5 < 256) (h6 : d6 < 256) (h7 : d7 < 256) :
    pB (num8 d0 d1 d2 d3 d4 d5 d6 d7) = num8 (gB d0) (gB d1) (gB d2) (gB d3) (gB d4) (gB d5) (gB d6) (gB d7) := by
  unfold pB num8
  rw [show (3689348814741910323 : Nat) = 51 + 256 * (51 + 256 * (51 + 256 * (51 + 256 * (51 + 256 * (51 + 256 * (51 + 256 * (51 + 256 * 0))))))) from rfl]
  rw [digB _ _ _ h0, digB _ _ _ h1, digB _ _ _ h2, digB _ _ _ h3, digB _ _ _ h4, digB _ _ _ h5, digB _ _ _ h6, digB _ _ _ h7]
  rfl

/-- One step of the third: digits whose halves are 4 at most. -/
theorem digC (a b M : Nat) (ha : a % 16 ≤ 4 ∧ a / 16 ≤ 4) (hb : b % 16 ≤ 4) : (((a + 256 * b) / 16 + (a + 256 * b)) &&& (15 + 256 * M)) = (a / 16 + a % 16) + 256 * ((b / 16 + b) &&& M) := by
  have e : (a + 256 * b) / 16 + (a + 256 * b) = (a / 16 + a + 16 * (b % 16)) + 256 * (b / 16 + b) := by omega
  rw [e, and_digit _ _ _ _ (by omega) (by decide)]
  have h := byteC ⟨a / 16 + a + 16 * (b % 16), by omega⟩
  simp only at h
  rw [h]
  omega

theorem low16 (a b : Nat) : (a + 256 * b) % 16 = a % 16 := by omega

theorem pC_num8 (d0 d1 d2 d3 d4 d5 d6 d7 : Nat) (h0 : d0 % 16 ≤ 4 ∧ d0 / 16 ≤ 4) (h1 : d1 % 16 ≤ 4 ∧ d1 / 16 ≤ 4) (h2 : d2 % 16 ≤ 4 ∧ d2 / 16 ≤ 4) (h3 : d3 % 16 ≤ 4 ∧ d3 / 16 ≤ 4)
    (h4 : d4 % 16 ≤ 4 ∧ d4 / 16 ≤ 4) (h5 : d5 % 16 ≤ 4 ∧ d5 / 16 ≤ 4) (h6 : d6 % 16 ≤ 4 ∧ d6 / 16 ≤ 4) (h7 : d7 % 16 ≤ 4 ∧ d7 / 16 ≤ 4) :
    pC (num8 d0 d1 d2 d3 d4 d5 d6 d7) = num8 (d0 / 16 + d0 % 16) (d1 / 16 + d1 % 16) (d2 / 16 + d2 % 16) (d3 / 16 + d3 % 16) (d4 / 16 + d4 % 16) (d5 / 16 + d5 % 16) (d6 / 16 + d6 % 16) (d7 / 16 + d7 % 16) := by
  unfold pC num8
  rw [show (1085102592571150095 : Nat) = 15 + 256 * (15 + 256 * (15 + 256 * (15 + 256 * (15 + 256 * (15 + 256 * (15 + 256 * (15 + 256 * 0))))))) from rfl]
  rw [digC _ _ _ h0 (by rw [low16]; exact h1.1), digC _ _ _ h1 (by rw [low16]; exact h2.1), digC _ _ _ h2 (by rw [low16]; exact h3.1), digC _ _ _ h3 (by rw [low16]; exact h4.1),
    digC _ _ _ h4 (by rw [low16]; exact h5.1), digC _ _ _ h5 (by rw [low16]; exact h6.1), digC _ _ _ h6 (by rw [low16]; exact h7.1), digC _ _ _ h7 (by decide)]
  rfl

/-- The last three steps: the digits are added up. -/
def pD (x : Nat) : Nat := (x + x / 256) % 18446744073709551616
def pE (x : Nat) : Nat := (x + x / 65536) % 18446744073709551616
def pF (x : Nat) : Nat := (x + x / 4294967296) % 18446744073709551616

theorem num8_div1 (d0 d1 d2 d3 d4 d5 d6 d7 : Nat) (h0 : d0 < 256) : num8 d0 d1 d2 d3 d4 d5 d6 d7 / 256 = num8 d1 d2 d3 d4 d5 d6 d7 0 := by unfold num8; omega
theorem num8_div2 (d0 d1 d2 d3 d4 d5 d6 d7 : Nat) (h0 : d0 < 256) (h1 : d1 < 256) : num8 d0 d1 d2 d3 d4 d5 d6 d7 / 65536 = num8 d2 d3 d4 d5 d6 d7 0 0 := by
  rw [show (65536 : Nat) = 256 * 256 from rfl, ← Nat.div_div_eq_div_mul, num8_div1 _ _ _ _ _ _ _ _ h0, num8_div1 _ _ _ _ _ _ _ _ h1]
theorem num8_div4 (d0 d1 d2 d3 d4 d5 d6 d7 : Nat) (h0 : d0 < 256) (h1 : d1 < 256) (h2 : d2 < 256) (h3 : d3 < 256) : num8 d0 d1 d2 d3 d4 d5 d6 d7 / 4294967296 = num8 d4 d5 d6 d7 0 0 0 0 := by
  rw [show (4294967296 : Nat) = 65536 * 65536 from rfl, ← Nat.div_div_eq_div_mul, num8_div2 _ _ _ _ _ _ _ _ h0 h1, num8_div2 _ _ _ _ _ _ _ _ h2 h3]
theorem num8_add (d0 d1 d2 d3 d4 d5 d6 d7 c0 c1 c2 c3 c4 c5 c6 c7 : Nat) : num8 d0 d1 d2 d3 d4 d5 d6 d7 + num8 c0 c1 c2 c3 c4 c5 c6 c7 = num8 (d0 + c0) (d1 + c1) (d2 + c2) (d3 + c3) (d4 + c4) (d5 + c5) (d6 + c6) (d7 + c7) := by unfold num8; omega
theorem dig_lt (d X n : Nat) (h : d < 256) (hX : X < n) : d + 256 * X < 256 * n := by omega
theorem num8_lt (d0 d1 d2 d3 d4 d5 d6 d7 : Nat) (h0 : d0 < 256) (h1 : d1 < 256) (h2 : d2 < 256) (h3 : d3 < 256) (h4 : d4 < 256) (h5 : d5 < 256) (h6 : d6 < 256) (h7 : d7 < 256) : num8 d0 d1 d2 d3 d4 d5 d6 d7 < 18446744073709551616 :=
  dig_lt d0 _ 72057594037927936 h0 (dig_lt d1 _ 281474976710656 h1 (dig_lt d2 _ 1099511627776 h2 (dig_lt d3 _ 4294967296 h3 (dig_lt d4 _ 16777216 h4 (dig_lt d5 _ 65536 h5 (dig_lt d6 _ 256 h6 (dig_lt d7 0 1 h7 (by decide))))))))
theorem num8_mod (d0 d1 d2 d3 d4 d5 d6 d7 : Nat) : num8 d0 d1 d2 d3 d4 d5 d6 d7 % 128 = d0 % 128 := by unfold num8; omega

theorem pDEF (e0 e1 e2 e3 e4 e5 e6 e7 : Nat) (h0 : e0 ≤ 8) (h1 : e1 ≤ 8) (h2 : e2 ≤ 8) (h3 : e3 ≤ 8) (h4 : e4 ≤ 8) (h5 : e5 ≤ 8) (h6 : e6 ≤ 8) (h7 : e7 ≤ 8) :
    pF (pE (pD (num8 e0 e1 e2 e3 e4 e5 e6 e7))) % 128 = e0 + e1 + e2 + e3 + e4 + e5 + e6 + e7 := by
  unfold pF pE pD
  rw [num8_div1 _ _ _ _ _ _ _ _ (by omega), num8_add, Nat.mod_eq_of_lt (num8_lt _ _ _ _ _ _ _ _ (by omega) (by omega) (by omega) (by omega) (by omega) (by omega) (by omega) (by omega)),
    num8_div2 _ _ _ _ _ _ _ _ (by omega) (by omega), num8_add, Nat.mod_eq_of_lt (num8_lt _ _ _ _ _ _ _ _ (by omega) (by omega) (by omega) (by omega) (by omega) (by omega) (by omega) (by omega)),
    num8_div4 _ _ _ _ _ _ _ _ (by omega) (by omega) (by omega) (by omega), num8_add, Nat.mod_eq_of_lt (num8_lt _ _ _ _ _ _ _ _ (by omega) (by omega) (by omega) (by omega) (by omega) (by omega) (by omega) (by omega)), num8_mod]
  omega

/-- What the six steps make of the number. -/
def popSteps (x : Nat) : Nat := pF (pE (pD (pC (pB (pA x))))) % 128

theorem byte_cnt : ∀ b0 b1 b2 b3 b4 b5 b6 b7 : Bool, ∀ x : Nat, x = (0 + (if b0 then 1 else 0) + (if b1 then 2 else 0) + (if b2 then 4 else 0) + (if b3 then 8 else 0) + (if b4 then 16 else 0) + (if b5 then 32 else 0) + (if b6 then 64 else 0) + (if b7 then 128 else 0)) →
    gB (gA x) / 16 + gB (gA x) % 16 = 0 + (if b0 then 1 else 0) + (if b1 then 1 else 0) + (if b2 then 1 else 0) + (if b3 then 1 else 0) + (if b4 then 1 else 0) + (if b5 then 1 else 0) + (if b6 then 1 else 0) + (if b7 then 1 else 0) := by
  intro b0 b1 b2 b3 b4 b5 b6 b7 x hx
  subst hx
  cases b0 <;> cases b1 <;> cases b2 <;> cases b3 <;> cases b4 <;> cases b5 <;> cases b6 <;> cases b7 <;> rfl

theorem byte_pop (f : Nat → Bool) : gB (gA (wsum f 8)) / 16 + gB (gA (wsum f 8)) % 16 = cnt f 8 := by
  exact byte_cnt (f 0) (f 1) (f 2) (f 3) (f 4) (f 5) (f 6) (f 7) (wsum f 8) (by simp only [wsum])

theorem wsum_num8 (f : Nat → Bool) : wsum f 64 = num8 (wsum f 8) (wsum (fun j => f (8 + j)) 8) (wsum (fun j => f (16 + j)) 8) (wsum (fun j => f (24 + j)) 8) (wsum (fun j => f (32 + j)) 8) (wsum (fun j => f (40 + j)) 8) (wsum (fun j => f (48 + j)) 8) (wsum (fun j => f (56 + j)) 8) := by
  rw [show (64 : Nat) = 56 + 8 from rfl, wsum_add f 56 8, show (56 : Nat) = 48 + 8 from rfl, wsum_add f 48 8, show (48 : Nat) = 40 + 8 from rfl, wsum_add f 40 8, show (40 : Nat) = 32 + 8 from rfl, wsum_add f 32 8,
    show (32 : Nat) = 24 + 8 from rfl, wsum_add f 24 8, show (24 : Nat) = 16 + 8 from rfl, wsum_add f 16 8, show (16 : Nat) = 8 + 8 from rfl, wsum_add f 8 8]
  unfold num8
  omega

theorem cnt_num8 (f : Nat → Bool) : cnt f 64 = cnt f 8 + cnt (fun j => f (8 + j)) 8 + cnt (fun j => f (16 + j)) 8 + cnt (fun j => f (24 + j)) 8 + cnt (fun j => f (32 + j)) 8 + cnt (fun j => f (40 + j)) 8 + cnt (fun j => f (48 + j)) 8 + cnt (fun j => f (56 + j)) 8 := by
  rw [show (64 : Nat) = 56 + 8 from rfl, cnt_add f 56 8, show (56 : Nat) = 48 + 8 from rfl, cnt_add f 48 8, show (48 : Nat) = 40 + 8 from rfl, cnt_add f 40 8, show (40 : Nat) = 32 + 8 from rfl, cnt_add f 32 8,
    show (32 : Nat) = 24 + 8 from rfl, cnt_add f 24 8, show (24 : Nat) = 16 + 8 from rfl, cnt_add f 16 8, show (16 : Nat) = 8 + 8 from rfl, cnt_add f 8 8]

theorem byte_lt (f : Nat → Bool) : wsum f 8 < 256 := wsum_lt f 8
theorem nib (a : Nat) (ha : a < 256) : gB (gA a) % 16 ≤ 4 ∧ gB (gA a) / 16 ≤ 4 := (gB_gA ⟨a, ha⟩).2
theorem gA_lt' (a : Nat) (ha : a < 256) : gA a < 256 := gA_lt ⟨a, ha⟩

theorem popSteps_wsum (f : Nat → Bool) : popSteps (wsum f 64) = cnt f 64 := by
  unfold popSteps
  rw [wsum_num8, pA_num8 _ _ _ _ _ _ _ _ (byte_lt _) (byte_lt _) (byte_lt _) (byte_lt _) (byte_lt _) (byte_lt _) (byte_lt _) (byte_lt _),
    pB_num8 _ _ _ _ _ _ _ _ (gA_lt' _ (byte_lt _)) (gA_lt' _ (byte_lt _)) (gA_lt' _ (byte_lt _)) (gA_lt' _ (byte_lt _)) (gA_lt' _ (byte_lt _)) (gA_lt' _ (byte_lt _)) (gA_lt' _ (byte_lt _)) (gA_lt' _ (byte_lt _)),
    pC_num8 _ _ _ _ _ _ _ _ (nib _ (byte_lt _)) (nib _ (byte_lt _)) (nib _ (byte_lt _)) (nib _ (byte_lt _)) (nib _ (byte_lt _)) (nib _ (byte_lt _)) (nib _ (byte_lt _)) (nib _ (byte_lt _))]
  simp only [byte_pop]
  rw [pDEF _ _ _ _ _ _ _ _ (cnt_le _ _) (cnt_le _ _) (cnt_le _ _) (cnt_le _ _) (cnt_le _ _) (cnt_le _ _) (cnt_le _ _) (cnt_le _ _), cnt_num8]

/-- How many of word k's bytes are in the set. -/
def c64 (S : Nat → Bool) (k : Nat) : Nat := cnt (fun j => S (64 * k + j)) 64
theorem c64_le (S : Nat → Bool) (k : Nat) : c64 S k ≤ 64 := cnt_le _ _
theorem size_cnt (S : Nat → Bool) : cnt S 256 = c64 S 0 + c64 S 1 + c64 S 2 + c64 S 3 := by
  have e : (fun j => S (64 * 0 + j)) = S := by funext j; rw [Nat.mul_zero, Nat.zero_add]
  have a1 := cnt_add S 192 64
  have a2 := cnt_add S 128 64
  have a3 := cnt_add S 64 64
  unfold c64
  rw [e]
  simp only [Nat.reduceAdd, Nat.reduceMul] at a1 a2 a3 ⊢
  omega

end Go.Proofs.Ytbiempopfmpohaa
namespace Go.Proofs.Ytbiempopfmpohaa
open Go.RowKit

theorem ret_int {k : IntKind} {a b : Int} (h : a = b) : Ending.returned (.int k a) = .returned (.int k b) := by rw [h]
/-- A new block changes nothing below. -/
theorem bal {a w : World} (h : Below a.heap.size a w) (o : Obj) : Below a.heap.size a (w.alloc o) := h.alloc h.size o
theorem bal0 (w : World) (o : Obj) : Below w.heap.size w (w.alloc o) := bal (Below.refl _ _) o
/-- What has happened since, seen from a smaller world. -/
theorem btr {a b c : World} (h : Below a.heap.size a b) (k : Below b.heap.size b c) : Below a.heap.size a c := h.trans (k.mono h.size)

/-- Block B is a row of cells of type t. -/
def Blk (W : World) (B : Nat) (t : TypeId) (vs : Array Value) : Prop := W.heap[B]? = some (.cells vs t (0, 0))

theorem Blk.lt {W : World} {B : Nat} {t : TypeId} {vs : Array Value} (h : Blk W B t vs) : B < W.heap.size := lt_of_block h
theorem Blk.cell {W : World} {B : Nat} {t : TypeId} {vs : Array Value} (h : Blk W B t vs) (k : Nat) : W.cell? ⟨B, k, none⟩ = vs[k]? := by
  simp [World.cell?, show W.heap[B]? = _ from h]
theorem Blk.frozen {W : World} {B : Nat} {t : TypeId} {vs : Array Value} (h : Blk W B t vs) (k : Nat) : W.frozen? ⟨B, k, none⟩ = false := by
  simp [World.frozen?, show W.heap[B]? = _ from h]
theorem Blk.new (W : World) (t : TypeId) (vs : Array Value) : Blk (W.alloc (.cells vs t)) W.heap.size t vs := by
  show (W.heap.push _)[W.heap.size]? = _
  simp
theorem Blk.below {n : Nat} {W W' : World} {B : Nat} {t : TypeId} {vs : Array Value} (h : Blk W B t vs) (hb : Below n W W') (hB : B < n) : Blk W' B t vs := (hb.block B hB).trans h
theorem Blk.alloc {W : World} {B : Nat} {t : TypeId} {vs : Array Value} (h : Blk W B t vs) (o : Obj) : Blk (W.alloc o) B t vs := (Below.heap_alloc W o B h.lt).trans h
theorem Blk.drew {W : World} {B : Nat} {t : TypeId} {vs : Array Value} (h : Blk W B t vs) : Blk W.drew B t vs := h
theorem Blk.other {W : World} {B : Nat} {t : TypeId} {vs : Array Value} (h : Blk W B t vs) (a : Addr) (u : Value) (ha : B ≠ a.block) : Blk (W.setCell a u) B t vs := (Below.heap_setCell W a u B ha).trans h
theorem Blk.set {W : World} {B : Nat} {t : TypeId} {vs : Array Value} (h : Blk W B t vs) (k : Nat) (u : Value) : Blk (W.setCell ⟨B, k, none⟩ u) B t (vs.setIfInBounds k u) := by
  have hlt := h.lt
  have h' : W.heap[B] = .cells vs t (0, 0) := by
    have := h; unfold Blk at this; simpa [Array.getElem?_eq_getElem hlt] using this
  show (W.heap.modify B _)[B]? = _
  rw [Array.getElem?_eq_getElem (by simpa using hlt), Array.getElem_modify_self, h']
  rfl

/-- The four words of a set, as values. -/
abbrev cells4 (S : Nat → Bool) : Array Value := #[.int .u64 ((wd S 0 : Nat) : Int), .int .u64 ((wd S 1 : Nat) : Int), .int .u64 ((wd S 2 : Nat) : Int), .int .u64 ((wd S 3 : Nat) : Int)]
/-- A set, as a value. -/
abbrev sv (S : Nat → Bool) : Value := .agg #[.int .u64 ((wd S 0 : Nat) : Int), .int .u64 ((wd S 1 : Nat) : Int), .int .u64 ((wd S 2 : Nat) : Int), .int .u64 ((wd S 3 : Nat) : Int)]

theorem cells4_get (S : Nat → Bool) (k : Nat) (hk : k < 4) : (cells4 S)[k]? = some (.int .u64 ((wd S k : Nat) : Int)) := by
  match k, hk with
  | 0, _ => rfl
  | 1, _ => rfl
  | 2, _ => rfl
  | 3, _ => rfl

theorem Blk.cells {W : World} {B : Nat} {t : TypeId} {S : Nat → Bool} (h : Blk W B t (cells4 S)) :
    W.cell? ⟨B, 0, none⟩ = some (.int .u64 ((wd S 0 : Nat) : Int)) ∧ W.cell? ⟨B, 1, none⟩ = some (.int .u64 ((wd S 1 : Nat) : Int)) ∧ W.cell? ⟨B, 2, none⟩ = some (.int .u64 ((wd S 2 : Nat) : Int)) ∧ W.cell? ⟨B, 3, none⟩ = some (.int .u64 ((wd S 3 : Nat) : Int)) :=
  ⟨h.cell 0, h.cell 1, h.cell 2, h.cell 3⟩

theorem cells4_ext {S T : Nat → Bool} (h : ∀ i, i < 256 → S i = T i) : cells4 S = cells4 T := by
  have e : ∀ k, k < 4 → wd S k = wd T k := fun k hk => wd_ext fun j hj => h _ (by omega)
  unfold cells4
  rw [e 0 (by decide), e 1 (by decide), e 2 (by decide), e 3 (by decide)]

theorem sv_ext {S T : Nat → Bool} (h : ∀ i, i < 256 → S i = T i) : sv S = sv T := congrArg Value.agg (cells4_ext h)

/-- A byte more, in its word. -/
theorem cells4_upd (S : Nat → Bool) (x : Nat) (hx : x < 256) : (cells4 S).setIfInBounds (x / 64) (.int .u64 ((wd (upd S x) (x / 64) : Nat) : Int)) = cells4 (upd S x) := by
  have h : ∀ k, x / 64 = k → k < 4 → (cells4 S).setIfInBounds k (.int .u64 ((wd (upd S x) k : Nat) : Int)) = cells4 (upd S x) := by
    intro k hk hk4
    have o : ∀ i, i ≠ k → wd (upd S x) i = wd S i := fun i hi => wd_upd_other S x i (by omega)
    unfold cells4
    match k, hk4 with
    | 0, _ => rw [o 1 (by decide), o 2 (by decide), o 3 (by decide)]; rfl
    | 1, _ => rw [o 0 (by decide), o 2 (by decide), o 3 (by decide)]; rfl
    | 2, _ => rw [o 0 (by decide), o 1 (by decide), o 3 (by decide)]; rfl
    | 3, _ => rw [o 0 (by decide), o 1 (by decide), o 2 (by decide)]; rfl
  exact h _ rfl (by omega)

/-- A new row of four zero words. -/
abbrev zero4 : Array Value := #[.int .u64 0, .int .u64 0, .int .u64 0, .int .u64 0]
theorem cells4_zero : cells4 (fun _ => false) = zero4 := rfl
/-- 'word |= 1 << (x % 64)', as the walk spells it. -/
theorem or_walk (S : Nat → Bool) (x : Nat) : bits .or .u64 ((wd S (x / 64) : Nat) : Int) (IntKind.u64.wrap (2 ^ (x % 64))) = ((wd (upd S x) (x / 64) : Nat) : Int) := by
  have e : IntKind.u64.wrap ((2 : Int) ^ (x % 64)) = ((2 ^ (x % 64) : Nat) : Int) := by
    have h : 2 ^ (x % 64) < 2 ^ 64 := Nat.pow_lt_pow_right (by decide) (by omega)
    have h2 : ((2 : Int) ^ (x % 64)) = ((2 ^ (x % 64) : Nat) : Int) := by rw [Int.natCast_pow]; rfl
    have key : ∀ p : Nat, p < 2 ^ 64 → ((p : Int) % 18446744073709551616 = (p : Int)) := by intro p hp; omega
    rw [h2, IntKind.wrap_u64]
    exact key _ h
  rw [e, wd_upd_or S x _ rfl]
theorem Blk.upd {W : World} {B : Nat} {t : TypeId} {S : Nat → Bool} (h : Blk W B t (cells4 S)) (x : Nat) (hx : x < 256) : Blk (W.setCell ⟨B, x / 64, none⟩ (.int .u64 ((wd (upd S x) (x / 64) : Nat) : Int))) B t (cells4 (upd S x)) := by
  have := h.set (x / 64) (.int .u64 ((wd (Go.Proofs.Ytbiempopfmpohaa.upd S x) (x / 64) : Nat) : Int))
  rwa [cells4_upd S x hx] at this

end Go.Proofs.Ytbiempopfmpohaa
namespace Go.Proofs.Ytbiempopfmpohaa
open Go.RowKit

/-- Equal below 256. -/
def eqs (S T : Nat → Bool) : Bool := (List.range 256).all fun i => S i == T i
theorem eqs_iff (S T : Nat → Bool) : eqs S T = true ↔ ∀ i, i < 256 → S i = T i := by simp [eqs]
theorem wd_eqs (S T : Nat → Bool) : eqs S T = (wd S 0 == wd T 0 && (wd S 1 == wd T 1 && (wd S 2 == wd T 2 && wd S 3 == wd T 3))) := by
  rw [Bool.eq_iff_iff, eqs_iff]
  simp only [Bool.and_eq_true, beq_iff_eq]
  constructor
  · intro h
    exact ⟨wd_ext fun j hj => h _ (by omega), wd_ext fun j hj => h _ (by omega), wd_ext fun j hj => h _ (by omega), wd_ext fun j hj => h _ (by omega)⟩
  · rintro ⟨h0, h1, h2, h3⟩ i hi
    have := wd_inj (S := S) (T := T) (k := i / 64) (by
      have : i / 64 = 0 ∨ i / 64 = 1 ∨ i / 64 = 2 ∨ i / 64 = 3 := by omega
      rcases this with e | e | e | e <;> rw [e] <;> assumption) (i % 64) (by omega)
    rwa [show 64 * (i / 64) + i % 64 = i by omega] at this
set_option maxRecDepth 100000 in
/-- At any depth. -/
theorem eq_sets_at (d : Nat) (S T : Nat → Bool) (w : World) : (Op.equalIn (d + 2) 24 (sv S) (sv T)).run Try.prog w = .ok (eqs S T) w := by
  have hs : (sizeOf 22).run Try.prog w = .ok 1 w := by kernel_rfl
  have p0 : ∀ S, (part 22 (cells4 S) 0).run Try.prog w = .ok (.int .u64 ((wd S 0 : Nat) : Int)) w := fun S => by kernel_rfl
  have p1 : ∀ S, (part 22 (cells4 S) 1).run Try.prog w = .ok (.int .u64 ((wd S 1 : Nat) : Int)) w := fun S => by kernel_rfl
  have p2 : ∀ S, (part 22 (cells4 S) 2).run Try.prog w = .ok (.int .u64 ((wd S 2 : Nat) : Int)) w := fun S => by kernel_rfl
  have p3 : ∀ S, (part 22 (cells4 S) 3).run Try.prog w = .ok (.int .u64 ((wd S 3 : Nat) : Int)) w := fun S => by kernel_rfl
  have e : ∀ i : Nat, (Op.equalIn (d + 1) 22 (.int .u64 ((wd S i : Nat) : Int)) (.int .u64 ((wd T i : Nat) : Int))).run Try.prog w = .ok (wd S i == wd T i) w := fun i => by
    rw [run_equalIn_int w d 22 .u64 .u64 _ _ Try.underlying22]
    congr 1
    rw [Bool.eq_iff_iff, beq_iff_eq, beq_iff_eq]; omega
  rw [wd_eqs, Op.equalIn]
  simp only [Sem.run_bind, run_underlying Try.underlying24, Result.andThen_ok, hs]
  rw [Std.Legacy.Range.forIn_eq_forIn_range']
  simp [List.range', Std.Legacy.Range.size, Sem.run_bind, p0, p1, p2, p3, e]
  by_cases h0 : wd S 0 = wd T 0 <;> by_cases h1 : wd S 1 = wd T 1 <;> by_cases h2 : wd S 2 = wd T 2 <;> by_cases h3 : wd S 3 = wd T 3 <;> simp [h0, h1, h2, h3]
theorem eq_sets2 (S T : Nat → Bool) (w : World) : (Op.equalIn 10000 24 (sv S) (sv T)).run Try.prog w = .ok (eqs S T) w := eq_sets_at 9998 S T w
end Go.Proofs.Ytbiempopfmpohaa
