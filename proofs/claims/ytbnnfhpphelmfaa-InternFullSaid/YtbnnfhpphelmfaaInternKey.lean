/-
  A row's key: its numbers as eight bytes each, the least first; what a key says. Conditions: none but those that each names.
-/
import Derived.Test.YtbnnfhpphelmfaaInternPlain
namespace Go.Proofs.Ytbnnfhpphelmfaa

/-- The number as a uint64. -/
def uN (x : Int) : Nat := (x % 18446744073709551616).toNat
theorem uN_lt (x : Int) : uN x < 18446744073709551616 := by unfold uN; omega
theorem uN_cast (x : Int) : ((uN x : Nat) : Int) = x % 18446744073709551616 := by unfold uN; omega
def byt (x : Int) (i : Nat) : Nat := uN x / 2 ^ (8 * i) % 256
def byts (x : Int) (p : Nat) : List Int := (List.range p).map fun i => (byt x i : Int)
theorem byts_succ (x : Int) (p : Nat) : byts x (p + 1) = byts x p ++ [(byt x p : Int)] := by simp [byts, List.range_succ]
theorem byts_len (x : Int) (p : Nat) : (byts x p).length = p := by simp [byts]
/-- The key: numbers of bytes. -/
def keyI (L : List Int) : List Int := L.flatMap fun x => byts x 8
theorem keyI_len : ∀ L : List Int, (keyI L).length = 8 * L.length
  | [] => rfl
  | x :: r => by
    have := keyI_len r
    unfold keyI at this ⊢
    rw [List.flatMap_cons, List.length_append, byts_len, this, List.length_cons]
    omega
theorem keyI_snoc (L : List Int) (x : Int) : keyI (L ++ [x]) = keyI L ++ byts x 8 := by simp [keyI]
theorem keyI_take (L : List Int) (k : Nat) (h : k < L.length) : keyI (L.take (k + 1)) = keyI (L.take k) ++ byts (L.getD k 0) 8 := by
  rw [List.take_succ_eq_append_getElem h, keyI_snoc]
  simp [List.getD, h]
theorem keyI_at : ∀ (L : List Int) (k i : Nat), k < L.length → i < 8 → (keyI L).getD (8 * k + i) 0 = (byt (L.getD k 0) i : Int)
  | [], k, i, h, _ => by simp at h
  | x :: r, 0, i, _, hi => by
    have : keyI (x :: r) = byts x 8 ++ keyI r := rfl
    rw [this, List.getD, List.getElem?_append_left (by rw [byts_len]; omega)]
    simp [byts, hi]
  | x :: r, k + 1, i, h, hi => by
    have : keyI (x :: r) = byts x 8 ++ keyI r := rfl
    rw [this, List.getD, List.getElem?_append_right (by rw [byts_len]; omega), byts_len, show 8 * (k + 1) + i - 8 = 8 * k + i by omega]
    exact keyI_at r k i (by simpa using h) hi
theorem byt_lt (x : Int) (i : Nat) : byt x i < 256 := Nat.mod_lt _ (by decide)
theorem keyI_byte : ∀ (L : List Int) (y : Int), y ∈ keyI L → 0 ≤ y ∧ y ≤ 255 := by
  intro L y h
  obtain ⟨x, _, hy⟩ := List.mem_flatMap.1 h
  obtain ⟨i, _, rfl⟩ := List.mem_map.1 hy
  have := byt_lt x i
  omega

/-- The first p bytes, read. -/
def low (x : Int) (p : Nat) : Nat := uN x % 2 ^ (8 * p)
theorem low_zero (x : Int) : low x 0 = 0 := by simp [low, Nat.mod_one]
theorem low_succ (x : Int) (p : Nat) : low x (p + 1) = low x p + byt x p * 2 ^ (8 * p) := by
  unfold low byt
  rw [show 8 * (p + 1) = 8 * p + 8 by omega, Nat.pow_add, Nat.mod_mul, Nat.mul_comm (2 ^ (8 * p))]
theorem low_lt (x : Int) (p : Nat) : low x p < 2 ^ (8 * p) := Nat.mod_lt _ (Nat.two_pow_pos _)
theorem low_eight (x : Int) : low x 8 = uN x := Nat.mod_eq_of_lt (uN_lt x)
/-- Bits that do not meet. -/
theorem or_low (x : Int) (p : Nat) : low x p ||| (byt x p * 2 ^ (8 * p)) = low x (p + 1) := by
  have := Nat.shiftLeft_add_eq_or_of_lt (low_lt x p) (byt x p)
  rw [Nat.or_comm, low_succ, ← Nat.shiftLeft_eq, ← this, Nat.add_comm]

/-- May a number be one? -/
def Rng (L : List Int) : Prop := ∀ x ∈ L, -9223372036854775808 ≤ x ∧ x ≤ 9223372036854775807
theorem Rng.at {L : List Int} (h : Rng L) (i : Nat) (hi : i < L.length) : -9223372036854775808 ≤ L.getD i 0 ∧ L.getD i 0 ≤ 9223372036854775807 := by
  refine h _ ?_
  rw [List.getD, List.getElem?_eq_getElem hi]
  exact List.getElem_mem _
/-- .. of each row. -/
def RngL (L : List (List Int)) : Prop := ∀ r ∈ L, Rng r
theorem RngL.at {L : List (List Int)} (h : RngL L) (i : Nat) : Rng (L.getD i []) := by
  rw [List.getD]
  rcases Nat.lt_or_ge i L.length with hi | hi
  · rw [List.getElem?_eq_getElem hi]
    exact h _ (List.getElem_mem _)
  · rw [List.getElem?_eq_none hi]
    intro x hx
    simp at hx
theorem RngL.is {L : List (List Int)} (h : RngL L) {i : Nat} {xs : List Int} (e : L.getD i [] = xs) : Rng xs := e ▸ h.at i
theorem uN_inj {x y : Int} (hx : -9223372036854775808 ≤ x ∧ x ≤ 9223372036854775807) (hy : -9223372036854775808 ≤ y ∧ y ≤ 9223372036854775807) (h : uN x = uN y) : x = y := by
  have h1 := uN_cast x
  have h2 := uN_cast y
  rw [h] at h1
  omega
theorem uN_of {x y : Int} (h : ∀ i, i < 8 → byt x i = byt y i) : uN x = uN y := by
  have : ∀ p, p ≤ 8 → low x p = low y p := by
    intro p
    induction p with
    | zero => intro _; rw [low_zero, low_zero]
    | succ p ih => intro hp; rw [low_succ, low_succ, ih (by omega), h p (by omega)]
  rw [← low_eight, ← low_eight, this 8 (Nat.le_refl _)]
/-- Unlike rows have unlike keys. -/
theorem keyI_inj {A B : List Int} (ha : Rng A) (hb : Rng B) (h : keyI A = keyI B) : A = B := by
  have hl : A.length = B.length := by
    have h1 := keyI_len A
    have h2 := keyI_len B
    rw [h] at h1
    omega
  refine List.ext_getElem hl fun i h1 h2 => ?_
  have e : ∀ j, j < 8 → byt (A.getD i 0) j = byt (B.getD i 0) j := fun j hj => by
    have p := keyI_at A i j h1 hj
    have q := keyI_at B i j h2 hj
    rw [h, q] at p
    omega
  have := uN_inj (ha.at i h1) (hb.at i h2) (uN_of e)
  simpa [List.getD, h1, h2] using this
/-- As a map's key. -/
def keyT (L : List Int) : List UInt8 := (keyI L).map fun n => UInt8.ofNat n.toNat
theorem keyT_inj {A B : List Int} (ha : Rng A) (hb : Rng B) (h : keyT A = keyT B) : A = B := by
  refine keyI_inj ha hb ?_
  have hl : (keyI A).length = (keyI B).length := by have := congrArg List.length h; simpa [keyT] using this
  refine List.ext_getElem hl fun i h1 h2 => ?_
  have e := congrArg (fun l => l[i]?) h
  simp only [keyT, List.getElem?_map, List.getElem?_eq_getElem h1, List.getElem?_eq_getElem h2, Option.map_some, Option.some.injEq] at e
  have p := keyI_byte A _ (List.getElem_mem h1)
  have q := keyI_byte B _ (List.getElem_mem h2)
  have := congrArg UInt8.toNat e
  rw [UInt8.toNat_ofNat', UInt8.toNat_ofNat', Nat.mod_eq_of_lt (by omega), Nat.mod_eq_of_lt (by omega)] at this
  omega
theorem Rng.srt_mem {A : List Int} {f : List Int} (h : Rng A) (hm : ∀ y, y ∈ f → y ∈ A) : Rng f := fun x hx => h x (hm x hx)
end Go.Proofs.Ytbnnfhpphelmfaa
