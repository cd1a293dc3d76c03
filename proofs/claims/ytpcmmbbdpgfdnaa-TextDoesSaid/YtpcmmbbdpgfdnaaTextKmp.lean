/-
  Plain facts of looking for a part in a text byte by byte: how many bytes of the part stand at the end of what was read, and how that number goes on. Conditions: none but those that each names.
-/
import Derived.Test.YtpcmmbbdpgfdnaaTextPlain
namespace Go.Proofs.Ytpcmmbbdpgfdnaa

/-- The greatest number up to n of bytes of p that stand at the end of t. -/
def stTo (p t : List UInt8) : Nat → Nat
  | 0 => 0
  | n + 1 => if p.take (n + 1) <:+ t then n + 1 else stTo p t n
theorem stTo_le (p t : List UInt8) : ∀ n, stTo p t n ≤ n
  | 0 => Nat.le_refl _
  | n + 1 => by
    have := stTo_le p t n
    rw [stTo]
    split <;> omega
theorem stTo_end (p t : List UInt8) : ∀ n, p.take (stTo p t n) <:+ t
  | 0 => by simp [stTo]
  | n + 1 => by
    rw [stTo]
    split
    · assumption
    · exact stTo_end p t n
theorem stTo_max (p t : List UInt8) : ∀ n j, j ≤ n → p.take j <:+ t → j ≤ stTo p t n
  | 0, j, hj, _ => by omega
  | n + 1, j, hj, h => by
    rw [stTo]
    split
    · exact hj
    · rename_i hn
      rcases Nat.lt_or_ge n j with h1 | h1
      · obtain rfl : j = n + 1 := by omega
        exact absurd h hn
      · exact stTo_max p t n j h1 h
/-- How many bytes of p stand at the end of t. -/
def st (p t : List UInt8) : Nat := stTo p t p.length
theorem st_le (p t : List UInt8) : st p t ≤ p.length := stTo_le p t _
theorem st_end (p t : List UInt8) : p.take (st p t) <:+ t := stTo_end p t _
theorem st_max {p t : List UInt8} {j : Nat} (hj : j ≤ p.length) (h : p.take j <:+ t) : j ≤ st p t := stTo_max p t _ j hj h
theorem st_eq {p t : List UInt8} {k : Nat} (h1 : k ≤ p.length) (h2 : p.take k <:+ t) (h3 : ∀ j, j ≤ p.length → p.take j <:+ t → j ≤ k) : st p t = k :=
  Nat.le_antisymm (h3 _ (st_le p t) (st_end p t)) (st_max h1 h2)
theorem st_len (p t : List UInt8) : st p t ≤ t.length := by
  have h := (st_end p t).length_le
  have h2 := st_le p t
  rw [List.length_take] at h
  omega
theorem st_nil (p : List UInt8) : st p [] = 0 := Nat.eq_zero_of_le_zero (st_len p [])
/-- With how many bytes, but not all of them, the first m of p both begin and end. -/
def bd (p : List UInt8) (m : Nat) : Nat := st p ((p.take m).drop 1)
theorem bd_lt (p : List UInt8) (m : Nat) (hm : 0 < m) : bd p m < m := by
  have h := st_len p ((p.take m).drop 1)
  unfold bd
  rw [List.length_drop, List.length_take] at h
  omega
theorem bd_le (p : List UInt8) (m : Nat) : bd p m ≤ p.length := st_le _ _

theorem suffix_snoc {a t : List UInt8} {x b : UInt8} : a ++ [x] <:+ t ++ [b] ↔ a <:+ t ∧ x = b := by
  rw [← List.reverse_prefix, ← List.reverse_prefix, List.reverse_append, List.reverse_append]
  simp only [List.reverse_cons, List.reverse_nil, List.nil_append, List.cons_append]
  rw [List.cons_prefix_cons]
  exact ⟨fun ⟨h1, h2⟩ => ⟨h2, h1⟩, fun ⟨h1, h2⟩ => ⟨h2, h1⟩⟩
theorem cand {p t : List UInt8} {b : UInt8} {j : Nat} (hj : j < p.length) : p.take (j + 1) <:+ t ++ [b] ↔ p.take j <:+ t ∧ p[j] = b := by
  rw [List.take_succ_eq_append_getElem hj, suffix_snoc]

/-- While p's next byte is looked for behind t: k bytes stand, and no more could go on by b. -/
structure Look (p t : List UInt8) (b : UInt8) (k : Nat) : Prop where
  le : k ≤ p.length
  ends : p.take k <:+ t
  max : ∀ j (h : j < p.length), p.take j <:+ t → p[j] = b → j ≤ k
theorem Look.first (p t : List UInt8) (b : UInt8) : Look p t b (st p t) := ⟨st_le p t, st_end p t, fun j h h1 _ => st_max (by omega) h1⟩
theorem Look.back {p t : List UInt8} {b : UInt8} {k : Nat} (h : Look p t b k) (hk : 0 < k) (hb : ∀ hl : k < p.length, p[k] ≠ b) : Look p t b (bd p k) := by
  have e : (p.take k).drop 1 <:+ p.take k := List.drop_suffix _ _
  refine ⟨bd_le p k, ((st_end p _).trans e).trans h.ends, fun j hj h1 h2 => ?_⟩
  have hjk := h.max j hj h1 h2
  have hne : j ≠ k := by rintro rfl; exact hb hj h2
  refine st_max (by omega) ?_
  refine List.suffix_of_suffix_length_le h1 (e.trans h.ends) ?_
  rw [List.length_drop, List.length_take, List.length_take]
  omega
theorem Look.hit {p t : List UInt8} {b : UInt8} {k : Nat} (h : Look p t b k) (hk : k < p.length) (hb : p[k] = b) : st p (t ++ [b]) = k + 1 := by
  refine st_eq hk ((cand hk).2 ⟨h.ends, hb⟩) fun j hj h1 => ?_
  cases j with
  | zero => omega
  | succ j =>
    have := (cand (p := p) (t := t) (b := b) (j := j) (by omega)).1 h1
    have := h.max j (by omega) this.1 this.2
    omega
theorem Look.miss {p t : List UInt8} {b : UInt8} (h : Look p t b 0) (hp : 0 < p.length) (hb : p[0] ≠ b) : st p (t ++ [b]) = 0 := by
  refine st_eq (Nat.zero_le _) (by simp) fun j hj h1 => ?_
  cases j with
  | zero => omega
  | succ j =>
    have h2 := (cand (p := p) (t := t) (b := b) (j := j) (by omega)).1 h1
    have h3 := h.max j (by omega) h2.1 h2.2
    obtain rfl : j = 0 := by omega
    exact absurd h2.2 hb
/-- The number of the first m+1 bytes, by that of the first m. -/
theorem bd_next (p : List UInt8) (m : Nat) (h0 : 0 < m) (hm : m < p.length) : bd p (m + 1) = st p ((p.take m).drop 1 ++ [p[m]]) := by
  unfold bd
  rw [List.take_succ_eq_append_getElem hm, List.drop_append_of_le_length (by rw [List.length_take]; omega)]
theorem bd_one (p : List UInt8) : bd p 1 = 0 := by
  have h := bd_lt p 1 (by omega)
  omega

/-- At how many of the first n ends p stands. -/
def endN (s p : List UInt8) : Nat → Nat
  | 0 => 0
  | n + 1 => endN s p n + if st p (s.take (n + 1)) = p.length then 1 else 0
theorem endN_le (s p : List UInt8) : ∀ n, endN s p n ≤ n
  | 0 => Nat.le_refl _
  | n + 1 => by
    have := endN_le s p n
    rw [endN]
    split <;> omega
theorem st_full (p t : List UInt8) : st p t = p.length ↔ p <:+ t := by
  constructor
  · intro h
    have := st_end p t
    rwa [h, List.take_length] at this
  · intro h
    exact Nat.le_antisymm (st_le p t) (st_max (Nat.le_refl _) (by rwa [List.take_length]))
theorem end_beg (s p : List UInt8) (k : Nat) (hk : k + p.length ≤ s.length) : p <:+ s.take (k + p.length) ↔ beg p (s.drop k) = true := by
  rw [beg_iff]
  have e : s.take (k + p.length) = s.take k ++ (s.drop k).take p.length := List.take_add
  rw [e]
  have hl : ((s.drop k).take p.length).length = p.length := by rw [List.length_take, List.length_drop]; omega
  constructor
  · intro h
    have := List.suffix_of_suffix_length_le h (List.suffix_append (s.take k) ((s.drop k).take p.length)) (by omega)
    rw [this.eq_of_length hl.symm]
    exact List.take_prefix _ _
  · intro h
    rw [List.prefix_iff_eq_take] at h
    rw [← h]
    exact List.suffix_append _ _
theorem beg_far {p : List UInt8} {s : List UInt8} (h : s.length < p.length) : beg p s = false := by
  rw [Bool.eq_false_iff]
  intro hb
  have := beg_len hb
  omega
theorem endN_cnt (s p : List UInt8) (hp : 0 < p.length) : ∀ m, m ≤ s.length → endN s p m = cntN s p (m + 1 - p.length)
  | 0, _ => by
    have : 0 + 1 - p.length = 0 := by omega
    rw [this]; rfl
  | m + 1, hm => by
    rw [endN, endN_cnt s p hp m (by omega)]
    rcases Nat.lt_or_ge (m + 1) p.length with h | h
    · have e1 : m + 1 - p.length = 0 := by omega
      have e2 : m + 1 + 1 - p.length = 0 := by omega
      have : ¬ st p (s.take (m + 1)) = p.length := by
        have := st_len p (s.take (m + 1))
        rw [List.length_take] at this
        omega
      rw [e1, e2, if_neg this, Nat.add_zero]
    · obtain ⟨k, hk⟩ : ∃ k, m + 1 = k + p.length := ⟨m + 1 - p.length, by omega⟩
      have e1 : m + 1 - p.length = k := by omega
      have e2 : m + 1 + 1 - p.length = k + 1 := by omega
      rw [e1, e2, cntN, hk]
      have := (st_full p (s.take (k + p.length))).trans (end_beg s p k (by omega))
      cases hb : beg p (s.drop k) with
      | true => rw [if_pos (this.2 hb), if_pos rfl]
      | false => rw [if_neg fun e => by rw [this.1 e] at hb; cases hb]; rfl
theorem cntN_tail (s p : List UInt8) (n : Nat) : ∀ m, n ≤ m → (∀ k, n ≤ k → k < m → beg p (s.drop k) = false) → cntN s p m = cntN s p n
  | 0, h, _ => by
    obtain rfl : n = 0 := by omega
    rfl
  | m + 1, h, hf => by
    rcases Nat.lt_or_ge m n with h1 | h1
    · obtain rfl : n = m + 1 := by omega
      rfl
    · rw [cntN, hf m h1 (by omega), cntN_tail s p n m h1 fun k h2 h3 => hf k h2 (by omega)]
      rfl
/-- Counted by ends: at all places. -/
theorem endN_all (s p : List UInt8) (hp : 0 < p.length) : endN s p s.length = cntN s p (s.length + 1) := by
  rw [endN_cnt s p hp _ (Nat.le_refl _)]
  symm
  exact cntN_tail s p _ _ (by omega) fun k h1 h2 => beg_far (by rw [List.length_drop]; omega)
theorem cntN_far (s p : List UInt8) (h : s.length < p.length) (n : Nat) : cntN s p n = 0 := by
  rw [cntN_tail s p 0 n (Nat.zero_le _) fun k _ _ => beg_far (by rw [List.length_drop]; omega)]
  rfl
theorem cntN_nil (s : List UInt8) : ∀ n, cntN s [] n = n
  | 0 => rfl
  | n + 1 => by
    rw [cntN, cntN_nil s n]
    rfl
end Go.Proofs.Ytpcmmbbdpgfdnaa
