/-
  Plain mathematics: the bytes of a set in a row, and the rows that the reference makes of them, are the rows of the set. Conditions: none; no program is named here.
-/
import Derived.Test.YtgckhkdjjmeboaaSetRowsMath
namespace Go.Proofs.Ytgckhkdjjmeboaa

/-- The bytes of S below n, rising. -/
def bytesTo (S : Nat → Bool) (n : Nat) : List Nat := (List.range n).filter S
theorem bytesTo_zero (S : Nat → Bool) : bytesTo S 0 = [] := rfl
theorem bytesTo_t (S : Nat → Bool) (n : Nat) (h : S n = true) : bytesTo S (n + 1) = bytesTo S n ++ [n] := by
  unfold bytesTo; rw [List.range_succ, List.filter_append]; simp [h]
theorem bytesTo_f (S : Nat → Bool) (n : Nat) (h : S n = false) : bytesTo S (n + 1) = bytesTo S n := by
  unfold bytesTo; rw [List.range_succ, List.filter_append]; simp [h]
theorem bytesTo_length (S : Nat → Bool) (n : Nat) : (bytesTo S n).length ≤ n := by
  have := List.length_filter_le S (List.range n)
  unfold bytesTo; simpa using this
theorem bytesTo_mem (S : Nat → Bool) (n : Nat) : ∀ x ∈ bytesTo S n, x < n := fun x hx => by
  have := (List.mem_filter.1 hx).1
  simpa using this
theorem bytesTo_cnt (S : Nat → Bool) : ∀ n, (bytesTo S n).length = cnt S n
  | 0 => rfl
  | n + 1 => by
    rw [cnt]
    cases h : S n with
    | true => rw [bytesTo_t S n h, List.length_append, bytesTo_cnt S n]; simp
    | false => rw [bytesTo_f S n h, bytesTo_cnt S n]; simp

/-- The bytes of S from b on, f of them asked for. -/
def bytesF (S : Nat → Bool) : Nat → Nat → List Nat
  | 0, _ => []
  | f + 1, b => if S b then b :: bytesF S f (b + 1) else bytesF S f (b + 1)
theorem bytesTo_add (S : Nat → Bool) : ∀ f b, bytesTo S (b + f) = bytesTo S b ++ bytesF S f b
  | 0, b => by simp [bytesF]
  | f + 1, b => by
    rw [show b + (f + 1) = (b + 1) + f by omega, bytesTo_add S f (b + 1), bytesF]
    cases h : S b with
    | true => rw [bytesTo_t S b h]; simp
    | false => rw [bytesTo_f S b h]; simp
theorem bytesTo_all (S : Nat → Bool) : bytesTo S 256 = bytesF S 256 0 := by
  have := bytesTo_add S 256 0
  simpa [bytesTo_zero] using this

/-- The bytes from b on are those from the next one on. -/
theorem bytesF_nxt (S : Nat → Bool) : ∀ f b, b + f = 256 → bytesF S f b = bytesF S (256 - nxt S b) (nxt S b)
  | 0, b, h => by
    have e : nxt S b = b := by
      have := nxt_spec S b (by omega); omega
    rw [e, show 256 - b = 0 by omega]
  | f + 1, b, h => by
    cases hS : S b with
    | true =>
      have e : nxt S b = b := nxt_eq S b b (Nat.le_refl _) (by omega) (fun j h1 h2 => by omega) (fun _ => hS)
      rw [e, show 256 - b = f + 1 by omega]
    | false =>
      have e : nxt S b = nxt S (b + 1) := by
        obtain ⟨g1, g2, g3, g4⟩ := nxt_spec S (b + 1) (by omega)
        refine nxt_eq S b _ (by omega) g2 (fun j h1 h2 => ?_) g4
        by_cases c : j = b
        · rw [c]; exact hS
        · exact g3 j (by omega) h2
      rw [bytesF, hS, e]
      exact bytesF_nxt S f (b + 1) (by omega)

/-- The rows that the reference makes of bytes, s being where the row under way began. -/
def rr : Nat → List Nat → List (Nat × Nat)
  | _, [] => []
  | s, [a] => [(s, a)]
  | s, a :: b :: r => if b = a + 1 then rr s (b :: r) else (s, a) :: rr b (b :: r)

theorem rr_bytes' (S : Nat → Bool) : ∀ n f b s, 256 - b ≤ n → b + f = 256 → b < 256 → S b = true → rr s (bytesF S f b) = (s, nxt (neg S) b - 1) :: rowsL S (nxt S (nxt (neg S) b))
  | 0, f, b, s, hn, h, hb, _ => by omega
  | n + 1, f0, b, s, hn, h0, hb, hS => by
    obtain ⟨f, rfl⟩ : ∃ f, f0 = f + 1 := ⟨f0 - 1, by omega⟩
    have h : b + (f + 1) = 256 := h0
    rw [bytesF, if_pos hS]
    by_cases h1 : b + 1 < 256
    · cases hS1 : S (b + 1) with
      | true =>
        obtain ⟨f', rfl⟩ : ∃ f', f = f' + 1 := ⟨f - 1, by omega⟩
        have ih := rr_bytes' S n (f' + 1) (b + 1) s (by omega) (by omega) h1 hS1
        have e : nxt (neg S) b = nxt (neg S) (b + 1) := by
          obtain ⟨g1, g2, g3, g4⟩ := nxt_spec (neg S) (b + 1) (by omega)
          refine nxt_eq _ b _ (by omega) g2 (fun j h1 h2 => ?_) g4
          by_cases c : j = b
          · rw [c]; simp [neg, hS]
          · exact g3 j (by omega) h2
        rw [e, ← ih]
        rw [bytesF, if_pos hS1, rr, if_pos rfl]
      | false =>
        have e : nxt (neg S) b = b + 1 := nxt_eq _ b _ (by omega) (by omega) (fun j h1 h2 => by rw [show j = b by omega]; simp [neg, hS]) (fun _ => by simp [neg, hS1])
        rw [e, Nat.add_sub_cancel, bytesF_nxt S f (b + 1) (by omega)]
        obtain ⟨g1, g2, g3, g4⟩ := nxt_spec S (b + 1) (by omega)
        by_cases hc : nxt S (b + 1) < 256
        · have hne : nxt S (b + 1) ≠ b + 1 := by
            intro e'
            have := g4 hc
            rw [e', hS1] at this; cases this
          obtain ⟨f', hf'⟩ : ∃ f', 256 - nxt S (b + 1) = f' + 1 := ⟨256 - nxt S (b + 1) - 1, by omega⟩
          have ih := rr_bytes' S n (f' + 1) (nxt S (b + 1)) (nxt S (b + 1)) (by omega) (by omega) hc (g4 hc)
          rw [rowsL_cons S _ hc, ← ih, hf', bytesF, if_pos (g4 hc), rr, if_neg hne]
        · have h256 : nxt S (b + 1) = 256 := by omega
          rw [h256]
          rfl
    · have hb' : b = 255 := by omega
      obtain rfl : f = 0 := by omega
      subst hb'
      have e : nxt (neg S) 255 = 256 := nxt_eq _ 255 _ (by decide) (by decide) (fun j h1 h2 => by rw [show j = 255 by omega]; simp [neg, hS]) (fun h => absurd h (by decide))
      rw [e]
      have e2 : nxt S 256 = 256 := by have := nxt_spec S 256 (by decide); omega
      rw [e2]
      rfl
theorem rr_bytes (S : Nat → Bool) (f b s : Nat) (h : b + f = 256) (hb : b < 256) (hS : S b = true) : rr s (bytesF S f b) = (s, nxt (neg S) b - 1) :: rowsL S (nxt S (nxt (neg S) b)) := rr_bytes' S 256 f b s (by omega) h hb hS

theorem rr_all (S : Nat → Bool) : rr ((bytesTo S 256).getD 0 0) (bytesTo S 256) = rowsOf S := by
  rw [bytesTo_all, bytesF_nxt S 256 0 rfl]
  unfold rowsOf
  obtain ⟨g1, g2, g3, g4⟩ := nxt_spec S 0 (by decide)
  by_cases hc : nxt S 0 < 256
  · obtain ⟨f', hf'⟩ : ∃ f', 256 - nxt S 0 = f' + 1 := ⟨256 - nxt S 0 - 1, by omega⟩
    rw [rowsL_cons S _ hc, ← rr_bytes S (f' + 1) (nxt S 0) (nxt S 0) (by omega) hc (g4 hc), hf', bytesF, if_pos (g4 hc)]
    rfl
  · have h256 : nxt S 0 = 256 := by omega
    rw [h256]
    rfl

/-- The first byte. -/
theorem bytes_first (S : Nat → Bool) : (nxt S 0 = 256 → bytesTo S 256 = []) ∧ (nxt S 0 < 256 → 0 < (bytesTo S 256).length ∧ (bytesTo S 256).getD 0 0 = nxt S 0) := by
  rw [bytesTo_all, bytesF_nxt S 256 0 rfl]
  obtain ⟨g1, g2, g3, g4⟩ := nxt_spec S 0 (by decide)
  constructor
  · intro h; rw [h]; rfl
  · intro hc
    obtain ⟨f', hf'⟩ : ∃ f', 256 - nxt S 0 = f' + 1 := ⟨256 - nxt S 0 - 1, by omega⟩
    rw [hf', bytesF, if_pos (g4 hc)]
    simp

/-- A step of the reference's loop: at place i, the row under way having begun at place m. -/
theorem rr_step_end (l : List Nat) (s i : Nat) (hi : i + 1 = l.length) : rr s (l.drop i) = [(s, l.getD i 0)] := by
  have h : i < l.length := by omega
  rw [List.drop_eq_getElem_cons h, List.drop_of_length_le (by omega)]
  simp [rr, List.getD, h]
theorem rr_step_new (l : List Nat) (s i : Nat) (hi : i + 1 < l.length) (hne : l.getD (i + 1) 0 ≠ l.getD i 0 + 1) : rr s (l.drop i) = (s, l.getD i 0) :: rr (l.getD (i + 1) 0) (l.drop (i + 1)) := by
  have h : i < l.length := by omega
  rw [List.drop_eq_getElem_cons h, List.drop_eq_getElem_cons hi]
  simp only [List.getD, List.getElem?_eq_getElem h, List.getElem?_eq_getElem hi, Option.getD_some] at hne ⊢
  rw [rr, if_neg hne]
theorem rr_step_on (l : List Nat) (s i : Nat) (hi : i + 1 < l.length) (he : l.getD (i + 1) 0 = l.getD i 0 + 1) : rr s (l.drop i) = rr s (l.drop (i + 1)) := by
  have h : i < l.length := by omega
  rw [List.drop_eq_getElem_cons h, List.drop_eq_getElem_cons hi]
  simp only [List.getD, List.getElem?_eq_getElem h, List.getElem?_eq_getElem hi, Option.getD_some] at he
  rw [rr, if_pos he]
end Go.Proofs.Ytgckhkdjjmeboaa
