/-
  What is wrong is told by a number that is not 0. Conditions: none but those that each names.
-/
import Derived.Test.YtgckhkdjjmeboaaLexFacts2
namespace Go.Proofs.Ytgckhkdjjmeboaa

theorem oneL_err {l : List UInt8} {e : Nat} (h : oneL l = .error e) : e ≠ 0 := by
  unfold oneL at h
  repeat' split at h
  all_goals first | (cases h; done) | (cases h; decide)
theorem textF_err : ∀ f l {e : Nat}, textF f l = .error e → e ≠ 0
  | 0, l, e, h => by cases h; decide
  | f + 1, [], e, h => by cases h; decide
  | f + 1, c :: l, e, h => by
    rw [textF_cons] at h
    split at h
    · cases h
    · cases ho : oneL (c :: l) with
      | error x => rw [ho] at h; cases h; exact oneL_err ho
      | ok y =>
        obtain ⟨b, n⟩ := y
        rw [ho] at h
        simp only at h
        cases ht : textF f ((c :: l).drop n) with
        | error x => rw [ht] at h; cases h; exact textF_err f _ ht
        | ok z => rw [ht] at h; cases h
theorem setF_err : ∀ f l {e : Nat}, setF f l = .error e → e ≠ 0
  | 0, l, e, h => by cases h; decide
  | f + 1, [], e, h => by cases h; decide
  | f + 1, c :: l, e, h => by
    rw [setF_cons] at h
    split at h
    · cases h
    · cases ho : oneL (c :: l) with
      | error x => rw [ho] at h; cases h; exact oneL_err ho
      | ok y =>
        obtain ⟨a, n⟩ := y
        rw [ho] at h
        simp only at h
        split at h
        · cases ho3 : oneL ((c :: l).drop (n + 1)) with
          | error x => rw [ho3] at h; cases h; exact oneL_err ho3
          | ok z =>
            obtain ⟨b, m⟩ := z
            rw [ho3] at h
            simp only at h
            split at h
            · cases h; decide
            · cases ht : setF f ((c :: l).drop (n + 1 + m)) with
              | error x => rw [ht] at h; cases h; exact setF_err f _ ht
              | ok q => rw [ht] at h; cases h
        · cases ht : setF f ((c :: l).drop n) with
          | error x => rw [ht] at h; cases h; exact setF_err f _ ht
          | ok q => rw [ht] at h; cases h
theorem tokL_err {l : List UInt8} {e : Nat} (h : tokL l = .error e) : e ≠ 0 := by
  cases l with
  | nil => cases h
  | cons c q =>
    unfold tokL at h
    simp only at h
    split at h
    · cases ht : textF (q.length + 1) q with
      | error x => rw [ht] at h; cases h; exact textF_err _ _ ht
      | ok y =>
        rw [ht] at h
        simp only at h
        split at h
        · cases h; decide
        · cases h
    · split at h
      · split at h
        · cases ht : setF (q.length + 1) (q.drop 1) with
          | error x => rw [ht] at h; cases h; exact setF_err _ _ ht
          | ok y => rw [ht] at h; cases h
        · cases ht : setF (q.length + 1) q with
          | error x => rw [ht] at h; cases h; exact setF_err _ _ ht
          | ok y => rw [ht] at h; cases h
      · split at h
        · split at h
          · cases h; decide
          · cases h
        · split at h
          · split at h
            · cases h; decide
            · cases h
          · split at h
            · cases h
            · split at h
              · cases h
              · cases h; decide
theorem allL_err : ∀ n (l : List UInt8) (p : Nat) {e q : Nat}, l.length ≤ n → allL l p = .error (e, q) → e ≠ 0
  | n, l, p, e, q, hn, h => by
    rw [allL_eq] at h
    cases ht : tokL (l.drop (skipN l)) with
    | error x => rw [ht] at h; cases h; exact tokL_err ht
    | ok y =>
      obtain ⟨t, m⟩ := y
      rw [ht] at h
      simp only at h
      by_cases hk : t.kind = 0
      · rw [if_pos hk] at h; cases h
      · rw [if_neg hk] at h
        have hne : l.drop (skipN l) ≠ [] := by
          intro e
          rw [e, tokL_end] at ht
          cases ht
          exact hk rfl
        have hp := tokL_pos hne ht
        have hs := skipN_le l
        rw [List.length_drop] at hp
        cases hr : allL (l.drop (skipN l + m)) (p + skipN l + m) with
        | error x =>
          rw [hr] at h
          cases h
          match n, hn with
          | 0, hn => omega
          | n + 1, hn => exact allL_err n _ _ (by rw [List.length_drop]; omega) hr
        | ok r => rw [hr] at h; cases h
/-- How many tokens, and where. -/
theorem allL_len : ∀ n (l : List UInt8) (p : Nat) {A : List (Tk × Nat)}, l.length ≤ n → allL l p = .ok A → A.length ≤ l.length
  | n, l, p, A, hn, h => by
    rw [allL_eq] at h
    cases ht : tokL (l.drop (skipN l)) with
    | error x => rw [ht] at h; cases h
    | ok y =>
      obtain ⟨t, m⟩ := y
      rw [ht] at h
      simp only at h
      by_cases hk : t.kind = 0
      · rw [if_pos hk] at h; cases h; exact Nat.zero_le _
      · rw [if_neg hk] at h
        have hne : l.drop (skipN l) ≠ [] := by
          intro e
          rw [e, tokL_end] at ht
          cases ht
          exact hk rfl
        have hp := tokL_pos hne ht
        have hs := skipN_le l
        rw [List.length_drop] at hp
        cases hr : allL (l.drop (skipN l + m)) (p + skipN l + m) with
        | error x => rw [hr] at h; cases h
        | ok r =>
          rw [hr] at h
          cases h
          match n, hn with
          | 0, hn => omega
          | n + 1, hn =>
            have := allL_len n _ _ (by rw [List.length_drop]; omega) hr
            rw [List.length_drop] at this
            rw [List.length_cons]
            omega
/-- Where it is told that something is wrong. -/
theorem allL_place : ∀ n (l : List UInt8) (p : Nat) {e q : Nat}, l.length ≤ n → allL l p = .error (e, q) → q ≤ p + l.length
  | n, l, p, e, q, hn, h => by
    rw [allL_eq] at h
    have hs := skipN_le l
    cases ht : tokL (l.drop (skipN l)) with
    | error x => rw [ht] at h; cases h; omega
    | ok y =>
      obtain ⟨t, m⟩ := y
      rw [ht] at h
      simp only at h
      by_cases hk : t.kind = 0
      · rw [if_pos hk] at h; cases h
      · rw [if_neg hk] at h
        have hne : l.drop (skipN l) ≠ [] := by
          intro e
          rw [e, tokL_end] at ht
          cases ht
          exact hk rfl
        have hp := tokL_pos hne ht
        rw [List.length_drop] at hp
        cases hr : allL (l.drop (skipN l + m)) (p + skipN l + m) with
        | error x =>
          rw [hr] at h
          cases h
          match n, hn with
          | 0, hn => omega
          | n + 1, hn =>
            have := allL_place n _ _ (by rw [List.length_drop]; omega) hr
            rw [List.length_drop] at this
            omega
        | ok r => rw [hr] at h; cases h
end Go.Proofs.Ytgckhkdjjmeboaa
