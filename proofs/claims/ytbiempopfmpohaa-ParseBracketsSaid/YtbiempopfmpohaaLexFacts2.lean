/-
  All tokens of a text: moved, behind white, of two texts with a line's end between; where each begins. Conditions: none but those that each names.
-/
import Derived.Test.YtbiempopfmpohaaLexFacts
namespace Go.Proofs.Ytbiempopfmpohaa

theorem textF_len : ∀ f l {t : List UInt8} {k : Nat}, textF f l = .ok (t, k) → 0 < k ∧ k ≤ l.length
  | 0, l, t, k, h => by cases h
  | f + 1, [], t, k, h => by cases h
  | f + 1, c :: l, t, k, h => by
    rw [textF_cons] at h
    by_cases hc : c = 34
    · rw [if_pos hc] at h
      cases h
      simp
    · rw [if_neg hc] at h
      cases ho : oneL (c :: l) with
      | error e => rw [ho] at h; cases h
      | ok y =>
        obtain ⟨b, n⟩ := y
        have hp := oneL_pos ho
        rw [ho] at h
        simp only at h
        cases ht : textF f ((c :: l).drop n) with
        | error e => rw [ht] at h; cases h
        | ok z =>
          obtain ⟨t', k'⟩ := z
          have ih := textF_len f _ ht
          rw [List.length_drop] at ih
          rw [ht] at h
          cases h
          omega
theorem setF_len : ∀ f l {t : List (UInt8 × UInt8)} {k : Nat}, setF f l = .ok (t, k) → 0 < k ∧ k ≤ l.length
  | 0, l, t, k, h => by cases h
  | f + 1, [], t, k, h => by cases h
  | f + 1, c :: l, t, k, h => by
    rw [setF_cons] at h
    by_cases hc : c = 93
    · rw [if_pos hc] at h
      cases h
      simp
    · rw [if_neg hc] at h
      cases ho : oneL (c :: l) with
      | error e => rw [ho] at h; cases h
      | ok y =>
        obtain ⟨a, n⟩ := y
        have hp := oneL_pos ho
        rw [ho] at h
        simp only at h
        by_cases h45 : ((c :: l).drop n).head? = some 45
        · rw [if_pos h45] at h
          cases ho3 : oneL ((c :: l).drop (n + 1)) with
          | error e => rw [ho3] at h; cases h
          | ok z =>
            obtain ⟨b, m⟩ := z
            have hp3 := oneL_pos ho3
            rw [List.length_drop] at hp3
            rw [ho3] at h
            simp only at h
            by_cases hba : b < a
            · rw [if_pos hba] at h; cases h
            · rw [if_neg hba] at h
              cases ht : setF f ((c :: l).drop (n + 1 + m)) with
              | error e => rw [ht] at h; cases h
              | ok q =>
                obtain ⟨t', k'⟩ := q
                have ih := setF_len f _ ht
                rw [List.length_drop] at ih
                rw [ht] at h
                cases h
                omega
        · rw [if_neg h45] at h
          cases ht : setF f ((c :: l).drop n) with
          | error e => rw [ht] at h; cases h
          | ok q =>
            obtain ⟨t', k'⟩ := q
            have ih := setF_len f _ ht
            rw [List.length_drop] at ih
            rw [ht] at h
            cases h
            omega
theorem takeWhile_len (p : UInt8 → Bool) : ∀ l : List UInt8, (l.takeWhile p).length ≤ l.length
  | [] => Nat.le_refl _
  | a :: l => by
    have := takeWhile_len p l
    rw [List.takeWhile_cons]
    split <;> simp <;> omega
theorem takeWhile_pos {p : UInt8 → Bool} {a : UInt8} {l : List UInt8} (h : p a = true) : 0 < ((a :: l).takeWhile p).length := by
  rw [List.takeWhile_cons, if_pos h]; simp
theorem tokL_pos {l : List UInt8} {t : Tk} {n : Nat} (hl : l ≠ []) (h : tokL l = .ok (t, n)) : 0 < n ∧ n ≤ l.length ∧ t.kind ≠ 0 := by
  cases l with
  | nil => exact absurd rfl hl
  | cons c q =>
    unfold tokL at h
    simp only at h
    by_cases h1 : c = 34
    · rw [if_pos h1] at h
      cases ht : textF (q.length + 1) q with
      | error e => rw [ht] at h; cases h
      | ok y =>
        obtain ⟨t', k'⟩ := y
        have := textF_len _ _ ht
        rw [ht] at h
        simp only at h
        split at h
        · cases h
        · cases h
          simp; omega
    · rw [if_neg h1] at h
      by_cases h2 : c = 91
      · rw [if_pos h2] at h
        by_cases h3 : q.head? = some 94
        · rw [if_pos h3] at h
          cases ht : setF (q.length + 1) (q.drop 1) with
          | error e => rw [ht] at h; cases h
          | ok y =>
            obtain ⟨t', k'⟩ := y
            have := setF_len _ _ ht
            rw [List.length_drop] at this
            rw [ht] at h
            cases h
            simp; omega
        · rw [if_neg h3] at h
          cases ht : setF (q.length + 1) q with
          | error e => rw [ht] at h; cases h
          | ok y =>
            obtain ⟨t', k'⟩ := y
            have := setF_len _ _ ht
            rw [ht] at h
            cases h
            simp; omega
      · rw [if_neg h2] at h
        by_cases h4 : letterB c = true
        · rw [if_pos h4] at h
          split at h
          · cases h
          · cases h
            exact ⟨takeWhile_pos (by simp [h4]), takeWhile_len _ _, by simp⟩
        · rw [if_neg h4] at h
          by_cases h5 : digitB c = true
          · rw [if_pos h5] at h
            split at h
            · cases h
            · cases h
              exact ⟨takeWhile_pos h5, takeWhile_len _ _, by simp⟩
          · rw [if_neg h5] at h
            split at h
            · rename_i h6
              cases h
              have : q ≠ [] := by rintro rfl; simp at h6
              have := List.length_pos_iff.2 this
              simp; omega
            · split at h
              · cases h
                simp
              · cases h
theorem tokL_end : tokL [] = .ok (Tk.none, 0) := rfl

theorem allF_more : ∀ f g l p, l.length < f → l.length < g → allF f l p = allF g l p
  | 0, g, l, p, h, _ => by omega
  | f + 1, 0, l, p, _, h => by omega
  | f + 1, g + 1, l, p, h1, h2 => by
    unfold allF
    cases ht : tokL (l.drop (skipN l)) with
    | error e => rfl
    | ok y =>
      obtain ⟨t, n⟩ := y
      simp only
      by_cases hk : t.kind = 0
      · rw [if_pos hk, if_pos hk]
      · rw [if_neg hk, if_neg hk]
        have hne : l.drop (skipN l) ≠ [] := by
          intro e
          rw [e, tokL_end] at ht
          cases ht
          exact hk rfl
        have hp := tokL_pos hne ht
        have hs := skipN_le l
        rw [List.length_drop] at hp
        rw [allF_more f g (l.drop (skipN l + n)) (p + skipN l + n) (by rw [List.length_drop]; omega) (by rw [List.length_drop]; omega)]
/-- One token after the other. -/
theorem allL_eq (l : List UInt8) (p : Nat) : allL l p = match tokL (l.drop (skipN l)) with
    | .error e => .error (e, p + skipN l)
    | .ok (t, n) =>
      if t.kind = 0 then .ok []
      else match allL (l.drop (skipN l + n)) (p + skipN l + n) with
        | .error x => .error x
        | .ok r => .ok ((t, p + skipN l) :: r) := by
  unfold allL
  rw [allF]
  cases ht : tokL (l.drop (skipN l)) with
  | error e => rfl
  | ok y =>
    obtain ⟨t, n⟩ := y
    simp only
    by_cases hk : t.kind = 0
    · rw [if_pos hk, if_pos hk]
    · rw [if_neg hk, if_neg hk]
      have hne : l.drop (skipN l) ≠ [] := by
        intro e
        rw [e, tokL_end] at ht
        cases ht
        exact hk rfl
      have hp := tokL_pos hne ht
      have hs := skipN_le l
      rw [List.length_drop] at hp
      rw [allF_more l.length ((l.drop (skipN l + n)).length + 1) _ _ (by rw [List.length_drop]; omega) (by omega)]
      rfl
theorem tokL_kind {l : List UInt8} {t : Tk} {n : Nat} (h : tokL l = .ok (t, n)) (hk : t.kind = 0) : l = [] := by
  rcases Classical.em (l = []) with e | e
  · exact e
  · exact absurd hk (tokL_pos e h).2.2
/-- White ahead turns nothing but places. -/
theorem allL_white (front s : List UInt8) (p : Nat) (h : skipN (front ++ s) = front.length + skipN s) : allL (front ++ s) p = allL s (p + front.length) := by
  rw [allL_eq, allL_eq s, h]
  have hd : ∀ k, (front ++ s).drop (front.length + k) = s.drop k := fun k => by
    rw [← List.drop_drop, List.drop_left]
  rw [hd]
  cases tokL (s.drop (skipN s)) with
  | error e => simp only; rw [Nat.add_assoc]
  | ok y =>
    obtain ⟨t, n⟩ := y
    simp only
    rw [Nat.add_assoc front.length, hd, show p + (front.length + skipN s) + n = p + front.length + skipN s + n by omega, show p + (front.length + skipN s) = p + front.length + skipN s by omega]
/-- Moved. -/
theorem allL_shift (d : Nat) : ∀ n (l : List UInt8) (p : Nat), l.length ≤ n → allL l (p + d) = match allL l p with
    | .error x => .error (x.1, x.2 + d)
    | .ok r => .ok (r.map fun x => (x.1, x.2 + d))
  | n, l, p, hn => by
    rw [allL_eq, allL_eq l p]
    cases ht : tokL (l.drop (skipN l)) with
    | error e => simp only; rw [show p + d + skipN l = p + skipN l + d by omega]
    | ok y =>
      obtain ⟨t, k⟩ := y
      simp only
      by_cases hk : t.kind = 0
      · rw [if_pos hk, if_pos hk]; rfl
      · rw [if_neg hk, if_neg hk]
        have hne : l.drop (skipN l) ≠ [] := by
          intro e
          rw [e, tokL_end] at ht
          cases ht
          exact hk rfl
        have hp := tokL_pos hne ht
        have hs := skipN_le l
        rw [List.length_drop] at hp
        match n, hn with
        | 0, hn => omega
        | m + 1, hn =>
          rw [show p + d + skipN l + k = p + skipN l + k + d by omega, allL_shift d m (l.drop (skipN l + k)) (p + skipN l + k) (by rw [List.length_drop]; omega)]
          cases allL (l.drop (skipN l + k)) (p + skipN l + k) with
          | error x => rfl
          | ok r => simp only [List.map_cons]; rw [show p + d + skipN l = p + skipN l + d by omega]
/-- Two texts with a line's end between. -/
theorem allL_join (t : List UInt8) : ∀ n (s : List UInt8) (p : Nat) {A : List (Tk × Nat)}, s.length ≤ n → allL s p = .ok A → allL (s ++ 10 :: t) p = match allL t (p + s.length + 1) with
    | .error x => .error x
    | .ok B => .ok (A ++ B)
  | n, s, p, A, hn, hA => by
    rw [allL_eq] at hA
    have hs := skipN_le s
    have hj := skipN_append t s.length s (Nat.le_refl _)
    rcases Nat.lt_or_ge (skipN s) s.length with h1 | h1
    · rw [if_pos h1] at hj
      have hne : s.drop (skipN s) ≠ [] := by
        intro e
        have := congrArg List.length e
        rw [List.length_drop] at this
        simp at this
        omega
      cases ht : tokL (s.drop (skipN s)) with
      | error e => rw [ht] at hA; cases hA
      | ok y =>
        obtain ⟨k, m⟩ := y
        have hp := tokL_pos hne ht
        rw [List.length_drop] at hp
        rw [ht] at hA
        simp only at hA
        rw [if_neg hp.2.2] at hA
        cases hr : allL (s.drop (skipN s + m)) (p + skipN s + m) with
        | error x => rw [hr] at hA; cases hA
        | ok r =>
          rw [hr] at hA
          cases hA
          rw [allL_eq, hj, drop_append_le hs, tokL_append t hne ht]
          simp only
          rw [if_neg hp.2.2, drop_append_le (show skipN s + m ≤ s.length by omega)]
          match n, hn with
          | 0, hn => omega
          | n + 1, hn =>
            rw [allL_join t n (s.drop (skipN s + m)) (p + skipN s + m) (by rw [List.length_drop]; omega) hr, List.length_drop, show p + skipN s + m + (s.length - (skipN s + m)) + 1 = p + s.length + 1 by omega]
            cases allL t (p + s.length + 1) with
            | error x => rfl
            | ok B => rfl
    · have e1 : skipN s = s.length := by omega
      rw [if_neg (by omega)] at hj
      rw [e1, List.drop_of_length_le (Nat.le_refl _), tokL_end] at hA
      simp only [Tk.none, if_true] at hA
      cases hA
      have hd : ∀ k, (s ++ 10 :: t).drop (s.length + 1 + k) = t.drop k := fun k => by
        rw [show s ++ 10 :: t = (s ++ [10]) ++ t by simp, ← List.drop_drop]
        rw [show s.length + 1 = (s ++ [10]).length by simp, List.drop_left]
      rw [allL_eq, hj, hd, allL_eq t]
      cases tokL (t.drop (skipN t)) with
      | error e => simp only; rw [show p + (s.length + 1 + skipN t) = p + s.length + 1 + skipN t by omega]
      | ok y =>
        obtain ⟨k, m⟩ := y
        simp only
        rw [Nat.add_assoc (s.length + 1), hd, show p + (s.length + 1 + skipN t) + m = p + s.length + 1 + skipN t + m by omega, show p + (s.length + 1 + skipN t) = p + s.length + 1 + skipN t by omega]
        by_cases hk : k.kind = 0
        · rw [if_pos hk]; rfl
        · rw [if_neg hk]
          cases allL (t.drop (skipN t + m)) (p + s.length + 1 + skipN t + m) with
          | error x => rfl
          | ok B => rfl
/-- Where the tokens begin: no white ahead, and the next one not ahead of the end. -/
def okAt (l : List UInt8) (p : Nat) : List (Tk × Nat) → Prop
  | [] => True
  | (t, a) :: r => p ≤ a ∧ a - p < l.length ∧ (∃ n, 0 < n ∧ tokL (l.drop (a - p)) = .ok (t, n) ∧ skipN (l.drop (a - p)) = 0 ∧ ∀ x, r.head? = some x → a + n ≤ x.2) ∧ okAt l p r
theorem okAt_drop {l : List UInt8} {p d : Nat} : ∀ {r : List (Tk × Nat)}, okAt (l.drop d) (p + d) r → okAt l p r
  | [], _ => trivial
  | (t, a) :: r, h => by
    obtain ⟨h1, h2, ⟨n, h3, h4, h5, h6⟩, h7⟩ := h
    rw [List.length_drop] at h2
    rw [List.drop_drop, show d + (a - (p + d)) = a - p by omega] at h4 h5
    exact ⟨by omega, by omega, ⟨n, h3, h4, h5, h6⟩, okAt_drop h7⟩
theorem allL_at : ∀ n (l : List UInt8) (p : Nat) {A : List (Tk × Nat)}, l.length ≤ n → allL l p = .ok A → okAt l p A
  | n, l, p, A, hn, hA => by
    rw [allL_eq] at hA
    have hs := skipN_le l
    cases ht : tokL (l.drop (skipN l)) with
    | error e => rw [ht] at hA; cases hA
    | ok y =>
      obtain ⟨t, m⟩ := y
      rw [ht] at hA
      simp only at hA
      by_cases hk : t.kind = 0
      · rw [if_pos hk] at hA
        cases hA
        trivial
      · rw [if_neg hk] at hA
        have hne : l.drop (skipN l) ≠ [] := by
          intro e
          rw [e, tokL_end] at ht
          cases ht
          exact hk rfl
        have hp := tokL_pos hne ht
        rw [List.length_drop] at hp
        cases hr : allL (l.drop (skipN l + m)) (p + skipN l + m) with
        | error x => rw [hr] at hA; cases hA
        | ok r =>
          rw [hr] at hA
          cases hA
          match n, hn with
          | 0, hn => omega
          | n + 1, hn =>
            have ih := allL_at n (l.drop (skipN l + m)) (p + skipN l + m) (by rw [List.length_drop]; omega) hr
            refine ⟨by omega, by omega, ⟨m, hp.1, ?_, ?_, ?_⟩, ?_⟩
            · rw [show p + skipN l - p = skipN l by omega]; exact ht
            · rw [show p + skipN l - p = skipN l by omega]; exact skipN_skip _ l (Nat.le_refl _)
            · intro x hx
              cases r with
              | nil => cases hx
              | cons y r =>
                cases hx
                exact ih.1
            · exact okAt_drop (d := skipN l + m) (by rw [← Nat.add_assoc]; exact ih)
theorem okAt_get {l : List UInt8} {p : Nat} : ∀ {A : List (Tk × Nat)} {i : Nat}, okAt l p A → (hi : i < A.length) → p ≤ A[i].2 ∧ A[i].2 - p < l.length ∧ ∃ n, 0 < n ∧ tokL (l.drop (A[i].2 - p)) = .ok (A[i].1, n) ∧ skipN (l.drop (A[i].2 - p)) = 0 ∧ ∀ h : i + 1 < A.length, A[i].2 + n ≤ A[i + 1].2
  | [], i, _, hi => by simp at hi
  | (t, a) :: r, 0, h, _ => by
    obtain ⟨h1, h2, ⟨n, h3, h4, h5, h6⟩, _⟩ := h
    refine ⟨h1, h2, n, h3, h4, h5, fun hh => ?_⟩
    have hr : 0 < r.length := by simpa using hh
    exact h6 _ (by rw [List.head?_eq_getElem?, List.getElem?_eq_getElem hr]; rfl)
  | (t, a) :: r, i + 1, h, hi => by
    have := okAt_get (i := i) h.2.2.2 (by simpa using hi)
    simpa using this
end Go.Proofs.Ytbiempopfmpohaa
