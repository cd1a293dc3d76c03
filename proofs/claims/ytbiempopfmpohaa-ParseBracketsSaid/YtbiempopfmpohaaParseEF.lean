/-
What is parsed stays what it is, where a token that ends an expression stands behind, and however deep: but that it may be too deep. Enough steps are enough. Conditions: those that each names.
What is parsed takes a token or more; so many steps are enough; the whole of a row of tokens, and what brackets, signs and more rows make of it. Conditions: those that each names.
The whole of a row of tokens: what it says in brackets, behind one another, with a sign between, and not so and so often. Conditions: those that each names.
What is parsed is right, and not too deep: each expression has what its kind asks; at most 133 stand one in the other. Conditions: the tokens' texts are as the lexer makes them.
-/
import Derived.Test.YtbiempopfmpohaaParsePlain
namespace Go.Proofs.Ytbiempopfmpohaa

theorem parse_ext {E : List Tk} (hE : stopE E) : ∀ (n : Nat) (nt : NT) (d d' : Nat) (T : List Tk) (l : List Rx) (R : List Tk), parse n nt d T = .ok (l, R) →
    parse n nt d' (T ++ E) = .ok (l, R ++ E) ∨ (d < d' ∧ ∃ Q, parse n nt d' (T ++ E) = .error (8, Q))
  | 0, _, _, _, _, _, _, h => by cases h
  | n + 1, .reL, d, d', T, l, R, h => by
    simp only [parse] at h ⊢
    cases h1 : parse n .andL d T with
    | error x => rw [h1] at h; cases h
    | ok p =>
      obtain ⟨l1, R1⟩ := p
      rw [h1] at h
      rcases parse_ext hE n .andL d d' T l1 R1 h1 with e1 | ⟨hd, Q, e1⟩
      · rw [e1]
        simp only at h ⊢
        rw [sgn_ext hE (by decide) (by decide)]
        by_cases hc : sgn [124] R1 = true
        · rw [if_pos hc] at h ⊢
          rw [(sgn_front hc).2]
          cases h2 : parse n .reL d R1.tail with
          | error x => rw [h2] at h; cases h
          | ok p =>
            obtain ⟨l2, R2⟩ := p
            rw [h2] at h
            cases h
            rcases parse_ext hE n .reL d d' R1.tail l2 R h2 with e2 | ⟨hd, Q, e2⟩
            · rw [e2]; exact .inl rfl
            · rw [e2]; exact .inr ⟨hd, Q, rfl⟩
        · rw [if_neg hc] at h ⊢
          cases h
          exact .inl rfl
      · rw [e1]; exact .inr ⟨hd, Q, rfl⟩
  | n + 1, .andL, d, d', T, l, R, h => by
    simp only [parse] at h ⊢
    cases h1 : parse n .catL d T with
    | error x => rw [h1] at h; cases h
    | ok p =>
      obtain ⟨l1, R1⟩ := p
      rw [h1] at h
      rcases parse_ext hE n .catL d d' T l1 R1 h1 with e1 | ⟨hd, Q, e1⟩
      · rw [e1]
        simp only at h ⊢
        rw [sgn_ext hE (by decide) (by decide)]
        by_cases hc : sgn [38] R1 = true
        · rw [if_pos hc] at h ⊢
          rw [(sgn_front hc).2]
          cases h2 : parse n .andL d R1.tail with
          | error x => rw [h2] at h; cases h
          | ok p =>
            obtain ⟨l2, R2⟩ := p
            rw [h2] at h
            cases h
            rcases parse_ext hE n .andL d d' R1.tail l2 R h2 with e2 | ⟨hd, Q, e2⟩
            · rw [e2]; exact .inl rfl
            · rw [e2]; exact .inr ⟨hd, Q, rfl⟩
        · rw [if_neg hc] at h ⊢
          cases h
          exact .inl rfl
      · rw [e1]; exact .inr ⟨hd, Q, rfl⟩
  | n + 1, .catL, d, d', T, l, R, h => by
    simp only [parse] at h ⊢
    cases h1 : parse n .not d T with
    | error x => rw [h1] at h; cases h
    | ok p =>
      obtain ⟨l1, R1⟩ := p
      rw [h1] at h
      rcases parse_ext hE n .not d d' T l1 R1 h1 with e1 | ⟨hd, Q, e1⟩
      · rw [e1]
        simp only at h ⊢
        rw [beg_ext hE]
        by_cases hc : begB R1 = true
        · rw [if_pos hc] at h ⊢
          cases h2 : parse n .catL d R1 with
          | error x => rw [h2] at h; cases h
          | ok p =>
            obtain ⟨l2, R2⟩ := p
            rw [h2] at h
            cases h
            rcases parse_ext hE n .catL d d' R1 l2 R h2 with e2 | ⟨hd, Q, e2⟩
            · rw [e2]; exact .inl rfl
            · rw [e2]; exact .inr ⟨hd, Q, rfl⟩
        · rw [if_neg hc] at h ⊢
          cases h
          exact .inl rfl
      · rw [e1]; exact .inr ⟨hd, Q, rfl⟩
  | n + 1, .not, d, d', T, l, R, h => by
    simp only [parse] at h ⊢
    rw [sgn_ext hE (by decide) (by decide)]
    by_cases hc : sgn [33] T = true
    · rw [if_pos hc] at h ⊢
      by_cases hd : 32 ≤ d
      · rw [if_pos hd] at h; cases h
      · rw [if_neg hd] at h
        by_cases hd' : 32 ≤ d'
        · rw [if_pos hd']; exact .inr ⟨by omega, _, rfl⟩
        · rw [if_neg hd', (sgn_front hc).2]
          cases h2 : parse n .not (d + 1) T.tail with
          | error x => rw [h2] at h; cases h
          | ok p =>
            obtain ⟨l2, R2⟩ := p
            rw [h2] at h
            cases h
            rcases parse_ext hE n .not (d + 1) (d' + 1) T.tail l2 R h2 with e2 | ⟨hd, Q, e2⟩
            · rw [e2]; exact .inl rfl
            · rw [e2]; exact .inr ⟨by omega, Q, rfl⟩
    · rw [if_neg hc] at h ⊢
      cases h1 : parse n .atom d T with
      | error x => rw [h1] at h; cases h
      | ok p =>
        obtain ⟨l1, R1⟩ := p
        rw [h1] at h
        rcases parse_ext hE n .atom d d' T l1 R1 h1 with e1 | ⟨hd, Q, e1⟩
        · rw [e1]
          simp only at h ⊢
          cases h2 : postF (tog 4 l1) R1 with
          | error x => rw [h2] at h; cases h
          | ok p =>
            obtain ⟨a, R2⟩ := p
            rw [h2] at h
            cases h
            rw [post_ext hE h2]
            exact .inl rfl
        · rw [e1]; exact .inr ⟨hd, Q, rfl⟩
  | n + 1, .atom, d, d', T, l, R, h => by
    simp only [parse] at h ⊢
    rw [sgn_ext hE (by decide) (by decide)]
    by_cases hc : sgn [40] T = true
    · rw [if_pos hc] at h ⊢
      by_cases hd : 32 ≤ d
      · rw [if_pos hd] at h; cases h
      · rw [if_neg hd] at h
        by_cases hd' : 32 ≤ d'
        · rw [if_pos hd']; exact .inr ⟨by omega, _, rfl⟩
        · rw [if_neg hd', (sgn_front hc).2]
          cases h2 : parse n .reL (d + 1) T.tail with
          | error x => rw [h2] at h; cases h
          | ok p =>
            obtain ⟨l2, R2⟩ := p
            rw [h2] at h
            simp only at h
            by_cases hp : sgn [41] R2 = true
            · rw [if_pos hp] at h
              cases h
              rcases parse_ext hE n .reL (d + 1) (d' + 1) T.tail l2 R2 h2 with e2 | ⟨hd, Q, e2⟩
              · rw [e2]
                simp only
                rw [if_pos (sgn_front hp).1, (sgn_front hp).2]
                exact .inl rfl
              · rw [e2]; exact .inr ⟨by omega, Q, rfl⟩
            · rw [if_neg hp] at h
              cases h
    · rw [if_neg hc] at h ⊢
      cases T with
      | nil => cases h
      | cons t T =>
        simp only [List.cons_append] at h ⊢
        cases ha : atomT t with
        | none => rw [ha] at h; cases h
        | some a =>
          rw [ha] at h
          cases h
          exact .inl rfl

theorem parse_not (n d : Nat) (T : List Tk) : parse (n + 1) .not d T = if sgn [33] T then
      if 32 ≤ d then .error (8, T)
      else match parse n .not (d + 1) T.tail with
        | .error x => .error x
        | .ok (l, R) => .ok ([.not (tog 4 l)], R)
    else match parse n .atom d T with
      | .error x => .error x
      | .ok (l, R) => match postF (tog 4 l) R with
        | .error x => .error x
        | .ok (a, R') => .ok ([a], R') := rfl
theorem parse_atom (n d : Nat) (T : List Tk) : parse (n + 1) .atom d T = if sgn [40] T then
      if 32 ≤ d then .error (8, T)
      else match parse n .reL (d + 1) T.tail with
        | .error x => .error x
        | .ok (l, R) => if sgn [41] R then .ok ([tog 5 l], R.tail) else .error (4, R)
    else match T with
      | [] => .error (4, T)
      | t :: R => match atomT t with
        | none => .error (4, T)
        | some a => .ok ([a], R) := rfl
/-- Once there are steps enough, more change nothing. -/
theorem parse_more : ∀ (n : Nat) (nt : NT) (d : Nat) (T : List Tk), (∀ Q, parse n nt d T ≠ .error (99, Q)) → parse (n + 1) nt d T = parse n nt d T
  | 0, _, _, T, h => absurd rfl (h T)
  | n + 1, .reL, d, T, h => by
    have h1 : ∀ Q, parse n .andL d T ≠ .error (99, Q) := fun Q e => by
      refine h Q ?_
      simp only [parse]
      rw [e]
    rw [parse, parse, parse_more n .andL d T h1]
    cases e1 : parse n .andL d T with
    | error x => rfl
    | ok p =>
      obtain ⟨l1, R1⟩ := p
      simp only
      by_cases hc : sgn [124] R1 = true
      · rw [if_pos hc, if_pos hc]
        have h2 : ∀ Q, parse n .reL d R1.tail ≠ .error (99, Q) := fun Q e => by
          refine h Q ?_
          simp only [parse]
          rw [e1]
          simp only
          rw [if_pos hc, e]
        rw [parse_more n .reL d R1.tail h2]
      · rw [if_neg hc, if_neg hc]
  | n + 1, .andL, d, T, h => by
    have h1 : ∀ Q, parse n .catL d T ≠ .error (99, Q) := fun Q e => by
      refine h Q ?_
      simp only [parse]
      rw [e]
    rw [parse, parse, parse_more n .catL d T h1]
    cases e1 : parse n .catL d T with
    | error x => rfl
    | ok p =>
      obtain ⟨l1, R1⟩ := p
      simp only
      by_cases hc : sgn [38] R1 = true
      · rw [if_pos hc, if_pos hc]
        have h2 : ∀ Q, parse n .andL d R1.tail ≠ .error (99, Q) := fun Q e => by
          refine h Q ?_
          simp only [parse]
          rw [e1]
          simp only
          rw [if_pos hc, e]
        rw [parse_more n .andL d R1.tail h2]
      · rw [if_neg hc, if_neg hc]
  | n + 1, .catL, d, T, h => by
    have h1 : ∀ Q, parse n .not d T ≠ .error (99, Q) := fun Q e => by
      refine h Q ?_
      simp only [parse]
      rw [e]
    rw [parse, parse, parse_more n .not d T h1]
    cases e1 : parse n .not d T with
    | error x => rfl
    | ok p =>
      obtain ⟨l1, R1⟩ := p
      simp only
      by_cases hc : begB R1 = true
      · rw [if_pos hc, if_pos hc]
        have h2 : ∀ Q, parse n .catL d R1 ≠ .error (99, Q) := fun Q e => by
          refine h Q ?_
          simp only [parse]
          rw [e1]
          simp only
          rw [if_pos hc, e]
        rw [parse_more n .catL d R1 h2]
      · rw [if_neg hc, if_neg hc]
  | n + 1, .not, d, T, h => by
    rw [parse_not (n + 1), parse_not n d T]
    by_cases hc : sgn [33] T = true
    · rw [if_pos hc, if_pos hc]
      by_cases hd : 32 ≤ d
      · rw [if_pos hd, if_pos hd]
      · rw [if_neg hd, if_neg hd]
        have h2 : ∀ Q, parse n .not (d + 1) T.tail ≠ .error (99, Q) := fun Q e => by
          refine h Q ?_
          simp only [parse]
          rw [if_pos hc, if_neg hd, e]
        rw [parse_more n .not (d + 1) T.tail h2]
    · rw [if_neg hc, if_neg hc]
      have h2 : ∀ Q, parse n .atom d T ≠ .error (99, Q) := fun Q e => by
        refine h Q ?_
        simp only [parse]
        rw [if_neg hc, e]
      rw [parse_more n .atom d T h2]
  | n + 1, .atom, d, T, h => by
    rw [parse_atom (n + 1), parse_atom n d T]
    by_cases hc : sgn [40] T = true
    · rw [if_pos hc, if_pos hc]
      by_cases hd : 32 ≤ d
      · rw [if_pos hd, if_pos hd]
      · rw [if_neg hd, if_neg hd]
        have h2 : ∀ Q, parse n .reL (d + 1) T.tail ≠ .error (99, Q) := fun Q e => by
          refine h Q ?_
          simp only [parse]
          rw [if_pos hc, if_neg hd, e]
        rw [parse_more n .reL (d + 1) T.tail h2]
    · rw [if_neg hc, if_neg hc]
end Go.Proofs.Ytbiempopfmpohaa
namespace Go.Proofs.Ytbiempopfmpohaa

theorem sgn_len {s : List UInt8} {R : List Tk} (h : sgn s R = true) : R.tail.length + 1 = R.length := by
  obtain ⟨t, R', rfl⟩ := sgn_pos h
  rfl
theorem num_len {least : Nat} {R : List Tk} {x : Nat × List Tk} (h : numF least R = some x) : x.2.length < R.length := by
  cases R with
  | nil => cases h
  | cons t R =>
    simp only [numF] at h
    split at h
    · obtain rfl := Option.some.inj h
      simp
    · cases h
theorem post_len {a x : Rx} {R Q : List Tk} (h : postF a R = .ok (x, Q)) : Q.length ≤ R.length := by
  unfold postF at h
  split at h
  · rename_i hc; cases h; have := sgn_len hc; omega
  split at h
  · rename_i hc; cases h; have := sgn_len hc; omega
  split at h
  · rename_i hc; cases h; have := sgn_len hc; omega
  split at h
  · rename_i hc
    have h0 := sgn_len hc
    cases hn : numF 0 R.tail with
    | none => rw [hn] at h; cases h
    | some p =>
      obtain ⟨m, R1⟩ := p
      have h1 := num_len hn
      rw [hn] at h
      simp only at h h1
      split at h
      · rename_i hc1
        have h2 := sgn_len hc1
        cases hn2 : numF m R1.tail with
        | none => rw [hn2] at h; cases h
        | some p =>
          obtain ⟨k, R2⟩ := p
          have h3 := num_len hn2
          rw [hn2] at h
          simp only at h h3
          split at h
          · rename_i hc2; cases h; have := sgn_len hc2; omega
          · cases h
      · split at h
        · rename_i hc2; cases h; have := sgn_len hc2; omega
        · cases h
  · cases h; exact Nat.le_refl _
/-- One token or more is taken. -/
theorem parse_len : ∀ (n : Nat) (nt : NT) (d : Nat) (T : List Tk) (l : List Rx) (R : List Tk), parse n nt d T = .ok (l, R) → R.length < T.length
  | 0, _, _, _, _, _, h => by cases h
  | n + 1, .reL, d, T, l, R, h => by
    simp only [parse] at h
    cases h1 : parse n .andL d T with
    | error x => rw [h1] at h; cases h
    | ok p =>
      obtain ⟨l1, R1⟩ := p
      have a1 := parse_len n _ _ _ _ _ h1
      rw [h1] at h
      simp only at h
      split at h
      · rename_i hc
        have a2 := sgn_len hc
        cases h2 : parse n .reL d R1.tail with
        | error x => rw [h2] at h; cases h
        | ok p =>
          obtain ⟨l2, R2⟩ := p
          have a3 := parse_len n _ _ _ _ _ h2
          rw [h2] at h
          cases h
          omega
      · cases h; exact a1
  | n + 1, .andL, d, T, l, R, h => by
    simp only [parse] at h
    cases h1 : parse n .catL d T with
    | error x => rw [h1] at h; cases h
    | ok p =>
      obtain ⟨l1, R1⟩ := p
      have a1 := parse_len n _ _ _ _ _ h1
      rw [h1] at h
      simp only at h
      split at h
      · rename_i hc
        have a2 := sgn_len hc
        cases h2 : parse n .andL d R1.tail with
        | error x => rw [h2] at h; cases h
        | ok p =>
          obtain ⟨l2, R2⟩ := p
          have a3 := parse_len n _ _ _ _ _ h2
          rw [h2] at h
          cases h
          omega
      · cases h; exact a1
  | n + 1, .catL, d, T, l, R, h => by
    simp only [parse] at h
    cases h1 : parse n .not d T with
    | error x => rw [h1] at h; cases h
    | ok p =>
      obtain ⟨l1, R1⟩ := p
      have a1 := parse_len n _ _ _ _ _ h1
      rw [h1] at h
      simp only at h
      split at h
      · cases h2 : parse n .catL d R1 with
        | error x => rw [h2] at h; cases h
        | ok p =>
          obtain ⟨l2, R2⟩ := p
          have a3 := parse_len n _ _ _ _ _ h2
          rw [h2] at h
          cases h
          omega
      · cases h; exact a1
  | n + 1, .not, d, T, l, R, h => by
    rw [parse_not] at h
    split at h
    · rename_i hc
      have a0 := sgn_len hc
      split at h
      · cases h
      · cases h2 : parse n .not (d + 1) T.tail with
        | error x => rw [h2] at h; cases h
        | ok p =>
          obtain ⟨l2, R2⟩ := p
          have a3 := parse_len n _ _ _ _ _ h2
          rw [h2] at h
          cases h
          omega
    · cases h2 : parse n .atom d T with
      | error x => rw [h2] at h; cases h
      | ok p =>
        obtain ⟨l2, R2⟩ := p
        have a3 := parse_len n _ _ _ _ _ h2
        rw [h2] at h
        simp only at h
        cases h3 : postF (tog 4 l2) R2 with
        | error x => rw [h3] at h; cases h
        | ok p =>
          obtain ⟨a, R3⟩ := p
          have a4 := post_len h3
          rw [h3] at h
          cases h
          omega
  | n + 1, .atom, d, T, l, R, h => by
    rw [parse_atom] at h
    split at h
    · rename_i hc
      have a0 := sgn_len hc
      split at h
      · cases h
      · cases h2 : parse n .reL (d + 1) T.tail with
        | error x => rw [h2] at h; cases h
        | ok p =>
          obtain ⟨l2, R2⟩ := p
          have a3 := parse_len n _ _ _ _ _ h2
          rw [h2] at h
          simp only at h
          split at h
          · rename_i hp
            have a4 := sgn_len hp
            cases h
            omega
          · cases h
    · cases T with
      | nil => cases h
      | cons t T =>
        simp only at h
        cases ha : atomT t with
        | none => rw [ha] at h; cases h
        | some a =>
          rw [ha] at h
          cases h
          simp

def rankN : NT → Nat
  | .reL => 4
  | .andL => 3
  | .catL => 2
  | .not => 1
  | .atom => 0
theorem post_err {a : Rx} {R Q : List Tk} {e : Nat} (h : postF a R = .error (e, Q)) : e = 4 := by
  unfold postF at h
  repeat' split at h
  all_goals cases h
  all_goals rfl
/-- So many steps are enough. -/
theorem parse_enough : ∀ (n : Nat) (nt : NT) (d : Nat) (T : List Tk), 5 * T.length + rankN nt < n → ∀ Q, parse n nt d T ≠ .error (99, Q)
  | 0, _, _, _, h, _ => absurd h (by omega)
  | n + 1, .reL, d, T, hn, Q => by
    intro h
    simp only [parse] at h
    simp only [rankN] at hn
    cases h1 : parse n .andL d T with
    | error x => rw [h1] at h; cases h; exact parse_enough n .andL d T (by simp only [rankN]; omega) _ h1
    | ok p =>
      obtain ⟨l1, R1⟩ := p
      have a1 := parse_len n _ _ _ _ _ h1
      rw [h1] at h
      simp only at h
      split at h
      · rename_i hc
        have a2 := sgn_len hc
        cases h2 : parse n .reL d R1.tail with
        | error x => rw [h2] at h; cases h; exact parse_enough n .reL d _ (by simp only [rankN]; omega) _ h2
        | ok p => rw [h2] at h; cases h
      · cases h
  | n + 1, .andL, d, T, hn, Q => by
    intro h
    simp only [parse] at h
    simp only [rankN] at hn
    cases h1 : parse n .catL d T with
    | error x => rw [h1] at h; cases h; exact parse_enough n .catL d T (by simp only [rankN]; omega) _ h1
    | ok p =>
      obtain ⟨l1, R1⟩ := p
      have a1 := parse_len n _ _ _ _ _ h1
      rw [h1] at h
      simp only at h
      split at h
      · rename_i hc
        have a2 := sgn_len hc
        cases h2 : parse n .andL d R1.tail with
        | error x => rw [h2] at h; cases h; exact parse_enough n .andL d _ (by simp only [rankN]; omega) _ h2
        | ok p => rw [h2] at h; cases h
      · cases h
  | n + 1, .catL, d, T, hn, Q => by
    intro h
    simp only [parse] at h
    simp only [rankN] at hn
    cases h1 : parse n .not d T with
    | error x => rw [h1] at h; cases h; exact parse_enough n .not d T (by simp only [rankN]; omega) _ h1
    | ok p =>
      obtain ⟨l1, R1⟩ := p
      have a1 := parse_len n _ _ _ _ _ h1
      rw [h1] at h
      simp only at h
      split at h
      · cases h2 : parse n .catL d R1 with
        | error x => rw [h2] at h; cases h; exact parse_enough n .catL d _ (by simp only [rankN]; omega) _ h2
        | ok p => rw [h2] at h; cases h
      · cases h
  | n + 1, .not, d, T, hn, Q => by
    intro h
    rw [parse_not] at h
    simp only [rankN] at hn
    split at h
    · rename_i hc
      have a0 := sgn_len hc
      split at h
      · cases h
      · cases h2 : parse n .not (d + 1) T.tail with
        | error x => rw [h2] at h; cases h; exact parse_enough n .not (d + 1) _ (by simp only [rankN]; omega) _ h2
        | ok p => rw [h2] at h; cases h
    · cases h2 : parse n .atom d T with
      | error x => rw [h2] at h; cases h; exact parse_enough n .atom d _ (by simp only [rankN]; omega) _ h2
      | ok p =>
        obtain ⟨l2, R2⟩ := p
        rw [h2] at h
        simp only at h
        cases h3 : postF (tog 4 l2) R2 with
        | error x =>
          obtain ⟨e, Q'⟩ := x
          have := post_err h3
          rw [h3] at h
          cases h
          cases this
        | ok p => rw [h3] at h; cases h
  | n + 1, .atom, d, T, hn, Q => by
    intro h
    rw [parse_atom] at h
    simp only [rankN] at hn
    split at h
    · rename_i hc
      have a0 := sgn_len hc
      split at h
      · cases h
      · cases h2 : parse n .reL (d + 1) T.tail with
        | error x => rw [h2] at h; cases h; exact parse_enough n .reL (d + 1) _ (by simp only [rankN]; omega) _ h2
        | ok p =>
          obtain ⟨l2, R2⟩ := p
          rw [h2] at h
          simp only at h
          split at h
          · cases h
          · cases h
    · cases T with
      | nil => cases h
      | cons t T =>
        simp only at h
        cases ha : atomT t with
        | none => rw [ha] at h; cases h
        | some a => rw [ha] at h; cases h
/-- .. and more of them say the same. -/
theorem parse_same (nt : NT) (d : Nat) (T : List Tk) : ∀ (k n : Nat), 5 * T.length + rankN nt < n → parse (n + k) nt d T = parse n nt d T
  | 0, _, _ => rfl
  | k + 1, n, h => by
    rw [← Nat.add_assoc, parse_more (n + k) nt d T (parse_enough (n + k) nt d T (by omega)), parse_same nt d T k n h]
theorem parse_at {nt : NT} {d : Nat} {T : List Tk} {n m : Nat} (hn : 5 * T.length + rankN nt < n) (hm : 5 * T.length + rankN nt < m) : parse n nt d T = parse m nt d T := by
  rcases Nat.le_total n m with h | h
  · rw [← Nat.add_sub_of_le h, parse_same nt d T _ n hn]
  · rw [← Nat.add_sub_of_le h, parse_same nt d T _ m hm]
end Go.Proofs.Ytbiempopfmpohaa
namespace Go.Proofs.Ytbiempopfmpohaa

/-- A whole row of tokens: what it says, or what is wrong and what is left there. -/
def wholeF (T : List Tk) : Except (Nat × List Tk) Rx := match parse (5 * T.length + 5) .reL 0 T with
  | .error x => .error x
  | .ok (l, []) => .ok (tog 5 l)
  | .ok (_, t :: R) => .error (4, t :: R)
def sgT (s : List UInt8) : Tk := ⟨4, s, fun _ => false, 0⟩
def openT : Tk := sgT [40]
def shutT : Tk := sgT [41]
theorem whole_ok {T : List Tk} {a : Rx} (h : wholeF T = .ok a) : ∃ l, a = tog 5 l ∧ ∀ n, 5 * T.length + 5 ≤ n → parse n .reL 0 T = .ok (l, []) := by
  unfold wholeF at h
  cases h1 : parse (5 * T.length + 5) .reL 0 T with
  | error x => rw [h1] at h; cases h
  | ok p =>
    obtain ⟨l, R⟩ := p
    rw [h1] at h
    cases R with
    | cons t R => cases h
    | nil =>
      cases h
      refine ⟨l, rfl, fun n hn => ?_⟩
      rw [← h1]
      exact parse_at (by simp only [rankN]; omega) (by simp only [rankN]; omega)
theorem whole_of {T : List Tk} {n : Nat} {l : List Rx} (hn : 5 * T.length + 5 ≤ n) (h : parse n .reL 0 T = .ok (l, []) ∨ ∃ Q, parse n .reL 0 T = .error (8, Q)) : wholeF T = .ok (tog 5 l) ∨ ∃ Q, wholeF T = .error (8, Q) := by
  unfold wholeF
  rw [parse_at (nt := .reL) (d := 0) (T := T) (n := 5 * T.length + 5) (m := n) (by simp only [rankN]; omega) (by simp only [rankN]; omega)]
  rcases h with h | ⟨Q, h⟩
  · rw [h]; exact .inl rfl
  · rw [h]; exact .inr ⟨Q, rfl⟩
theorem stop_shut (E : List Tk) : stopE (shutT :: E) := ⟨shutT, E, rfl, rfl, .inl rfl⟩
theorem br_atom {n d : Nat} {A E : List Tk} {l : List Rx} (h : parse n .reL 0 A = .ok (l, [])) :
    parse (n + 1) .atom d (openT :: (A ++ shutT :: E)) = .ok ([tog 5 l], E) ∨ ∃ Q, parse (n + 1) .atom d (openT :: (A ++ shutT :: E)) = .error (8, Q) := by
  rw [parse_atom, if_pos (show sgn [40] (openT :: (A ++ shutT :: E)) = true from rfl)]
  by_cases hd : 32 ≤ d
  · rw [if_pos hd]; exact .inr ⟨_, rfl⟩
  · rw [if_neg hd]
    rw [show (openT :: (A ++ shutT :: E)).tail = A ++ shutT :: E from rfl]
    rcases parse_ext (stop_shut E) n .reL 0 (d + 1) A l [] h with e | ⟨_, Q, e⟩
    · rw [e]
      exact .inl rfl
    · rw [e]
      exact .inr ⟨Q, rfl⟩
theorem br_not {n d : Nat} {A E E' : List Tk} {l : List Rx} {x : Rx} (h : parse n .reL 0 A = .ok (l, [])) (hp : postF (tog 5 l) E = .ok (x, E')) :
    parse (n + 2) .not d (openT :: (A ++ shutT :: E)) = .ok ([x], E') ∨ ∃ Q, parse (n + 2) .not d (openT :: (A ++ shutT :: E)) = .error (8, Q) := by
  rw [parse_not, if_neg (show ¬ sgn [33] (openT :: (A ++ shutT :: E)) = true from fun h => Bool.false_ne_true h)]
  rcases br_atom (d := d) (E := E) h with e | ⟨Q, e⟩
  · rw [e]
    simp only [show tog 4 [tog 5 l] = tog 5 l from rfl, hp]
    exact .inl trivial
  · rw [e]
    exact .inr ⟨Q, rfl⟩
theorem parse_cat (n d : Nat) (T : List Tk) : parse (n + 1) .catL d T = match parse n .not d T with
    | .error x => .error x
    | .ok (l, R) => if begB R then match parse n .catL d R with
        | .error x => .error x
        | .ok (l', R') => .ok (l ++ l', R')
      else .ok (l, R) := rfl
theorem parse_and (n d : Nat) (T : List Tk) : parse (n + 1) .andL d T = match parse n .catL d T with
    | .error x => .error x
    | .ok (l, R) => if sgn [38] R then match parse n .andL d R.tail with
        | .error x => .error x
        | .ok (l', R') => .ok (tog 4 l :: l', R')
      else .ok ([tog 4 l], R) := rfl
theorem parse_re (n d : Nat) (T : List Tk) : parse (n + 1) .reL d T = match parse n .andL d T with
    | .error x => .error x
    | .ok (l, R) => if sgn [124] R then match parse n .reL d R.tail with
        | .error x => .error x
        | .ok (l', R') => .ok (tog 6 l :: l', R')
      else .ok ([tog 6 l], R) := rfl
/-- In brackets: the atom alone, at the end or ahead of '&' or '|'. -/
theorem br_cat {n d : Nat} {A E : List Tk} {l : List Rx} (h : parse n .reL 0 A = .ok (l, [])) (hp : postF (tog 5 l) E = .ok (tog 5 l, E)) (hb : begB E = false) :
    parse (n + 3) .catL d (openT :: (A ++ shutT :: E)) = .ok ([tog 5 l], E) ∨ ∃ Q, parse (n + 3) .catL d (openT :: (A ++ shutT :: E)) = .error (8, Q) := by
  rw [parse_cat]
  rcases br_not (d := d) h hp with e | ⟨Q, e⟩
  · rw [e]
    simp only [hb]
    exact .inl rfl
  · rw [e]
    exact .inr ⟨Q, rfl⟩
theorem br_and {n d : Nat} {A E : List Tk} {l : List Rx} (h : parse n .reL 0 A = .ok (l, [])) (hp : postF (tog 5 l) E = .ok (tog 5 l, E)) (hb : begB E = false) (ha : sgn [38] E = false) :
    parse (n + 4) .andL d (openT :: (A ++ shutT :: E)) = .ok ([tog 5 l], E) ∨ ∃ Q, parse (n + 4) .andL d (openT :: (A ++ shutT :: E)) = .error (8, Q) := by
  rw [parse_and]
  rcases br_cat (d := d) h hp hb with e | ⟨Q, e⟩
  · rw [e]
    simp only [ha]
    exact .inl rfl
  · rw [e]
    exact .inr ⟨Q, rfl⟩
theorem br_re {n d : Nat} {A E : List Tk} {l : List Rx} (h : parse n .reL 0 A = .ok (l, [])) (hp : postF (tog 5 l) E = .ok (tog 5 l, E)) (hb : begB E = false) (ha : sgn [38] E = false) (ho : sgn [124] E = false) :
    parse (n + 5) .reL d (openT :: (A ++ shutT :: E)) = .ok ([tog 5 l], E) ∨ ∃ Q, parse (n + 5) .reL d (openT :: (A ++ shutT :: E)) = .error (8, Q) := by
  rw [parse_re]
  rcases br_and (d := d) h hp hb ha with e | ⟨Q, e⟩
  · rw [e]
    simp only [ho]
    exact .inl rfl
  · rw [e]
    exact .inr ⟨Q, rfl⟩
/-- A text in brackets says the same, or is too deep. -/
theorem whole_br {A : List Tk} {a : Rx} (h : wholeF A = .ok a) : wholeF (openT :: (A ++ [shutT])) = .ok a ∨ ∃ Q, wholeF (openT :: (A ++ [shutT])) = .error (8, Q) := by
  obtain ⟨l, rfl, hl⟩ := whole_ok h
  have := br_re (n := 5 * A.length + 15) (d := 0) (E := []) (hl _ (by omega)) rfl rfl rfl rfl
  exact whole_of (n := 5 * A.length + 20) (l := [tog 5 l]) (by simp; omega) this
/-- Two, behind one another. -/
theorem whole_two {A B : List Tk} {a b : Rx} (h : wholeF A = .ok a) (k : wholeF B = .ok b) :
    wholeF (openT :: (A ++ shutT :: openT :: (B ++ [shutT]))) = .ok (.mk 4 [] noSet [a, b] 0 0) ∨ ∃ Q, wholeF (openT :: (A ++ shutT :: openT :: (B ++ [shutT]))) = .error (8, Q) := by
  obtain ⟨l, rfl, hl⟩ := whole_ok h
  obtain ⟨m, rfl, hm⟩ := whole_ok k
  obtain ⟨n, hn⟩ : ∃ n, 5 * (A.length + B.length) + 25 = n := ⟨_, rfl⟩
  refine whole_of (n := n + 6) (l := [.mk 4 [] noSet [tog 5 l, tog 5 m] 0 0]) (by simp; omega) ?_
  rw [parse_re, parse_and, parse_cat]
  rcases br_not (n := n + 1) (d := 0) (A := A) (E := openT :: (B ++ [shutT])) (hl _ (by omega)) (x := tog 5 l) (E' := openT :: (B ++ [shutT])) rfl with e | ⟨Q, e⟩
  · rw [e]
    simp only [show begB (openT :: (B ++ [shutT])) = true from rfl, if_true]
    rcases br_cat (n := n) (d := 0) (A := B) (E := []) (hm _ (by omega)) rfl rfl with e2 | ⟨Q, e2⟩
    · rw [e2]
      exact .inl rfl
    · rw [e2]
      exact .inr ⟨Q, rfl⟩
  · rw [e]
    exact .inr ⟨Q, rfl⟩
/-- .. with '|' between. -/
theorem whole_alt {A B : List Tk} {a b : Rx} (h : wholeF A = .ok a) (k : wholeF B = .ok b) :
    wholeF (openT :: (A ++ shutT :: sgT [124] :: openT :: (B ++ [shutT]))) = .ok (.mk 5 [] noSet [a, b] 0 0) ∨ ∃ Q, wholeF (openT :: (A ++ shutT :: sgT [124] :: openT :: (B ++ [shutT]))) = .error (8, Q) := by
  obtain ⟨l, rfl, hl⟩ := whole_ok h
  obtain ⟨m, rfl, hm⟩ := whole_ok k
  obtain ⟨n, hn⟩ : ∃ n, 5 * (A.length + B.length) + 25 = n := ⟨_, rfl⟩
  refine whole_of (n := n + 6) (l := [tog 5 l, tog 5 m]) (by simp; omega) ?_
  rw [parse_re]
  rcases br_and (n := n + 1) (d := 0) (A := A) (E := sgT [124] :: openT :: (B ++ [shutT])) (hl _ (by omega)) rfl rfl rfl with e | ⟨Q, e⟩
  · rw [e]
    simp only [show sgn [124] (sgT [124] :: openT :: (B ++ [shutT])) = true from rfl, if_true, List.tail_cons]
    rcases br_re (n := n) (d := 0) (A := B) (E := []) (hm _ (by omega)) rfl rfl rfl rfl with e2 | ⟨Q, e2⟩
    · rw [e2]
      exact .inl rfl
    · rw [e2]
      exact .inr ⟨Q, rfl⟩
  · rw [e]
    exact .inr ⟨Q, rfl⟩
/-- .. with '&' between. -/
theorem whole_and {A B : List Tk} {a b : Rx} (h : wholeF A = .ok a) (k : wholeF B = .ok b) :
    wholeF (openT :: (A ++ shutT :: sgT [38] :: openT :: (B ++ [shutT]))) = .ok (.mk 6 [] noSet [a, b] 0 0) ∨ ∃ Q, wholeF (openT :: (A ++ shutT :: sgT [38] :: openT :: (B ++ [shutT]))) = .error (8, Q) := by
  obtain ⟨l, rfl, hl⟩ := whole_ok h
  obtain ⟨m, rfl, hm⟩ := whole_ok k
  obtain ⟨n, hn⟩ : ∃ n, 5 * (A.length + B.length) + 25 = n := ⟨_, rfl⟩
  refine whole_of (n := n + 6) (l := [.mk 6 [] noSet [tog 5 l, tog 5 m] 0 0]) (by simp; omega) ?_
  rw [parse_re, parse_and]
  rcases br_cat (n := n + 1) (d := 0) (A := A) (E := sgT [38] :: openT :: (B ++ [shutT])) (hl _ (by omega)) rfl rfl with e | ⟨Q, e⟩
  · rw [e]
    simp only [show sgn [38] (sgT [38] :: openT :: (B ++ [shutT])) = true from rfl, if_true, List.tail_cons]
    rcases br_and (n := n) (d := 0) (A := B) (E := []) (hm _ (by omega)) rfl rfl rfl with e2 | ⟨Q, e2⟩
    · rw [e2]
      exact .inl rfl
    · rw [e2]
      exact .inr ⟨Q, rfl⟩
  · rw [e]
    exact .inr ⟨Q, rfl⟩
/-- Not so, so often as you like. -/
theorem whole_not {A : List Tk} {a : Rx} (h : wholeF A = .ok a) :
    wholeF (sgT [33] :: openT :: (A ++ shutT :: [sgT [42]])) = .ok (.not (.rep 0 (-1) a)) ∨ ∃ Q, wholeF (sgT [33] :: openT :: (A ++ shutT :: [sgT [42]])) = .error (8, Q) := by
  obtain ⟨l, rfl, hl⟩ := whole_ok h
  obtain ⟨n, hn⟩ : ∃ n, 5 * A.length + 25 = n := ⟨_, rfl⟩
  refine whole_of (n := n + 6) (l := [.not (.rep 0 (-1) (tog 5 l))]) (by simp; omega) ?_
  rw [parse_re, parse_and, parse_cat, parse_not, if_pos (show sgn [33] (sgT [33] :: openT :: (A ++ shutT :: [sgT [42]])) = true from rfl), if_neg (by decide), List.tail_cons]
  rcases br_not (n := n) (d := 1) (A := A) (E := [sgT [42]]) (hl _ (by omega)) (x := .rep 0 (-1) (tog 5 l)) (E' := []) rfl with e | ⟨Q, e⟩
  · rw [e]
    exact .inl rfl
  · rw [e]
    exact .inr ⟨Q, rfl⟩
end Go.Proofs.Ytbiempopfmpohaa
namespace Go.Proofs.Ytbiempopfmpohaa

mutual
/-- How many stand one in the other. -/
def depthR : Rx → Nat
  | .mk _ _ _ ps _ _ => depthL ps + 1
def depthL : List Rx → Nat
  | [] => 0
  | x :: l => max (depthR x) (depthL l)
end
def nameB (s : List UInt8) : Bool := (s.head?.any letterB) && s.all (fun x => digitB x || letterB x) && decide (s.length ≤ 31) && !keyB s
/-- What a kind asks. -/
def goodK (k : Int) (t : List UInt8) (S : Nat → Bool) (n : Nat) (lo hi : Int) : Prop :=
  (k = 1 ∧ t.length ≤ 256 ∧ S = noSet ∧ n = 0 ∧ lo = 0 ∧ hi = 0) ∨
  (k = 2 ∧ t = [] ∧ n = 0 ∧ lo = 0 ∧ hi = 0) ∨
  (k = 3 ∧ nameB t = true ∧ S = noSet ∧ n = 0 ∧ lo = 0 ∧ hi = 0) ∨
  ((k = 4 ∨ k = 5 ∨ k = 6) ∧ t = [] ∧ S = noSet ∧ 2 ≤ n ∧ lo = 0 ∧ hi = 0) ∨
  (k = 7 ∧ t = [] ∧ S = noSet ∧ n = 1 ∧ lo = 0 ∧ hi = 0) ∨
  (k = 8 ∧ t = [] ∧ S = noSet ∧ n = 1 ∧ 0 ≤ lo ∧ lo ≤ 64 ∧ (hi = -1 ∧ lo ≤ 1 ∨ lo ≤ hi ∧ hi ≤ 64))
mutual
def goodR : Rx → Prop
  | .mk k t S ps lo hi => goodK k t S ps.length lo hi ∧ goodL ps
def goodL : List Rx → Prop
  | [] => True
  | x :: l => goodR x ∧ goodL l
end
theorem goodL_append : ∀ {l m : List Rx}, goodL l → goodL m → goodL (l ++ m)
  | [], _, _, h => h
  | _ :: _, _, h, k => ⟨h.1, goodL_append h.2 k⟩
theorem depthL_append : ∀ (l m : List Rx), depthL (l ++ m) = max (depthL l) (depthL m)
  | [], m => by simp [depthL]
  | x :: l, m => by rw [List.cons_append, depthL, depthL, depthL_append l m, Nat.max_assoc]
/-- As the lexer makes them. -/
def goodT (t : Tk) : Prop := (t.kind = 2 → t.text.length ≤ 256) ∧ (t.kind = 1 → keyB t.text = false → nameB t.text = true)
def GT (T : List Tk) : Prop := ∀ t ∈ T, goodT t
theorem GT.tail {T : List Tk} (h : GT T) : GT T.tail := fun t ht => h t (List.mem_of_mem_tail ht)
theorem atom_good {t : Tk} {a : Rx} (ht : goodT t) (h : atomT t = some a) : goodR a ∧ depthR a = 1 := by
  unfold atomT at h
  split at h
  · rename_i hc
    cases h
    exact ⟨⟨.inl ⟨rfl, ht.1 hc, rfl, rfl, rfl, rfl⟩, trivial⟩, rfl⟩
  split at h
  · cases h
    exact ⟨⟨.inr (.inl ⟨rfl, rfl, rfl, rfl, rfl⟩), trivial⟩, rfl⟩
  split at h
  · cases h
    exact ⟨⟨.inr (.inl ⟨rfl, rfl, rfl, rfl, rfl⟩), trivial⟩, rfl⟩
  split at h
  · rename_i hc
    cases h
    exact ⟨⟨.inr (.inr (.inl ⟨rfl, ht.2 hc.1 hc.2, rfl, rfl, rfl, rfl⟩)), trivial⟩, rfl⟩
  · cases h
theorem tog_good {k : Int} (hk : k = 4 ∨ k = 5 ∨ k = 6) : ∀ {l : List Rx}, goodL l → 1 ≤ l.length → goodR (tog k l) ∧ depthR (tog k l) ≤ depthL l + 1
  | [], _, h => absurd h (by simp)
  | [x], h, _ => ⟨h.1, by show depthR x ≤ max (depthR x) 0 + 1; omega⟩
  | x :: y :: l, h, _ => ⟨⟨.inr (.inr (.inr (.inl ⟨hk, rfl, rfl, by simp, rfl, rfl⟩))), h⟩, Nat.le_refl _⟩
theorem num_good {least : Nat} {R : List Tk} {x : Nat × List Tk} (hR : GT R) (h : numF least R = some x) : x.1 ≤ 64 ∧ least ≤ x.1 ∧ GT x.2 := by
  cases R with
  | nil => cases h
  | cons t R =>
    simp only [numF] at h
    split at h
    · rename_i hc
      obtain rfl := Option.some.inj h
      exact ⟨hc.2.1, hc.2.2, hR.tail⟩
    · cases h
theorem rep_good {lo hi : Int} {a : Rx} (ha : goodR a) (h0 : 0 ≤ lo) (h1 : lo ≤ 64) (h2 : hi = -1 ∧ lo ≤ 1 ∨ lo ≤ hi ∧ hi ≤ 64) : goodR (.rep lo hi a) ∧ depthR (.rep lo hi a) ≤ depthR a + 1 :=
  ⟨⟨.inr (.inr (.inr (.inr (.inr ⟨rfl, rfl, rfl, rfl, h0, h1, h2⟩)))), ha, trivial⟩, by show max (depthR a) 0 + 1 ≤ _; omega⟩
theorem post_good {a x : Rx} {R Q : List Tk} (ha : goodR a) (hR : GT R) (h : postF a R = .ok (x, Q)) : goodR x ∧ depthR x ≤ depthR a + 1 ∧ GT Q := by
  unfold postF at h
  split at h
  · cases h
    exact ⟨(rep_good ha (by omega) (by omega) (by omega)).1, (rep_good ha (by omega) (by omega) (by omega)).2, hR.tail⟩
  split at h
  · cases h
    exact ⟨(rep_good ha (by omega) (by omega) (by omega)).1, (rep_good ha (by omega) (by omega) (by omega)).2, hR.tail⟩
  split at h
  · cases h
    exact ⟨(rep_good ha (by omega) (by omega) (by omega)).1, (rep_good ha (by omega) (by omega) (by omega)).2, hR.tail⟩
  split at h
  · cases hn : numF 0 R.tail with
    | none => rw [hn] at h; cases h
    | some p =>
      obtain ⟨m, R1⟩ := p
      obtain ⟨b1, _, b2⟩ := num_good hR.tail hn
      rw [hn] at h
      simp only at h b1 b2
      split at h
      · cases hn2 : numF m R1.tail with
        | none => rw [hn2] at h; cases h
        | some p =>
          obtain ⟨k, R2⟩ := p
          obtain ⟨b3, b4, b5⟩ := num_good b2.tail hn2
          rw [hn2] at h
          simp only at h b3 b4 b5
          split at h
          · cases h
            exact ⟨(rep_good ha (by omega) (by omega) (by omega)).1, (rep_good ha (by omega) (by omega) (by omega)).2, b5.tail⟩
          · cases h
      · split at h
        · cases h
          exact ⟨(rep_good ha (by omega) (by omega) (by omega)).1, (rep_good ha (by omega) (by omega) (by omega)).2, b2.tail⟩
        · cases h
  · cases h
    exact ⟨ha, by omega, hR⟩
def highN : NT → Nat
  | .reL => 4
  | .andL => 3
  | .catL => 2
  | .not => 2
  | .atom => 1
def oneN : NT → Bool
  | .not => true
  | .atom => true
  | _ => false
theorem parse_good : ∀ (n : Nat) (nt : NT) (d : Nat) (T : List Tk) (l : List Rx) (R : List Tk), d ≤ 32 → GT T → parse n nt d T = .ok (l, R) →
    goodL l ∧ 1 ≤ l.length ∧ (oneN nt = true → l.length = 1) ∧ depthL l ≤ 4 * (32 - d) + highN nt ∧ GT R
  | 0, _, _, _, _, _, _, _, h => by cases h
  | n + 1, .reL, d, T, l, R, hd, hT, h => by
    rw [parse_re] at h
    simp only [highN]
    cases h1 : parse n .andL d T with
    | error x => rw [h1] at h; cases h
    | ok p =>
      obtain ⟨l1, R1⟩ := p
      obtain ⟨a1, a2, _, a4, a5⟩ := parse_good n _ d T l1 R1 hd hT h1
      obtain ⟨t1, t2⟩ := tog_good (k := 6) (by omega) a1 a2
      simp only [highN] at a4
      rw [h1] at h
      simp only at h
      split at h
      · cases h2 : parse n .reL d R1.tail with
        | error x => rw [h2] at h; cases h
        | ok p =>
          obtain ⟨l2, R2⟩ := p
          obtain ⟨b1, b2, _, b4, b5⟩ := parse_good n _ d _ l2 R2 hd a5.tail h2
          simp only [highN] at b4
          rw [h2] at h
          cases h
          exact ⟨⟨t1, b1⟩, by simp, nofun, by show max _ _ ≤ _; omega, b5⟩
      · cases h
        exact ⟨⟨t1, trivial⟩, by simp, nofun, by show max _ 0 ≤ _; omega, a5⟩
  | n + 1, .andL, d, T, l, R, hd, hT, h => by
    rw [parse_and] at h
    simp only [highN]
    cases h1 : parse n .catL d T with
    | error x => rw [h1] at h; cases h
    | ok p =>
      obtain ⟨l1, R1⟩ := p
      obtain ⟨a1, a2, _, a4, a5⟩ := parse_good n _ d T l1 R1 hd hT h1
      obtain ⟨t1, t2⟩ := tog_good (k := 4) (by omega) a1 a2
      simp only [highN] at a4
      rw [h1] at h
      simp only at h
      split at h
      · cases h2 : parse n .andL d R1.tail with
        | error x => rw [h2] at h; cases h
        | ok p =>
          obtain ⟨l2, R2⟩ := p
          obtain ⟨b1, b2, _, b4, b5⟩ := parse_good n _ d _ l2 R2 hd a5.tail h2
          simp only [highN] at b4
          rw [h2] at h
          cases h
          exact ⟨⟨t1, b1⟩, by simp, nofun, by show max _ _ ≤ _; omega, b5⟩
      · cases h
        exact ⟨⟨t1, trivial⟩, by simp, nofun, by show max _ 0 ≤ _; omega, a5⟩
  | n + 1, .catL, d, T, l, R, hd, hT, h => by
    rw [parse_cat] at h
    simp only [highN]
    cases h1 : parse n .not d T with
    | error x => rw [h1] at h; cases h
    | ok p =>
      obtain ⟨l1, R1⟩ := p
      obtain ⟨a1, a2, _, a4, a5⟩ := parse_good n _ d T l1 R1 hd hT h1
      simp only [highN] at a4
      rw [h1] at h
      simp only at h
      split at h
      · cases h2 : parse n .catL d R1 with
        | error x => rw [h2] at h; cases h
        | ok p =>
          obtain ⟨l2, R2⟩ := p
          obtain ⟨b1, b2, _, b4, b5⟩ := parse_good n _ d _ l2 R2 hd a5 h2
          simp only [highN] at b4
          rw [h2] at h
          cases h
          exact ⟨goodL_append a1 b1, by simp; omega, nofun, by rw [depthL_append]; omega, b5⟩
      · cases h
        exact ⟨a1, a2, nofun, a4, a5⟩
  | n + 1, .not, d, T, l, R, hd, hT, h => by
    rw [parse_not] at h
    simp only [highN]
    split at h
    · split at h
      · cases h
      · rename_i hd32
        cases h2 : parse n .not (d + 1) T.tail with
        | error x => rw [h2] at h; cases h
        | ok p =>
          obtain ⟨l2, R2⟩ := p
          obtain ⟨b1, b2, b3, b4, b5⟩ := parse_good n _ (d + 1) _ l2 R2 (by omega) hT.tail h2
          simp only [highN] at b4
          rw [h2] at h
          cases h
          match l2, b3 rfl with
          | [x], _ =>
            have b4' : max (depthR x) 0 ≤ 4 * (32 - (d + 1)) + 2 := b4
            exact ⟨⟨⟨.inr (.inr (.inr (.inr (.inl ⟨rfl, rfl, rfl, rfl, rfl, rfl⟩)))), b1⟩, trivial⟩, by simp, fun _ => rfl, by show max (max (depthR x) 0 + 1) 0 ≤ _; omega, b5⟩
    · cases h2 : parse n .atom d T with
      | error x => rw [h2] at h; cases h
      | ok p =>
        obtain ⟨l2, R2⟩ := p
        obtain ⟨b1, b2, b3, b4, b5⟩ := parse_good n _ d _ l2 R2 hd hT h2
        simp only [highN] at b4
        rw [h2] at h
        simp only at h
        cases h3 : postF (tog 4 l2) R2 with
        | error x => rw [h3] at h; cases h
        | ok p =>
          obtain ⟨a, R3⟩ := p
          rw [h3] at h
          cases h
          match l2, b3 rfl with
          | [x], _ =>
            have b4' : max (depthR x) 0 ≤ 4 * (32 - d) + 1 := b4
            obtain ⟨c1, c2, c3⟩ := post_good (a := x) b1.1 b5 h3
            exact ⟨⟨c1, trivial⟩, by simp, fun _ => rfl, by show max (depthR a) 0 ≤ _; omega, c3⟩
  | n + 1, .atom, d, T, l, R, hd, hT, h => by
    rw [parse_atom] at h
    simp only [highN]
    split at h
    · split at h
      · cases h
      · cases h2 : parse n .reL (d + 1) T.tail with
        | error x => rw [h2] at h; cases h
        | ok p =>
          obtain ⟨l2, R2⟩ := p
          obtain ⟨b1, b2, b3, b4, b5⟩ := parse_good n _ (d + 1) _ l2 R2 (by omega) hT.tail h2
          obtain ⟨t1, t2⟩ := tog_good (k := 5) (by omega) b1 b2
          simp only [highN] at b4
          rw [h2] at h
          simp only at h
          split at h
          · cases h
            exact ⟨⟨t1, trivial⟩, by simp, fun _ => rfl, by show max _ 0 ≤ _; omega, b5.tail⟩
          · cases h
    · cases T with
      | nil => cases h
      | cons t T =>
        simp only at h
        cases ha : atomT t with
        | none => rw [ha] at h; cases h
        | some a =>
          obtain ⟨c1, c2⟩ := atom_good (hT t (List.mem_cons_self ..)) ha
          rw [ha] at h
          cases h
          exact ⟨⟨c1, trivial⟩, by simp, fun _ => rfl, by show max (depthR a) 0 ≤ _; omega, hT.tail⟩
/-- What a whole row of tokens says is right. -/
theorem whole_good {T : List Tk} {a : Rx} (hT : GT T) (h : wholeF T = .ok a) : goodR a ∧ depthR a ≤ 133 := by
  obtain ⟨l, rfl, hl⟩ := whole_ok h
  obtain ⟨a1, a2, _, a4, _⟩ := parse_good _ _ 0 T l [] (by omega) hT (hl _ (Nat.le_refl _))
  obtain ⟨t1, t2⟩ := tog_good (k := 5) (by omega) a1 a2
  simp only [highN] at a4
  exact ⟨t1, by omega⟩
end Go.Proofs.Ytbiempopfmpohaa
