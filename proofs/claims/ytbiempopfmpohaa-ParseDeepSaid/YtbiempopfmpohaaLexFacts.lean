/-
  Tokens of texts put together: more behind a token turns nothing; two texts with a line's end between; white ahead. Conditions: none but those that each names.
-/
import Derived.Test.YtbiempopfmpohaaLexPlain
namespace Go.Proofs.Ytbiempopfmpohaa

/-- A byte that is read is read whatever stands behind. -/
theorem oneL_append {l : List UInt8} {x : UInt8 × Nat} (r : List UInt8) (h : oneL l = .ok x) : oneL (l ++ r) = .ok x := by
  match l, h with
  | [], h => cases h
  | [c], h =>
    simp only [oneL, List.cons_append, List.nil_append] at h ⊢
    split at h
    · rename_i hp
      rw [if_pos hp]; exact h
    · split at h <;> cases h
  | [c, d], h =>
    simp only [oneL, List.cons_append, List.nil_append] at h ⊢
    repeat' split at h
    all_goals first
      | (cases h; done)
      | (simp only [*, if_true, if_false]; done)
      | (simp_all; done)
  | [c, d, e], h =>
    simp only [oneL, List.cons_append, List.nil_append] at h ⊢
    repeat' split at h
    all_goals first
      | (cases h; done)
      | (simp only [*, if_true, if_false]; done)
      | (simp_all; done)
  | c :: d :: e :: g :: q, h => exact h
theorem lineN_append (r : List UInt8) : ∀ a, lineN (a ++ 10 :: r) = lineN a
  | [] => rfl
  | c :: a => by
    rw [List.cons_append, lineN, lineN, lineN_append r a]
theorem drop_append_le {α : Type} {a b : List α} {n : Nat} (h : n ≤ a.length) : (a ++ b).drop n = a.drop n ++ b := List.drop_append_of_le_length h
/-- White of two texts with a line's end between. -/
theorem skipN_append (r : List UInt8) : ∀ n (a : List UInt8), a.length ≤ n → skipN (a ++ 10 :: r) = if skipN a < a.length then skipN a else a.length + 1 + skipN r
  | n, [], _ => by
    rw [List.nil_append, skipN_cons, if_neg (by decide), if_pos (by decide), skipN_nil, if_neg (by simp)]
    simp
  | 0, c :: a, h => by simp at h
  | n + 1, c :: a, h => by
    simp only [List.length_cons] at h
    have hl := lineN_le a
    rw [List.cons_append, skipN_cons, skipN_cons]
    by_cases h1 : c = 35
    · rw [if_pos h1, if_pos h1, lineN_append, drop_append_le hl, skipN_append r n (a.drop (lineN a)) (by rw [List.length_drop]; omega)]
      have h2 := skipN_le (a.drop (lineN a))
      rw [List.length_drop] at h2 ⊢
      rw [List.length_cons]
      split
      · rw [if_pos (by omega)]
      · rw [if_neg (by omega)]; omega
    · rw [if_neg h1, if_neg h1]
      by_cases h2 : whiteB c = true
      · rw [if_pos h2, if_pos h2, skipN_append r n a (by omega)]
        have h3 := skipN_le a
        rw [List.length_cons]
        split
        · rw [if_pos (by omega)]
        · rw [if_neg (by omega)]; omega
      · rw [if_neg h2, if_neg h2, if_pos (by simp)]
theorem textF_cons (f : Nat) (c : UInt8) (r : List UInt8) : textF (f + 1) (c :: r) = if c = 34 then .ok ([], 1) else match oneL (c :: r) with
    | .error e => .error e
    | .ok (b, n) => match textF f ((c :: r).drop n) with
      | .error e => .error e
      | .ok (t, k) => .ok (b :: t, n + k) := rfl
theorem textF_append {r : List UInt8} : ∀ f g l {x : List UInt8 × Nat}, textF f l = .ok x → (l ++ r).length < g → textF g (l ++ r) = .ok x
  | 0, g, l, x, h, _ => by cases h
  | f + 1, 0, l, x, _, h => by omega
  | f + 1, g + 1, [], x, h, _ => by cases h
  | f + 1, g + 1, c :: l, x, h, hg => by
    rw [List.cons_append] at hg ⊢
    rw [textF_cons] at h ⊢
    by_cases hc : c = 34
    · rw [if_pos hc] at h ⊢; exact h
    · rw [if_neg hc] at h ⊢
      cases ho : oneL (c :: l) with
      | error e => rw [ho] at h; cases h
      | ok y =>
        obtain ⟨b, n⟩ := y
        have hp := oneL_pos ho
        have ho2 : oneL (c :: (l ++ r)) = .ok (b, n) := oneL_append r ho
        rw [ho] at h
        rw [ho2]
        simp only at h ⊢
        cases ht : textF f ((c :: l).drop n) with
        | error e => rw [ht] at h; cases h
        | ok z =>
          rw [ht] at h
          have := textF_append (r := r) f g ((c :: l).drop n) ht (by
            rw [List.length_append, List.length_drop]
            rw [List.length_cons, List.length_append] at hg
            rw [List.length_cons] at hp ⊢
            omega)
          rw [show (c :: (l ++ r)).drop n = (c :: l).drop n ++ r from drop_append_le (a := c :: l) hp.2, this]
          exact h
theorem setF_cons (f : Nat) (c : UInt8) (r : List UInt8) : setF (f + 1) (c :: r) = if c = 93 then .ok ([], 1) else match oneL (c :: r) with
    | .error e => .error e
    | .ok (a, n) =>
      if ((c :: r).drop n).head? = some 45 then
        match oneL ((c :: r).drop (n + 1)) with
        | .error e => .error e
        | .ok (b, m) =>
          if b < a then .error 4
          else match setF f ((c :: r).drop (n + 1 + m)) with
            | .error e => .error e
            | .ok (t, k) => .ok ((a, b) :: t, n + 1 + m + k)
      else match setF f ((c :: r).drop n) with
        | .error e => .error e
        | .ok (t, k) => .ok ((a, a) :: t, n + k) := rfl
theorem setF_ne {f : Nat} {l : List UInt8} {x : List (UInt8 × UInt8) × Nat} (h : setF f l = .ok x) : l ≠ [] := by
  rintro rfl
  cases f <;> cases h
theorem head_append {l r : List UInt8} (h : l ≠ []) : (l ++ r).head? = l.head? := by
  cases l with
  | nil => exact absurd rfl h
  | cons a l => rfl
theorem setF_append {r : List UInt8} : ∀ f g l {x : List (UInt8 × UInt8) × Nat}, setF f l = .ok x → (l ++ r).length < g → setF g (l ++ r) = .ok x
  | 0, g, l, x, h, _ => by cases h
  | f + 1, 0, l, x, _, h => by omega
  | f + 1, g + 1, [], x, h, _ => by cases h
  | f + 1, g + 1, c :: l, x, h, hg => by
    rw [List.cons_append] at hg ⊢
    rw [setF_cons] at h ⊢
    rw [List.length_cons, List.length_append] at hg
    by_cases hc : c = 93
    · rw [if_pos hc] at h ⊢; exact h
    · rw [if_neg hc] at h ⊢
      cases ho : oneL (c :: l) with
      | error e => rw [ho] at h; cases h
      | ok y =>
        obtain ⟨a, n⟩ := y
        have hp := oneL_pos ho
        have ho2 : oneL (c :: (l ++ r)) = .ok (a, n) := oneL_append r ho
        have hd : (c :: (l ++ r)).drop n = (c :: l).drop n ++ r := drop_append_le (a := c :: l) hp.2
        rw [ho] at h
        rw [ho2]
        simp only at h ⊢
        rw [hd]
        rw [List.length_cons] at hp
        by_cases hne : (c :: l).drop n = []
        · rw [hne] at h
          rw [if_neg (by simp)] at h
          cases f <;> cases h
        · rw [head_append hne]
          by_cases h45 : ((c :: l).drop n).head? = some 45
          · rw [if_pos h45] at h ⊢
            have hlen : n < (c :: l).length := by
              rcases Nat.lt_or_ge n (c :: l).length with h1 | h1
              · exact h1
              · exact absurd (List.drop_of_length_le h1) hne
            rw [List.length_cons] at hlen
            have hd1 : (c :: (l ++ r)).drop (n + 1) = (c :: l).drop (n + 1) ++ r := drop_append_le (a := c :: l) (by rw [List.length_cons]; omega)
            rw [hd1]
            cases ho3 : oneL ((c :: l).drop (n + 1)) with
            | error e => rw [ho3] at h; cases h
            | ok z =>
              obtain ⟨b, m⟩ := z
              have hp3 := oneL_pos ho3
              rw [List.length_drop, List.length_cons] at hp3
              rw [ho3] at h
              rw [oneL_append r ho3]
              simp only at h ⊢
              by_cases hba : b < a
              · rw [if_pos hba] at h; cases h
              · rw [if_neg hba] at h ⊢
                rw [show (c :: (l ++ r)).drop (n + 1 + m) = (c :: l).drop (n + 1 + m) ++ r from drop_append_le (a := c :: l) (by rw [List.length_cons]; omega)]
                cases ht : setF f ((c :: l).drop (n + 1 + m)) with
                | error e => rw [ht] at h; cases h
                | ok q =>
                  rw [ht] at h
                  rw [setF_append (r := r) f g _ ht (by rw [List.length_append, List.length_drop, List.length_cons]; omega)]
                  exact h
          · rw [if_neg h45] at h ⊢
            cases ht : setF f ((c :: l).drop n) with
            | error e => rw [ht] at h; cases h
            | ok q =>
              rw [ht] at h
              rw [setF_append (r := r) f g _ ht (by rw [List.length_append, List.length_drop, List.length_cons]; omega)]
              exact h
theorem takeWhile_append {p : UInt8 → Bool} {c : UInt8} (hc : p c = false) (r : List UInt8) : ∀ l : List UInt8, (l ++ c :: r).takeWhile p = l.takeWhile p
  | [] => by simp [hc]
  | a :: l => by
    rw [List.cons_append, List.takeWhile_cons, List.takeWhile_cons, takeWhile_append hc r l]
/-- A token that is read is read, if a line's end stands behind. -/
theorem tokL_append {l : List UInt8} {x : Tk × Nat} (r : List UInt8) (hl : l ≠ []) (h : tokL l = .ok x) : tokL (l ++ 10 :: r) = .ok x := by
  cases l with
  | nil => exact absurd rfl hl
  | cons c q =>
    rw [List.cons_append]
    unfold tokL at h ⊢
    simp only at h ⊢
    by_cases h1 : c = 34
    · rw [if_pos h1] at h ⊢
      cases ht : textF (q.length + 1) q with
      | error e => rw [ht] at h; cases h
      | ok y =>
        rw [ht] at h
        rw [textF_append (q.length + 1) ((q ++ 10 :: r).length + 1) q ht (by omega)]
        exact h
    · rw [if_neg h1] at h ⊢
      by_cases h2 : c = 91
      · rw [if_pos h2] at h ⊢
        cases q with
        | nil =>
          exfalso
          rw [if_neg (by simp)] at h
          cases h
        | cons d q =>
          rw [List.cons_append, List.head?_cons, List.drop_succ_cons, List.drop_zero]
          rw [List.head?_cons, List.drop_succ_cons, List.drop_zero] at h
          by_cases h3 : (some d : Option UInt8) = some 94
          · rw [if_pos h3] at h ⊢
            cases ht : setF ((d :: q).length + 1) q with
            | error e => rw [ht] at h; cases h
            | ok y =>
              rw [ht] at h
              rw [setF_append _ ((d :: (q ++ 10 :: r)).length + 1) q ht (by rw [List.length_cons]; omega)]
              exact h
          · rw [if_neg h3] at h ⊢
            cases ht : setF ((d :: q).length + 1) (d :: q) with
            | error e => rw [ht] at h; cases h
            | ok y =>
              rw [ht] at h
              have := setF_append (r := 10 :: r) _ ((d :: (q ++ 10 :: r)).length + 1) (d :: q) ht (by rw [List.cons_append]; omega)
              rw [List.cons_append] at this
              rw [this]
              exact h
      · rw [if_neg h2] at h ⊢
        rw [show (c :: (q ++ 10 :: r)).takeWhile (fun x => digitB x || letterB x) = (c :: q).takeWhile (fun x => digitB x || letterB x) from takeWhile_append (by decide) r (c :: q), show (c :: (q ++ 10 :: r)).takeWhile digitB = (c :: q).takeWhile digitB from takeWhile_append (by decide) r (c :: q)]
        cases q with
        | nil =>
          rw [List.nil_append, List.head?_cons]
          rw [List.head?_nil] at h
          by_cases h4 : letterB c = true
          · rw [if_pos h4] at h ⊢; exact h
          · rw [if_neg h4] at h ⊢
            by_cases h5 : digitB c = true
            · rw [if_pos h5] at h ⊢; exact h
            · rw [if_neg h5] at h ⊢
              simp only [reduceCtorEq, decide_false, Bool.and_false, Bool.false_eq_true, if_false] at h
              rw [if_neg (by simp)]
              exact h
        | cons d q => exact h
end Go.Proofs.Ytbiempopfmpohaa
