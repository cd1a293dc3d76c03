/-
So many brackets and signs that say not around a set: what they say, or that they are too deep, and where. Conditions: those that each names.
The tokens of a text without their places: behind one another, in brackets, with white around; each as a parser asks it. Conditions: those that each names.
-/
import Derived.Test.YtbiempopfmpohaaParseEF
import Derived.Test.YtbiempopfmpohaaLexFacts2
namespace Go.Proofs.Ytbiempopfmpohaa

def notT : Tk := sgT [33]
/-- What stands behind an atom here. -/
def quietE (E : List Tk) : Prop := E = [] ∨ ∃ E', E = shutT :: E'
theorem quiet_post {E : List Tk} (h : quietE E) (a : Rx) : postF a E = .ok (a, E) := by
  rcases h with rfl | ⟨E', rfl⟩ <;> rfl
theorem quiet_beg {E : List Tk} (h : quietE E) : begB E = false := by
  rcases h with rfl | ⟨E', rfl⟩ <;> rfl
theorem quiet_and {E : List Tk} (h : quietE E) : sgn [38] E = false := by
  rcases h with rfl | ⟨E', rfl⟩ <;> rfl
theorem quiet_or {E : List Tk} (h : quietE E) : sgn [124] E = false := by
  rcases h with rfl | ⟨E', rfl⟩ <;> rfl
/-- From a part to the whole, where nothing more stands behind. -/
theorem up_ok {m d : Nat} {T E : List Tk} {x : Rx} (hE : quietE E) (h : parse m .not d T = .ok ([x], E)) : parse (m + 3) .reL d T = .ok ([x], E) := by
  have c1 : parse (m + 1) .catL d T = .ok ([x], E) := by
    rw [parse_cat, h]
    simp only [quiet_beg hE]
    rfl
  have c2 : parse (m + 2) .andL d T = .ok ([x], E) := by
    rw [parse_and, c1]
    simp only [quiet_and hE]
    rfl
  rw [parse_re, c2]
  simp only [quiet_or hE]
  rfl
theorem up_err {m d : Nat} {T : List Tk} {y : Nat × List Tk} (h : parse m .not d T = .error y) : parse (m + 3) .reL d T = .error y := by
  rw [parse_re, parse_and, parse_cat, h]
/-- Signs that say not. -/
theorem nots_parse {st : Tk} {a : Rx} (h1 : sgn [33] [st] = false) (h2 : sgn [40] [st] = false) (h3 : atomT st = some a) {E : List Tk} (hE : quietE E) : ∀ (k d m : Nat), d ≤ 32 →
    if d + k ≤ 32 then ∃ x, parse (m + k + 2) .not d (List.replicate k notT ++ st :: E) = .ok ([x], E) else parse (m + k + 2) .not d (List.replicate k notT ++ st :: E) = .error (8, (List.replicate k notT ++ st :: E).drop (32 - d))
  | 0, d, m, hd => by
    rw [if_pos (by omega)]
    have e : parse (m + 1) .atom d (st :: E) = .ok ([a], E) := by
      rw [parse_atom, if_neg (by rw [show sgn [40] (st :: E) = false from h2]; decide)]
      simp only [h3]
    refine ⟨a, ?_⟩
    show parse (m + 1 + 1) .not d (st :: E) = _
    rw [parse_not, if_neg (by rw [show sgn [33] (st :: E) = false from h1]; decide), e]
    simp only [show tog 4 [a] = a from rfl, quiet_post hE]
  | k + 1, d, m, hd => by
    have ht : List.replicate (k + 1) notT ++ st :: E = notT :: (List.replicate k notT ++ st :: E) := rfl
    have hp := parse_not (m + k + 2) d (notT :: (List.replicate k notT ++ st :: E))
    rw [if_pos (show sgn [33] (notT :: (List.replicate k notT ++ st :: E)) = true from rfl), List.tail_cons] at hp
    rw [ht, show m + (k + 1) + 2 = m + k + 2 + 1 by omega]
    by_cases h32 : 32 ≤ d
    · rw [if_pos h32] at hp
      rw [if_neg (by omega), hp, show 32 - d = 0 by omega]
      rfl
    · rw [if_neg h32] at hp
      have ih := nots_parse h1 h2 h3 hE k (d + 1) m (by omega)
      by_cases hk : d + 1 + k ≤ 32
      · rw [if_pos hk] at ih
        obtain ⟨x, e⟩ := ih
        rw [if_pos (by omega)]
        rw [e] at hp
        exact ⟨_, hp⟩
      · rw [if_neg hk] at ih
        rw [if_neg (by omega)]
        rw [ih] at hp
        rw [hp, show 32 - d = 32 - (d + 1) + 1 by omega, List.drop_succ_cons]
/-- Brackets around them. -/
theorem deep_parse {st : Tk} {a : Rx} (h1 : sgn [33] [st] = false) (h2 : sgn [40] [st] = false) (h3 : atomT st = some a) (k : Nat) : ∀ (b d m : Nat) (E : List Tk), quietE E → d ≤ 32 →
    if d + b + k ≤ 32 then ∃ x, parse (m + 5 * b + k + 5) .reL d (List.replicate b openT ++ (List.replicate k notT ++ st :: (List.replicate b shutT ++ E))) = .ok ([x], E)
    else parse (m + 5 * b + k + 5) .reL d (List.replicate b openT ++ (List.replicate k notT ++ st :: (List.replicate b shutT ++ E))) = .error (8, (List.replicate b openT ++ (List.replicate k notT ++ st :: (List.replicate b shutT ++ E))).drop (32 - d))
  | 0, d, m, E, hE, hd => by
    have ih := nots_parse h1 h2 h3 hE k d m hd
    show if d + 0 + k ≤ 32 then ∃ x, parse (m + k + 2 + 3) .reL d (List.replicate k notT ++ st :: E) = .ok ([x], E) else parse (m + k + 2 + 3) .reL d (List.replicate k notT ++ st :: E) = .error (8, (List.replicate k notT ++ st :: E).drop (32 - d))
    by_cases hk : d + k ≤ 32
    · rw [if_pos hk] at ih
      obtain ⟨x, e⟩ := ih
      rw [if_pos (by omega)]
      exact ⟨x, up_ok hE e⟩
    · rw [if_neg hk] at ih
      rw [if_neg (by omega)]
      exact up_err ih
  | b + 1, d, m, E, hE, hd => by
    have hr : List.replicate (b + 1) shutT ++ E = List.replicate b shutT ++ shutT :: E := by rw [List.replicate_succ', List.append_assoc]; rfl
    rw [hr]
    obtain ⟨Y, hY⟩ : ∃ Y, List.replicate b openT ++ (List.replicate k notT ++ st :: (List.replicate b shutT ++ shutT :: E)) = Y := ⟨_, rfl⟩
    have ht : List.replicate (b + 1) openT ++ (List.replicate k notT ++ st :: (List.replicate b shutT ++ shutT :: E)) = openT :: Y := by rw [← hY]; rfl
    have ih := deep_parse h1 h2 h3 k b (d + 1) m (shutT :: E) (.inr ⟨E, rfl⟩)
    rw [hY] at ih
    rw [ht, show m + 5 * (b + 1) + k + 5 = m + 5 * b + k + 5 + 1 + 1 + 3 by omega]
    have hp := parse_atom (m + 5 * b + k + 5) d (openT :: Y)
    rw [if_pos (show sgn [40] (openT :: Y) = true from rfl), List.tail_cons] at hp
    have hn := parse_not (m + 5 * b + k + 5 + 1) d (openT :: Y)
    rw [if_neg (show ¬ sgn [33] (openT :: Y) = true from fun h => Bool.false_ne_true h)] at hn
    by_cases h32 : 32 ≤ d
    · rw [if_pos h32] at hp
      rw [hp] at hn
      rw [if_neg (by omega), up_err hn, show 32 - d = 0 by omega]
      rfl
    · rw [if_neg h32] at hp
      have ih := ih (by omega)
      by_cases hk : d + 1 + b + k ≤ 32
      · rw [if_pos hk] at ih
        obtain ⟨x, e⟩ := ih
        rw [if_pos (by omega)]
        rw [e] at hp
        simp only [show sgn [41] (shutT :: E) = true from rfl, if_true, List.tail_cons, show tog 5 [x] = x from rfl] at hp
        rw [hp] at hn
        simp only [show tog 4 [x] = x from rfl, quiet_post hE] at hn
        exact ⟨x, up_ok hE hn⟩
      · rw [if_neg hk] at ih
        rw [if_neg (by omega)]
        rw [ih] at hp
        rw [hp] at hn
        rw [up_err hn, show 32 - d = 32 - (d + 1) + 1 by omega, List.drop_succ_cons]
end Go.Proofs.Ytbiempopfmpohaa
namespace Go.Proofs.Ytbiempopfmpohaa

/-- The tokens, without their places. -/
def toksL (l : List UInt8) : Except Nat (List Tk) := match allL l 0 with
  | .error x => .error x.1
  | .ok A => .ok (A.map (·.1))
theorem toks_at (l : List UInt8) (p : Nat) : (match allL l p with | .error x => .error x.1 | .ok A => .ok (A.map (·.1))) = toksL l := by
  have := allL_shift p l.length l 0 (Nat.le_refl _)
  rw [Nat.zero_add] at this
  rw [this]
  unfold toksL
  cases allL l 0 with
  | error x => rfl
  | ok A => simp
theorem toks_join {s : List UInt8} (t : List UInt8) {A : List Tk} (h : toksL s = .ok A) : toksL (s ++ 10 :: t) = match toksL t with
    | .error e => .error e
    | .ok B => .ok (A ++ B) := by
  unfold toksL at h
  cases h1 : allL s 0 with
  | error x => rw [h1] at h; cases h
  | ok A' =>
    rw [h1] at h
    cases h
    rw [← toks_at t (0 + s.length + 1)]
    unfold toksL
    rw [allL_join t s.length s 0 (Nat.le_refl _) h1]
    cases allL t (0 + s.length + 1) with
    | error x => rfl
    | ok B => simp
theorem toks_white {front : List UInt8} (s : List UInt8) (h : skipN (front ++ s) = front.length + skipN s) : toksL (front ++ s) = toksL s := by
  rw [← toks_at (front ++ s) 0, allL_white front s 0 h, toks_at]
/-- A sign at the front. -/
theorem toks_sign {c : UInt8} {l : List UInt8} (h1 : skipN (c :: l) = 0) (h2 : tokL (c :: l) = .ok (sgT [c], 1)) : toksL (c :: l) = match toksL l with
    | .error e => .error e
    | .ok B => .ok (sgT [c] :: B) := by
  rw [← toks_at l (0 + 0 + 1)]
  unfold toksL
  rw [allL_eq, h1, List.drop_zero, h2]
  simp only [show (sgT [c]).kind ≠ 0 from by show (4 : Nat) ≠ 0; decide, if_false]
  rw [show List.drop (0 + 1) (c :: l) = l from rfl]
  cases allL l (0 + 0 + 1) with
  | error x => rfl
  | ok B => simp
theorem toks_open (l : List UInt8) : toksL (40 :: l) = match toksL l with
    | .error e => .error e
    | .ok B => .ok (openT :: B) := toks_sign (by rw [skipN_cons]; rfl) rfl
theorem toks_shut (l : List UInt8) : toksL (41 :: l) = match toksL l with
    | .error e => .error e
    | .ok B => .ok (shutT :: B) := toks_sign (by rw [skipN_cons]; rfl) rfl
theorem toks_or (l : List UInt8) : toksL (124 :: l) = match toksL l with
    | .error e => .error e
    | .ok B => .ok (sgT [124] :: B) := toks_sign (by rw [skipN_cons]; rfl) rfl
theorem toks_and (l : List UInt8) : toksL (38 :: l) = match toksL l with
    | .error e => .error e
    | .ok B => .ok (sgT [38] :: B) := toks_sign (by rw [skipN_cons]; rfl) rfl
theorem toks_not (l : List UInt8) : toksL (33 :: l) = match toksL l with
    | .error e => .error e
    | .ok B => .ok (sgT [33] :: B) := toks_sign (by rw [skipN_cons]; rfl) rfl
theorem toks_star (l : List UInt8) : toksL (42 :: l) = match toksL l with
    | .error e => .error e
    | .ok B => .ok (sgT [42] :: B) := toks_sign (by rw [skipN_cons]; rfl) rfl
theorem toks_nil : toksL [] = .ok [] := rfl
/-- In brackets, with a line's end ahead of the second. -/
theorem toks_br {s : List UInt8} {A : List Tk} (h : toksL s = .ok A) (t : List UInt8) : toksL (40 :: (s ++ 10 :: 41 :: t)) = match toksL t with
    | .error e => .error e
    | .ok B => .ok (openT :: (A ++ shutT :: B)) := by
  rw [toks_open, toks_join _ h, toks_shut]
  cases toksL t <;> rfl
theorem takeWhile_all {p : UInt8 → Bool} : ∀ l : List UInt8, (l.takeWhile p).all p = true
  | [] => rfl
  | c :: l => by
    rw [List.takeWhile_cons]
    split
    · rename_i hc
      rw [List.all_cons, hc, takeWhile_all l]
      rfl
    · rfl
/-- Each token is as a parser asks it. -/
theorem tokL_good {l : List UInt8} {t : Tk} {n : Nat} (h : tokL l = .ok (t, n)) : goodT t := by
  unfold tokL at h
  repeat' split at h
  all_goals first
    | (cases h; done)
    | (cases h; rename_i hc; exact ⟨fun _ => Nat.le_of_not_lt hc, nofun⟩)
    | (cases h; exact ⟨nofun, nofun⟩)
    | skip
  · rename_i c r _ _ hl
    dsimp only at h
    split at h
    · cases h
    · rename_i hc
      cases h
      refine ⟨nofun, fun _ hk => ?_⟩
      show (_ && _ && _ && _) = true
      have h0 : (digitB c || letterB c) = true := by rw [hl]; simp
      have h1 : ((c :: r).takeWhile fun x => digitB x || letterB x).head?.any letterB = true := by
        rw [List.takeWhile_cons, if_pos h0]
        simpa using hl
      rw [h1, takeWhile_all, decide_eq_true (Nat.le_of_not_lt hc)]
      simpa using hk
  · dsimp only at h
    split at h
    · cases h
    · cases h
      exact ⟨nofun, nofun⟩
theorem allL_good : ∀ n (l : List UInt8) (p : Nat) {A : List (Tk × Nat)}, l.length ≤ n → allL l p = .ok A → GT (A.map (·.1))
  | n, l, p, A, hn, h => by
    rw [allL_eq] at h
    have hs := skipN_le l
    cases ht : tokL (l.drop (skipN l)) with
    | error e => rw [ht] at h; cases h
    | ok y =>
      obtain ⟨t, m⟩ := y
      rw [ht] at h
      simp only at h
      split at h
      · cases h
        intro t ht
        cases ht
      · rename_i hk
        have hne : l.drop (skipN l) ≠ [] := by
          intro e
          rw [e, tokL_end] at ht
          cases ht
          exact hk rfl
        have hp := tokL_pos hne ht
        rw [List.length_drop] at hp
        cases h2 : allL (l.drop (skipN l + m)) (p + skipN l + m) with
        | error x => rw [h2] at h; cases h
        | ok r =>
          rw [h2] at h
          cases h
          match n, hn with
          | 0, hn => omega
          | n + 1, hn =>
            have ih := allL_good n (l.drop (skipN l + m)) _ (by rw [List.length_drop]; omega) h2
            intro u hu
            rw [List.map_cons] at hu
            rcases List.mem_cons.1 hu with rfl | hu
            · exact tokL_good ht
            · exact ih u hu
theorem toks_good {l : List UInt8} {A : List Tk} (h : toksL l = .ok A) : GT A := by
  unfold toksL at h
  cases h1 : allL l 0 with
  | error x => rw [h1] at h; cases h
  | ok B =>
    rw [h1] at h
    cases h
    exact allL_good l.length l 0 (Nat.le_refl _) h1
end Go.Proofs.Ytbiempopfmpohaa
