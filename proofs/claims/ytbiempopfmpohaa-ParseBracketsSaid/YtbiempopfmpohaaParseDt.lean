/-
What a text says: in brackets the same, with white around, too; behind one another, with '|', with '&' both; not so and so often. Conditions: those that each names.
What a text says, with the place of what is wrong; so many brackets and signs that say not: just above 32 they are too deep, at place 32. Conditions: those that each names.
What is wrong in a text is told by a number that is not 0. Conditions: none but those that each names.
All that a text says: what whole shares for expressions and files. Conditions: none but those that each names.
-/
import Derived.Test.YtbiempopfmpohaaParseDs
import Derived.Test.YtbiempopfmpohaaLexRs
import Derived.Test.YtbiempopfmpohaaPwCatch
import Derived.Test.YtbiempopfmpohaaPwPL
import Derived.Test.YtbiempopfmpohaaPwParts
namespace Go.Proofs.Ytbiempopfmpohaa

/-- What a text says, or what is wrong. -/
def reS (s : List UInt8) : Except Nat Rx := match toksL s with
  | .error e => .error e
  | .ok T => match wholeF T with
    | .error x => .error x.1
    | .ok a => .ok a
theorem reS_ok {s : List UInt8} {a : Rx} (h : reS s = .ok a) : ∃ T, toksL s = .ok T ∧ wholeF T = .ok a := by
  unfold reS at h
  cases h1 : toksL s with
  | error e => rw [h1] at h; cases h
  | ok T =>
    rw [h1] at h
    simp only at h
    cases h2 : wholeF T with
    | error x => rw [h2] at h; cases h
    | ok b =>
      rw [h2] at h
      cases h
      exact ⟨T, rfl, h2⟩
theorem reS_of {s : List UInt8} {T : List Tk} {a : Rx} (h : toksL s = .ok T) (k : wholeF T = .ok a ∨ ∃ Q, wholeF T = .error (8, Q)) : reS s = .ok a ∨ reS s = .error 8 := by
  unfold reS
  rw [h]
  rcases k with k | ⟨Q, k⟩
  · simp only [k]; exact .inl trivial
  · simp only [k]; exact .inr trivial
theorem reS_good {s : List UInt8} {a : Rx} (h : reS s = .ok a) : goodR a ∧ depthR a ≤ 133 := by
  obtain ⟨T, h1, h2⟩ := reS_ok h
  exact whole_good (toks_good h1) h2
/-- A text in brackets, as the statements write it. -/
def brS (s : List UInt8) : List UInt8 := 40 :: (s ++ [10, 41])
theorem brS_toks {s : List UInt8} {A : List Tk} (h : toksL s = .ok A) (t : List UInt8) : toksL (brS s ++ t) = match toksL t with
    | .error e => .error e
    | .ok B => .ok (openT :: (A ++ shutT :: B)) := by
  have e : brS s ++ t = 40 :: (s ++ 10 :: 41 :: t) := by simp [brS]
  rw [e, toks_br h]
  cases toksL t <;> rfl
theorem re_white {s : List UInt8} {a : Rx} (h : reS s = .ok a) : reS (32 :: 35 :: 10 :: (brS s ++ [32])) = .ok a ∨ reS (32 :: 35 :: 10 :: (brS s ++ [32])) = .error 8 := by
  obtain ⟨A, h1, h2⟩ := reS_ok h
  refine reS_of (T := openT :: (A ++ [shutT])) ?_ (whole_br h2)
  have hw : skipN ([32, 35, 10] ++ (brS s ++ [32])) = [32, 35, 10].length + skipN (brS s ++ [32]) := by
    show skipN (32 :: 35 :: 10 :: (brS s ++ [32])) = 3 + _
    rw [skipN_cons, if_neg (by decide), if_pos (by decide), skipN_cons, if_pos rfl]
    show 1 + (0 + 1 + skipN (10 :: (brS s ++ [32]))) = _
    rw [skipN_cons, if_neg (by decide), if_pos (by decide)]
    omega
  have := toks_white (front := [32, 35, 10]) (brS s ++ [32]) hw
  rw [show ([32, 35, 10] : List UInt8) ++ (brS s ++ [32]) = 32 :: 35 :: 10 :: (brS s ++ [32]) from rfl] at this
  rw [this, brS_toks h1, show toksL [32] = .ok [] from rfl]
theorem re_two {s t : List UInt8} {a b : Rx} (h : reS s = .ok a) (k : reS t = .ok b) : reS (brS s ++ brS t) = .ok (.mk 4 [] noSet [a, b] 0 0) ∨ reS (brS s ++ brS t) = .error 8 := by
  obtain ⟨A, h1, h2⟩ := reS_ok h
  obtain ⟨B, k1, k2⟩ := reS_ok k
  refine reS_of (T := openT :: (A ++ shutT :: openT :: (B ++ [shutT]))) ?_ (whole_two h2 k2)
  rw [brS_toks h1, show brS t = brS t ++ [] by simp, brS_toks k1, toks_nil]
theorem re_alt {s t : List UInt8} {a b : Rx} (h : reS s = .ok a) (k : reS t = .ok b) : reS (brS s ++ 124 :: brS t) = .ok (.mk 5 [] noSet [a, b] 0 0) ∨ reS (brS s ++ 124 :: brS t) = .error 8 := by
  obtain ⟨A, h1, h2⟩ := reS_ok h
  obtain ⟨B, k1, k2⟩ := reS_ok k
  refine reS_of (T := openT :: (A ++ shutT :: sgT [124] :: openT :: (B ++ [shutT]))) ?_ (whole_alt h2 k2)
  rw [brS_toks h1, toks_or, show brS t = brS t ++ [] by simp, brS_toks k1, toks_nil]
theorem re_and {s t : List UInt8} {a b : Rx} (h : reS s = .ok a) (k : reS t = .ok b) : reS (brS s ++ 38 :: brS t) = .ok (.mk 6 [] noSet [a, b] 0 0) ∨ reS (brS s ++ 38 :: brS t) = .error 8 := by
  obtain ⟨A, h1, h2⟩ := reS_ok h
  obtain ⟨B, k1, k2⟩ := reS_ok k
  refine reS_of (T := openT :: (A ++ shutT :: sgT [38] :: openT :: (B ++ [shutT]))) ?_ (whole_and h2 k2)
  rw [brS_toks h1, toks_and, show brS t = brS t ++ [] by simp, brS_toks k1, toks_nil]
theorem re_not {s : List UInt8} {a : Rx} (h : reS s = .ok a) : reS (33 :: (brS s ++ [42])) = .ok (.not (.rep 0 (-1) a)) ∨ reS (33 :: (brS s ++ [42])) = .error 8 := by
  obtain ⟨A, h1, h2⟩ := reS_ok h
  refine reS_of (T := sgT [33] :: openT :: (A ++ shutT :: [sgT [42]])) ?_ (whole_not h2)
  rw [toks_not, brS_toks h1, toks_star, toks_nil]
end Go.Proofs.Ytbiempopfmpohaa
namespace Go.Proofs.Ytbiempopfmpohaa

/-- The place of a token, or the end. -/
def placeL (A : List (Tk × Nat)) (e i : Nat) : Nat := match A.drop i with
  | [] => e
  | x :: _ => x.2
/-- What a text says, or what is wrong, and where. -/
def reP (s : List UInt8) : Except (Nat × Nat) Rx := match allL s 0 with
  | .error x => .error x
  | .ok A => match wholeF (A.map (·.1)) with
    | .ok a => .ok a
    | .error x => .error (x.1, placeL A s.length (A.length - x.2.length))
theorem reP_reS (s : List UInt8) : reS s = match reP s with
    | .error x => .error x.1
    | .ok a => .ok a := by
  unfold reS reP toksL
  cases allL s 0 with
  | error x => rfl
  | ok A =>
    simp only
    cases wholeF (A.map (·.1)) <;> rfl

def placed (t : Tk) : Nat → Nat → List (Tk × Nat)
  | _, 0 => []
  | p, n + 1 => (t, p) :: placed t (p + 1) n
theorem placed_len (t : Tk) : ∀ p n, (placed t p n).length = n
  | _, 0 => rfl
  | p, n + 1 => by rw [placed, List.length_cons, placed_len t (p + 1) n]
theorem placed_map (t : Tk) : ∀ p n, (placed t p n).map (·.1) = List.replicate n t
  | _, 0 => rfl
  | p, n + 1 => by rw [placed, List.map_cons, placed_map t (p + 1) n]; rfl
theorem placed_get (t : Tk) : ∀ p n i, i < n → (placed t p n)[i]? = some (t, p + i)
  | _, 0, _, h => absurd h (by omega)
  | p, n + 1, 0, _ => rfl
  | p, n + 1, i + 1, h => by
    rw [placed, List.getElem?_cons_succ, placed_get t (p + 1) n i (by omega)]
    rw [show p + 1 + i = p + (i + 1) by omega]
theorem all_sign {c : UInt8} {l : List UInt8} {t : Tk} {k p : Nat} (h1 : skipN (c :: l) = 0) (h2 : tokL (c :: l) = .ok (t, k)) (h3 : t.kind ≠ 0) : allL (c :: l) p = match allL ((c :: l).drop k) (p + k) with
    | .error x => .error x
    | .ok r => .ok ((t, p) :: r) := by
  rw [allL_eq, h1, List.drop_zero, h2]
  simp only [if_neg h3, Nat.zero_add, Nat.add_zero]
  cases allL ((c :: l).drop k) (p + k) <;> rfl
theorem all_rep {c : UInt8} (h1 : ∀ l, skipN (c :: l) = 0) (h2 : ∀ l, tokL (c :: l) = .ok (sgT [c], 1)) (l : List UInt8) : ∀ n p, allL (List.replicate n c ++ l) p = match allL l (p + n) with
    | .error x => .error x
    | .ok r => .ok (placed (sgT [c]) p n ++ r)
  | 0, p => by
    show allL l p = _
    rw [Nat.add_zero]
    cases allL l p <;> rfl
  | n + 1, p => by
    show allL (c :: (List.replicate n c ++ l)) p = _
    rw [all_sign (h1 _) (h2 _) (by show (4 : Nat) ≠ 0; decide)]
    show (match allL (List.replicate n c ++ l) (p + 1) with | .error x => Except.error x | .ok r => Except.ok ((sgT [c], p) :: r)) = _
    rw [all_rep h1 h2 l n (p + 1), show p + 1 + n = p + (n + 1) by omega]
    cases allL l (p + (n + 1)) <;> rfl
/-- The text. -/
def deepS (b k : Nat) : List UInt8 := List.replicate b 40 ++ (List.replicate k 33 ++ 91 :: 97 :: 93 :: List.replicate b 41)
theorem deepS_len (b k : Nat) : (deepS b k).length = 2 * b + k + 3 := by simp [deepS]; omega
def aSetT : Tk := { Tk.none with kind := 3, set := fun x => inRows [(97, 97)] x }
theorem all_deep (b k : Nat) : allL (deepS b k) 0 = .ok (placed openT 0 b ++ (placed notT b k ++ (aSetT, b + k) :: placed shutT (b + k + 3) b)) := by
  unfold deepS
  rw [all_rep (fun l => by rw [skipN_cons]; rfl) (fun l => rfl), all_rep (fun l => by rw [skipN_cons]; rfl) (fun l => rfl)]
  rw [all_sign (t := aSetT) (k := 3) (by rw [skipN_cons]; rfl) rfl (by show (3 : Nat) ≠ 0; decide)]
  have h := all_rep (c := 41) (fun l => by rw [skipN_cons]; rfl) (fun l => rfl) [] b (0 + b + k + 3)
  rw [List.append_nil, show allL [] (0 + b + k + 3 + b) = .ok [] from rfl] at h
  rw [show (91 :: 97 :: 93 :: List.replicate b (41 : UInt8)).drop 3 = List.replicate b 41 from rfl, h]
  simp only [Nat.zero_add, List.append_nil]
  rfl
theorem deep_says (b k : Nat) : if b + k ≤ 32 then ∃ a, reP (deepS b k) = .ok a else reP (deepS b k) = .error (8, 32) := by
  have hm : (placed openT 0 b ++ (placed notT b k ++ (aSetT, b + k) :: placed shutT (b + k + 3) b)).map (·.1) = List.replicate b openT ++ (List.replicate k notT ++ aSetT :: (List.replicate b shutT ++ [])) := by
    simp [placed_map]
  obtain ⟨N, hN⟩ : ∃ N, List.replicate b openT ++ (List.replicate k notT ++ aSetT :: (List.replicate b shutT ++ [])) = N := ⟨_, rfl⟩
  have hl : N.length = 2 * b + k + 1 := by rw [← hN]; simp; omega
  have hp := deep_parse (st := aSetT) (a := .mk 2 [] aSetT.set [] 0 0) rfl rfl rfl k b 0 (5 * b + 4 * k + 10) [] (.inl rfl) (by omega)
  rw [hN, Nat.zero_add] at hp
  unfold reP
  rw [all_deep]
  simp only [hm, hN]
  unfold wholeF
  have he : parse (5 * N.length + 5) .reL 0 N = parse (5 * b + 4 * k + 10 + 5 * b + k + 5) .reL 0 N := parse_at (by simp only [rankN]; omega) (by simp only [rankN]; omega)
  rw [he]
  by_cases hk : b + k ≤ 32
  · rw [if_pos hk] at hp ⊢
    obtain ⟨x, e⟩ := hp
    rw [e]
    exact ⟨_, rfl⟩
  · rw [if_neg hk] at hp ⊢
    rw [hp]
    simp only
    have hA : (placed openT 0 b ++ (placed notT b k ++ (aSetT, b + k) :: placed shutT (b + k + 3) b)).length = 2 * b + k + 1 := by simp [placed_len]; omega
    rw [hA, List.length_drop, hl, show 2 * b + k + 1 - (2 * b + k + 1 - (32 - 0)) = 32 by omega]
    have hg : ∃ t, (placed openT 0 b ++ (placed notT b k ++ (aSetT, b + k) :: placed shutT (b + k + 3) b))[32]? = some (t, 32) := by
      by_cases hb : 32 < b
      · rw [List.getElem?_append_left (by rw [placed_len]; exact hb), placed_get _ _ _ _ hb]
        exact ⟨_, rfl⟩
      · rw [List.getElem?_append_right (by rw [placed_len]; omega), placed_len, List.getElem?_append_left (by rw [placed_len]; omega), placed_get _ _ _ _ (by omega), show b + (32 - b) = 32 by omega]
        exact ⟨_, rfl⟩
    obtain ⟨t, hg⟩ := hg
    unfold placeL
    rw [List.drop_eq_getElem_cons (by rw [hA]; omega)]
    have := (List.getElem?_eq_some_iff.1 hg).2
    simp only [this]
end Go.Proofs.Ytbiempopfmpohaa
namespace Go.Proofs.Ytbiempopfmpohaa

theorem post_bad {a : Rx} {R Q : List Tk} {c : Nat} (h : postF a R = .error (c, Q)) : c ≠ 0 := by
  unfold postF at h
  repeat' split at h
  all_goals first
    | (cases h; done)
    | (cases h; decide)
theorem parse_err : ∀ (n : Nat) (nt : NT) (d : Nat) (T : List Tk) {c : Nat} {Q : List Tk}, parse n nt d T = .error (c, Q) → c ≠ 0
  | 0, nt, _, _, c, Q, h => by
    cases nt <;> (cases h; decide)
  | n + 1, nt, d, T, c, Q, h => by
    cases nt <;> simp only [parse] at h <;> (repeat' split at h) <;> first
      | (cases h; done)
      | (cases h; decide)
      | (cases h; exact parse_err n _ _ _ (by assumption))
      | (cases h; exact post_bad (by assumption))
theorem whole_err {T Q : List Tk} {c : Nat} (h : wholeF T = .error (c, Q)) : c ≠ 0 := by
  unfold wholeF at h
  split at h
  · cases h; exact parse_err _ _ _ _ (by assumption)
  · cases h
  · cases h; decide
theorem reP_err {s : List UInt8} {c p : Nat} (h : reP s = .error (c, p)) : c ≠ 0 := by
  unfold reP at h
  split at h
  · cases h; exact allL_err _ _ _ (Nat.le_refl _) (by assumption)
  · split at h
    · cases h
    · rename_i x hx
      obtain ⟨c', Q⟩ := x
      cases h
      exact whole_err hx
/-- As 'reS' says it. -/
theorem reP_of {s : List UInt8} {a : Rx} (h : reS s = .ok a) : reP s = .ok a := by
  rw [reP_reS] at h
  cases hp : reP s with
  | error x => rw [hp] at h; cases h
  | ok b => rw [hp] at h; cases h; rfl
theorem reP_to {s : List UInt8} {a : Rx} (h : reP s = .ok a) : reS s = .ok a := by rw [reP_reS, h]
theorem reP_bad {s : List UInt8} {c : Nat} (h : reS s = .error c) : ∃ p, reP s = .error (c, p) := by
  rw [reP_reS] at h
  cases hp : reP s with
  | error x => rw [hp] at h; obtain ⟨c', p⟩ := x; cases h; exact ⟨p, rfl⟩
  | ok b => rw [hp] at h; cases h
end Go.Proofs.Ytbiempopfmpohaa
namespace Go.Proofs.Ytbiempopfmpohaa
open Go.RowKit

theorem load_int (b : Nat) (v : Value) (w : World) (h : Blk w b 3 #[v]) : (loadVar 3 ⟨b, 0, none⟩).run Try.prog w = .ok v w := by
  have c := h.cell 0
  simp only [List.getElem?_toArray, List.getElem?_cons_zero] at c
  simp [go_sem, c]
theorem load_errno (b : Nat) (v : Value) (w : World) (h : Blk w b 28 #[v]) : (loadVar 28 ⟨b, 0, none⟩).run Try.prog w = .ok v w := by
  have c := h.cell 0
  simp only [List.getElem?_toArray, List.getElem?_cons_zero] at c
  simp [go_sem, c]
theorem load_items (b : Nat) (v : Value) (w : World) (h : Blk w b 37 #[v]) : (loadVar 37 ⟨b, 0, none⟩).run Try.prog w = .ok v w := by
  have c := h.cell 0
  simp only [List.getElem?_toArray, List.getElem?_cons_zero] at c
  simp [go_sem, c]
theorem load_re (b : Nat) (vs : Array Value) (w : World) (h : Blk w b 27 vs) (hs : vs.size = 9) : (loadVar 27 ⟨b, 0, none⟩).run Try.prog w = .ok (.agg vs) w :=
  run_loadVar_mid (P := Try.prog) w b 0 27 vs.toList _ (fun j v hv => by rw [Nat.zero_add, h.cell]; simpa using hv) Try.underlying27 rfl (by rw [size_re]; simp [hs])
/-- Three results in cells of their own. -/
theorem results3 {fn : Func} {tmps : Array Value} {w : World} {T : TypeId} {b0 b1 b2 : Nat} {v0 v1 v2 : Value} (hr : fn.results = #[.cell 4 T, .cell 5 3, .cell 6 28]) (h4 : tmps.getD 4 undef = .pointer (some ⟨b0, 0, none⟩)) (h5 : tmps.getD 5 undef = .pointer (some ⟨b1, 0, none⟩)) (h6 : tmps.getD 6 undef = .pointer (some ⟨b2, 0, none⟩))
    (l0 : (loadVar T ⟨b0, 0, none⟩).run Try.prog w = .ok v0 w) (l1 : Blk w b1 3 #[v1]) (l2 : Blk w b2 28 #[v2]) : (results fn tmps).run Try.prog w = .ok (.tuple #[v0, v1, v2]) w := by
  have h4' : tmps[4]?.getD undef = .pointer (some ⟨b0, 0, none⟩) := by simpa using h4
  have h5' : tmps[5]?.getD undef = .pointer (some ⟨b1, 0, none⟩) := by simpa using h5
  have h6' : tmps[6]?.getD undef = .pointer (some ⟨b2, 0, none⟩) := by simpa using h6
  have l1' := load_int b1 v1 w l1
  have l2' := load_errno b2 v2 w l2
  simp [results, hr, asAddr, h4', h5', h6', l0, l1', l2']

/-- The tokens lie in a row of the call's own. -/
theorem krow_of_owns {W : World} {base : Nat} {v : Value} {L : List (Tk × Nat)} (h : W.ownsRow base 65 8 v L.length (tokC L)) (hl : 0 < L.length) : ∃ g cap, v = .slice (some ⟨g, 0, none⟩) L.length cap ∧ L.length ≤ cap ∧ cap ≤ maxLen ∧ base ≤ g ∧ g < W.heap.size ∧ KRow W g 0 L := by
  have h' := h
  obtain ⟨_, h2⟩ := h'
  rcases h2 with ⟨_, h0⟩ | ⟨g, cap, cur, rfl, hb, hg, hn, hm, _, _⟩
  · omega
  · obtain ⟨ao, cap', e, _, hK⟩ := KAt.of_owns h
    obtain ⟨rfl, _, rfl⟩ := Value.slice.inj e
    obtain ⟨g', off, e2, hlt, hc⟩ := hK hl
    cases e2
    exact ⟨g, cap, rfl, hn, hm, hb, hlt, KRow.of hc⟩
/-- The place, by how many are left. -/
theorem hd_place : ∀ (A : List (Tk × Nat)) (z : Nat) (L' : List (Tk × Nat)), Row (A ++ [(Tk.none, z)]) → L' <:+ A ++ [(Tk.none, z)] → Row L' → hdP L' = placeL A z (A.length - (pl L').length) := by
  intro A z L' hR hs hL
  obtain ⟨n, rfl⟩ : ∃ n, L' = (A ++ [(Tk.none, z)]).drop n := ⟨_, (List.suffix_iff_eq_drop.1 hs)⟩
  have hlen := pl_len hL
  have h1 : ((A ++ [(Tk.none, z)]).drop n).length = A.length + 1 - n := by simp
  have hn : n ≤ A.length := by omega
  have e : A.length - (pl ((A ++ [(Tk.none, z)]).drop n)).length = n := by omega
  rw [e]
  unfold placeL
  rw [List.drop_append_of_le_length hn]
  cases A.drop n with
  | nil => rfl
  | cons x l => rfl
theorem allL_kinds : ∀ (n : Nat) (l : List UInt8) (p : Nat) {A : List (Tk × Nat)}, l.length ≤ n → allL l p = .ok A → ∀ x ∈ A, x.1.kind ≠ 0 := by
  intro n
  induction n with
  | zero =>
    intro l p A hn h
    rw [allL_eq] at h
    have hl : l = [] := List.eq_nil_of_length_eq_zero (by omega)
    subst hl
    cases ht : tokL ([].drop (skipN [])) with
    | error e => rw [ht] at h; cases h
    | ok x =>
      have : tokL (([] : List UInt8).drop (skipN [])) = .ok (Tk.none, 0) := by rw [List.drop_nil]; exact tokL_end
      rw [this] at h
      simp only at h
      rw [if_pos (show Tk.none.kind = 0 from rfl)] at h
      cases h
      intro x hx
      cases hx
  | succ n ih =>
    intro l p A hn h
    rw [allL_eq] at h
    cases ht : tokL (l.drop (skipN l)) with
    | error e => rw [ht] at h; cases h
    | ok x =>
      obtain ⟨t, k⟩ := x
      rw [ht] at h
      simp only at h
      by_cases hk : t.kind = 0
      · rw [if_pos hk] at h
        cases h
        intro x hx
        cases hx
      · rw [if_neg hk] at h
        have hpos := tokL_pos (l := l.drop (skipN l)) (fun e => hk (by rw [e, tokL_end] at ht; cases ht; rfl)) ht
        cases ha : allL (l.drop (skipN l + k)) (p + skipN l + k) with
        | error e => rw [ha] at h; cases h
        | ok r =>
          rw [ha] at h
          cases h
          intro x hx
          rcases List.mem_cons.1 hx with rfl | hx
          · exact hk
          · exact ih _ _ (by rw [List.length_drop]; omega) ha x hx
end Go.Proofs.Ytbiempopfmpohaa
