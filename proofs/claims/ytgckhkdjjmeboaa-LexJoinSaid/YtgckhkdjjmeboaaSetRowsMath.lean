/-
  Plain mathematics: the rows of a set rise and do not touch; together they are the set; a span has one row, or none. Conditions: none; no program is named here.
-/
import Derived.Test.YtgckhkdjjmeboaaSetOps
import Derived.Test.YtgckhkdjjmeboaaSetOf
namespace Go.Proofs.Ytgckhkdjjmeboaa

/-- Rows from m on: each is a row of bytes, and between two there is a byte. -/
def RowsOk : Nat → List (Nat × Nat) → Prop
  | _, [] => True
  | m, x :: r => m ≤ x.1 ∧ x.1 ≤ x.2 ∧ x.2 ≤ 255 ∧ RowsOk (x.2 + 2) r

theorem rowsF_ok (S : Nat → Bool) : ∀ f b, b ≤ 256 → (b < 256 → S b = true) → RowsOk b (rowsF S f b)
  | 0, b, _, _ => trivial
  | f + 1, b, hb, hS => by
    rw [rowsF]
    split
    · rename_i hlt
      obtain ⟨h1, h2⟩ := neg_gt S b hlt (hS hlt)
      obtain ⟨g1, g2, g3, g4⟩ := nxt_spec S (nxt (neg S) b) h2
      obtain ⟨n1, n2, n3, n4⟩ := nxt_spec (neg S) b hb
      refine ⟨Nat.le_refl _, by simp only; omega, by simp only; omega, ?_⟩
      have ih := rowsF_ok S f (nxt S (nxt (neg S) b)) g2 g4
      simp only
      generalize hB : nxt S (nxt (neg S) b) = b' at *
      by_cases h256 : b' = 256
      · subst h256
        cases f with
        | zero => trivial
        | succ f => rw [rowsF, if_neg (by decide)]; trivial
      · have hne : b' ≠ nxt (neg S) b := by
          intro e
          have a1 := g4 (by omega)
          have a2 := n4 (by omega)
          rw [← e] at a2
          simp [neg, a1] at a2
        cases f with
        | zero => trivial
        | succ f =>
          rw [rowsF, if_pos (by omega)] at ih ⊢
          exact ⟨by simp only; omega, ih.2.1, ih.2.2.1, ih.2.2.2⟩
    · trivial

theorem rowsOf_ok (S : Nat → Bool) : RowsOk 0 (rowsOf S) := by
  have h := nxt_spec S 0 (by decide)
  have := rowsF_ok S (256 - nxt S 0) (nxt S 0) h.2.1 h.2.2.2
  unfold rowsOf rowsL
  cases hr : rowsF S (256 - nxt S 0) (nxt S 0) with
  | nil => trivial
  | cons x r => rw [hr] at this; exact ⟨Nat.zero_le _, this.2⟩

theorem RowsOk.at : ∀ {l : List (Nat × Nat)} {m : Nat}, RowsOk m l → ∀ i, i < l.length → m ≤ (l.getD i (0, 0)).1 ∧ (l.getD i (0, 0)).1 ≤ (l.getD i (0, 0)).2 ∧ (l.getD i (0, 0)).2 ≤ 255
  | [], _, _, i, hi => by simp at hi
  | x :: r, m, h, 0, _ => ⟨h.1, h.2.1, h.2.2.1⟩
  | x :: r, m, h, i + 1, hi => by
    have := RowsOk.at h.2.2.2 i (by simpa using hi)
    have h1 := h.1
    have h2 := h.2.1
    simp only [List.getD_cons_succ]
    omega
theorem RowsOk.gap : ∀ {l : List (Nat × Nat)} {m : Nat}, RowsOk m l → ∀ i, i + 1 < l.length → (l.getD i (0, 0)).2 + 2 ≤ (l.getD (i + 1) (0, 0)).1
  | [], _, _, i, hi => by simp at hi
  | x :: r, m, h, 0, hi => (RowsOk.at h.2.2.2 0 (by simpa using hi)).1
  | x :: r, m, h, i + 1, hi => by
    have := RowsOk.gap h.2.2.2 i (by simpa using hi)
    simpa using this

/-- The rows' spans together. -/
def accOf (l : List (Nat × Nat)) : Nat → Bool := l.foldl (fun S x => cor S (fromTo x.1 (x.2 + 1))) (fun _ => false)
theorem accOf_snoc (l : List (Nat × Nat)) (x : Nat × Nat) : accOf (l ++ [x]) = cor (accOf l) (fromTo x.1 (x.2 + 1)) := by simp [accOf]
theorem accOf_take (l : List (Nat × Nat)) (k : Nat) (h : k < l.length) : accOf (l.take (k + 1)) = cor (accOf (l.take k)) (fromTo (l.getD k (0, 0)).1 ((l.getD k (0, 0)).2 + 1)) := by
  rw [List.take_succ_eq_append_getElem h, accOf_snoc]
  simp [List.getD, h]

theorem foldl_cor (l : List (Nat × Nat)) : ∀ (A : Nat → Bool) (i : Nat), l.foldl (fun S x => cor S (fromTo x.1 (x.2 + 1))) A i = (A i || l.any fun x => fromTo x.1 (x.2 + 1) i) := by
  induction l with
  | nil => intro A i; simp
  | cons x r ih =>
    intro A i
    rw [List.foldl_cons, ih, List.any_cons]
    unfold cor
    rw [Bool.or_assoc]
theorem accOf_any (l : List (Nat × Nat)) (i : Nat) : accOf l i = l.any fun x => fromTo x.1 (x.2 + 1) i := by
  unfold accOf; rw [foldl_cor]; simp

theorem any_rowsF (S : Nat → Bool) : ∀ f b, b ≤ 256 → 256 ≤ f + b → (b < 256 → S b = true) → ∀ i, i < 256 → (rowsF S f b).any (fun x => fromTo x.1 (x.2 + 1) i) = (decide (b ≤ i) && S i)
  | 0, b, hb, hf, _, i, hi => by
    have : ¬ b ≤ i := by omega
    simp [rowsF, this]
  | f + 1, b, hb, hf, hS, i, hi => by
    rw [rowsF]
    split
    · rename_i hlt
      obtain ⟨h1, h2⟩ := neg_gt S b hlt (hS hlt)
      obtain ⟨g1, g2, g3, g4⟩ := nxt_spec S (nxt (neg S) b) h2
      obtain ⟨n1, n2, n3, n4⟩ := nxt_spec (neg S) b hb
      rw [List.any_cons, any_rowsF S f _ g2 (by have := nxt_step S b hlt; omega) g4 i hi]
      simp only
      unfold fromTo
      generalize hB : nxt S (nxt (neg S) b) = b' at *
      generalize hH : nxt (neg S) b = h at *
      rw [Bool.eq_iff_iff]
      simp only [Bool.or_eq_true, Bool.and_eq_true, decide_eq_true_eq]
      constructor
      · rintro (⟨a1, a2⟩ | ⟨a1, a2⟩)
        · refine ⟨a1, ?_⟩
          have := n3 i a1 (by omega)
          simpa [neg] using this
        · exact ⟨by omega, a2⟩
      · rintro ⟨a1, a2⟩
        by_cases c1 : i < h
        · exact .inl ⟨a1, by omega⟩
        · refine .inr ⟨?_, a2⟩
          rcases Nat.lt_or_ge i b' with c2 | c2
          · have := g3 i (by omega) c2
            rw [a2] at this; cases this
          · exact c2
    · have : ¬ b ≤ i := by omega
      simp [this]

theorem accOf_rows (S : Nat → Bool) (i : Nat) (hi : i < 256) : accOf (rowsOf S) i = S i := by
  have h := nxt_spec S 0 (by decide)
  rw [accOf_any]
  unfold rowsOf rowsL
  rw [any_rowsF S _ _ h.2.1 (by omega) h.2.2.2 i hi]
  by_cases c : nxt S 0 ≤ i
  · simp [c]
  · have := h.2.2.1 i (Nat.zero_le _) (by omega)
    simp [c, this]

theorem nxt_none (S : Nat → Bool) (b : Nat) (hb : b ≤ 256) (h : ∀ j, b ≤ j → j < 256 → S j = false) : nxt S b = 256 :=
  nxt_eq S b 256 hb (Nat.le_refl _) h (fun h => absurd h (by decide))

theorem rows_span_none (a z : Nat) (h : z < a) : rowsOf (fromTo a (z + 1)) = [] := by
  have e : nxt (fromTo a (z + 1)) 0 = 256 := nxt_none _ _ (by decide) fun j _ _ => by
    unfold fromTo
    rw [← Bool.decide_and]
    exact decide_eq_false (by omega)
  unfold rowsOf
  rw [e]
  rfl

theorem rows_span_one (a z : Nat) (h : a ≤ z) (hz : z ≤ 255) : rowsOf (fromTo a (z + 1)) = [(a, z)] := by
  have f : ∀ j, fromTo a (z + 1) j = decide (a ≤ j ∧ j < z + 1) := fun j => by unfold fromTo; rw [Bool.decide_and]
  have e0 : nxt (fromTo a (z + 1)) 0 = a := nxt_eq _ _ _ (Nat.zero_le _) (by omega) (fun j _ hj => by rw [f]; exact decide_eq_false (by omega)) (fun _ => by rw [f]; exact decide_eq_true (by omega))
  have e1 : nxt (neg (fromTo a (z + 1))) a = z + 1 := nxt_eq _ _ _ (by omega) (by omega) (fun j hj hj' => by unfold neg; rw [f, decide_eq_true (by omega)]; rfl) (fun _ => by unfold neg; rw [f, decide_eq_false (by omega)]; rfl)
  have e2 : nxt (fromTo a (z + 1)) (z + 1) = 256 := nxt_none _ _ (by omega) fun j hj _ => by rw [f]; exact decide_eq_false (by omega)
  unfold rowsOf
  rw [e0, rowsL_cons _ _ (by omega), e1, e2, rowsL_end]
  rfl
end Go.Proofs.Ytgckhkdjjmeboaa
