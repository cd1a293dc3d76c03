/-
  Plain mathematics: the rows of a set, one by one. Conditions: none; no program is named here.
-/
import Derived.Test.YtbiempopfmpohaaSetPlain
namespace Go.Proofs.Ytbiempopfmpohaa

def neg (S : Nat → Bool) : Nat → Bool := fun i => !S i

/-- The rows of S from byte b on (b in S, or 256), at most f of them. -/
def rowsF (S : Nat → Bool) : Nat → Nat → List (Nat × Nat)
  | 0, _ => []
  | f + 1, b => if b < 256 then (b, nxt (neg S) b - 1) :: rowsF S f (nxt S (nxt (neg S) b)) else []
def rowsL (S : Nat → Bool) (b : Nat) : List (Nat × Nat) := rowsF S (256 - b) b
def rowsOf (S : Nat → Bool) : List (Nat × Nat) := rowsL S (nxt S 0)

theorem nxt_step (S : Nat → Bool) (b : Nat) (hb : b < 256) : b < nxt S (nxt (neg S) b) ∧ nxt S (nxt (neg S) b) ≤ 256 := by
  obtain ⟨h1, h2, h3, h4⟩ := nxt_spec (neg S) b (by omega)
  obtain ⟨g1, g2, g3, g4⟩ := nxt_spec S (nxt (neg S) b) h2
  refine ⟨?_, g2⟩
  rcases Nat.lt_or_ge b (nxt S (nxt (neg S) b)) with h | h
  · exact h
  · have e1 : nxt (neg S) b = b := by omega
    have e2 : nxt S (nxt (neg S) b) = b := by omega
    have a1 := h4 (by omega)
    have a2 := g4 (by omega)
    rw [e1] at a1
    rw [e2] at a2
    simp [neg, a2] at a1

theorem rowsF_fuel (S : Nat → Bool) : ∀ f g b, b ≤ 256 → 256 ≤ f + b → 256 ≤ g + b → rowsF S f b = rowsF S g b
  | 0, g, b, h0, h1, h2 => by
    have : ¬ b < 256 := by omega
    cases g with
    | zero => rfl
    | succ g => rw [rowsF, rowsF, if_neg this]
  | f + 1, 0, b, h0, h1, h2 => by
    have : ¬ b < 256 := by omega
    rw [rowsF, rowsF, if_neg this]
  | f + 1, g + 1, b, h0, h1, h2 => by
    rw [rowsF, rowsF]
    split
    · rename_i hb
      have := nxt_step S b hb
      rw [rowsF_fuel S f g _ this.2 (by omega) (by omega)]
    · rfl

theorem rowsL_cons (S : Nat → Bool) (b : Nat) (hb : b < 256) : rowsL S b = (b, nxt (neg S) b - 1) :: rowsL S (nxt S (nxt (neg S) b)) := by
  have hs := nxt_step S b hb
  unfold rowsL
  obtain ⟨k, hk⟩ : ∃ k, 256 - b = k + 1 := ⟨256 - b - 1, by omega⟩
  rw [hk, rowsF, if_pos hb, rowsF_fuel S k (256 - nxt S (nxt (neg S) b)) _ hs.2 (by omega) (by omega)]

theorem rowsL_end (S : Nat → Bool) : rowsL S 256 = [] := rfl

theorem rowsF_length (S : Nat → Bool) : ∀ f b, (rowsF S f b).length ≤ f
  | 0, b => by simp [rowsF]
  | f + 1, b => by
    rw [rowsF]
    split
    · have := rowsF_length S f (nxt S (nxt (neg S) b)); simp; omega
    · simp
theorem rowsOf_length (S : Nat → Bool) : (rowsOf S).length ≤ 256 := by
  have := rowsF_length S (256 - nxt S 0) (nxt S 0)
  unfold rowsOf rowsL; omega

/-- Where the bytes of the row that begins at b (a byte of S) end. -/
theorem neg_gt (S : Nat → Bool) (b : Nat) (hb : b < 256) (hS : S b = true) : b < nxt (neg S) b ∧ nxt (neg S) b ≤ 256 := by
  obtain ⟨h1, h2, h3, h4⟩ := nxt_spec (neg S) b (by omega)
  refine ⟨?_, h2⟩
  rcases Nat.lt_or_ge b (nxt (neg S) b) with h | h
  · exact h
  · have e1 : nxt (neg S) b = b := by omega
    have a1 := h4 (by omega)
    rw [e1] at a1
    simp [neg, hS] at a1

end Go.Proofs.Ytbiempopfmpohaa
