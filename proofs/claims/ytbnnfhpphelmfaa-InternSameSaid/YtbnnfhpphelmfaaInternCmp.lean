/-
  Comparing rows is an order: the same rows alone alike, the other way round the other one, less and less is less. Conditions: those that each names.
-/
import Derived.Test.YtbnnfhpphelmfaaInternPlain
namespace Go.Proofs.Ytbnnfhpphelmfaa

theorem cmpL_range : ∀ a b : List Int, cmpL a b = -1 ∨ cmpL a b = 0 ∨ cmpL a b = 1
  | [], [] => .inr (.inl rfl)
  | [], _ :: _ => .inl rfl
  | _ :: _, [] => .inr (.inr rfl)
  | x :: a, y :: b => by
    simp only [cmpL]
    by_cases h1 : x < y
    · rw [if_pos h1]; exact .inl rfl
    · by_cases h2 : y < x
      · rw [if_neg h1, if_pos h2]; exact .inr (.inr rfl)
      · rw [if_neg h1, if_neg h2]; exact cmpL_range a b
theorem cmpL_neg : ∀ a b : List Int, cmpL b a = - cmpL a b
  | [], [] => rfl
  | [], _ :: _ => rfl
  | _ :: _, [] => rfl
  | x :: a, y :: b => by
    simp only [cmpL]
    by_cases h1 : x < y
    · rw [if_pos h1, if_neg (by omega), if_pos h1]; rfl
    · by_cases h2 : y < x
      · rw [if_pos h2, if_neg h1, if_pos h2]
      · rw [if_neg h1, if_neg h2, if_neg h2, if_neg h1]; exact cmpL_neg a b
theorem cmpL_zero : ∀ a b : List Int, cmpL a b = 0 ↔ a = b
  | [], [] => ⟨fun _ => rfl, fun _ => rfl⟩
  | [], _ :: _ => ⟨fun h => absurd h (by simp [cmpL]), fun h => by cases h⟩
  | _ :: _, [] => ⟨fun h => absurd h (by simp [cmpL]), fun h => by cases h⟩
  | x :: a, y :: b => by
    simp only [cmpL]
    by_cases h1 : x < y
    · rw [if_pos h1]; exact ⟨fun h => absurd h (by decide), fun h => by cases h; omega⟩
    · by_cases h2 : y < x
      · rw [if_neg h1, if_pos h2]; exact ⟨fun h => absurd h (by decide), fun h => by cases h; omega⟩
      · rw [if_neg h1, if_neg h2, cmpL_zero a b]
        obtain rfl : x = y := by omega
        exact ⟨fun h => by rw [h], fun h => by cases h; rfl⟩
theorem cmpL_trans : ∀ a b c : List Int, ¬ 0 < cmpL a b → ¬ 0 < cmpL b c → cmpL a c = min (cmpL a b) (cmpL b c)
  | [], [], [], _, _ => rfl
  | [], [], _ :: _, _, _ => rfl
  | [], y :: b, [], _, h => absurd (by simp [cmpL]) h
  | [], y :: b, z :: c, _, h => by
    have := cmpL_range (y :: b) (z :: c)
    show (-1 : Int) = min (-1) (cmpL (y :: b) (z :: c))
    omega
  | x :: a, [], _, h, _ => absurd (by simp [cmpL]) h
  | x :: a, y :: b, [], _, h => absurd (by simp [cmpL]) h
  | x :: a, y :: b, z :: c, h1, h2 => by
    have r1 := cmpL_range a b
    have r2 := cmpL_range b c
    have ih := cmpL_trans a b c
    simp only [cmpL] at h1 h2 ⊢
    by_cases p1 : x < y
    · rw [if_pos p1]
      by_cases p2 : y < z
      · rw [if_pos p2, if_pos (by omega)]; rfl
      · by_cases p3 : z < y
        · rw [if_neg p2, if_pos p3] at h2; exact absurd (by decide) h2
        · rw [if_neg p2, if_neg p3, if_pos (by omega)]
          omega
    · by_cases p1' : y < x
      · rw [if_neg p1, if_pos p1'] at h1; exact absurd (by decide) h1
      · obtain rfl : x = y := by omega
        rw [if_neg p1, if_neg p1] at h1
        rw [if_neg p1, if_neg p1]
        by_cases p2 : x < z
        · rw [if_pos p2]
          omega
        · by_cases p3 : z < x
          · rw [if_neg p2, if_pos p3] at h2; exact absurd (by decide) h2
          · rw [if_neg p2, if_neg p3] at h2
            rw [if_neg p2, if_neg p3, if_neg p2, if_neg p3]
            exact ih h1 h2
end Go.Proofs.Ytbnnfhpphelmfaa
