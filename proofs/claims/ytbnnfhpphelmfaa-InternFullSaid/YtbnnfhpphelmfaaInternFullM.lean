/-
  A full table's rows: [-1, 0], [-1, 1], ..: where one of them stands. Conditions: none.
-/
import Derived.Test.YtbnnfhpphelmfaaInternAwake
namespace Go.Proofs.Ytbnnfhpphelmfaa

/-- So many rows. -/
def rowsF : Nat → List (List Int)
  | 0 => []
  | n + 1 => rowsF n ++ [[-1, (n : Int)]]
theorem rowsF_len : ∀ n, (rowsF n).length = n
  | 0 => rfl
  | n + 1 => by rw [rowsF, List.length_append, rowsF_len n]; rfl
theorem posTo_snoc (s x : List Int) : ∀ L : List (List Int), posTo s (L ++ [x]) = match posTo s L with
    | some k => some k
    | none => if x = s then some L.length else none
  | [] => by
    simp only [List.nil_append, posTo, List.length_nil]
    split <;> rfl
  | y :: L => by
    rw [List.cons_append, posTo, posTo]
    by_cases h : y = s
    · rw [if_pos h, if_pos h]
    · rw [if_neg h, if_neg h, posTo_snoc s x L]
      cases posTo s L with
      | some k => rfl
      | none =>
        by_cases h2 : x = s
        · simp [h2]
        · simp [h2]
theorem posTo_rowsF (j : Int) : ∀ n : Nat, posTo [-1, j] (rowsF n) = if 0 ≤ j ∧ j < n then some j.toNat else none
  | 0 => by rw [if_neg (by omega)]; rfl
  | n + 1 => by
    rw [rowsF, posTo_snoc, posTo_rowsF j n, rowsF_len]
    by_cases h : 0 ≤ j ∧ j < n
    · have h' : 0 ≤ j ∧ j < ((n + 1 : Nat) : Int) := by omega
      rw [if_pos h, if_pos h']
    · rw [if_neg h]
      by_cases h2 : j = n
      · subst h2
        have h' : 0 ≤ (n : Int) ∧ (n : Int) < ((n + 1 : Nat) : Int) := by omega
        rw [if_pos h']
        simp
      · have h3 : ¬ ([-1, (n : Int)] : List Int) = [-1, j] := by simpa using fun e : (n : Int) = j => h2 e.symm
        have h' : ¬ (0 ≤ j ∧ j < ((n + 1 : Nat) : Int)) := by omega
        simp only [if_neg h3, if_neg h']
theorem posTo_one (x : Int) : ∀ n : Nat, posTo [x] (rowsF n) = none
  | 0 => rfl
  | n + 1 => by
    rw [rowsF, posTo_snoc, posTo_one x n]
    simp
theorem srt_two (j : Int) (h : -1 < j) : srt [j, -1] = [-1, j] ∧ srt [-1, j] = [-1, j] := by
  constructor
  · simp only [srt, List.foldl, ins]
    rw [if_neg (by omega), if_neg (by omega)]
  · simp only [srt, List.foldl, ins]
    rw [if_pos (by omega)]
theorem srt_one (j : Int) : srt [j] = [j] := rfl
theorem put_next (k : Nat) (hk : k < 4096) : putN (rowsF k) [-1, (k : Int)] = k ∧ putB (rowsF k) [-1, (k : Int)] = true ∧ putE (rowsF k) [-1, (k : Int)] = 0 ∧ putL (rowsF k) [-1, (k : Int)] = rowsF (k + 1) := by
  have hp : posTo [-1, (k : Int)] (rowsF k) = none := by rw [posTo_rowsF, if_neg (by omega)]
  have hl : ¬ 4096 ≤ k := by omega
  unfold putN putB putE putL
  rw [hp, rowsF_len]
  simp only [if_neg hl]
  exact ⟨trivial, trivial, trivial, rfl⟩
theorem put_over (N : Nat) (hN : 4096 ≤ N) (x : Int) : putE (rowsF N) [x] = 2 ∧ putL (rowsF N) [x] = rowsF N := by
  unfold putE putL
  rw [posTo_one, rowsF_len]
  exact ⟨if_pos hN, if_pos hN⟩
theorem put_again (N : Nat) (n : Nat) (h : n < N) : putN (rowsF N) [-1, (n : Int)] = n ∧ putB (rowsF N) [-1, (n : Int)] = false ∧ putE (rowsF N) [-1, (n : Int)] = 0 ∧ putL (rowsF N) [-1, (n : Int)] = rowsF N := by
  have hp : posTo [-1, (n : Int)] (rowsF N) = some n := by rw [posTo_rowsF, if_pos (by omega)]; simp
  unfold putN putB putE putL
  rw [hp]
  exact ⟨rfl, rfl, rfl, rfl⟩
end Go.Proofs.Ytbnnfhpphelmfaa
