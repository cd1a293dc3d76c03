/-
  Rows of numbers: sorted, each once; compared. Conditions: those that each names.
-/
namespace Go.Proofs.Ytbnnfhpphelmfaa

/-- A number put into a rising row, where it is not there yet. -/
def ins (x : Int) : List Int → List Int
  | [] => [x]
  | y :: r => if y < x then y :: ins x r else if y = x then y :: r else x :: y :: r
def srt (l : List Int) : List Int := l.foldl (fun out x => ins x out) []
/-- How many stand ahead of it. -/
def ahead (x : Int) : List Int → Nat
  | [] => 0
  | y :: r => if y < x then ahead x r + 1 else 0
theorem ahead_le (x : Int) : ∀ l : List Int, ahead x l ≤ l.length
  | [] => Nat.le_refl _
  | y :: r => by
    unfold ahead
    have := ahead_le x r
    split <;> simp only [List.length_cons] <;> omega
theorem ahead_lt (x : Int) : ∀ (l : List Int) (k : Nat), k < ahead x l → l.getD k 0 < x
  | [], k, h => by simp [ahead] at h
  | y :: r, k, h => by
    unfold ahead at h
    split at h
    · rename_i hy
      cases k with
      | zero => simpa using hy
      | succ k => simpa using ahead_lt x r k (by omega)
    · omega
theorem ahead_at (x : Int) : ∀ l : List Int, ahead x l < l.length → ¬ l.getD (ahead x l) 0 < x
  | [], h => by simp [ahead] at h
  | y :: r, h => by
    unfold ahead at h ⊢
    split
    · rename_i hy
      rw [if_pos hy] at h
      simpa using ahead_at x r (by simpa using h)
    · rename_i hy
      simpa using hy
/-- A place at which all ahead are less, and what stands there is not, is that place. -/
theorem ahead_unique (x : Int) (l : List Int) (k : Nat) (hk : k ≤ l.length) (h1 : ∀ i, i < k → l.getD i 0 < x) (h2 : k < l.length → ¬ l.getD k 0 < x) : k = ahead x l := by
  rcases Nat.lt_trichotomy k (ahead x l) with h | h | h
  · exact absurd (ahead_lt x l k h) (h2 (Nat.lt_of_lt_of_le h (ahead_le x l)))
  · exact h
  · exact absurd (h1 _ h) (ahead_at x l (by omega))
theorem ins_there (x : Int) : ∀ l : List Int, ahead x l < l.length → l.getD (ahead x l) 0 = x → ins x l = l
  | [], h, _ => by simp [ahead] at h
  | y :: r, h, e => by
    unfold ahead at h e
    unfold ins
    split
    · rename_i hy
      rw [if_pos hy] at h e
      rw [ins_there x r (by simpa using h) (by simpa using e)]
    · rename_i hy
      rw [if_neg hy] at e
      rw [if_pos (by simpa using e)]
theorem ins_new (x : Int) : ∀ l : List Int, (ahead x l < l.length → l.getD (ahead x l) 0 ≠ x) → ins x l = l.take (ahead x l) ++ x :: l.drop (ahead x l)
  | [], _ => rfl
  | y :: r, h => by
    unfold ahead at h ⊢
    unfold ins
    by_cases hy : y < x
    · rw [if_pos hy, if_pos hy, ins_new x r (fun k => by rw [if_pos hy] at h; simpa using h (by simpa using k))]
      rfl
    · rw [if_neg hy, if_neg hy]
      rw [if_neg hy] at h
      rw [if_neg (by simpa using h (by simp))]
      rfl
theorem srt_snoc (l : List Int) (x : Int) : srt (l ++ [x]) = ins x (srt l) := by unfold srt; rw [List.foldl_append]; rfl
theorem srt_take (l : List Int) (k : Nat) (h : k < l.length) : srt (l.take (k + 1)) = ins (l.getD k 0) (srt (l.take k)) := by
  rw [List.take_succ_eq_append_getElem h, srt_snoc]
  simp [List.getD, h]
theorem ins_length (x : Int) : ∀ l : List Int, (ins x l).length ≤ l.length + 1
  | [] => Nat.le_refl _
  | y :: r => by
    unfold ins
    have := ins_length x r
    split
    · simp only [List.length_cons]; omega
    · split <;> simp
theorem srt_length_take (l : List Int) : ∀ k : Nat, k ≤ l.length → (srt (l.take k)).length ≤ k
  | 0, _ => by simp [srt]
  | k + 1, h => by
    rw [srt_take l k h]
    have := ins_length (l.getD k 0) (srt (l.take k))
    have := srt_length_take l k (by omega)
    omega
theorem srt_length (l : List Int) : (srt l).length ≤ l.length := by
  have := srt_length_take l l.length (Nat.le_refl _)
  rwa [List.take_length] at this

/-- Which of two rows is less? -/
def cmpL : List Int → List Int → Int
  | [], [] => 0
  | [], _ :: _ => -1
  | _ :: _, [] => 1
  | x :: a, y :: b => if x < y then -1 else if y < x then 1 else cmpL a b
theorem cmpL_step (A B : List Int) (j : Nat) (ha : j < A.length) (hb : j < B.length) : cmpL (A.drop j) (B.drop j) = if A.getD j 0 < B.getD j 0 then -1 else if B.getD j 0 < A.getD j 0 then 1 else cmpL (A.drop (j + 1)) (B.drop (j + 1)) := by
  rw [List.drop_eq_getElem_cons ha, List.drop_eq_getElem_cons hb]
  simp only [cmpL, List.getD, List.getElem?_eq_getElem ha, List.getElem?_eq_getElem hb, Option.getD_some]
theorem cmpL_end (A B : List Int) (j : Nat) (ha : j ≤ A.length) (hb : j ≤ B.length) (h : ¬ (j < A.length ∧ j < B.length)) : cmpL (A.drop j) (B.drop j) = if A.length < B.length then -1 else if B.length < A.length then 1 else 0 := by
  rcases Nat.lt_trichotomy A.length B.length with h1 | h1 | h1
  · rw [if_pos h1, List.drop_of_length_le (by omega : A.length ≤ j), List.drop_eq_getElem_cons (by omega : j < B.length)]
    rfl
  · rw [if_neg (by omega), if_neg (by omega), List.drop_of_length_le (by omega : A.length ≤ j), List.drop_of_length_le (by omega : B.length ≤ j)]
    rfl
  · rw [if_neg (by omega), if_pos h1, List.drop_of_length_le (by omega : B.length ≤ j), List.drop_eq_getElem_cons (by omega : j < A.length)]
    rfl
end Go.Proofs.Ytbnnfhpphelmfaa
