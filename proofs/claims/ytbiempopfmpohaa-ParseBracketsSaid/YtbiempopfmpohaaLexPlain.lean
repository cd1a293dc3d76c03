/-
  What a rule file's tokens are, over lists of bytes: white, a byte within a text or a set, a token, all of them. Conditions: none.
-/
import Derived.Test.YtbiempopfmpohaaSetRowsPlain
namespace Go.Proofs.Ytbiempopfmpohaa

def letterB (c : UInt8) : Bool := (97 ≤ c && c ≤ 122) || (65 ≤ c && c ≤ 90) || c == 95
def digitB (c : UInt8) : Bool := 48 ≤ c && c ≤ 57
def sixB (c : UInt8) : Bool := c == 92 || c == 34 || c == 91 || c == 93 || c == 94 || c == 45
def plainB (c : UInt8) : Bool := 32 ≤ c && c ≤ 126 && !sixB c
def whiteB (c : UInt8) : Bool := c == 32 || c == 10 || c == 13 || c == 9
def signB (c : UInt8) : Bool := c == 61 || c == 59 || c == 40 || c == 41 || c == 124 || c == 38 || c == 33 || c == 42 || c == 43 || c == 63 || c == 58 || c == 46 || c == 47 || c == 44 || c == 123 || c == 125 || c == 126 || c == 62
def hexN (c : UInt8) : Option Nat := if digitB c then some (c.toNat - 48) else if 97 ≤ c && c ≤ 102 then some (c.toNat - 87) else none

/-- A byte within a text or a set, and how many bytes it takes; or what is wrong. -/
def oneL : List UInt8 → Except Nat (UInt8 × Nat)
  | [] => .error 6
  | c :: r =>
    if plainB c then .ok (c, 1)
    else if c ≠ 92 then .error 4
    else match r with
      | [] => .error 6
      | d :: r =>
        if sixB d then .ok (d, 2)
        else if d = 110 then .ok (10, 2)
        else if d = 116 then .ok (9, 2)
        else if d = 114 then .ok (13, 2)
        else if d = 120 then
          match r with
          | [] => .error 6
          | h :: r => match hexN h with
            | none => .error 4
            | some x => match r with
              | [] => .error 6
              | g :: _ => match hexN g with
                | none => .error 4
                | some y => .ok (UInt8.ofNat (16 * x + y), 4)
        else .error 4

/-- Behind a quote: the bytes, and how many bytes they take with the quote behind. -/
def textF : Nat → List UInt8 → Except Nat (List UInt8 × Nat)
  | 0, _ => .error 6
  | f + 1, l => match l with
    | [] => .error 6
    | c :: _ =>
      if c = 34 then .ok ([], 1)
      else match oneL l with
        | .error e => .error e
        | .ok (b, n) => match textF f (l.drop n) with
          | .error e => .error e
          | .ok (t, k) => .ok (b :: t, n + k)
/-- Behind a bracket (and '^'): the rows, and how many bytes they take with the bracket behind. -/
def setF : Nat → List UInt8 → Except Nat (List (UInt8 × UInt8) × Nat)
  | 0, _ => .error 6
  | f + 1, l => match l with
    | [] => .error 6
    | c :: _ =>
      if c = 93 then .ok ([], 1)
      else match oneL l with
        | .error e => .error e
        | .ok (a, n) =>
          if (l.drop n).head? = some 45 then
            match oneL (l.drop (n + 1)) with
            | .error e => .error e
            | .ok (b, m) =>
              if b < a then .error 4
              else match setF f (l.drop (n + 1 + m)) with
                | .error e => .error e
                | .ok (t, k) => .ok ((a, b) :: t, n + 1 + m + k)
          else match setF f (l.drop n) with
            | .error e => .error e
            | .ok (t, k) => .ok ((a, a) :: t, n + k)
/-- Is a byte in one of the rows? -/
def inRows (t : List (UInt8 × UInt8)) (x : Nat) : Bool := t.any fun r => r.1.toNat ≤ x && x ≤ r.2.toNat
/-- A number of decimal digits. -/
def numL (l : List UInt8) : Nat := l.foldl (fun n c => 10 * n + (c.toNat - 48)) 0

structure Tk where
  kind : Nat
  text : List UInt8
  set : Nat → Bool
  num : Nat
def Tk.none : Tk := ⟨0, [], fun _ => false, 0⟩
/-- The token that begins here, and how many bytes it takes; or what is wrong. -/
def tokL (l : List UInt8) : Except Nat (Tk × Nat) := match l with
  | [] => .ok (Tk.none, 0)
  | c :: r =>
    if c = 34 then match textF (r.length + 1) r with
      | .error e => .error e
      | .ok (t, k) => if 256 < t.length then .error 2 else .ok ({ Tk.none with kind := 2, text := t }, 1 + k)
    else if c = 91 then
      if r.head? = some 94 then match setF (r.length + 1) (r.drop 1) with
        | .error e => .error e
        | .ok (t, k) => .ok ({ Tk.none with kind := 3, set := fun x => decide (x < 256) && !inRows t x }, 2 + k)
      else match setF (r.length + 1) r with
        | .error e => .error e
        | .ok (t, k) => .ok ({ Tk.none with kind := 3, set := fun x => inRows t x }, 1 + k)
    else if letterB c then
      let w := l.takeWhile fun x => digitB x || letterB x
      if 31 < w.length then .error 2 else .ok ({ Tk.none with kind := 1, text := w }, w.length)
    else if digitB c then
      let w := l.takeWhile digitB
      if 4 < w.length then .error 2 else .ok ({ Tk.none with kind := 5, num := numL w }, w.length)
    else if c = 45 && r.head? = some 62 then .ok ({ Tk.none with kind := 4, text := [45, 62] }, 2)
    else if signB c then .ok ({ Tk.none with kind := 4, text := [c] }, 1)
    else .error 4

/-- How many bytes of a comment stand at the front. -/
def lineN : List UInt8 → Nat
  | [] => 0
  | c :: r => if c = 10 then 0 else lineN r + 1
/-- How many white bytes stand at the front. -/
def skipF : Nat → List UInt8 → Nat
  | 0, _ => 0
  | f + 1, l => match l with
    | [] => 0
    | c :: r =>
      if c = 35 then lineN r + 1 + skipF f (r.drop (lineN r))
      else if whiteB c then 1 + skipF f r
      else 0
def skipN (l : List UInt8) : Nat := skipF (l.length + 1) l
/-- All tokens with their places; or what is wrong, and where. -/
def allF : Nat → List UInt8 → Nat → Except (Nat × Nat) (List (Tk × Nat))
  | 0, _, _ => .error (0, 0)
  | f + 1, l, p => match tokL (l.drop (skipN l)) with
    | .error e => .error (e, p + skipN l)
    | .ok (t, n) =>
      if t.kind = 0 then .ok []
      else match allF f (l.drop (skipN l + n)) (p + skipN l + n) with
        | .error x => .error x
        | .ok r => .ok ((t, p + skipN l) :: r)
def allL (l : List UInt8) (p : Nat) : Except (Nat × Nat) (List (Tk × Nat)) := allF (l.length + 1) l p

/-! ### Facts -/
theorem oneL_pos {l : List UInt8} {b : UInt8} {n : Nat} (h : oneL l = .ok (b, n)) : 0 < n ∧ n ≤ l.length := by
  unfold oneL at h
  repeat' split at h
  all_goals first | (cases h; done) | (cases h; simp)
theorem lineN_le : ∀ l, lineN l ≤ l.length
  | [] => Nat.le_refl _
  | c :: r => by
    unfold lineN
    have := lineN_le r
    split <;> simp <;> omega
theorem skipF_cons (f : Nat) (c : UInt8) (r : List UInt8) : skipF (f + 1) (c :: r) = if c = 35 then lineN r + 1 + skipF f (r.drop (lineN r)) else if whiteB c then 1 + skipF f r else 0 := rfl
theorem skipF_le : ∀ f l, skipF f l ≤ l.length
  | 0, l => Nat.zero_le _
  | f + 1, [] => Nat.le_refl _
  | f + 1, c :: r => by
    rw [skipF_cons]
    have h1 := lineN_le r
    have h2 := skipF_le f (r.drop (lineN r))
    have h3 := skipF_le f r
    rw [List.length_drop] at h2
    rw [List.length_cons]
    split
    · omega
    · split <;> omega
theorem skipF_more : ∀ f g l, l.length < f → l.length < g → skipF f l = skipF g l
  | 0, g, l, h, _ => by omega
  | f + 1, 0, l, _, h => by omega
  | f + 1, g + 1, [], _, _ => rfl
  | f + 1, g + 1, c :: r, h1, h2 => by
    rw [skipF_cons, skipF_cons]
    simp only [List.length_cons] at h1 h2
    rw [skipF_more f g r (by omega) (by omega), skipF_more f g (r.drop (lineN r)) (by rw [List.length_drop]; omega) (by rw [List.length_drop]; omega)]
theorem skipN_le (l : List UInt8) : skipN l ≤ l.length := skipF_le _ _
theorem skipN_nil : skipN [] = 0 := rfl
theorem skipN_cons (c : UInt8) (r : List UInt8) : skipN (c :: r) = if c = 35 then lineN r + 1 + skipN (r.drop (lineN r)) else if whiteB c then 1 + skipN r else 0 := by
  have e : skipN (c :: r) = if c = 35 then lineN r + 1 + skipF (r.length + 1) (r.drop (lineN r)) else if whiteB c then 1 + skipF (r.length + 1) r else 0 := rfl
  rw [e]
  unfold skipN
  rw [skipF_more (r.length + 1) ((r.drop (lineN r)).length + 1) (r.drop (lineN r)) (by rw [List.length_drop]; omega) (by omega)]
/-- Behind white no white stands. -/
theorem skipN_skip : ∀ n (l : List UInt8), l.length ≤ n → skipN (l.drop (skipN l)) = 0
  | n, [], _ => rfl
  | 0, c :: r, h => by simp at h
  | n + 1, c :: r, h => by
    simp only [List.length_cons] at h
    rw [skipN_cons]
    split
    · have := skipN_skip n (r.drop (lineN r)) (by rw [List.length_drop]; omega)
      rw [show lineN r + 1 + skipN (r.drop (lineN r)) = (lineN r + skipN (r.drop (lineN r))) + 1 by omega, List.drop_succ_cons, ← List.drop_drop]
      exact this
    · split
      · rw [Nat.add_comm 1, List.drop_succ_cons]
        exact skipN_skip n r (by omega)
      · rename_i h1 h2
        rw [List.drop_zero, skipN_cons, if_neg h1, if_neg h2]
theorem textF_more : ∀ f g l, l.length < f → l.length < g → textF f l = textF g l
  | 0, g, l, h, _ => by omega
  | f + 1, 0, l, _, h => by omega
  | f + 1, g + 1, l, h1, h2 => by
    unfold textF
    cases l with
    | nil => rfl
    | cons c r =>
      simp only
      split
      · rfl
      · cases ho : oneL (c :: r) with
        | error e => rfl
        | ok x =>
          obtain ⟨b, n⟩ := x
          have := oneL_pos ho
          simp only [List.length_cons] at h1 h2 this
          simp only
          rw [textF_more f g ((c :: r).drop n) (by rw [List.length_drop, List.length_cons]; omega) (by rw [List.length_drop, List.length_cons]; omega)]
theorem setF_more : ∀ f g l, l.length < f → l.length < g → setF f l = setF g l
  | 0, g, l, h, _ => by omega
  | f + 1, 0, l, _, h => by omega
  | f + 1, g + 1, l, h1, h2 => by
    unfold setF
    cases l with
    | nil => rfl
    | cons c r =>
      simp only
      split
      · rfl
      · cases ho : oneL (c :: r) with
        | error e => rfl
        | ok x =>
          obtain ⟨a, n⟩ := x
          have := oneL_pos ho
          simp only [List.length_cons] at h1 h2 this
          simp only
          rw [setF_more f g ((c :: r).drop n) (by rw [List.length_drop, List.length_cons]; omega) (by rw [List.length_drop, List.length_cons]; omega)]
          split
          · cases ho2 : oneL ((c :: r).drop (n + 1)) with
            | error e => rfl
            | ok y =>
              obtain ⟨b, m⟩ := y
              simp only
              rw [setF_more f g ((c :: r).drop (n + 1 + m)) (by rw [List.length_drop, List.length_cons]; omega) (by rw [List.length_drop, List.length_cons]; omega)]
          · rfl
end Go.Proofs.Ytbiempopfmpohaa
