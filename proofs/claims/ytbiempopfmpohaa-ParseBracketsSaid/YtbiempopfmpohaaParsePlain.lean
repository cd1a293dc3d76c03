/-
  Tokens parsed, in plain terms: expressions as trees, the grammar with a bound on its steps, and what a token behind that ends it changes. Conditions: those that each names.
-/
import Derived.Test.YtbiempopfmpohaaLexPlain
namespace Go.Proofs.Ytbiempopfmpohaa

/-- An expression. -/
inductive Rx where
  | mk (kind : Int) (text : List UInt8) (set : Nat → Bool) (parts : List Rx) (lo hi : Int)
def noSet : Nat → Bool := fun _ => false
def allSet : Nat → Bool := fun _ => true
def Rx.rep (lo hi : Int) (a : Rx) : Rx := .mk 8 [] noSet [a] lo hi
def Rx.not (a : Rx) : Rx := .mk 7 [] noSet [a] 0 0
/-- Parts, or one alone. -/
def tog (k : Int) : List Rx → Rx
  | [x] => x
  | l => .mk k [] noSet l 0 0
/-- Is the first token this sign? -/
def sgn (s : List UInt8) : List Tk → Bool
  | [] => false
  | t :: _ => t.kind == 4 && t.text == s
/-- Names that are none. -/
def keyB (s : List UInt8) : Bool := s == [100, 101, 102] || s == [109, 97, 112] || s == [116, 111, 107, 101, 110] || s == [114, 117, 108, 101] || s == [95]
/-- An atom without brackets. -/
def atomT (t : Tk) : Option Rx :=
  if t.kind = 2 then some (.mk 1 t.text noSet [] 0 0)
  else if t.kind = 3 then some (.mk 2 [] t.set [] 0 0)
  else if t.kind = 4 ∧ t.text = [46] then some (.mk 2 [] allSet [] 0 0)
  else if t.kind = 1 ∧ keyB t.text = false then some (.mk 3 t.text noSet [] 0 0)
  else none
/-- Can an expression begin here? -/
def begB : List Tk → Bool
  | [] => false
  | t :: _ => (atomT t).isSome || (t.kind == 4 && (t.text == [40] || t.text == [33]))
abbrev PAns (α : Type) := Except (Nat × List Tk) (α × List Tk)
def numF (least : Nat) : List Tk → Option (Nat × List Tk)
  | [] => none
  | t :: R => if t.kind = 5 ∧ t.num ≤ 64 ∧ least ≤ t.num then some (t.num, R) else none
/-- Behind an atom: how often. -/
def postF (a : Rx) (R : List Tk) : PAns Rx :=
  if sgn [42] R then .ok (.rep 0 (-1) a, R.tail)
  else if sgn [43] R then .ok (.rep 1 (-1) a, R.tail)
  else if sgn [63] R then .ok (.rep 0 1 a, R.tail)
  else if sgn [123] R then match numF 0 R.tail with
    | none => .error (4, R.tail)
    | some (m, R1) =>
      if sgn [44] R1 then match numF m R1.tail with
        | none => .error (4, R1.tail)
        | some (k, R2) => if sgn [125] R2 then .ok (.rep m k a, R2.tail) else .error (4, R2)
      else if sgn [125] R1 then .ok (.rep m m a, R1.tail) else .error (4, R1)
  else .ok (a, R)

inductive NT where
  | reL | andL | catL | not | atom
/-- The grammar: so many steps, so deep. 99: the steps are used up. -/
def parse : Nat → NT → Nat → List Tk → PAns (List Rx)
  | 0, _, _, T => .error (99, T)
  | n + 1, .reL, d, T => match parse n .andL d T with
    | .error x => .error x
    | .ok (l, R) => if sgn [124] R then match parse n .reL d R.tail with
        | .error x => .error x
        | .ok (l', R') => .ok (tog 6 l :: l', R')
      else .ok ([tog 6 l], R)
  | n + 1, .andL, d, T => match parse n .catL d T with
    | .error x => .error x
    | .ok (l, R) => if sgn [38] R then match parse n .andL d R.tail with
        | .error x => .error x
        | .ok (l', R') => .ok (tog 4 l :: l', R')
      else .ok ([tog 4 l], R)
  | n + 1, .catL, d, T => match parse n .not d T with
    | .error x => .error x
    | .ok (l, R) => if begB R then match parse n .catL d R with
        | .error x => .error x
        | .ok (l', R') => .ok (l ++ l', R')
      else .ok (l, R)
  | n + 1, .not, d, T =>
    if sgn [33] T then
      if 32 ≤ d then .error (8, T)
      else match parse n .not (d + 1) T.tail with
        | .error x => .error x
        | .ok (l, R) => .ok ([.not (tog 4 l)], R)
    else match parse n .atom d T with
      | .error x => .error x
      | .ok (l, R) => match postF (tog 4 l) R with
        | .error x => .error x
        | .ok (a, R') => .ok ([a], R')
  | n + 1, .atom, d, T =>
    if sgn [40] T then
      if 32 ≤ d then .error (8, T)
      else match parse n .reL (d + 1) T.tail with
        | .error x => .error x
        | .ok (l, R) => if sgn [41] R then .ok ([tog 5 l], R.tail) else .error (4, R)
    else match T with
      | [] => .error (4, T)
      | t :: R => match atomT t with
        | none => .error (4, T)
        | some a => .ok ([a], R)

/-- A token that ends an expression. -/
def stopE (E : List Tk) : Prop := ∃ e E', E = e :: E' ∧ e.kind = 4 ∧ (e.text = [41] ∨ e.text = [59])
theorem sgn_ext {E : List Tk} (hE : stopE E) {s : List UInt8} (h1 : s ≠ [41]) (h2 : s ≠ [59]) : ∀ R : List Tk, sgn s (R ++ E) = sgn s R
  | [] => by
    obtain ⟨e, E', rfl, hk, ht⟩ := hE
    show (e.kind == 4 && e.text == s) = false
    rcases ht with ht | ht
    · rw [ht]; simp; intro _ h; exact h1 h.symm
    · rw [ht]; simp; intro _ h; exact h2 h.symm
  | t :: R => rfl
theorem sgn_pos {s : List UInt8} {R : List Tk} (h : sgn s R = true) : ∃ t R', R = t :: R' := by
  cases R with
  | nil => cases h
  | cons t R' => exact ⟨t, R', rfl⟩
theorem sgn_front {s : List UInt8} {R E : List Tk} (h : sgn s R = true) : sgn s (R ++ E) = true ∧ (R ++ E).tail = R.tail ++ E := by
  obtain ⟨t, R', rfl⟩ := sgn_pos h
  exact ⟨h, rfl⟩
theorem beg_ext {E : List Tk} (hE : stopE E) : ∀ R : List Tk, begB (R ++ E) = begB R
  | [] => by
    obtain ⟨e, E', rfl, hk, ht⟩ := hE
    show ((atomT e).isSome || (e.kind == 4 && (e.text == [40] || e.text == [33]))) = false
    rcases ht with ht | ht <;> simp [atomT, hk, ht]
  | t :: R => rfl
theorem num_ext (E : List Tk) {least : Nat} {R : List Tk} {x : Nat × List Tk} (h : numF least R = some x) : numF least (R ++ E) = some (x.1, x.2 ++ E) := by
  cases R with
  | nil => cases h
  | cons t R =>
    simp only [numF, List.cons_append] at h ⊢
    split at h
    · rename_i hc
      obtain rfl := Option.some.inj h
      rw [if_pos hc]
    · cases h
theorem post_ext {E : List Tk} (hE : stopE E) {a x : Rx} {R Q : List Tk} (h : postF a R = .ok (x, Q)) : postF a (R ++ E) = .ok (x, Q ++ E) := by
  unfold postF at h ⊢
  rw [sgn_ext hE (by decide) (by decide), sgn_ext hE (by decide) (by decide), sgn_ext hE (by decide) (by decide), sgn_ext hE (by decide) (by decide)]
  split
  · rename_i hc
    rw [if_pos hc] at h
    cases h
    rw [(sgn_front hc).2]
  rename_i n1
  rw [if_neg n1] at h
  split
  · rename_i hc
    rw [if_pos hc] at h
    cases h
    rw [(sgn_front hc).2]
  rename_i n2
  rw [if_neg n2] at h
  split
  · rename_i hc
    rw [if_pos hc] at h
    cases h
    rw [(sgn_front hc).2]
  rename_i n3
  rw [if_neg n3] at h
  split
  · rename_i hc
    rw [if_pos hc] at h
    rw [(sgn_front hc).2]
    cases hn : numF 0 R.tail with
    | none => rw [hn] at h; cases h
    | some p =>
      obtain ⟨m, R1⟩ := p
      rw [hn] at h
      rw [num_ext E hn]
      simp only at h ⊢
      rw [sgn_ext hE (by decide) (by decide), sgn_ext hE (by decide) (by decide)]
      split
      · rename_i hc1
        rw [if_pos hc1] at h
        rw [(sgn_front hc1).2]
        cases hn2 : numF m R1.tail with
        | none => rw [hn2] at h; cases h
        | some p =>
          obtain ⟨k, R2⟩ := p
          rw [hn2] at h
          rw [num_ext E hn2]
          simp only at h ⊢
          rw [sgn_ext hE (by decide) (by decide)]
          split
          · rename_i hc2
            rw [if_pos hc2] at h
            cases h
            rw [(sgn_front hc2).2]
          · rename_i hc2
            rw [if_neg hc2] at h
            cases h
      · rename_i hc1
        rw [if_neg hc1] at h
        split
        · rename_i hc2
          rw [if_pos hc2] at h
          cases h
          rw [(sgn_front hc2).2]
        · rename_i hc2
          rw [if_neg hc2] at h
          cases h
  rename_i n4
  rw [if_neg n4] at h
  cases h
  rfl
end Go.Proofs.Ytbiempopfmpohaa
