/-
  Texts and sets, written, are read as themselves, whatever stands behind. Conditions: none.
-/
import Derived.Test.YtbiempopfmpohaaLexFacts
import Derived.Test.YtbiempopfmpohaaSetWs
namespace Go.Proofs.Ytbiempopfmpohaa

/-- A digit in sixteens. -/
def hexD (n : Nat) : UInt8 := if n < 10 then UInt8.ofNat (48 + n) else UInt8.ofNat (87 + n)
/-- A byte, written. -/
def byteL (c : UInt8) : List UInt8 :=
  if plainB c then [c] else if sixB c then [92, c] else if c = 10 then [92, 110] else if c = 9 then [92, 116] else if c = 13 then [92, 114] else [92, 120, hexD (c.toNat / 16), hexD (c.toNat % 16)]
def textW (b : List UInt8) : List UInt8 := 34 :: (b.flatMap byteL ++ [34])
def rowW (r : Nat × Nat) : List UInt8 := byteL (UInt8.ofNat r.1) ++ if r.2 = r.1 then [] else 45 :: byteL (UInt8.ofNat r.2)
def rowsW (l : List (Nat × Nat)) : List UInt8 := l.flatMap rowW
def setW (S : Nat → Bool) : List UInt8 := if 128 < cnt S 256 then 91 :: 94 :: (rowsW (rowsOf (neg S)) ++ [93]) else 91 :: (rowsW (rowsOf S) ++ [93])

def goodB (c : UInt8) : Bool := (match oneL (byteL c) with | .ok (b, n) => b == c && n == (byteL c).length | .error _ => false) && (match byteL c with | [] => false | h :: _ => h != 34 && h != 93 && h != 45 && h != 94)
theorem good_all : ∀ n : Fin 256, goodB (UInt8.ofNat n.val) = true := by decide +kernel
theorem good (c : UInt8) : goodB c = true := by
  have := good_all ⟨c.toNat, UInt8.toNat_lt c⟩
  simpa using this
theorem oneL_byte (c : UInt8) (r : List UInt8) : oneL (byteL c ++ r) = .ok (c, (byteL c).length) := by
  apply oneL_append
  have h := good c
  unfold goodB at h
  rw [Bool.and_eq_true] at h
  have h1 := h.1
  cases ho : oneL (byteL c) with
  | error e => rw [ho] at h1; cases h1
  | ok x =>
    obtain ⟨b, n⟩ := x
    rw [ho] at h1
    simp only [Bool.and_eq_true, beq_iff_eq] at h1
    rw [h1.1, h1.2]
theorem byteL_head (c : UInt8) : ∃ h t, byteL c = h :: t ∧ h ≠ 34 ∧ h ≠ 93 ∧ h ≠ 45 ∧ h ≠ 94 := by
  have h := good c
  unfold goodB at h
  rw [Bool.and_eq_true] at h
  have h1 := h.2
  cases hb : byteL c with
  | nil => rw [hb] at h1; cases h1
  | cons a t =>
    rw [hb] at h1
    simp only [Bool.and_eq_true, bne_iff_ne, ne_eq] at h1
    exact ⟨a, t, rfl, h1.1.1.1, h1.1.1.2, h1.1.2, h1.2⟩

theorem textF_back (rest : List UInt8) : ∀ (b : List UInt8) f, (b.flatMap byteL ++ 34 :: rest).length < f → textF f (b.flatMap byteL ++ 34 :: rest) = .ok (b, (b.flatMap byteL).length + 1)
  | [], f, h => by
    match f, h with
    | f + 1, _ => rfl
  | c :: b, f, h => by
    match f, h with
    | f + 1, h =>
      have e : (c :: b).flatMap byteL ++ 34 :: rest = byteL c ++ (b.flatMap byteL ++ 34 :: rest) := by simp
      obtain ⟨hd, t, hb, h34, _⟩ := byteL_head c
      rw [e] at h ⊢
      have ho := oneL_byte c (b.flatMap byteL ++ 34 :: rest)
      have hl : 0 < (byteL c).length := by rw [hb]; simp
      rw [List.length_append] at h
      have ih := textF_back rest b f (by omega)
      have hd' : (byteL c ++ (b.flatMap byteL ++ 34 :: rest)).drop (byteL c).length = b.flatMap byteL ++ 34 :: rest := List.drop_left
      rw [show byteL c ++ (b.flatMap byteL ++ 34 :: rest) = hd :: (t ++ (b.flatMap byteL ++ 34 :: rest)) by rw [hb]; rfl] at ho hd' ⊢
      rw [textF_cons, if_neg h34, ho]
      simp only
      rw [hd', ih]
      simp only [List.flatMap_cons, List.length_append]
      rw [Nat.add_assoc]
theorem setF_back (rest : List UInt8) : ∀ (l : List (Nat × Nat)) f, (∀ r ∈ l, r.1 ≤ r.2 ∧ r.2 ≤ 255) → (rowsW l ++ 93 :: rest).length < f → setF f (rowsW l ++ 93 :: rest) = .ok (l.map fun r => (UInt8.ofNat r.1, UInt8.ofNat r.2), (rowsW l).length + 1)
  | [], f, _, h => by
    match f, h with
    | f + 1, _ => rfl
  | r :: l, f, hr, h => by
    match f, h with
    | f + 1, h =>
      obtain ⟨h1, h2⟩ := hr r (List.mem_cons_self ..)
      have ihr := setF_back rest l f (fun q hq => hr q (List.mem_cons_of_mem _ hq))
      obtain ⟨hd, t, hb, _, h93, _⟩ := byteL_head (UInt8.ofNat r.1)
      have hl : 0 < (byteL (UInt8.ofNat r.1)).length := by rw [hb]; simp
      have hn : (rowsW l ++ 93 :: rest).head? ≠ some 45 := by
        cases l with
        | nil => simp [rowsW]
        | cons q l =>
          obtain ⟨hq, tq, hbq, _, _, h45, _⟩ := byteL_head (UInt8.ofNat q.1)
          simp only [rowsW, List.flatMap_cons, rowW, hbq]
          simpa using h45
      by_cases he : r.2 = r.1
      · have e : rowsW (r :: l) ++ 93 :: rest = byteL (UInt8.ofNat r.1) ++ (rowsW l ++ 93 :: rest) := by simp [rowsW, rowW, he]
        rw [e] at h ⊢
        rw [List.length_append] at h
        have ih := ihr (by omega)
        have ho := oneL_byte (UInt8.ofNat r.1) (rowsW l ++ 93 :: rest)
        have hd' : (byteL (UInt8.ofNat r.1) ++ (rowsW l ++ 93 :: rest)).drop (byteL (UInt8.ofNat r.1)).length = rowsW l ++ 93 :: rest := List.drop_left
        have hlen : (rowsW (r :: l)).length = (byteL (UInt8.ofNat r.1)).length + (rowsW l).length := by simp [rowsW, rowW, he]
        rw [hlen]
        rw [show byteL (UInt8.ofNat r.1) ++ (rowsW l ++ 93 :: rest) = hd :: (t ++ (rowsW l ++ 93 :: rest)) by rw [hb]; rfl] at ho hd' ⊢
        rw [setF_cons, if_neg h93, ho]
        simp only
        rw [hd', if_neg hn, ih, List.map_cons, he]
        simp only
        rw [Nat.add_assoc]
      · have e : rowsW (r :: l) ++ 93 :: rest = byteL (UInt8.ofNat r.1) ++ 45 :: (byteL (UInt8.ofNat r.2) ++ (rowsW l ++ 93 :: rest)) := by simp [rowsW, rowW, he]
        rw [e] at h ⊢
        rw [List.length_append, List.length_cons, List.length_append] at h
        have ih := ihr (by omega)
        have ho := oneL_byte (UInt8.ofNat r.1) (45 :: (byteL (UInt8.ofNat r.2) ++ (rowsW l ++ 93 :: rest)))
        have hd' : (byteL (UInt8.ofNat r.1) ++ 45 :: (byteL (UInt8.ofNat r.2) ++ (rowsW l ++ 93 :: rest))).drop (byteL (UInt8.ofNat r.1)).length = 45 :: (byteL (UInt8.ofNat r.2) ++ (rowsW l ++ 93 :: rest)) := List.drop_left
        have hd2 : (byteL (UInt8.ofNat r.1) ++ 45 :: (byteL (UInt8.ofNat r.2) ++ (rowsW l ++ 93 :: rest))).drop ((byteL (UInt8.ofNat r.1)).length + 1) = byteL (UInt8.ofNat r.2) ++ (rowsW l ++ 93 :: rest) := by
          rw [← List.drop_drop, hd']; rfl
        have hd3 : (byteL (UInt8.ofNat r.1) ++ 45 :: (byteL (UInt8.ofNat r.2) ++ (rowsW l ++ 93 :: rest))).drop ((byteL (UInt8.ofNat r.1)).length + 1 + (byteL (UInt8.ofNat r.2)).length) = rowsW l ++ 93 :: rest := by
          rw [← List.drop_drop, hd2, List.drop_left]
        have hlen : (rowsW (r :: l)).length = (byteL (UInt8.ofNat r.1)).length + 1 + (byteL (UInt8.ofNat r.2)).length + (rowsW l).length := by simp [rowsW, rowW, he]; omega
        have hba : ¬ UInt8.ofNat r.2 < UInt8.ofNat r.1 := by
          rw [UInt8.lt_iff_toNat_lt]
          simp
          omega
        rw [hlen]
        rw [show byteL (UInt8.ofNat r.1) ++ 45 :: (byteL (UInt8.ofNat r.2) ++ (rowsW l ++ 93 :: rest)) = hd :: (t ++ 45 :: (byteL (UInt8.ofNat r.2) ++ (rowsW l ++ 93 :: rest))) by rw [hb]; rfl] at ho hd' hd2 hd3 ⊢
        rw [setF_cons, if_neg h93, ho]
        simp only
        rw [hd', List.head?_cons, if_pos rfl, hd2, oneL_byte]
        simp only
        rw [if_neg hba, hd3, ih, List.map_cons]
        simp only
        rw [Nat.add_assoc _ _ 1]
theorem tokL_quote (r : List UInt8) : tokL (34 :: r) = match textF (r.length + 1) r with
    | .error e => .error e
    | .ok (t, k) => if 256 < t.length then .error 2 else .ok ({ Tk.none with kind := 2, text := t }, 1 + k) := rfl
theorem tokL_bracket (r : List UInt8) : tokL (91 :: r) = if r.head? = some 94 then match setF (r.length + 1) (r.drop 1) with
      | .error e => .error e
      | .ok (t, k) => .ok ({ Tk.none with kind := 3, set := fun x => decide (x < 256) && !inRows t x }, 2 + k)
    else match setF (r.length + 1) r with
      | .error e => .error e
      | .ok (t, k) => .ok ({ Tk.none with kind := 3, set := fun x => inRows t x }, 1 + k) := rfl
/-- A text, written, and read. -/
theorem tok_text (b rest : List UInt8) : tokL (textW b ++ rest) = if 256 < b.length then .error 2 else .ok ({ Tk.none with kind := 2, text := b }, (textW b).length) := by
  have e : textW b ++ rest = 34 :: (b.flatMap byteL ++ 34 :: rest) := by simp [textW]
  rw [e]
  rw [tokL_quote, textF_back rest b _ (Nat.lt_succ_self _)]
  simp only
  have : (textW b).length = 1 + ((b.flatMap byteL).length + 1) := by simp [textW]; omega
  rw [this]
theorem rows_bound (S : Nat → Bool) : ∀ r ∈ rowsOf S, r.1 ≤ r.2 ∧ r.2 ≤ 255 := fun r hr => by
  obtain ⟨i, hi, rfl⟩ := List.mem_iff_getElem.1 hr
  have := (rowsOf_ok S).at i hi
  simp [List.getD, hi] at this
  exact this
theorem inRows_of (S : Nat → Bool) (x : Nat) (hx : x < 256) : inRows ((rowsOf S).map fun r => (UInt8.ofNat r.1, UInt8.ofNat r.2)) x = S x := by
  rw [← accOf_rows S x hx, accOf_any]
  unfold inRows
  rw [List.any_map]
  rw [Bool.eq_iff_iff, List.any_eq_true, List.any_eq_true]
  have key : ∀ r ∈ rowsOf S, ((fun r : UInt8 × UInt8 => decide (r.1.toNat ≤ x) && decide (x ≤ r.2.toNat)) ∘ fun r : Nat × Nat => (UInt8.ofNat r.1, UInt8.ofNat r.2)) r = fromTo r.1 (r.2 + 1) x := fun r hr => by
    have h := rows_bound S r hr
    have e1 : (UInt8.ofNat r.1).toNat = r.1 := by simp; omega
    have e2 : (UInt8.ofNat r.2).toNat = r.2 := by simp; omega
    simp only [Function.comp, e1, e2, fromTo]
    rw [Bool.eq_iff_iff]
    simp
    omega
  exact ⟨fun ⟨r, hr, h⟩ => ⟨r, hr, by rw [← key r hr]; exact h⟩, fun ⟨r, hr, h⟩ => ⟨r, hr, by rw [key r hr]; exact h⟩⟩
/-- A set, written, and read. -/
theorem tok_set (S : Nat → Bool) (rest : List UInt8) : ∃ T : Nat → Bool, (∀ x, x < 256 → T x = S x) ∧ tokL (setW S ++ rest) = .ok ({ Tk.none with kind := 3, set := T }, (setW S).length) := by
  unfold setW
  by_cases h : 128 < cnt S 256
  · rw [if_pos h]
    have e : (91 :: 94 :: (rowsW (rowsOf (neg S)) ++ [93])) ++ rest = 91 :: 94 :: (rowsW (rowsOf (neg S)) ++ 93 :: rest) := by simp
    have hl : (91 :: 94 :: (rowsW (rowsOf (neg S)) ++ [93])).length = 2 + ((rowsW (rowsOf (neg S))).length + 1) := by simp; omega
    rw [e, hl]
    refine ⟨fun x => decide (x < 256) && !inRows ((rowsOf (neg S)).map fun r => (UInt8.ofNat r.1, UInt8.ofNat r.2)) x, fun x hx => ?_, ?_⟩
    · simp only
      rw [inRows_of (neg S) x hx]
      simp [hx, neg]
    · rw [tokL_bracket, List.head?_cons, if_pos rfl, List.drop_succ_cons, List.drop_zero, setF_back rest (rowsOf (neg S)) _ (rows_bound _) (by rw [List.length_cons]; omega)]
  · rw [if_neg h]
    have e : (91 :: (rowsW (rowsOf S) ++ [93])) ++ rest = 91 :: (rowsW (rowsOf S) ++ 93 :: rest) := by simp
    have hl : (91 :: (rowsW (rowsOf S) ++ [93])).length = 1 + ((rowsW (rowsOf S)).length + 1) := by simp; omega
    have hn : (rowsW (rowsOf S) ++ 93 :: rest).head? ≠ some 94 := by
      cases rowsOf S with
      | nil => simp [rowsW]
      | cons q l =>
        obtain ⟨hq, tq, hbq, _, _, _, h94⟩ := byteL_head (UInt8.ofNat q.1)
        simp only [rowsW, List.flatMap_cons, rowW, hbq]
        simpa using h94
    rw [e, hl]
    refine ⟨fun x => inRows ((rowsOf S).map fun r => (UInt8.ofNat r.1, UInt8.ofNat r.2)) x, fun x hx => inRows_of S x hx, ?_⟩
    rw [tokL_bracket, if_neg hn, setF_back rest (rowsOf S) _ (rows_bound _) (Nat.lt_succ_self _)]
end Go.Proofs.Ytbiempopfmpohaa
