/-
  Plain facts of texts as lists of bytes: how many bytes two begin with alike, the longest text that all of a row begin with, how far two are apart, at how many places a part stands. Conditions: none but those that each names.
-/
import Derived.Laws.Strings2
namespace Go.Proofs.Ytbiempopfmpohaa

/-- A text's bytes. -/
def bl (s : ByteArray) : List UInt8 := s.data.toList
/-- The text of these bytes. -/
def mkS (l : List UInt8) : ByteArray := ⟨l.toArray⟩
theorem bl_mkS (l : List UInt8) : bl (mkS l) = l := by simp [bl, mkS]
theorem mkS_bl (s : ByteArray) : mkS (bl s) = s := by cases s; simp [bl, mkS]
theorem bl_inj {s t : ByteArray} (h : bl s = bl t) : s = t := by rw [← mkS_bl s, ← mkS_bl t, h]
theorem bl_length (s : ByteArray) : (bl s).length = s.size := by cases s; simp [bl, ByteArray.size]
theorem size_mkS (l : List UInt8) : (mkS l).size = l.length := by rw [← bl_length, bl_mkS]
theorem toList_bl (s : ByteArray) : s.toList = bl s := ByteArray.toList_eq s
theorem extract_bl (s : ByteArray) (a b : Nat) : s.extract a b = mkS (((bl s).drop a).take (b - a)) := by
  conv => lhs; rw [← mkS_bl s]
  exact ByteArray.extract_mk (bl s) a b
theorem extract_to (s : ByteArray) (n : Nat) : s.extract 0 n = mkS ((bl s).take n) := by
  rw [extract_bl]; simp
theorem extract_from (s : ByteArray) (n : Nat) : s.extract n s.size = mkS ((bl s).drop n) := by
  rw [extract_bl, ← bl_length, List.take_of_length_le (by rw [List.length_drop]; exact Nat.le_refl _)]
theorem bl_append (s t : ByteArray) : bl (s ++ t) = bl s ++ bl t := by simp [bl, ByteArray.data_append]
theorem eq_bl (s t : ByteArray) : (s.toList == t.toList) = decide (bl s = bl t) := by
  rw [toList_bl, toList_bl, Bool.eq_iff_iff]; simp

/-- How many bytes two texts begin with alike. -/
def lcpN : List UInt8 → List UInt8 → Nat
  | x :: a, y :: b => if x = y then lcpN a b + 1 else 0
  | _, _ => 0
theorem lcpN_le_left : ∀ a b, lcpN a b ≤ a.length
  | [], b => by simp [lcpN]
  | x :: a, [] => by simp [lcpN]
  | x :: a, y :: b => by
    rw [lcpN]
    have := lcpN_le_left a b
    split <;> simp <;> omega
theorem lcpN_symm : ∀ a b, lcpN a b = lcpN b a
  | [], [] => rfl
  | [], y :: b => rfl
  | x :: a, [] => rfl
  | x :: a, y :: b => by
    rw [lcpN, lcpN, lcpN_symm a b]
    by_cases h : x = y
    · rw [if_pos h, if_pos h.symm]
    · rw [if_neg h, if_neg fun e => h e.symm]
theorem lcpN_le_right (a b : List UInt8) : lcpN a b ≤ b.length := by rw [lcpN_symm]; exact lcpN_le_left b a
theorem lcpN_take : ∀ a b : List UInt8, a.take (lcpN a b) = b.take (lcpN a b)
  | [], b => by simp [lcpN]
  | x :: a, [] => by simp [lcpN]
  | x :: a, y :: b => by
    rw [lcpN]
    by_cases h : x = y
    · rw [if_pos h, List.take_succ_cons, List.take_succ_cons, lcpN_take a b, h]
    · rw [if_neg h]; rfl
theorem lcpN_max : ∀ a b k, k ≤ a.length → k ≤ b.length → a.take k = b.take k → k ≤ lcpN a b
  | a, b, 0, _, _, _ => Nat.zero_le _
  | [], b, k + 1, h, _, _ => by simp at h
  | x :: a, [], k + 1, _, h, _ => by simp at h
  | x :: a, y :: b, k + 1, h1, h2, e => by
    rw [List.take_succ_cons, List.take_succ_cons, List.cons.injEq] at e
    rw [lcpN, if_pos e.1]
    have := lcpN_max a b k (by simpa using h1) (by simpa using h2) e.2
    omega
theorem lcpN_eq (a b : List UInt8) (n : Nat) (h1 : n ≤ a.length) (h2 : n ≤ b.length) (h3 : a.take n = b.take n) (h4 : n < a.length → n < b.length → a[n]? ≠ b[n]?) : lcpN a b = n := by
  have hle := lcpN_max a b n h1 h2 h3
  rcases Nat.lt_or_ge n (lcpN a b) with h | h
  · exfalso
    have ha := lcpN_le_left a b
    have hb := lcpN_le_right a b
    refine h4 (by omega) (by omega) ?_
    have := congrArg (fun l => l[n]?) (lcpN_take a b)
    simpa [List.getElem?_take, h] using this
  · omega
theorem lcpN_self (a : List UInt8) : lcpN a a = a.length := lcpN_eq a a _ (Nat.le_refl _) (Nat.le_refl _) rfl (fun h => by omega)
theorem lcpN_drop (a b : List UInt8) : lcpN (a.drop (lcpN a b)) (b.drop (lcpN a b)) = 0 := by
  rcases Nat.eq_zero_or_pos (lcpN (a.drop (lcpN a b)) (b.drop (lcpN a b))) with h | h
  · exact h
  · exfalso
    generalize hn : lcpN a b = n at h
    have h1 := lcpN_le_left (a.drop n) (b.drop n)
    have h2 := lcpN_le_right (a.drop n) (b.drop n)
    have h3 := lcpN_take (a.drop n) (b.drop n)
    rw [List.length_drop] at h1 h2
    generalize lcpN (a.drop n) (b.drop n) = m at *
    have h4 := lcpN_take a b
    rw [hn] at h4
    have : n + m ≤ lcpN a b := lcpN_max a b (n + m) (by omega) (by omega) (by rw [List.take_add, List.take_add, h4, h3])
    omega
theorem lcpN_append : ∀ (f a b : List UInt8), lcpN (f ++ a) (f ++ b) = f.length + lcpN a b
  | [], a, b => by simp
  | x :: f, a, b => by
    rw [List.cons_append, List.cons_append, lcpN, if_pos rfl, lcpN_append f a b, List.length_cons]; omega
theorem lcpN_three (a b c : List UInt8) : min (lcpN a c) (lcpN c b) ≤ lcpN a b := by
  refine lcpN_max a b _ ?_ ?_ ?_
  · have := lcpN_le_left a c; omega
  · have := lcpN_le_right c b; omega
  · have h1 := congrArg (List.take (min (lcpN a c) (lcpN c b))) (lcpN_take a c)
    have h2 := congrArg (List.take (min (lcpN a c) (lcpN c b))) (lcpN_take c b)
    rw [List.take_take, List.take_take, Nat.min_eq_left (by omega)] at h1 h2
    exact h1.trans h2
theorem lcpN_apart (a b : List UInt8) (h1 : lcpN a b = 0) (h2 : a ≠ []) (h3 : b ≠ []) : a[0]? ≠ b[0]? := by
  cases a with
  | nil => exact absurd rfl h2
  | cons x a =>
    cases b with
    | nil => exact absurd rfl h3
    | cons y b =>
      rw [lcpN] at h1
      simp
      intro e
      rw [if_pos e] at h1
      omega

/-- How far two are apart. -/
def farN (a b : List UInt8) : Nat := (a.length - lcpN a b) + (b.length - lcpN a b)
theorem farN_symm (a b : List UInt8) : farN a b = farN b a := by
  unfold farN
  rw [lcpN_symm a b]
  omega
theorem farN_zero (a b : List UInt8) : farN a b = 0 ↔ a = b := by
  have h1 := lcpN_le_left a b
  have h2 := lcpN_le_right a b
  constructor
  · intro h
    unfold farN at h
    have h3 := lcpN_take a b
    rwa [List.take_of_length_le (by omega), List.take_of_length_le (by omega)] at h3
  · rintro rfl
    unfold farN
    rw [lcpN_self]
    omega
theorem farN_three (a b c : List UInt8) : farN a b ≤ farN a c + farN c b := by
  have h1 := lcpN_le_left a b
  have h2 := lcpN_le_right a b
  have h3 := lcpN_le_left a c
  have h4 := lcpN_le_right a c
  have h5 := lcpN_le_left c b
  have h6 := lcpN_le_right c b
  have h7 := lcpN_three a b c
  unfold farN
  omega

/-- Does a text begin with another one? -/
def beg (f s : List UInt8) : Bool := decide (s.take f.length = f)
theorem beg_iff (f s : List UInt8) : beg f s = true ↔ f <+: s := by
  unfold beg
  rw [decide_eq_true_iff, List.prefix_iff_eq_take]
  exact ⟨fun h => h.symm, fun h => h.symm⟩
theorem beg_len {f s : List UInt8} (h : beg f s = true) : f.length ≤ s.length := ((beg_iff f s).1 h).length_le
theorem beg_lcp (f s : List UInt8) : beg f s = true ↔ lcpN f s = f.length := by
  constructor
  · intro h
    have hl := beg_len h
    unfold beg at h
    rw [decide_eq_true_iff] at h
    exact lcpN_eq f s _ (Nat.le_refl _) hl (by rw [List.take_length, h]) (fun h => by omega)
  · intro h
    have := lcpN_take f s
    rw [h, List.take_length] at this
    unfold beg
    rw [decide_eq_true_iff]
    exact this.symm

/-- The longest text that all of the row begin with. -/
structure IsLcp (l : List (List UInt8)) (p : List UInt8) : Prop where
  all : ∀ s ∈ l, p <+: s
  max : ∀ q, (∀ s ∈ l, q <+: s) → q <+: p
theorem IsLcp.unique {l : List (List UInt8)} {p q : List UInt8} (h : IsLcp l p) (k : IsLcp l q) : p = q :=
  (k.max p h.all).eq_of_length (Nat.le_antisymm (k.max p h.all).length_le (h.max q k.all).length_le)
def lcpTo (x : List UInt8) : List (List UInt8) → List UInt8
  | [] => x
  | s :: r => lcpTo (x.take (lcpN x s)) r
def lcpL : List (List UInt8) → List UInt8
  | [] => []
  | x :: r => lcpTo x r
theorem prefix_lcpN (q a b : List UInt8) (h1 : q <+: a) (h2 : q <+: b) : q <+: a.take (lcpN a b) := by
  have e1 := List.prefix_iff_eq_take.1 h1
  have e2 := List.prefix_iff_eq_take.1 h2
  have := lcpN_max a b q.length h1.length_le h2.length_le (by rw [← e1, ← e2])
  rw [List.prefix_iff_eq_take, List.take_take, Nat.min_eq_left this]
  exact e1
theorem lcpTo_spec : ∀ (r : List (List UInt8)) (x : List UInt8), IsLcp (x :: r) (lcpTo x r)
  | [], x => ⟨fun s hs => by rw [List.mem_singleton] at hs; subst hs; exact List.prefix_refl _, fun q h => h x (List.mem_singleton.2 rfl)⟩
  | s :: r, x => by
    have ih := lcpTo_spec r (x.take (lcpN x s))
    have h0 : lcpTo (x.take (lcpN x s)) r <+: x.take (lcpN x s) := ih.all _ (List.mem_cons_self ..)
    refine ⟨fun t ht => ?_, fun q hq => ?_⟩
    · rw [lcpTo]
      rcases List.mem_cons.1 ht with rfl | ht
      · exact h0.trans (List.take_prefix _ _)
      · rcases List.mem_cons.1 ht with rfl | ht
        · rw [lcpN_take] at h0
          rw [lcpN_take]
          exact h0.trans (List.take_prefix _ _)
        · exact ih.all t (List.mem_cons_of_mem _ ht)
    · rw [lcpTo]
      refine ih.max q fun t ht => ?_
      rcases List.mem_cons.1 ht with rfl | ht
      · exact prefix_lcpN q x s (hq x (List.mem_cons_self ..)) (hq s (List.mem_cons_of_mem _ (List.mem_cons_self ..)))
      · exact hq t (List.mem_cons_of_mem _ (List.mem_cons_of_mem _ ht))
theorem lcpL_spec {l : List (List UInt8)} (h : l ≠ []) : IsLcp l (lcpL l) := by
  cases l with
  | nil => exact absurd rfl h
  | cons x r => exact lcpTo_spec r x
theorem lcpL_two (a b : List UInt8) : lcpL [a, b] = a.take (lcpN a b) := rfl
theorem lcpL_nil : lcpL [] = [] := rfl
/-- Lcp of two rows together is Lcp of what they begin with. -/
theorem lcpL_append {l m : List (List UInt8)} (h1 : l ≠ []) (h2 : m ≠ []) : lcpL (l ++ m) = lcpL [lcpL l, lcpL m] := by
  have s1 := lcpL_spec h1
  have s2 := lcpL_spec h2
  have s3 := lcpL_spec (l := [lcpL l, lcpL m]) (by simp)
  have s4 := lcpL_spec (l := l ++ m) (by simp [h1])
  refine s4.unique ⟨fun s hs => ?_, fun q hq => ?_⟩
  · rcases List.mem_append.1 hs with hs | hs
    · exact (s3.all _ (List.mem_cons_self ..)).trans (s1.all s hs)
    · exact (s3.all _ (List.mem_cons_of_mem _ (List.mem_singleton.2 rfl))).trans (s2.all s hs)
  · refine s3.max q fun s hs => ?_
    rcases List.mem_cons.1 hs with rfl | hs
    · exact s1.max q fun t ht => hq t (List.mem_append_left _ ht)
    · rw [List.mem_singleton] at hs
      subst hs
      exact s2.max q fun t ht => hq t (List.mem_append_right _ ht)
/-- As the reference looks for it: the greatest beginning of the first one that all begin with. -/
theorem lcpL_greatest {x : List UInt8} {r : List (List UInt8)} {n : Nat} (h1 : ∀ s ∈ x :: r, x.take n <+: s) (h2 : ∀ m, n < m → m ≤ x.length → ¬ ∀ s ∈ x :: r, x.take m <+: s) (hn : n ≤ x.length) : x.take n = lcpL (x :: r) := by
  have sp := lcpL_spec (l := x :: r) (by simp)
  have hp : lcpL (x :: r) <+: x := sp.all x (List.mem_cons_self ..)
  have e := List.prefix_iff_eq_take.1 hp
  rcases Nat.lt_or_ge n (lcpL (x :: r)).length with h | h
  · exact absurd (by rw [← e]; exact sp.all) (h2 _ h hp.length_le)
  · refine (sp.max _ h1).eq_of_length (Nat.le_antisymm (sp.max _ h1).length_le ?_)
    rw [List.length_take]
    omega

/-- At how many of the first n places a part stands. -/
def cntN (s p : List UInt8) : Nat → Nat
  | 0 => 0
  | n + 1 => cntN s p n + if beg p (s.drop n) then 1 else 0
theorem cntN_le (s p : List UInt8) : ∀ n, cntN s p n ≤ n
  | 0 => Nat.le_refl _
  | n + 1 => by
    have := cntN_le s p n
    rw [cntN]
    split <;> omega
end Go.Proofs.Ytbiempopfmpohaa
