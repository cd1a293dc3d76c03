/-
  Spans as pairs of whole numbers: whether one may be, the hull of two and of all, whether a row rises, a span through a row. Conditions: those that each names.
-/
namespace Go.Proofs.Ytbmkacleeboeeaa

abbrev Sp := Int × Int
def rt (s : Sp) (n : Int) : Bool := decide (0 ≤ s.1 ∧ s.1 ≤ s.2 ∧ s.2 ≤ n)
def hul (s t : Sp) : Sp := (min s.1 t.1, max s.2 t.2)
def hulls (s : Sp) (l : List Sp) : Sp := l.foldl hul s
def allS : List Sp → Sp
  | [] => (0, 0)
  | s :: r => hulls s r
def allE : List Sp → Int
  | [] => 7
  | _ :: _ => 0
theorem hulls_snoc (s : Sp) (l : List Sp) (x : Sp) : hulls s (l ++ [x]) = hul (hulls s l) x := by unfold hulls; rw [List.foldl_append]; rfl
theorem hulls_take (s : Sp) (l : List Sp) (k : Nat) (hk : k < l.length) : hulls s (l.take (k + 1)) = hul (hulls s (l.take k)) (l.getD k (0, 0)) := by
  rw [List.take_succ_eq_append_getElem hk, hulls_snoc]
  simp [List.getD, hk]

theorem allS_one (L : List Sp) (h : 0 < L.length) : allS (L.take 1) = L.getD 0 (0, 0) := by
  cases L with
  | nil => simp at h
  | cons s r => simp [allS, hulls]
theorem allS_take (L : List Sp) (j : Nat) (h1 : 1 ≤ j) (h : j < L.length) : allS (L.take (j + 1)) = hul (allS (L.take j)) (L.getD j (0, 0)) := by
  cases L with
  | nil => simp at h
  | cons s r =>
    obtain ⟨k, rfl⟩ : ∃ k, j = k + 1 := ⟨j - 1, by omega⟩
    have := hulls_take s r k (by simpa using h)
    simpa [allS] using this
theorem allE_pos {L : List Sp} (h : 0 < L.length) : allE L = 0 := by
  cases L with
  | nil => simp at h
  | cons s r => rfl

/-- Of each two that stand side by side from i on. -/
def risesAt (L : List Sp) (i : Nat) : Prop := (L.getD i (0, 0)).1 ≤ (L.getD (i + 1) (0, 0)).1 ∧ (L.getD i (0, 0)).2 ≤ (L.getD (i + 1) (0, 0)).2
noncomputable def rise (L : List Sp) : Bool := @decide (∀ i, i + 1 < L.length → risesAt L i) (Classical.propDecidable _)
theorem rise_true {L : List Sp} (h : ∀ i, i + 1 < L.length → risesAt L i) : rise L = true := by unfold rise; exact @decide_eq_true _ (Classical.propDecidable _) h
theorem rise_false {L : List Sp} {i : Nat} (hi : i + 1 < L.length) (h : ¬ risesAt L i) : rise L = false := by unfold rise; exact @decide_eq_false _ (Classical.propDecidable _) fun k => h (k i hi)

/-- May all be? -/
noncomputable def rts (L : List Sp) (n : Int) : Bool := @decide (∀ i, i < L.length → rt (L.getD i (0, 0)) n = true) (Classical.propDecidable _)
theorem rts_true {L : List Sp} {n : Int} (h : ∀ i, i < L.length → rt (L.getD i (0, 0)) n = true) : rts L n = true := by unfold rts; exact @decide_eq_true _ (Classical.propDecidable _) h
theorem rts_false {L : List Sp} {n : Int} {i : Nat} (hi : i < L.length) (h : rt (L.getD i (0, 0)) n = false) : rts L n = false := by
  unfold rts
  exact @decide_eq_false _ (Classical.propDecidable _) fun k => by have := k i hi; rw [h] at this; cases this

def part (L : List Sp) (a b : Nat) : List Sp := (L.drop a).take (b - a)
/-- The place of an empty span. -/
def spot (L : List Sp) (s : Sp) : Int := if 0 < s.1 then (L.getD (s.1 - 1).toNat (0, 0)).2 else if 0 < L.length then (L.getD 0 (0, 0)).1 else 0
noncomputable def thOk (L : List Sp) (s : Sp) (n : Int) : Bool := decide (0 ≤ n) && rts L n && rt s L.length
noncomputable def thS (L : List Sp) (s : Sp) (n : Int) : Sp := if thOk L s n = true then (if s.1 < s.2 then allS (part L s.1.toNat s.2.toNat) else (spot L s, spot L s)) else (0, 0)
noncomputable def thE (L : List Sp) (s : Sp) (n : Int) : Int := if thOk L s n = true then 0 else 1
theorem th_neg {L : List Sp} {s : Sp} {n : Int} (h : n < 0) : thS L s n = (0, 0) ∧ thE L s n = 1 := by
  have : thOk L s n = false := by unfold thOk; rw [decide_eq_false (by omega)]; rfl
  unfold thS thE
  rw [this]
  exact ⟨rfl, rfl⟩
theorem th_row {L : List Sp} {s : Sp} {n : Int} (h : rts L n = false) : thS L s n = (0, 0) ∧ thE L s n = 1 := by
  have : thOk L s n = false := by unfold thOk; rw [h, Bool.and_false]; rfl
  unfold thS thE
  rw [this]
  exact ⟨rfl, rfl⟩
theorem th_span {L : List Sp} {s : Sp} {n : Int} (h : rt s L.length = false) : thS L s n = (0, 0) ∧ thE L s n = 1 := by
  have : thOk L s n = false := by unfold thOk; rw [h, Bool.and_false]
  unfold thS thE
  rw [this]
  exact ⟨rfl, rfl⟩
theorem th_ok {L : List Sp} {s : Sp} {n : Int} (h1 : 0 ≤ n) (h2 : rts L n = true) (h3 : rt s L.length = true) : thOk L s n = true := by
  unfold thOk
  rw [decide_eq_true h1, h2, h3]
  rfl
theorem th_part {L : List Sp} {s : Sp} {n : Int} (h : thOk L s n = true) (hs : s.1 < s.2) : thS L s n = allS (part L s.1.toNat s.2.toNat) ∧ thE L s n = 0 := by
  unfold thS thE
  rw [if_pos h, if_pos hs, if_pos h]
  exact ⟨rfl, rfl⟩
theorem th_spot {L : List Sp} {s : Sp} {n : Int} (h : thOk L s n = true) (hs : ¬ s.1 < s.2) : thS L s n = (spot L s, spot L s) ∧ thE L s n = 0 := by
  unfold thS thE
  rw [if_pos h, if_neg hs, if_pos h]
  exact ⟨rfl, rfl⟩
theorem rt_spec {s : Sp} {n : Int} : rt s n = true ↔ 0 ≤ s.1 ∧ s.1 ≤ s.2 ∧ s.2 ≤ n := by unfold rt; rw [decide_eq_true_iff]
theorem part_length (L : List Sp) (a b : Nat) (hb : b ≤ L.length) : (part L a b).length = b - a := by
  unfold part
  rw [List.length_take, List.length_drop]
  omega
theorem part_get (L : List Sp) (a b i : Nat) (hi : i < b - a) : (part L a b).getD i (0, 0) = L.getD (a + i) (0, 0) := by
  unfold part
  simp [List.getD, hi, List.getElem?_drop]
end Go.Proofs.Ytbmkacleeboeeaa
