/-
  The row in which each byte stands at its own place, and a span through it; a span parted in two. Conditions: those that each names.
-/
import Derived.Test.YtbmkacleeboeeaaSpanAwake
import Derived.Laws.AppendOwn
import Derived.Laws.OwnMore
import Derived.OwnWalk
import Derived.WalkSmall
namespace Go.Proofs.Ytbmkacleeboeeaa
open Go.RowKit

def ownL (n : Nat) : List Sp := (List.range n).map fun i : Nat => ((i : Int), (i : Int) + 1)
theorem ownL_length (n : Nat) : (ownL n).length = n := by simp [ownL]
theorem ownL_get (n i : Nat) (h : i < n) : (ownL n).getD i (0, 0) = ((i : Int), (i : Int) + 1) := by simp [ownL, List.getD, h]
theorem ownL_succ (k : Nat) : ownL (k + 1) = ownL k ++ [((k : Int), (k : Int) + 1)] := by unfold ownL; rw [List.range_succ, List.map_append]; rfl

theorem own_sum (n p : Nat) : ∀ j : Nat, 1 ≤ j → p + j ≤ n → allS ((part (ownL n) p n).take j) = ((p : Int), (p : Int) + j)
  | 0, h, _ => absurd h (by decide)
  | 1, _, h => by
    have hl := part_length (ownL n) p n (by rw [ownL_length]; exact Nat.le_refl _)
    rw [allS_one _ (by omega), part_get _ _ _ _ (by omega), Nat.add_zero, ownL_get n p (by omega)]
    rfl
  | j + 2, _, h => by
    have hl := part_length (ownL n) p n (by rw [ownL_length]; exact Nat.le_refl _)
    rw [allS_take _ (j + 1) (by omega) (by omega), own_sum n p (j + 1) (by omega) (by omega), part_get _ _ _ _ (by omega), ownL_get n _ (by omega)]
    unfold hul
    refine Prod.ext ?_ ?_ <;> simp only <;> omega
theorem part_part (L : List Sp) (p q n : Nat) (h : q ≤ n) : part L p q = (part L p n).take (q - p) := by
  unfold part
  rw [List.take_take, Nat.min_eq_left (by omega)]
theorem th_own (n : Nat) (s : Sp) : (rt s n = true → thS (ownL n) s n = s ∧ thE (ownL n) s n = 0) ∧ (rt s n = false → thS (ownL n) s n = (0, 0) ∧ thE (ownL n) s n = 1) := by
  constructor
  · intro h
    have ok : thOk (ownL n) s n = true := th_ok (by omega) (rts_true fun i hi => by
      rw [ownL_length] at hi
      rw [ownL_get n i hi]
      exact rt_t (by omega) (by omega) (by omega)) (by rw [ownL_length]; exact h)
    obtain ⟨h1, h2, h3⟩ := rt_spec.1 h
    obtain ⟨a, b⟩ := s
    simp only at h1 h2 h3
    obtain ⟨p, rfl⟩ : ∃ p : Nat, a = p := ⟨a.toNat, by omega⟩
    obtain ⟨q, rfl⟩ : ∃ q : Nat, b = q := ⟨b.toNat, by omega⟩
    by_cases hpq : (p : Int) < (q : Int)
    · obtain ⟨e1, e2⟩ := th_part ok hpq
      refine ⟨?_, e2⟩
      rw [e1]
      simp only [Int.toNat_natCast]
      rw [part_part _ _ _ n (by omega), own_sum n p (q - p) (by omega) (by omega)]
      refine Prod.ext rfl ?_
      simp only
      omega
    · obtain ⟨e1, e2⟩ := th_spot ok hpq
      refine ⟨?_, e2⟩
      rw [e1]
      obtain rfl : q = p := by omega
      have : spot (ownL n) ((q : Int), (q : Int)) = (q : Int) := by
        unfold spot
        by_cases hq : 0 < q
        · rw [if_pos (by simp only; omega), show ((q : Int) - 1).toNat = q - 1 by omega, ownL_get n _ (by omega)]
          simp only
          omega
        · obtain rfl : q = 0 := by omega
          rw [if_neg (by simp)]
          by_cases hn : 0 < n
          · rw [if_pos (by rw [ownL_length]; exact hn), ownL_get n 0 hn]
          · rw [if_neg (by rw [ownL_length]; exact hn)]
            rfl
      rw [this]
  · intro h
    exact th_span (by rw [ownL_length]; exact h)

theorem hul_assoc (s t u : Sp) : hul s (hul t u) = hul (hul s t) u := by unfold hul; simp only [Int.min_assoc, Int.max_assoc]
theorem hulls_hul (x b : Sp) : ∀ B : List Sp, hulls (hul x b) B = hul x (hulls b B)
  | [] => rfl
  | c :: B => by
    show hulls (hul (hul x b) c) B = hul x (hulls (hul b c) B)
    rw [← hul_assoc, hulls_hul x (hul b c) B]
theorem hulls_append (x : Sp) (A B : List Sp) : hulls x (A ++ B) = hulls (hulls x A) B := by unfold hulls; rw [List.foldl_append]
theorem allS_append {A B : List Sp} (h1 : A ≠ []) (h2 : B ≠ []) : allS (A ++ B) = hul (allS A) (allS B) := by
  cases A with
  | nil => exact absurd rfl h1
  | cons a A =>
    cases B with
    | nil => exact absurd rfl h2
    | cons b B =>
      show hulls a (A ++ b :: B) = hul (hulls a A) (hulls b B)
      rw [hulls_append]
      exact hulls_hul _ b B
theorem thE_ok {L : List Sp} {s : Sp} {n : Int} (h : thE L s n = 0) : thOk L s n = true := by
  unfold thE at h
  by_cases e : thOk L s n = true
  · exact e
  · rw [if_neg e] at h; exact absurd h (by decide)
theorem thOk_spec {L : List Sp} {s : Sp} {n : Int} (h : thOk L s n = true) : 0 ≤ n ∧ rts L n = true ∧ rt s L.length = true := by
  unfold thOk at h
  simp only [Bool.and_eq_true, decide_eq_true_eq] at h
  exact ⟨h.1.1, h.1.2, h.2⟩
theorem th_two {L : List Sp} {f m t n : Int} (h1 : thE L (f, m) n = 0) (h2 : thE L (m, t) n = 0) (hfm : f < m) (hmt : m < t) :
    thE L (f, t) n = 0 ∧ thS L (f, t) n = hul (thS L (f, m) n) (thS L (m, t) n) := by
  have o1 := thE_ok h1
  have o2 := thE_ok h2
  obtain ⟨a1, a2, a3⟩ := thOk_spec o1
  obtain ⟨_, _, b3⟩ := thOk_spec o2
  obtain ⟨c1, c2, c3⟩ := rt_spec.1 a3
  obtain ⟨d1, d2, d3⟩ := rt_spec.1 b3
  simp only at c1 c2 c3 d1 d2 d3
  have ok : thOk L (f, t) n = true := th_ok a1 a2 (rt_t c1 (by omega) d3)
  obtain ⟨e1, e2⟩ := th_part ok (by simp only; omega)
  refine ⟨e2, ?_⟩
  rw [e1, (th_part o1 hfm).1, (th_part o2 hmt).1]
  simp only
  obtain ⟨p, rfl⟩ : ∃ p : Nat, f = p := ⟨f.toNat, by omega⟩
  obtain ⟨q, rfl⟩ : ∃ q : Nat, m = q := ⟨m.toNat, by omega⟩
  obtain ⟨r, rfl⟩ : ∃ r : Nat, t = r := ⟨t.toNat, by omega⟩
  simp only [Int.toNat_natCast]
  have l1 := part_length L p q (by omega)
  have l2 := part_length L q r (by omega)
  rw [← allS_append (fun e => by rw [e] at l1; simp at l1; omega) (fun e => by rw [e] at l2; simp at l2; omega)]
  congr 1
  unfold part
  rw [show r - p = (q - p) + (r - q) by omega, List.take_add, List.drop_drop, show p + (q - p) = q by omega]

/-- The cells of a row of spans. -/
def spCells : List Sp → List Value
  | [] => []
  | s :: r => .int .i64 s.1 :: .int .i64 s.2 :: spCells r
theorem spCells_append (a b : List Sp) : spCells (a ++ b) = spCells a ++ spCells b := by
  induction a with
  | nil => rfl
  | cons x r ih => simp [spCells, ih]
theorem spCells_get : ∀ (L : List Sp) (i : Nat), i < L.length → (spCells L)[i * 2]? = some (.int .i64 (L.getD i (0, 0)).1) ∧ (spCells L)[i * 2 + 1]? = some (.int .i64 (L.getD i (0, 0)).2)
  | [], i, h => by simp at h
  | x :: r, 0, _ => ⟨rfl, rfl⟩
  | x :: r, i + 1, h => by
    have := spCells_get r i (by simpa using h)
    rw [show (i + 1) * 2 = i * 2 + 1 + 1 by omega]
    simpa [spCells] using this
theorem PAt.of_owns {W : World} {base : Nat} {v : Value} {L : List Sp} (h : W.ownsRow base 24 2 v L.length (spCells L)) : ∃ ao cap, v = .slice ao L.length cap ∧ L.length ≤ cap ∧ cap ≤ maxLen ∧ PAt W ao L W.heap.size := by
  obtain ⟨hl, h⟩ := h
  rcases h with ⟨rfl, h0⟩ | ⟨g, cap, cur, rfl, _, hb, hn, hcm, hsz, ht⟩
  · exact ⟨none, 0, by rw [h0], by omega, Nat.zero_le _, fun hp => by omega⟩
  · refine ⟨_, cap, rfl, hn, hcm, fun _ => ⟨g, 0, rfl, lt_of_block hb, fun i hi => ?_⟩⟩
    have hget : ∀ j, j < L.length * 2 → W.cell? ⟨g, j, none⟩ = (spCells L)[j]? := by
      intro j hj
      have : W.cell? ⟨g, j, none⟩ = cur[j]? := by simp [World.cell?, hb]
      rw [this, ← ht, List.getElem?_take_of_lt hj]
      simp
    have := spCells_get L i hi
    rw [Nat.zero_add]
    exact ⟨(hget _ (by omega)).trans this.1, (hget _ (by omega)).trans this.2⟩
theorem grown_lowS {W w1 : World} {base : Nat} {e : TypeId} {size n : Nat} {v : Value} {xs : List Value} (h : W.ownsRow base e size v n xs) (hbase : base ≤ W.heap.size) (hg : W.grownBy w1 v.ownBlock) : Below base W w1 :=
  (Below.refl base W).grown hg hbase fun k hk => (h.lt k hk).1
end Go.Proofs.Ytbmkacleeboeeaa
