/-
  The walk of the reference's Pairs: whether two rows of pairs are the same; nothing has changed. Conditions: the rows lie in memory as slices of pairs of bytes.
-/
import Derived.Test.YtgckhkdjjmeboaaSetRowsC
import Derived.Test.YtgckhkdjjmeboaaSetEq
import Derived.RegionTactic
import Derived.ChangeAlike
import Derived.BigRegion
import Derived.Deep.QuietTactic
import Derived.BigQuiet
namespace Go.Proofs.Ytgckhkdjjmeboaa
open Go.RowKit Go.Shelf

/-- v is a slice that holds these pairs. -/
def PS (W : World) (v : Value) (p : List (Nat × Nat)) : Prop :=
  (v = .slice none 0 0 ∧ p = []) ∨ ∃ g cap, v = .slice (some ⟨g, 0, none⟩) p.length cap ∧ ∀ i, i < p.length →
    W.cell? ⟨g, i * 2, none⟩ = some (.int .u8 (((p.getD i (0, 0)).1 : Nat) : Int)) ∧ W.cell? ⟨g, i * 2 + 1, none⟩ = some (.int .u8 (((p.getD i (0, 0)).2 : Nat) : Int))

theorem take_next (p : List (Nat × Nat)) (k : Nat) (h : k < p.length) : p.take (k + 1) = p.take k ++ [p.getD k (0, 0)] := by
  rw [List.take_succ_eq_append_getElem h]
  simp [List.getD, h]

theorem pairCells_get : ∀ (p : List (Nat × Nat)) (i : Nat), i < p.length → (pairCells p)[i * 2]? = some (.int .u8 (((p.getD i (0, 0)).1 : Nat) : Int)) ∧ (pairCells p)[i * 2 + 1]? = some (.int .u8 (((p.getD i (0, 0)).2 : Nat) : Int))
  | [], i, h => by simp at h
  | x :: r, 0, _ => ⟨rfl, rfl⟩
  | x :: r, i + 1, h => by
    have := pairCells_get r i (by simpa using h)
    rw [show (i + 1) * 2 = i * 2 + 1 + 1 by omega]
    simpa [pairCells] using this

theorem PS.below {W W' : World} {v : Value} {p : List (Nat × Nat)} (h : PS W v p) (hb : Below W.heap.size W W') : PS W' v p := by
  rcases h with h | ⟨g, cap, hv, h⟩
  · exact .inl h
  · refine .inr ⟨g, cap, hv, fun i hi => ?_⟩
    have hi' := h i hi
    have hg : g < W.heap.size := by
      rcases Nat.lt_or_ge g W.heap.size with h' | h'
      · exact h'
      · have := hi'.1; simp [World.cell?, Array.getElem?_eq_none h'] at this
    exact ⟨(hb.cell (p := ⟨g, _, none⟩) hg).trans hi'.1, (hb.cell (p := ⟨g, _, none⟩) hg).trans hi'.2⟩
end Go.Proofs.Ytgckhkdjjmeboaa
