/-
  A slice of numbers in memory: where it lies, that it stays where what lies below a bound stays, its front and its back; one of the call's own. Conditions: none but those that each names.
-/
import Derived.Test.YtgckhkdjjmeboaaSetKit
import Derived.Lib.Hide
import Derived.Laws.MakeOwn
import Derived.Laws.OwnMore
namespace Go.Proofs.Ytgckhkdjjmeboaa
open Go.RowKit

/-- From the address on lie these numbers, in a block below the bound. -/
def IAt (W : World) (ao : Option Addr) (xs : List Int) (bd : Nat) : Prop :=
  0 < xs.length → ∃ g off, ao = some ⟨g, off, none⟩ ∧ g < bd ∧ ∀ i, i < xs.length → W.cell? ⟨g, off + i, none⟩ = some (.int .i64 (xs.getD i 0))
theorem IAt.below {W W' : World} {ao : Option Addr} {xs : List Int} {bd n : Nat} (h : IAt W ao xs bd) (hb : Below n W W') (hn : bd ≤ n) : IAt W' ao xs bd := by
  intro hp
  obtain ⟨g, off, hg, hlt, hc⟩ := h hp
  exact ⟨g, off, hg, hlt, fun i hi => (hb.cell (p := ⟨g, _, none⟩) (by simp only; omega)).trans (hc i hi)⟩
theorem IAt.mono {W : World} {ao : Option Addr} {xs : List Int} {bd n : Nat} (h : IAt W ao xs bd) (hn : bd ≤ n) : IAt W ao xs n := by
  intro hp
  obtain ⟨g, off, hg, hlt, hc⟩ := h hp
  exact ⟨g, off, hg, by omega, hc⟩
theorem IAt.hid {w : World} {ao : Option Addr} {xs : List Int} {len : Nat} (hl : xs.length = len) (h : IAt w ao xs w.heap.size) :
    Hid (0 < len → ∃ g off, ao = some ⟨g, off, none⟩ ∧ g < w.heap.size ∧ ∀ i, i < len → ∀ W : World, Below w.heap.size w W → W.cell? ⟨g, off + i, none⟩ = some (.int .i64 (xs.getD i 0))) :=
  Lib.hid fun hp => by
    obtain ⟨g, off, rfl, hg, hc⟩ := h (by omega)
    exact ⟨g, off, rfl, hg, fun i hi W hb => (hb.cell (p := ⟨g, _, none⟩) hg).trans (hc i (by omega))⟩

abbrev numCells (L : List Int) : List Value := L.map (Value.int .i64)
theorem IAt.of_owns {W : World} {base : Nat} {v : Value} {xs : List Int} (h : W.ownsRow base 3 1 v xs.length (numCells xs)) : ∃ ao cap, v = .slice ao xs.length cap ∧ xs.length ≤ cap ∧ cap ≤ maxLen ∧ IAt W ao xs W.heap.size := by
  obtain ⟨hl, h⟩ := h
  rcases h with ⟨rfl, h0⟩ | ⟨g, cap, cur, rfl, _, hb, hn, hcm, hsz, ht⟩
  · exact ⟨none, 0, by rw [h0], by omega, Nat.zero_le _, fun hp => by omega⟩
  · refine ⟨_, cap, rfl, hn, hcm, fun _ => ⟨g, 0, rfl, lt_of_block hb, fun i hi => ?_⟩⟩
    have : W.cell? ⟨g, 0 + i, none⟩ = cur[i]? := by simp [World.cell?, hb]
    rw [this]
    have h2 : (cur.toList.take (xs.length * 1))[i]? = (numCells xs)[i]? := by rw [ht]
    rw [List.getElem?_take_of_lt (by omega)] at h2
    simp [List.getD, hi] at h2 ⊢
    exact h2
theorem owns_low {W : World} {b b' : Nat} {e : TypeId} {size n : Nat} {v : Value} {xs : List Value} (h : W.ownsRow b e size v n xs) (hb : b' ≤ b) : W.ownsRow b' e size v n xs := by
  obtain ⟨h1, h2⟩ := h
  refine ⟨h1, ?_⟩
  rcases h2 with h | ⟨g, cap, cur, e1, e2, e3⟩
  · exact .inl h
  · exact .inr ⟨g, cap, cur, e1, by omega, e3⟩
/-- The front of a row, and what stands behind it. -/
theorem IAt.front {W : World} {ao : Option Addr} {xs : List Int} {bd : Nat} (h : IAt W ao xs bd) (k : Nat) : IAt W ao (xs.take k) bd := by
  intro hp
  rw [List.length_take] at hp
  obtain ⟨g, off, e, hlt, hc⟩ := h (by omega)
  refine ⟨g, off, e, hlt, fun i hi => ?_⟩
  rw [List.length_take] at hi
  rw [hc i (by omega)]
  simp [List.getD, show i < k by omega]
theorem IAt.back {W : World} {g off : Nat} {xs : List Int} {bd : Nat} (h : IAt W (some ⟨g, off, none⟩) xs bd) (k : Nat) : IAt W (some ⟨g, off + k, none⟩) (xs.drop k) bd := by
  intro hp
  rw [List.length_drop] at hp
  obtain ⟨g', off', e, hlt, hc⟩ := h (by omega)
  cases e
  refine ⟨g, off + k, rfl, hlt, fun i hi => ?_⟩
  rw [List.length_drop] at hi
  rw [Nat.add_assoc, hc (k + i) (by omega)]
  simp [List.getD, List.getElem?_drop]
end Go.Proofs.Ytgckhkdjjmeboaa
