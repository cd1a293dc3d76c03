/-
  Layer 6's reference: a set, written. Conditions: none.
-/
import Derived.Test.YtgckhkdjjmeboaaLexRef2
import Derived.Deep.CutRange
namespace Go.Proofs.Ytgckhkdjjmeboaa
open Go.RowKit

theorem PS.hid {W : World} {v : Value} {p : List (Nat × Nat)} (h : PS W v p) : ∃ ao cap, v = .slice ao p.length cap ∧ Hid (0 < p.length → ∃ g, ao = some ⟨g, 0, none⟩ ∧ ∀ i, i < p.length → ∀ W' : World, Below W.heap.size W W' →
    W'.cell? ⟨g, i * 2, none⟩ = some (.int .u8 (((p.getD i (0, 0)).1 : Nat) : Int)) ∧ W'.cell? ⟨g, i * 2 + 1, none⟩ = some (.int .u8 (((p.getD i (0, 0)).2 : Nat) : Int))) := by
  rcases h with ⟨rfl, rfl⟩ | ⟨g, cap, rfl, h⟩
  · exact ⟨none, 0, rfl, Lib.hid fun h => by simp at h⟩
  · refine ⟨_, cap, rfl, Lib.hid fun hp => ⟨g, rfl, fun i hi W' hb => ?_⟩⟩
    have hg : g < W.heap.size := by
      rcases Nat.lt_or_ge g W.heap.size with h' | h'
      · exact h'
      · have := (h i hi).1; simp [World.cell?, Array.getElem?_eq_none h'] at this
    exact ⟨(hb.cell (p := ⟨g, _, none⟩) hg).trans (h i hi).1, (hb.cell (p := ⟨g, _, none⟩) hg).trans (h i hi).2⟩
theorem rowsW_len (l : List (Nat × Nat)) : (rowsW l).length ≤ 9 * l.length := by
  induction l with
  | nil => simp [rowsW]
  | cons r l ih =>
    have h1 := byteL_len (UInt8.ofNat r.1)
    have h2 := byteL_len (UInt8.ofNat r.2)
    have : (rowW r).length ≤ 9 := by
      unfold rowW
      rw [List.length_append]
      split
      · simp; omega
      · rw [List.length_cons]; omega
    unfold rowsW at ih ⊢
    rw [List.flatMap_cons, List.length_append, List.length_cons]
    omega
theorem rowsW_take (l : List (Nat × Nat)) (k : Nat) (h : k < l.length) : rowsW (l.take (k + 1)) = rowsW (l.take k) ++ rowW (l.getD k (0, 0)) := by
  rw [List.take_succ_eq_append_getElem h]
  unfold rowsW
  rw [List.flatMap_append]
  simp [List.getD, h]

theorem refset_tail (b0 : List UInt8) (T : Nat → Bool) : mkS (b0 ++ rowsW (rowsOf T)) ++ ByteArray.mk #[93] = mkS (b0 ++ (rowsW (rowsOf T) ++ [93])) := bl_inj (by
  rw [bl_append, bl_mkS, bl_mkS, List.append_assoc]; rfl)
theorem ofNat_toNat8 {n : Nat} (h : n ≤ 255) : (((UInt8.ofNat n).toNat : Nat) : Int) = (n : Int) := by
  have : (UInt8.ofNat n).toNat = n := by simp; omega
  rw [this]
theorem rowW_one {r : Nat × Nat} (h : r.2 = r.1) : rowW r = byteL (UInt8.ofNat r.1) := by unfold rowW; rw [if_pos h, List.append_nil]
theorem rowW_two {r : Nat × Nat} (h : r.2 ≠ r.1) : rowW r = byteL (UInt8.ofNat r.1) ++ [45] ++ byteL (UInt8.ofNat r.2) := by unfold rowW; rw [if_neg h]; simp

end Go.Proofs.Ytgckhkdjjmeboaa
