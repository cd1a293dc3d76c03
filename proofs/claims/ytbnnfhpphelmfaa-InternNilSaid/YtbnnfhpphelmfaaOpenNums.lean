/-
  Numbers, slices of numbers and slices of such slices as arguments. Conditions: none but those that each names.
-/
import Derived.Test.YtbnnfhpphelmfaaOpenNum
import Derived.Test.YtbnnfhpphelmfaaMem
import Derived.Deep.Slices
import Derived.ChangeSlices
namespace Go.Proofs.Ytbnnfhpphelmfaa
open Go.ChangeShapes Go.WideShapes Go.ChangeAt Go.RowKit

theorem cellsInt : Try.prog.cellsOf 3 = 1 := by kernel_rfl
/-- What lies behind a slice of numbers. -/
theorem nums_trod {H : Type} {enc : TypeId × Value → H} {W : World} {b0 : Nat} {sp : Nat → Bool} {held : Bool} {fuel : Nat} {v : Value} {x : DataW H × List MemPlace} (h : DataW.trod enc Try.prog W b0 sp held fuel 22 [v] = some x) :
    ∃ (ao : Option Addr) (len cap : Nat) (xs : List Int), v = .slice ao len cap ∧ xs.length = len ∧ len ≤ cap ∧ cap ≤ maxLen ∧ (∀ x ∈ xs, -9223372036854775808 ≤ x ∧ x ≤ 9223372036854775807) ∧ IAt W ao xs W.heap.size ∧ (len = 0 ∨ ∃ e s, x.1 = .slice e s ∧ e.length = len) := by
  rcases open_ints Try.underlying22 Try.underlying3 cellsInt h with ⟨hcs, _⟩ | ⟨a, len, cap, zs, hcs, _, hl, hm, hz, hx, hcell, hwz⟩
  · simp at hcs
    subst hcs
    exact ⟨none, 0, 0, [], rfl, rfl, Nat.le_refl _, Nat.zero_le _, by simp, fun h => by simp at h, .inl rfl⟩
  · simp at hcs
    subst hcs
    have hlz : len ≤ zs.length := by rw [hz]; split <;> omega
    have hlen : (zs.take len).length = len := by simp; omega
    refine ⟨some a, len, cap, zs.take len, rfl, hlen, hl, hm, ?_, ?_, .inr ⟨_, _, by rw [hx], ?_⟩⟩
    · intro x hx
      exact bounds_i64' (hwz x (List.mem_of_mem_take hx))
    · intro hp
      rw [hlen] at hp
      obtain ⟨b, off, spot⟩ := a
      have h00 := hcell 0 (by omega)
      have hspot : spot = none := by simpa [Addr.add] using World.cell?_spot h00
      subst hspot
      have hc : ∀ i, i < zs.length → W.cell? ⟨b, off + i, none⟩ = some (.int .i64 (zs.getD i 0)) := fun i hi => by
        rw [← hcell i hi, add_plain]
      refine ⟨b, off, rfl, World.block_lt_of_cell? W ⟨b, off + 0, none⟩ (by rw [hc 0 (by omega)]), fun i hi => ?_⟩
      rw [hlen] at hi
      rw [hc i (by omega)]
      simp [List.getD, hi, show i < zs.length by omega]
    · simp [lits]; omega
set_option maxRecDepth 100000 in
theorem open_nums {H : Type} {enc : TypeId × Value → H} {W : World} {base : Nat} {v : Value} {d : DataW H} {ps : List MemPlace} {sp : Nat → Bool} {held : Bool} {b0 : Nat}
    (_hval : Value.okWide Try.prog W .any base 22 v) (h : DataW.Trod enc Try.prog W b0 sp held 22 v d ps) :
    ∃ (ao : Option Addr) (len cap : Nat) (xs : List Int), v = .slice ao len cap ∧ xs.length = len ∧ len ≤ cap ∧ cap ≤ maxLen ∧ (∀ x ∈ xs, -9223372036854775808 ≤ x ∧ x ≤ 9223372036854775807) ∧ IAt W ao xs W.heap.size ∧ (len = 0 ∨ ∃ e s, d = .slice e s ∧ e.length = len) := by
  obtain ⟨a0, len, cap, rfl⟩ := okWide_slice Try.underlying22 _hval
  obtain ⟨fuel, hf⟩ := h
  obtain ⟨ao, len', cap', xs, hv, h1, h2, h3, h4, h5, h6⟩ := nums_trod (v := .slice a0 len cap) (by simpa [Value.cells] using hf)
  cases hv
  exact ⟨_, _, _, xs, rfl, h1, h2, h3, h4, h5, h6⟩
/-- .. and how many there are at most, out of the row's reach. -/
theorem nums_few {H : Type} {ts : List TypeId} {ds : List (DataW H)} (hz : (DataW.weightsEach Try.prog ts ds).all (· ≤ reachBytes) = true) (j : Nat) {len : Nat} {d : DataW H} (ht : ts[j]? = some 22) (hd : ds[j]? = some d) (h : len = 0 ∨ ∃ e s, d = .slice e s ∧ e.length = len) : len ≤ 140737488355328 := by
  rcases h with rfl | ⟨e, s, rfl, rfl⟩
  · exact Nat.zero_le _
  · have h1 := sized_slice hz ht hd Try.underlying22
    have h2 : Try.prog.bytesOf 3 = 8 := by kernel_rfl
    rw [h2] at h1
    have h3 := reachBytes_lt
    omega

theorem cellsNums : Try.prog.cellsOf 22 = 1 := by kernel_rfl
set_option maxRecDepth 100000 in
theorem open_rows {H : Type} {enc : TypeId × Value → H} {W : World} {base : Nat} {v : Value} {d : DataW H} {ps : List MemPlace} {sp : Nat → Bool} {held : Bool} {b0 : Nat}
    (hval : Value.okWide Try.prog W .any base 27 v) (h : DataW.Trod enc Try.prog W b0 sp held 27 v d ps) :
    ∃ (ao : Option Addr) (len cap : Nat) (L : List (List Int)), v = .slice ao len cap ∧ L.length = len ∧ len ≤ cap ∧ len ≤ maxLen ∧ RsAt W ao L W.heap.size ∧ (∀ r ∈ L, ∀ x ∈ r, -9223372036854775808 ≤ x ∧ x ≤ 9223372036854775807) := by
  obtain ⟨a0, len, cap, rfl⟩ := okWide_slice Try.underlying27 hval
  obtain ⟨fuel, hf⟩ := h
  rcases Go.Deep.open_slice1 Try.underlying27 cellsNums hf with ⟨hcs, _⟩ | ⟨a, len', cap', m, n, V, D, Pl, hcs, _, hl, hm, hmm, _, hx⟩
  · simp [Value.cells] at hcs
    obtain ⟨rfl, rfl, rfl⟩ := hcs
    exact ⟨none, 0, 0, [], rfl, rfl, Nat.le_refl _, Nat.zero_le _, fun h => by simp at h, by simp⟩
  · simp [Value.cells] at hcs
    obtain ⟨rfl, rfl, rfl⟩ := hcs
    have hlm : len ≤ m := by rw [hmm]; split <;> omega
    have each : ∀ i, i < len → ∃ q : Option Addr × Nat × List Int, V i = .slice q.1 q.2.2.length q.2.1 ∧ q.2.2.length ≤ q.2.1 ∧ q.2.1 ≤ maxLen ∧ IAt W q.1 q.2.2 W.heap.size ∧ ∀ x ∈ q.2.2, -9223372036854775808 ≤ x ∧ x ≤ 9223372036854775807 := fun i hi => by
      obtain ⟨ao, l, c, xs, e, h1, h2, h3, h4, h5, _⟩ := nums_trod (hx i (by omega)).2
      subst h1
      exact ⟨(ao, c, xs), e, h2, h3, h5, h4⟩
    obtain ⟨q, hq⟩ := Go.Deep.choose_lt each
    have hrng : ∀ r ∈ (List.range len).map fun i => (q i).2.2, ∀ x ∈ r, -9223372036854775808 ≤ x ∧ x ≤ 9223372036854775807 := fun r hr => by
      obtain ⟨i, hi, rfl⟩ := List.mem_map.1 hr
      exact (hq i (List.mem_range.1 hi)).2.2.2.2
    refine ⟨some a, len, cap, (List.range len).map fun i => (q i).2.2, rfl, by simp, hl, by omega, fun hp => ?_, hrng⟩
    have hp' : 0 < len := by simpa using hp
    obtain ⟨b, off, spot⟩ := a
    have h00 := (hx 0 (by omega)).1
    have hspot : spot = none := by simpa [Addr.add] using World.cell?_spot h00
    subst hspot
    have hplain : ∀ i, i < len → W.cell? ⟨b, off + i, none⟩ = some (V i) := fun i hi => by
      rw [← (hx i (by omega)).1, add_plain]
    refine ⟨b, off, rfl, World.block_lt_of_cell? W ⟨b, off + 0, none⟩ (by rw [hplain 0 hp']), fun i hi => ?_⟩
    have hi' : i < len := by simpa using hi
    have e : ((List.range len).map fun i => (q i).2.2).getD i [] = (q i).2.2 := by simp [List.getD, hi']
    obtain ⟨e1, e2, e3, e4, _⟩ := hq i hi'
    rw [e]
    exact ⟨(q i).1, (q i).2.1, by rw [hplain i hi', e1], e2, by omega, e4⟩
end Go.Proofs.Ytbnnfhpphelmfaa
