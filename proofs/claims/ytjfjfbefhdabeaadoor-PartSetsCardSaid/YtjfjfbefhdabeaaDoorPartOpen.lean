/-
  A slice of sets, a slice of numbers, a number as arguments. Conditions: none.
-/
import Derived.Test.YtjfjfbefhdabeaaDoorSetPost
import Derived.Test.YtjfjfbefhdabeaaDoorPartKit
import Derived.Deep.Slices
namespace Go.Proofs.YtjfjfbefhdabeaaDoor
open Go.ChangeShapes Go.WideShapes Go.ChangeAt Go.RowKit

theorem open_sets {H : Type} {enc : TypeId × Value → H} {W : World} {base : Nat} {v : Value} {d : DataW H} {ps : List MemPlace} {sp : Nat → Bool} {held : Bool} {b0 : Nat}
    (hval : Value.okWide Tryd.prog W .any base 22 v) (h : DataW.Trod enc Tryd.prog W b0 sp held 22 v d ps) :
    ∃ (ao : Option Addr) (len cap : Nat) (L : List (Nat → Bool)), v = .slice ao len cap ∧ L.length = len ∧ len ≤ maxLen ∧ SAt W ao L W.heap.size := by
  obtain ⟨a0, len, cap, rfl⟩ := okWide_slice Tryd.underlying22 hval
  obtain ⟨fuel, hf⟩ := h
  rcases DataW.trod_slice Tryd.underlying22 hf with ⟨hcs, _⟩ | ⟨a, len', cap', elems, rest, n, _, hcs, _, _, hlc, hcm, hel, hat, _, _⟩
  · simp [Value.cells] at hcs
    obtain ⟨rfl, rfl, rfl⟩ := hcs
    exact ⟨none, 0, 0, [], rfl, rfl, Nat.zero_le _, fun h => by simp at h⟩
  · simp [Value.cells] at hcs
    obtain ⟨rfl, rfl, rfl⟩ := hcs
    have each : ∀ i, i < len → ∃ S : Nat → Bool, ∀ k, k < 4 → W.cell? (a.add (i * 4 + k)) = (cells4 S)[k]? := by
      intro i hi
      have hb := hat i hi
      rw [cellsSet] at hb
      obtain ⟨y, hy⟩ : ∃ y, elems[i]? = some y := ⟨_, List.getElem?_eq_getElem (by omega)⟩
      rw [hy, Option.bind_eq_some_iff] at hb
      obtain ⟨cs, hcs, hx⟩ := hb
      obtain ⟨_, hl, hc⟩ := World.cells?_some hcs
      obtain ⟨c0, c1, c2, c3, rfl⟩ : ∃ c0 c1 c2 c3, cs = [c0, c1, c2, c3] := by
        match cs, hl with
        | [c0, c1, c2, c3], _ => exact ⟨c0, c1, c2, c3, rfl⟩
      obtain ⟨y0, y1, y2, y3, m, _, hy0, hy1, hy2, hy3⟩ := trod_array4 Tryd.underlying35 cellsWord hx
      obtain ⟨x0, e0, rfl, w0⟩ := DataW.trod_int Tryd.underlying33 hy0
      obtain ⟨x1, e1, rfl, w1⟩ := DataW.trod_int Tryd.underlying33 hy1
      obtain ⟨x2, e2, rfl, w2⟩ := DataW.trod_int Tryd.underlying33 hy2
      obtain ⟨x3, e3, rfl, w3⟩ := DataW.trod_int Tryd.underlying33 hy3
      simp at e0 e1 e2 e3
      subst e0 e1 e2 e3
      obtain ⟨a0, b0⟩ := bounds_u64 w0
      obtain ⟨a1, b1⟩ := bounds_u64 w1
      obtain ⟨a2, b2⟩ := bounds_u64 w2
      obtain ⟨a3, b3⟩ := bounds_u64 w3
      obtain ⟨n0, rfl⟩ : ∃ n : Nat, x0 = n := ⟨x0.toNat, by omega⟩
      obtain ⟨n1, rfl⟩ : ∃ n : Nat, x1 = n := ⟨x1.toNat, by omega⟩
      obtain ⟨n2, rfl⟩ : ∃ n : Nat, x2 = n := ⟨x2.toNat, by omega⟩
      obtain ⟨n3, rfl⟩ : ∃ n : Nat, x3 = n := ⟨x3.toNat, by omega⟩
      obtain ⟨g0, g1, g2, g3⟩ := wd_ofWords n0 n1 n2 n3 (by omega) (by omega) (by omega) (by omega)
      refine ⟨ofWords n0 n1 n2 n3, fun k hk => ?_⟩
      rw [← Addr.add_add, hc k hk]
      unfold cells4
      rw [g0, g1, g2, g3]
      match k, hk with
      | 0, _ => rfl
      | 1, _ => rfl
      | 2, _ => rfl
      | 3, _ => rfl
    obtain ⟨F, hF⟩ := Go.Deep.choose_lt each
    refine ⟨some a, len, cap, (List.range len).map F, rfl, by simp, by omega, fun hp => ?_⟩
    have hp' : 0 < len := by simpa using hp
    obtain ⟨b, off, spot⟩ := a
    have h00 := hF 0 hp' 0 (by decide)
    have hspot : spot = none := by
      simp only [Nat.zero_mul, Nat.zero_add] at h00
      simpa [Addr.add] using World.cell?_spot h00
    subst hspot
    have hplain : ∀ i k, i < len → k < 4 → W.cell? ⟨b, off + i * 4 + k, none⟩ = (cells4 (F i))[k]? := fun i k hi hk => by
      rw [← hF i hi k hk, add_plain, Nat.add_assoc]
    refine ⟨b, off, rfl, World.block_lt_of_cell? W ⟨b, off + 0 * 4 + 0, none⟩ (by rw [hplain 0 0 hp' (by decide)]; rfl), fun i hi => ?_⟩
    have hi' : i < len := by simpa using hi
    have e : ((List.range len).map F).getD i no = F i := by simp [List.getD, hi']
    rw [e]
    exact ⟨hplain i 0 hi' (by decide), hplain i 1 hi' (by decide), hplain i 2 hi' (by decide), hplain i 3 hi' (by decide)⟩

theorem cellsInt : Tryd.prog.cellsOf 3 = 1 := by kernel_rfl
theorem open_nums {H : Type} {enc : TypeId × Value → H} {W : World} {base : Nat} {v : Value} {d : DataW H} {ps : List MemPlace} {held : Bool} {b0 : Nat}
    (hval : Value.okWide Tryd.prog W .any base 26 v) (h : DataW.Trod enc Tryd.prog W b0 (fun _ => true) held 26 v d ps) :
    ∃ (ao : Option Addr) (len cap : Nat) (xs : List Int), v = .slice ao len cap ∧ xs.length = len ∧ len ≤ maxLen ∧ (∀ x ∈ xs, -9223372036854775808 ≤ x ∧ x ≤ 9223372036854775807) ∧ IAt W ao xs W.heap.size := by
  obtain ⟨a0, len, cap, rfl⟩ := okWide_slice Tryd.underlying26 hval
  obtain ⟨fuel, hf⟩ := h
  rcases open_ints Tryd.underlying26 Tryd.underlying3 cellsInt hf with ⟨hcs, _⟩ | ⟨a, len', cap', xs, hcs, _, hl, hm, hz, _, hcell, hwz⟩
  · simp [Value.cells] at hcs
    obtain ⟨rfl, rfl, rfl⟩ := hcs
    exact ⟨none, 0, 0, [], rfl, rfl, Nat.zero_le _, by simp, fun h => by simp at h⟩
  · simp [Value.cells] at hcs
    obtain ⟨rfl, rfl, rfl⟩ := hcs
    simp only [if_true] at hz
    have hlen : (xs.take len).length = len := by simp; omega
    refine ⟨some a, len, cap, xs.take len, rfl, hlen, by omega, ?_, ?_⟩
    · intro x hx
      have := bounds_i64 (hwz x (List.mem_of_mem_take hx))
      omega
    · intro hp
      rw [hlen] at hp
      obtain ⟨b, off, rfl, hc⟩ := ints_at hcell (by omega)
      refine ⟨b, off, rfl, World.block_lt_of_cell? W _ (hc 0 (by omega)), fun i hi => ?_⟩
      rw [hlen] at hi
      rw [hc i (by omega)]
      have hix : i < xs.length := by omega
      have e1 : xs.getD i 0 = xs[i] := by simp [List.getD, hix]
      have e2 : (xs.take len).getD i 0 = xs[i] := by simp [List.getD, hi, hix]
      rw [e1, e2]
theorem open_num {H : Type} {enc : TypeId × Value → H} {W : World} {base : Nat} {v : Value} {d : DataW H} {ps : List MemPlace} {sp : Nat → Bool} {held : Bool} {b0 : Nat}
    (hval : Value.okWide Tryd.prog W .any base 3 v) (h : DataW.Trod enc Tryd.prog W b0 sp held 3 v d ps) : ∃ x : Int, v = .int .i64 x ∧ -9223372036854775808 ≤ x ∧ x ≤ 9223372036854775807 := by
  obtain ⟨x, rfl, rfl, rfl, wx⟩ := open_int Tryd.underlying3 hval h
  have := bounds_i64 wx
  exact ⟨x, rfl, by omega, by omega⟩
end Go.Proofs.YtjfjfbefhdabeaaDoor
