/-
  A byte and a slice of bytes as arguments. Conditions: none.
-/
import Derived.Test.YtanpammidlphbaaDoorSetPost
import Derived.Test.YtanpammidlphbaaDoorSetMakes
namespace Go.Proofs.YtanpammidlphbaaDoor
open Go.ChangeShapes Go.WideShapes Go.ChangeAt Go.RowKit

theorem open_byte {H : Type} {enc : TypeId × Value → H} {W : World} {base : Nat} {v : Value} {d : DataW H} {ps : List MemPlace} {sp : Nat → Bool} {held : Bool} {b0 : Nat}
    (hval : Value.okWide Tryd.prog W .any base 5 v) (h : DataW.Trod enc Tryd.prog W b0 sp held 5 v d ps) : ∃ n : Nat, v = .int .u8 (n : Int) ∧ n ≤ 255 := by
  obtain ⟨x, rfl, rfl, rfl, wx⟩ := open_int Tryd.underlying5 hval h
  obtain ⟨h1, h2⟩ := bounds_u8 wx
  exact ⟨x.toNat, by rw [Int.toNat_of_nonneg h1], by omega⟩

theorem open_bytes {H : Type} {enc : TypeId × Value → H} {W : World} {base : Nat} {v : Value} {d : DataW H} {ps : List MemPlace} {held : Bool} {b0 : Nat}
    (hval : Value.okWide Tryd.prog W .any base 22 v) (h : DataW.Trod enc Tryd.prog W b0 (fun _ => true) held 22 v d ps) :
    ∃ (ao : Option Addr) (len cap : Nat) (zs : List Nat), v = .slice ao len cap ∧ zs.length = len ∧ (∀ z ∈ zs, z ≤ 255) ∧ Sl W ao zs := by
  obtain ⟨a0, len, cap, rfl⟩ := okWide_slice Tryd.underlying22 hval
  obtain ⟨fuel, hf⟩ := h
  rcases open_ints Tryd.underlying22 Tryd.underlying5 cellsByte hf with ⟨hcs, _⟩ | ⟨a, len', cap', xs, hcs, _, hl, hm, hz, _, hcell, hwz⟩
  · simp [Value.cells] at hcs
    obtain ⟨rfl, rfl, rfl⟩ := hcs
    exact ⟨none, 0, 0, [], rfl, rfl, by simp, fun h => by simp at h⟩
  · simp [Value.cells] at hcs
    obtain ⟨rfl, rfl, rfl⟩ := hcs
    simp only [if_true] at hz
    have hlen : ((xs.take len).map Int.toNat).length = len := by simp; omega
    refine ⟨some a, len, cap, (xs.take len).map Int.toNat, rfl, hlen, ?_, ?_⟩
    · intro z hzm
      obtain ⟨x, hx, rfl⟩ := List.mem_map.1 hzm
      have := bounds_u8 (hwz x (List.mem_of_mem_take hx))
      omega
    · intro hp
      rw [hlen] at hp
      obtain ⟨b, off, rfl, hc⟩ := ints_at hcell (by omega)
      refine ⟨b, off, rfl, fun i hi => ?_⟩
      rw [hlen] at hi
      rw [hc i (by omega)]
      have hix : i < xs.length := by omega
      have hb := bounds_u8 (hwz xs[i] (List.getElem_mem hix))
      have e1 : xs.getD i 0 = xs[i] := by simp [List.getD, hix]
      have e2 : ((xs.take len).map Int.toNat).getD i 0 = xs[i].toNat := by simp [List.getD, hi, hix]
      rw [e1, e2, Int.toNat_of_nonneg hb.1]
end Go.Proofs.YtanpammidlphbaaDoor
