/-
  Walks of the reference's Bytes and By: the bytes of a set in a new slice, rising; both, any, less, not, byte by byte; nothing that was there before the call has changed. Conditions: the way asked for is 0, 1, 2 or 3.
-/
import Derived.Test.YtgckhkdjjmeboaaSetRef2
import Derived.Test.YtgckhkdjjmeboaaSetRef3Math
import Derived.Maps.AppendAt
namespace Go.Proofs.Ytgckhkdjjmeboaa
open Go.RowKit

def byteCells (l : List Nat) : List Value := l.map fun n : Nat => Value.int .u8 (n : Int)
theorem byteCells_snoc (l : List Nat) (n : Nat) : byteCells (l ++ [n]) = byteCells l ++ [.int .u8 (n : Int)] := by simp [byteCells]
theorem info_byte : (Try.prog.info? 5).map (fun i => (i.zero, i.size, i.bytes)) = some (some (.int .u8 0), 1, 1) := by kernel_rfl

/-- v is a slice of these bytes. -/
def BS (W : World) (v : Value) (l : List Nat) : Prop :=
  ∃ ao cap, v = .slice ao l.length cap ∧ (0 < l.length → ∃ g, ao = some ⟨g, 0, none⟩ ∧ g < W.heap.size ∧ ∀ i, i < l.length → W.cell? ⟨g, i, none⟩ = some (.int .u8 ((l.getD i 0 : Nat) : Int)))
theorem BS.of_owns {W : World} {base : Nat} {v : Value} {l : List Nat} (h : W.ownsRow base 5 1 v l.length (byteCells l)) : BS W v l := by
  obtain ⟨hl, h⟩ := h
  rcases h with ⟨rfl, h0⟩ | ⟨g, cap, cur, rfl, _, hb, hn, _, hsz, ht⟩
  · exact ⟨none, 0, by rw [h0], fun h => by omega⟩
  · refine ⟨_, cap, rfl, fun _ => ⟨g, rfl, lt_of_block hb, fun i hi => ?_⟩⟩
    have : W.cell? ⟨g, i, none⟩ = cur[i]? := by simp [World.cell?, hb]
    rw [this]
    have h2 : cur[i]? = (byteCells l)[i]? := by
      rw [← ht, List.getElem?_take_of_lt (by omega)]
      simp
    rw [h2]
    unfold byteCells
    rw [List.getElem?_map, List.getElem?_eq_getElem hi]
    simp [List.getD, hi]
theorem BS.below {W W' : World} {v : Value} {l : List Nat} (h : BS W v l) (hb : Below W.heap.size W W') : BS W' v l := by
  obtain ⟨ao, cap, hv, h⟩ := h
  refine ⟨ao, cap, hv, fun hp => ?_⟩
  obtain ⟨g, hg, hlt, hc⟩ := h hp
  exact ⟨g, hg, Nat.lt_of_lt_of_le hlt hb.size, fun i hi => (hb.cell (p := ⟨g, _, none⟩) hlt).trans (hc i hi)⟩

theorem owns_below {w w' : World} {base : Nat} {e : TypeId} {size n : Nat} {v : Value} {xs : List Value} (h : w.ownsRow base e size v n xs) (hb : Below w.heap.size w w') : w'.ownsRow base e size v n xs :=
  h.kept (row := none) ⟨hb.os, hb.tape, hb.output, hb.size, fun k hk _ => hb.block k hk⟩ (Classical.em _)
/-- What an append to a row of the call's own, from base on, leaves below base. -/
theorem grown_low {W w1 : World} {base : Nat} {e : TypeId} {size n : Nat} {v : Value} {xs : List Value} (o : Obj) (h : W.ownsRow base e size v n xs) (hbase : base ≤ W.heap.size) (hg : (W.alloc o).grownBy w1 v.ownBlock) : Below base W w1 := by
  refine ((Below.refl base W).alloc hbase o).grown hg (by simp; omega) fun j ej => ?_
  rcases h.2 with ⟨rfl, _⟩ | ⟨g, cap, cur, rfl, hb, _, _⟩
  · simp [Value.ownBlock] at ej
  · obtain rfl : g = j := by simpa [Value.ownBlock] using ej
    exact hb

/-- A round of By: the truth value of byte k is laid. -/
theorem by_step (f : Nat → Bool) (k : Nat) : bools (under f (k + 1)) = (bools (under f k)).setIfInBounds k (.bool (f k)) := by
  apply Array.ext_getElem?
  intro i
  rw [Array.getElem?_setIfInBounds]
  by_cases hi : i < 256
  · rw [bools_get _ _ hi, bools_get _ _ hi]
    by_cases e : k = i
    · subst e; simp [bools_size, hi, under]
    · have : (i < k + 1) = (i < k) := by apply propext; omega
      simp [e, under, this]
  · have h1 : (bools (under f (k + 1)))[i]? = none := Array.getElem?_eq_none (by rw [bools_size]; omega)
    have h2 : (bools (under f k))[i]? = none := Array.getElem?_eq_none (by rw [bools_size]; omega)
    rw [h1, h2]
    by_cases e : k = i
    · subst e; simp [bools_size, hi]
    · simp [e]
theorem byStart0 (w : World) (a b c : Obj) (S : Nat → Bool) : Blk ((((w.alloc (.cells (cells4 S) 28)).alloc a).alloc b).alloc c) w.heap.size 28 (cells4 S) := (((Blk.new w 28 (cells4 S)).alloc a).alloc b).alloc c
theorem byStart1 (w : World) (a b c : Obj) (S : Nat → Bool) : Blk ((((w.alloc a).alloc (.cells (cells4 S) 28)).alloc b).alloc c) (w.heap.size + 1) 28 (cells4 S) := by
  have := ((Blk.new (w.alloc a) 28 (cells4 S)).alloc b).alloc c
  rwa [World.size_alloc] at this
theorem byStart2 (w : World) (a b c : Obj) : Blk ((((w.alloc a).alloc b).alloc (.cells zero4 28)).alloc c) (w.heap.size + 2) 28 zero4 := by
  have := (Blk.new ((w.alloc a).alloc b) 28 zero4).alloc c
  rwa [World.size_alloc, World.size_alloc] at this
theorem byStart3 (w : World) (a b c : Obj) (f : Nat → Bool) : Blk ((((w.alloc a).alloc b).alloc c).alloc (.cells (bools fun _ => false) 4)) (w.heap.size + 3) 4 (bools (under f 0)) := by
  have := Blk.new (((w.alloc a).alloc b).alloc c) 4 (bools fun _ => false)
  rw [under_zero]
  rwa [World.size_alloc, World.size_alloc, World.size_alloc] at this

end Go.Proofs.Ytgckhkdjjmeboaa
