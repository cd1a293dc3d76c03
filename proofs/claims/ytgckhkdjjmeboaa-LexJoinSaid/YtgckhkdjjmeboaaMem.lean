/-
  What a call that changes some old blocks leaves as it was; rows of numbers, and rows of such rows, that lie in blocks of a given kind. Conditions: none but those that each names.
-/
import Derived.Test.YtgckhkdjjmeboaaIAt
import Derived.Maps.AppendAt
namespace Go.Proofs.Ytgckhkdjjmeboaa
open Go.RowKit

/-- Of what was there only blocks of F have changed. -/
structure But (F : Nat → Prop) (w w' : World) : Prop where
  os : w'.os = w.os
  tape : w'.tape = w.tape
  output : w'.output = w.output
  size : w.heap.size ≤ w'.heap.size
  block : ∀ k, k < w.heap.size → ¬ F k → w'.heap[k]? = w.heap[k]?
theorem But.of_below {F : Nat → Prop} {w w' : World} (h : Below w.heap.size w w') : But F w w' := ⟨h.os, h.tape, h.output, h.size, fun k hk _ => h.block k hk⟩
theorem But.below {F : Nat → Prop} {n : Nat} {w w' : World} (h : But F w w') (hn : n ≤ w.heap.size) (hF : ∀ k, F k → n ≤ k) : Below n w w' :=
  ⟨h.os, h.tape, h.output, h.size, fun k hk => h.block k (by omega) fun f => by have := hF k f; omega⟩
theorem But.trans {F G : Nat → Prop} {a b c : World} (h : But F a b) (k : But G b c) (hG : ∀ i, G i → F i ∨ a.heap.size ≤ i) : But F a c :=
  ⟨k.os.trans h.os, k.tape.trans h.tape, k.output.trans h.output, Nat.le_trans h.size k.size, fun i hi hf => (k.block i (Nat.lt_of_lt_of_le hi h.size) fun g => by
    rcases hG i g with g | g
    · exact hf g
    · omega).trans (h.block i hi hf)⟩
theorem But.mono {F G : Nat → Prop} {w w' : World} (h : But F w w') (hG : ∀ k, F k → G k) : But G w w' := ⟨h.os, h.tape, h.output, h.size, fun k hk hg => h.block k hk fun f => hg (hG k f)⟩
theorem But.cell {F : Nat → Prop} {w w' : World} (h : But F w w') {a : Addr} (ha : a.block < w.heap.size) (hF : ¬ F a.block) : w'.cell? a = w.cell? a := World.cell?_of_block (h.block _ ha hF)
theorem But.blk {F : Nat → Prop} {w w' : World} (h : But F w w') {B : Nat} {t : TypeId} {vs : Array Value} (hB : Blk w B t vs) (hF : ¬ F B) : Blk w' B t vs := (h.block _ hB.lt hF).trans hB
theorem But.owns {F : Nat → Prop} {w w' : World} (h : But F w w') {base : Nat} {e : TypeId} {size n : Nat} {v : Value} {xs : List Value} (ho : w.ownsRow base e size v n xs) (hF : ∀ k, v.ownBlock = some k → ¬ F k) : w'.ownsRow base e size v n xs := by
  obtain ⟨h1, h2⟩ := ho
  refine ⟨h1, ?_⟩
  rcases h2 with h0 | ⟨g, cap, cur, rfl, hb, hg, rest⟩
  · exact .inl h0
  · exact .inr ⟨g, cap, cur, rfl, hb, (h.block g (lt_of_block hg) (hF g rfl)).trans hg, rest⟩

theorem owns_form {w : World} {base size n : Nat} {e : TypeId} {v : Value} {xs : List Value} (h : w.ownsRow base e size v n xs) : ∃ ao cap, v = .slice ao n cap ∧ n ≤ cap := by
  rcases h.2 with ⟨rfl, rfl⟩ | ⟨g, cap, cur, rfl, _, _, h, _⟩
  · exact ⟨none, 0, rfl, Nat.le_refl _⟩
  · exact ⟨_, cap, rfl, h⟩
/-- From the address on lie these numbers, in a block of F. -/
def RowIn (W : World) (F : Nat → Prop) (ao : Option Addr) (xs : List Int) : Prop :=
  0 < xs.length → ∃ g off, ao = some ⟨g, off, none⟩ ∧ F g ∧ g < W.heap.size ∧ ∀ i, i < xs.length → W.cell? ⟨g, off + i, none⟩ = some (.int .i64 (xs.getD i 0))
theorem RowIn.iat {W : World} {F : Nat → Prop} {ao : Option Addr} {xs : List Int} (h : RowIn W F ao xs) : IAt W ao xs W.heap.size := fun hp => by
  obtain ⟨g, off, e, _, hl, hc⟩ := h hp
  exact ⟨g, off, e, hl, hc⟩
theorem RowIn.but {W W' : World} {F G : Nat → Prop} {ao : Option Addr} {xs : List Int} (h : RowIn W F ao xs) (hb : But G W W') (hd : ∀ k, F k → ¬ G k) : RowIn W' F ao xs := fun hp => by
  obtain ⟨g, off, e, hF, hl, hc⟩ := h hp
  exact ⟨g, off, e, hF, Nat.lt_of_lt_of_le hl hb.size, fun i hi => (hb.cell (a := ⟨g, _, none⟩) hl (hd g hF)).trans (hc i hi)⟩
theorem RowIn.mono {W : World} {F G : Nat → Prop} {ao : Option Addr} {xs : List Int} (h : RowIn W F ao xs) (hG : ∀ k, F k → G k) : RowIn W G ao xs := fun hp => by
  obtain ⟨g, off, e, hF, hl, hc⟩ := h hp
  exact ⟨g, off, e, hG g hF, hl, hc⟩
/-- A row of the call's own lies so. -/
theorem RowIn.of_owns {W : World} {base : Nat} {v : Value} {xs : List Int} (h : W.ownsRow base 3 1 v xs.length (numCells xs)) : ∃ ao cap, v = .slice ao xs.length cap ∧ xs.length ≤ cap ∧ cap ≤ maxLen ∧ RowIn W (fun k => base ≤ k) ao xs := by
  obtain ⟨ao, cap, rfl, h1, h2, h3⟩ := IAt.of_owns h
  refine ⟨ao, cap, rfl, h1, h2, fun hp => ?_⟩
  obtain ⟨g, off, rfl, hg, hc⟩ := h3 hp
  exact ⟨g, off, rfl, (h.lt g rfl).1, hg, hc⟩
theorem IAt.row {W : World} {ao : Option Addr} {xs : List Int} {bd : Nat} (h : IAt W ao xs bd) (hb : bd ≤ W.heap.size) : RowIn W (fun k => k < bd) ao xs := fun hp => by
  obtain ⟨g, off, e, hg, hc⟩ := h hp
  exact ⟨g, off, e, hg, by omega, hc⟩

/-- A slice of rows: from the address on lie slices of these rows, all in blocks below the bound. -/
def RsAt (W : World) (ao : Option Addr) (L : List (List Int)) (bd : Nat) : Prop :=
  0 < L.length → ∃ g off, ao = some ⟨g, off, none⟩ ∧ g < bd ∧ ∀ i, i < L.length → ∃ so sc, W.cell? ⟨g, off + i, none⟩ = some (.slice so (L.getD i []).length sc) ∧ (L.getD i []).length ≤ sc ∧ (L.getD i []).length ≤ maxLen ∧ IAt W so (L.getD i []) bd
theorem RsAt.below {W W' : World} {ao : Option Addr} {L : List (List Int)} {bd n : Nat} (h : RsAt W ao L bd) (hb : Below n W W') (hn : bd ≤ n) : RsAt W' ao L bd := fun hp => by
  obtain ⟨g, off, e, hg, hc⟩ := h hp
  refine ⟨g, off, e, hg, fun i hi => ?_⟩
  obtain ⟨so, sc, h1, h2, h3, h4⟩ := hc i hi
  exact ⟨so, sc, (hb.cell (p := ⟨g, _, none⟩) (by simp only; omega)).trans h1, h2, h3, h4.below hb hn⟩
theorem RsAt.mono {W : World} {ao : Option Addr} {L : List (List Int)} {bd n : Nat} (h : RsAt W ao L bd) (hn : bd ≤ n) : RsAt W ao L n := fun hp => by
  obtain ⟨g, off, e, hg, hc⟩ := h hp
  refine ⟨g, off, e, by omega, fun i hi => ?_⟩
  obtain ⟨so, sc, h1, h2, h3, h4⟩ := hc i hi
  exact ⟨so, sc, h1, h2, h3, h4.mono hn⟩
end Go.Proofs.Ytgckhkdjjmeboaa
