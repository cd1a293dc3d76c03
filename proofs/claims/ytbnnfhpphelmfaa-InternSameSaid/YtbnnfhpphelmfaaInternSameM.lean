/-
  Plain facts behind InternSame: numbers that rows have stay theirs; a row of the call's own that is written over. Conditions: those that each names.
-/
import Derived.Test.YtbnnfhpphelmfaaInternFew
namespace Go.Proofs.Ytbnnfhpphelmfaa
open Go.RowKit

theorem posTo_append {s : List Int} : ∀ {P : List (List Int)} {n : Nat} (Q : List (List Int)), posTo s P = some n → posTo s (P ++ Q) = some n
  | [], n, Q, h => by cases h
  | x :: r, n, Q, h => by
    rw [List.cons_append, posTo]
    rw [posTo] at h
    split at h
    · rename_i hx
      rw [if_pos hx]; exact h
    · rename_i hx
      rw [if_neg hx]
      cases hp : posTo s r with
      | none => rw [hp] at h; cases h
      | some m =>
        rw [hp] at h
        rw [posTo_append Q hp]
        exact h
theorem posTo_end {s : List Int} : ∀ {P : List (List Int)}, posTo s P = none → posTo s (P ++ [s]) = some P.length
  | [], _ => by simp [posTo]
  | x :: r, h => by
    rw [List.cons_append, posTo]
    rw [posTo] at h
    split at h
    · cases h
    · rename_i hx
      rw [if_neg hx]
      cases hp : posTo s r with
      | none => rw [posTo_end hp]; rfl
      | some m => rw [hp] at h; cases h
theorem put_pos {P : List (List Int)} {s : List Int} (h : P.length < 4096) : ∃ n : Nat, posTo s (putL P s) = some n ∧ putN P s = (n : Int) ∧ putE P s = 0 := by
  unfold putL putN putE
  cases hp : posTo s P with
  | some n => exact ⟨n, hp, rfl, rfl⟩
  | none =>
    have hn : ¬ 4096 ≤ P.length := by omega
    simp only [if_neg hn]
    exact ⟨P.length, posTo_end hp, rfl, trivial⟩
theorem put_keeps {P : List (List Int)} {s t : List Int} {n : Nat} (h : posTo t P = some n) : posTo t (putL P s) = some n := by
  unfold putL
  split
  · exact h
  · split
    · exact h
    · exact posTo_append _ h
theorem pos_same {P : List (List Int)} {s t : List Int} {n m : Nat} (h1 : posTo s P = some n) (h2 : posTo t P = some m) : n = m ↔ s = t := by
  constructor
  · rintro rfl
    rw [← (posTo_lt h1).2, ← (posTo_lt h2).2]
  · rintro rfl
    rw [h1] at h2
    exact Option.some.inj h2
theorem row_pos {P : List (List Int)} {s : List Int} {n : Nat} (h : posTo s P = some n) : rowL P (n : Int) = s ∧ rowE P (n : Int) = 0 := by
  have := posTo_lt h
  unfold rowL rowE
  rw [if_pos (by omega), if_pos (by omega), Int.toNat_natCast]
  exact ⟨this.2, rfl⟩
theorem fnd_pos {P : List (List Int)} {s : List Int} {n : Nat} (h : posTo s P = some n) : fnd P s = ((n : Int), true) := by
  unfold fnd; rw [h]

theorem But.of_grown {w w' : World} {row : Option Nat} (h : w.grownBy w' row) : But (fun k => row = some k) w w' :=
  ⟨h.os, h.tape, h.output, h.size, fun k hk hn => h.block k hk fun e => hn e.symm⟩
theorem But.refl (F : Nat → Prop) (w : World) : But F w w := ⟨rfl, rfl, rfl, Nat.le_refl _, fun _ _ _ => rfl⟩
theorem But.set {w : World} (a : Addr) (u : Value) : But (fun k => k = a.block) w (w.setCell a u) :=
  ⟨rfl, rfl, rfl, by simp, fun k _ hn => Below.heap_setCell w a u k hn⟩
/-- A place of a row of the call's own is written over. -/
theorem owns_wipe {W : World} {base n c p : Nat} {e : TypeId} {ao : Option Addr} {xs : List Value} (h : W.ownsRow base e 1 (.slice ao n c) n xs) (hp : p < n) :
    ∃ g, ao = some ⟨g, 0, none⟩ ∧ (∃ u, W.cell? ⟨g, p, none⟩ = some u) ∧ W.frozen? ⟨g, p, none⟩ = false ∧ ∀ u, (∃ ys, (W.setCell ⟨g, p, none⟩ u).ownsRow base e 1 (.slice ao n c) n ys) ∧ But (fun k => (Value.slice ao n c).ownBlock = some k) W (W.setCell ⟨g, p, none⟩ u) := by
  obtain ⟨hl, h2⟩ := h
  rcases h2 with ⟨h0, h1⟩ | ⟨g, cap, cur, hv, hb, hg, hn, hm, hs, ht⟩
  · omega
  · cases hv
    have hblk : Blk W g e cur := hg
    have hpc : p < cur.size := by omega
    refine ⟨g, rfl, ⟨cur[p], ?_⟩, hblk.frozen p, fun u => ⟨⟨(cur.setIfInBounds p u).toList.take (n * 1), ?_, .inr ⟨g, c, cur.setIfInBounds p u, rfl, hb, hblk.set p u, hn, hm, by simpa using hs, rfl⟩⟩, ?_⟩⟩
    · rw [hblk.cell, Array.getElem?_eq_getElem hpc]
    · rw [List.length_take, Array.length_toList, Array.size_setIfInBounds]; omega
    · refine (But.set ⟨g, p, none⟩ u).mono fun k hk => ?_
      show some g = some k
      rw [hk]
end Go.Proofs.Ytbnnfhpphelmfaa
