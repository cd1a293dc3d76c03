/-
  The walk of package intern's Sort: the numbers rising, each once, in memory of the call's own; nothing that was there before the call has changed. Conditions: the numbers lie in memory as a slice, at most 1000 of them.
-/
import Derived.Test.YtbnnfhpphelmfaaInternLib
import Derived.Test.YtbnnfhpphelmfaaInternSrt
import Derived.Test.YtbnnfhpphelmfaaInternSort
import Derived.Lib.OwnBridge
import Derived.Sort.Grow
namespace Go.Proofs.Ytbnnfhpphelmfaa
open Go.RowKit Go.Shelf Go.Sort

/-- From where on a call's own blocks are new, all else stays. -/
def Keeps (base : Nat) (w w' : World) : Prop := ∀ (B : Nat) (w0 : World), B ≤ base → Below B w0 w → Below B w0 w'
theorem below_grow {B : Nat} {w0 w : World} (h : Below B w0 w) (os : Array Obj) (hB : B ≤ w.heap.size) : Below B w0 (grow w os) :=
  ⟨h.os, h.tape, h.output, by simpa using Nat.le_trans h.size (Nat.le_add_right _ _), fun k hk => (heap_grow_old w os (by omega)).trans (h.block k hk)⟩
theorem owns_grow {w : World} {base size n : Nat} {e : TypeId} {v : Value} {xs : List Value} (h : w.ownsRow base e size v n xs) (os : Array Obj) : (grow w os).ownsRow base e size v n xs :=
  h.kept (row := none) ⟨rfl, rfl, rfl, by simp, fun k hk _ => heap_grow_old w os hk⟩ (Classical.em _)

theorem clone_any (ao : Option Addr) (len cap : Nat) (L : List Int) (hl : L.length = len) (hm : len ≤ 1000) (w : World) (hA : IAt w ao L w.heap.size) :
    Calls Try.prog 25 #[.slice ao len cap] w fun e w' => ∃ v, e = .returned v ∧ w'.ownsRow w.heap.size 3 1 v len (numCells L) ∧ Below w.heap.size w w' := by
  subst hl
  rcases Nat.eq_zero_or_pos L.length with h0 | h0
  · obtain rfl : L = [] := List.eq_nil_of_length_eq_zero h0
    cases ao with
    | none =>
      refine (Any.slices_Clone_int_nil clone0Lays 0 cap w).mono ?_
      rintro e w' ⟨he, rfl⟩
      exact ⟨_, he, World.ownsRow_nil _ _ _ _, Below.refl _ _⟩
    | some a => exact (Any.slices_Clone_int_zero clone0Lays a cap w).mono fun e w' ⟨v, he, ho, _, hb⟩ => ⟨v, he, ho, hb⟩
  · obtain ⟨g, off, rfl, _, hc⟩ := hA h0
    refine (Any.slices_Clone_int clone0Lays g off L.length cap L w (Nat.le_refl _) (by omega) hc).mono ?_
    rintro e w' ⟨v, he, ho, _, hb⟩
    rw [List.take_length] at ho
    exact ⟨v, he, ho, hb⟩

theorem slsort_any {base n : Nat} {v : Value} {L : List Int} (hm : n ≤ 1000) {w : World} (h : w.ownsRow base 3 1 v n (numCells L)) :
    Calls Try.prog 26 #[v] w fun e w' => e = .returned (.tuple #[]) ∧ w'.ownsRow base 3 1 v n (numCells (L.mergeSort fun x y => decide (x ≤ y))) ∧ Keeps base w w' := by
  by_cases hv : v = .slice none 0 0
  · subst hv
    have hn : n = 0 := by
      rcases h.2 with ⟨_, e⟩ | ⟨g, c, cur, e, _⟩
      · exact e
      · cases e
    subst hn
    obtain rfl : L = [] := by have := h.1; simpa using this
    refine (Any.slices_Sort_int_none srt0Lays none 0 w).mono ?_
    rintro e w' ⟨he, rfl⟩
    exact ⟨he, by rw [List.mergeSort_nil]; exact World.ownsRow_nil _ _ _ _, fun B w0 _ hb => hb⟩
  · obtain ⟨g, cap, rfl, hbg, hgl, hnc, hcm, hlen, hH⟩ := Lib.holds_of_ownsRow h hv
    subst hlen
    refine (Any.slices_Sort_int srt0Lays g 0 cap L w hH hgl (by omega)).mono ?_
    rintro e w' ⟨he, q, os, rfl⟩
    refine ⟨he, ?_, fun B w0 hB hb => below_grow (Lib.below_putRow hb (by omega)) os ?_⟩
    · have h1 := Lib.ownsRow_putRow (q := q) (k := L.length) (ys := L.mergeSort fun x y => decide (x ≤ y)) h (by simp) (Nat.le_refl _)
      rw [List.take_of_length_le (by simp)] at h1
      exact owns_grow h1 os
    · have := hb.size
      have h2 : (putRow (Value.int .i64) (Sort.ahead w q) g 0 (L.mergeSort fun x y => decide (x ≤ y)).toArray).heap.size = w.heap.size := by simp [putRow, mapBlock, Sort.ahead]
      omega

theorem slcompact_any {base n : Nat} {v : Value} {L : List Int} (hm : n ≤ 1000) {w : World} (h : w.ownsRow base 3 1 v n (numCells L)) :
    Calls Try.prog 27 #[v] w fun e w' => ∃ v', e = .returned v' ∧ w'.ownsRow base 3 1 v' (Lib.compact L).length (numCells (Lib.compact L)) ∧ Keeps base w w' := by
  by_cases hv : v = .slice none 0 0
  · subst hv
    have hn : n = 0 := by
      rcases h.2 with ⟨_, e⟩ | ⟨g, c, cur, e, _⟩
      · exact e
      · cases e
    subst hn
    obtain rfl : L = [] := by have := h.1; simpa using this
    refine (Any.slices_Compact_int_empty compact0Lays none 0 w).mono ?_
    rintro e w' ⟨he, rfl⟩
    exact ⟨_, he, by rw [show Lib.compact ([] : List Int) = [] from rfl]; exact World.ownsRow_nil _ _ _ _, fun B w0 _ hb => hb⟩
  · obtain ⟨g, cap, rfl, hbg, hgl, hnc, hcm, hlen, hH⟩ := Lib.holds_of_ownsRow h hv
    subst hlen
    have hle := Lib.compact_length_le L
    refine (Any.slices_Compact_int compact0Lays g 0 cap L w hH (by omega) hnc).mono ?_
    rintro e w' ⟨he, q, rfl⟩
    refine ⟨_, he, ?_, fun B w0 hB hb => Lib.below_putRow hb (by omega)⟩
    have h1 := Lib.ownsRow_putRow (q := q) (k := (Lib.compact L).length) (ys := Lib.compact L ++ List.replicate (L.length - (Lib.compact L).length) 0) h (by simp; omega) hle
    rwa [List.take_left] at h1

set_option maxRecDepth 100000 in
theorem sort_own (ao : Option Addr) (len cap : Nat) (L : List Int) (hl : L.length = len) (hm : len ≤ 1000) (w : World) (hA : IAt w ao L w.heap.size) :
    Calls Try.prog 12 #[.slice ao len cap] w fun e w' => ∃ v, e = .returned v ∧ w'.ownsRow w.heap.size 3 1 v (srt L).length (numCells (srt L)) ∧ Below w.heap.size w w' := by
  have HC := Lib.hid (clone_any ao len cap L hl hm w hA)
  have HE := Lib.hid (compact_sorted L)
  clear hA hl
  go_enter Try.func12, Try.ntmps12
  go_wp2_with fail
  refine HC.out.mono ?_
  rintro e w1 ⟨v1, rfl, hown, hb⟩
  go_wp2_with fail
  refine (slsort_any hm hown).mono ?_
  rintro e w2 ⟨rfl, hown2, hk2⟩
  go_wp2_with fail
  refine (slcompact_any hm hown2).mono ?_
  rintro e w3 ⟨v3, rfl, hown3, hk3⟩
  rw [HE.out] at hown3
  go_wp2
  go_ret
  exact ⟨v3, rfl, hown3, hk3 _ _ (Nat.le_refl _) (hk2 _ _ (Nat.le_refl _) hb)⟩
end Go.Proofs.Ytbnnfhpphelmfaa
