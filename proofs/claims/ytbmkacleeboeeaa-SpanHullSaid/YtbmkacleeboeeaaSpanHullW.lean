/-
  The walk of the statement SpanHull: of any three spans it returns true; nothing that was there before the call has changed. Conditions: none.
-/
import Derived.Test.YtbmkacleeboeeaaSpanAwake
namespace Go.Proofs.Ytbmkacleeboeeaa
open Go.RowKit

theorem hul_comm (s t : Sp) : hul t s = hul s t := by unfold hul; rw [Int.min_comm, Int.max_comm]
theorem hul_self (s : Sp) : hul s s = s := by unfold hul; rw [Int.min_self, Int.max_self]
theorem hul_assoc (s t u : Sp) : hul s (hul t u) = hul (hul s t) u := by unfold hul; simp only [Int.min_assoc, Int.max_assoc]

set_option maxRecDepth 100000 in
set_option maxHeartbeats 2000000 in
theorem spanHull_walk (s t u : Sp) (w : World) :
    Calls Try.prog 4 #[pv s, pv t, pv u] w fun e w' => e = .returned (.bool true) ∧ Below w.heap.size w w' := by
  have H0 := Lib.hid (hull_any s t)
  have H1 := Lib.hid (hull_any t s)
  have H2 := Lib.hid (hull_any s s)
  have H3 := Lib.hid (hull_any (hul s t) u)
  have H4 := Lib.hid (hull_any t u)
  have H5 := Lib.hid (hull_any s (hul t u))
  rw [hul_comm s t] at H1
  rw [hul_self] at H2
  rw [hul_assoc] at H5
  have f1 : (hul s t).1 ≤ s.1 := by unfold hul; exact Int.min_le_left _ _
  have f2 : (hul s t).1 ≤ t.1 := by unfold hul; exact Int.min_le_right _ _
  have f3 : s.2 ≤ (hul s t).2 := by unfold hul; exact Int.le_max_left _ _
  have f4 : t.2 ≤ (hul s t).2 := by unfold hul; exact Int.le_max_right _ _
  have f5 : (hul s t).1 = s.1 ∨ (hul s t).1 = t.1 := by unfold hul; simp only; omega
  have f6 : (hul s t).2 = s.2 ∨ (hul s t).2 = t.2 := by unfold hul; simp only; omega
  generalize hul (hul s t) u = z at *
  generalize hul s t = h at *
  generalize hul t u = k at *
  have b1 := Blk.new w 24 #[.int .i64 s.1, .int .i64 s.2]
  have b2 := Blk.new (w.alloc (.cells #[.int .i64 s.1, .int .i64 s.2] 24)) 24 #[.int .i64 t.1, .int .i64 t.2]
  have b3 := Blk.new ((w.alloc (.cells #[.int .i64 s.1, .int .i64 s.2] 24)).alloc (.cells #[.int .i64 t.1, .int .i64 t.2] 24)) 24 #[.int .i64 u.1, .int .i64 u.2]
  have b1' := (b1.alloc (.cells #[.int .i64 t.1, .int .i64 t.2] 24)).alloc (.cells #[.int .i64 u.1, .int .i64 u.2] 24)
  have b2' := b2.alloc (.cells #[.int .i64 u.1, .int .i64 u.2] 24)
  have hB := bal (bal (bal0 w (.cells #[.int .i64 s.1, .int .i64 s.2] 24)) (.cells #[.int .i64 t.1, .int .i64 t.2] 24)) (.cells #[.int .i64 u.1, .int .i64 u.2] 24)
  clear b1 b2
  simp only [World.size_alloc] at b1' b2' b3
  go_enter Try.func4, Try.ntmps4
  go_wp2_with fail
  generalize ((w.alloc (.cells #[.int .i64 s.1, .int .i64 s.2] 24)).alloc (.cells #[.int .i64 t.1, .int .i64 t.2] 24)).alloc (.cells #[.int .i64 u.1, .int .i64 u.2] 24) = w0 at b1' b2' b3 hB ⊢
  refine (H0.out w0).mono ?_
  rintro e w1 ⟨rfl, hb⟩
  have c1 := (b1'.below hb b1'.lt).alloc (.cells #[.int .i64 h.1, .int .i64 h.2] 24)
  have c2 := (b2'.below hb b2'.lt).alloc (.cells #[.int .i64 h.1, .int .i64 h.2] 24)
  have c3 := (b3.below hb b3.lt).alloc (.cells #[.int .i64 h.1, .int .i64 h.2] 24)
  have c4 := Blk.new w1 24 #[.int .i64 h.1, .int .i64 h.2]
  have hB2 := bal (btr hB hb) (.cells #[.int .i64 h.1, .int .i64 h.2] 24)
  clear b1' b2' b3 hb hB H0
  have l11 := c1.cell 0
  have l12 := c1.cell 1
  have l21 := c2.cell 0
  have l22 := c2.cell 1
  have l31 := c3.cell 0
  have l32 := c3.cell 1
  have l41 := c4.cell 0
  have l42 := c4.cell 1
  simp only [List.getElem?_toArray, List.getElem?_cons_zero, List.getElem?_cons_succ] at l11 l12 l21 l22 l31 l32 l41 l42
  by_cases d1 : h.1 = s.1
  · have e1 : (h.1 == s.1) = true := beq_iff_eq.2 d1
    by_cases d2 : h.2 = s.2
    · have e2 : (h.2 == s.2) = true := beq_iff_eq.2 d2
      clear f5 f6 d1 d2
      go_wp2_with fail
      clear l11 l12 l21 l22 l31 l32 l41 l42 e1 e2
      generalize w1.alloc (.cells #[.int .i64 h.1, .int .i64 h.2] 24) = w2 at c1 c2 c3 c4 hB2 ⊢
      have q11 : ∀ p : Past w2, p.w.cell? ⟨w.heap.size, 0, none⟩ = some (.int .i64 s.1) := fun p => (c1.below p.h c1.lt).cell 0
      have q12 : ∀ p : Past w2, p.w.cell? ⟨w.heap.size, 1, none⟩ = some (.int .i64 s.2) := fun p => (c1.below p.h c1.lt).cell 1
      have q21 : ∀ p : Past w2, p.w.cell? ⟨w.heap.size + 1, 0, none⟩ = some (.int .i64 t.1) := fun p => (c2.below p.h c2.lt).cell 0
      have q22 : ∀ p : Past w2, p.w.cell? ⟨w.heap.size + 1, 1, none⟩ = some (.int .i64 t.2) := fun p => (c2.below p.h c2.lt).cell 1
      have q31 : ∀ p : Past w2, p.w.cell? ⟨w.heap.size + 1 + 1, 0, none⟩ = some (.int .i64 u.1) := fun p => (c3.below p.h c3.lt).cell 0
      have q32 : ∀ p : Past w2, p.w.cell? ⟨w.heap.size + 1 + 1, 1, none⟩ = some (.int .i64 u.2) := fun p => (c3.below p.h c3.lt).cell 1
      have q41 : ∀ p : Past w2, p.w.cell? ⟨w1.heap.size, 0, none⟩ = some (.int .i64 h.1) := fun p => (c4.below p.h c4.lt).cell 0
      have q42 : ∀ p : Past w2, p.w.cell? ⟨w1.heap.size, 1, none⟩ = some (.int .i64 h.2) := fun p => (c4.below p.h c4.lt).cell 1
      clear c1 c2 c3 c4
      refine wp_region_past (w0 := w2) (by kernel_rfl) (by kernel_rfl) (Below.refl _ _) ?_
      repeat (go_big_quiet_step ((first | with_reducible exact Calls.past (awake_span _) | with_reducible exact Calls.past (H1.out _) | with_reducible exact Calls.past (H2.out _) | with_reducible exact Calls.past (H3.out _) | with_reducible exact Calls.past (H4.out _) | with_reducible exact Calls.past (H5.out _))))
      refine wpQuiet_nil ?_
      intro p
      have HB := Lib.hid (btr hB2 p.h)
      go_wp2
      go_ret
      exact ⟨rfl, HB.out⟩
    · have e2 : (h.2 == s.2) = false := beq_eq_false_iff_ne.2 d2
      have e3 : (h.2 == t.2) = true := beq_iff_eq.2 (f6.resolve_left d2)
      clear f5 f6 d1 d2
      go_wp2_with fail
      clear l11 l12 l21 l22 l31 l32 l41 l42 e1 e2 e3
      generalize w1.alloc (.cells #[.int .i64 h.1, .int .i64 h.2] 24) = w2 at c1 c2 c3 c4 hB2 ⊢
      have q11 : ∀ p : Past w2, p.w.cell? ⟨w.heap.size, 0, none⟩ = some (.int .i64 s.1) := fun p => (c1.below p.h c1.lt).cell 0
      have q12 : ∀ p : Past w2, p.w.cell? ⟨w.heap.size, 1, none⟩ = some (.int .i64 s.2) := fun p => (c1.below p.h c1.lt).cell 1
      have q21 : ∀ p : Past w2, p.w.cell? ⟨w.heap.size + 1, 0, none⟩ = some (.int .i64 t.1) := fun p => (c2.below p.h c2.lt).cell 0
      have q22 : ∀ p : Past w2, p.w.cell? ⟨w.heap.size + 1, 1, none⟩ = some (.int .i64 t.2) := fun p => (c2.below p.h c2.lt).cell 1
      have q31 : ∀ p : Past w2, p.w.cell? ⟨w.heap.size + 1 + 1, 0, none⟩ = some (.int .i64 u.1) := fun p => (c3.below p.h c3.lt).cell 0
      have q32 : ∀ p : Past w2, p.w.cell? ⟨w.heap.size + 1 + 1, 1, none⟩ = some (.int .i64 u.2) := fun p => (c3.below p.h c3.lt).cell 1
      have q41 : ∀ p : Past w2, p.w.cell? ⟨w1.heap.size, 0, none⟩ = some (.int .i64 h.1) := fun p => (c4.below p.h c4.lt).cell 0
      have q42 : ∀ p : Past w2, p.w.cell? ⟨w1.heap.size, 1, none⟩ = some (.int .i64 h.2) := fun p => (c4.below p.h c4.lt).cell 1
      clear c1 c2 c3 c4
      refine wp_region_past (w0 := w2) (by kernel_rfl) (by kernel_rfl) (Below.refl _ _) ?_
      repeat (go_big_quiet_step ((first | with_reducible exact Calls.past (awake_span _) | with_reducible exact Calls.past (H1.out _) | with_reducible exact Calls.past (H2.out _) | with_reducible exact Calls.past (H3.out _) | with_reducible exact Calls.past (H4.out _) | with_reducible exact Calls.past (H5.out _))))
      refine wpQuiet_nil ?_
      intro p
      have HB := Lib.hid (btr hB2 p.h)
      go_wp2
      go_ret
      exact ⟨rfl, HB.out⟩
  · have e1 : (h.1 == s.1) = false := beq_eq_false_iff_ne.2 d1
    have e4 : (h.1 == t.1) = true := beq_iff_eq.2 (f5.resolve_left d1)
    by_cases d2 : h.2 = s.2
    · have e2 : (h.2 == s.2) = true := beq_iff_eq.2 d2
      clear f5 f6 d1 d2
      go_wp2_with fail
      clear l11 l12 l21 l22 l31 l32 l41 l42 e1 e2 e4
      generalize w1.alloc (.cells #[.int .i64 h.1, .int .i64 h.2] 24) = w2 at c1 c2 c3 c4 hB2 ⊢
      have q11 : ∀ p : Past w2, p.w.cell? ⟨w.heap.size, 0, none⟩ = some (.int .i64 s.1) := fun p => (c1.below p.h c1.lt).cell 0
      have q12 : ∀ p : Past w2, p.w.cell? ⟨w.heap.size, 1, none⟩ = some (.int .i64 s.2) := fun p => (c1.below p.h c1.lt).cell 1
      have q21 : ∀ p : Past w2, p.w.cell? ⟨w.heap.size + 1, 0, none⟩ = some (.int .i64 t.1) := fun p => (c2.below p.h c2.lt).cell 0
      have q22 : ∀ p : Past w2, p.w.cell? ⟨w.heap.size + 1, 1, none⟩ = some (.int .i64 t.2) := fun p => (c2.below p.h c2.lt).cell 1
      have q31 : ∀ p : Past w2, p.w.cell? ⟨w.heap.size + 1 + 1, 0, none⟩ = some (.int .i64 u.1) := fun p => (c3.below p.h c3.lt).cell 0
      have q32 : ∀ p : Past w2, p.w.cell? ⟨w.heap.size + 1 + 1, 1, none⟩ = some (.int .i64 u.2) := fun p => (c3.below p.h c3.lt).cell 1
      have q41 : ∀ p : Past w2, p.w.cell? ⟨w1.heap.size, 0, none⟩ = some (.int .i64 h.1) := fun p => (c4.below p.h c4.lt).cell 0
      have q42 : ∀ p : Past w2, p.w.cell? ⟨w1.heap.size, 1, none⟩ = some (.int .i64 h.2) := fun p => (c4.below p.h c4.lt).cell 1
      clear c1 c2 c3 c4
      refine wp_region_past (w0 := w2) (by kernel_rfl) (by kernel_rfl) (Below.refl _ _) ?_
      repeat (go_big_quiet_step ((first | with_reducible exact Calls.past (awake_span _) | with_reducible exact Calls.past (H1.out _) | with_reducible exact Calls.past (H2.out _) | with_reducible exact Calls.past (H3.out _) | with_reducible exact Calls.past (H4.out _) | with_reducible exact Calls.past (H5.out _))))
      refine wpQuiet_nil ?_
      intro p
      have HB := Lib.hid (btr hB2 p.h)
      go_wp2
      go_ret
      exact ⟨rfl, HB.out⟩
    · have e2 : (h.2 == s.2) = false := beq_eq_false_iff_ne.2 d2
      have e3 : (h.2 == t.2) = true := beq_iff_eq.2 (f6.resolve_left d2)
      clear f5 f6 d1 d2
      go_wp2_with fail
      clear l11 l12 l21 l22 l31 l32 l41 l42 e1 e2 e3 e4
      generalize w1.alloc (.cells #[.int .i64 h.1, .int .i64 h.2] 24) = w2 at c1 c2 c3 c4 hB2 ⊢
      have q11 : ∀ p : Past w2, p.w.cell? ⟨w.heap.size, 0, none⟩ = some (.int .i64 s.1) := fun p => (c1.below p.h c1.lt).cell 0
      have q12 : ∀ p : Past w2, p.w.cell? ⟨w.heap.size, 1, none⟩ = some (.int .i64 s.2) := fun p => (c1.below p.h c1.lt).cell 1
      have q21 : ∀ p : Past w2, p.w.cell? ⟨w.heap.size + 1, 0, none⟩ = some (.int .i64 t.1) := fun p => (c2.below p.h c2.lt).cell 0
      have q22 : ∀ p : Past w2, p.w.cell? ⟨w.heap.size + 1, 1, none⟩ = some (.int .i64 t.2) := fun p => (c2.below p.h c2.lt).cell 1
      have q31 : ∀ p : Past w2, p.w.cell? ⟨w.heap.size + 1 + 1, 0, none⟩ = some (.int .i64 u.1) := fun p => (c3.below p.h c3.lt).cell 0
      have q32 : ∀ p : Past w2, p.w.cell? ⟨w.heap.size + 1 + 1, 1, none⟩ = some (.int .i64 u.2) := fun p => (c3.below p.h c3.lt).cell 1
      have q41 : ∀ p : Past w2, p.w.cell? ⟨w1.heap.size, 0, none⟩ = some (.int .i64 h.1) := fun p => (c4.below p.h c4.lt).cell 0
      have q42 : ∀ p : Past w2, p.w.cell? ⟨w1.heap.size, 1, none⟩ = some (.int .i64 h.2) := fun p => (c4.below p.h c4.lt).cell 1
      clear c1 c2 c3 c4
      refine wp_region_past (w0 := w2) (by kernel_rfl) (by kernel_rfl) (Below.refl _ _) ?_
      repeat (go_big_quiet_step ((first | with_reducible exact Calls.past (awake_span _) | with_reducible exact Calls.past (H1.out _) | with_reducible exact Calls.past (H2.out _) | with_reducible exact Calls.past (H3.out _) | with_reducible exact Calls.past (H4.out _) | with_reducible exact Calls.past (H5.out _))))
      refine wpQuiet_nil ?_
      intro p
      have HB := Lib.hid (btr hB2 p.h)
      go_wp2
      go_ret
      exact ⟨rfl, HB.out⟩
end Go.Proofs.Ytbmkacleeboeeaa
