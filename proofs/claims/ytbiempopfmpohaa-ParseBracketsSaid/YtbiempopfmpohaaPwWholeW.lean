/-
  All that a text says: whole, as it has landed, for expressions and for files. Conditions: at most 65536 bytes.
-/
import Derived.Test.YtbiempopfmpohaaParseDt
namespace Go.Proofs.Ytbiempopfmpohaa
open Go.RowKit

theorem Blk.nine' {W : World} {R : Nat} {T : TypeId} (h : Blk W R T #[.int .i64 0, .string { data := #[] }, .int .u64 0, .int .u64 0, .int .u64 0, .int .u64 0, .slice none 0 0, .int .i64 0, .int .i64 0]) : (W.cell? ⟨R, 0, none⟩ = some (.int .i64 0) ∧ W.cell? ⟨R, 1, none⟩ = some (.string { data := #[] }) ∧ W.cell? ⟨R, 2, none⟩ = some (.int .u64 0) ∧ W.cell? ⟨R, 3, none⟩ = some (.int .u64 0) ∧ W.cell? ⟨R, 4, none⟩ = some (.int .u64 0) ∧ W.cell? ⟨R, 5, none⟩ = some (.int .u64 0) ∧ W.cell? ⟨R, 6, none⟩ = some (.slice none 0 0) ∧ W.cell? ⟨R, 7, none⟩ = some (.int .i64 0) ∧ W.cell? ⟨R, 8, none⟩ = some (.int .i64 0)) ∧
    (W.frozen? ⟨R, 0, none⟩ = false ∧ W.frozen? ⟨R, 1, none⟩ = false ∧ W.frozen? ⟨R, 2, none⟩ = false ∧ W.frozen? ⟨R, 3, none⟩ = false ∧ W.frozen? ⟨R, 4, none⟩ = false ∧ W.frozen? ⟨R, 5, none⟩ = false ∧ W.frozen? ⟨R, 6, none⟩ = false ∧ W.frozen? ⟨R, 7, none⟩ = false ∧ W.frozen? ⟨R, 8, none⟩ = false) :=
  ⟨⟨h.cell 0, h.cell 1, h.cell 2, h.cell 3, h.cell 4, h.cell 5, h.cell 6, h.cell 7, h.cell 8⟩, ⟨h.frozen 0, h.frozen 1, h.frozen 2, h.frozen 3, h.frozen 4, h.frozen 5, h.frozen 6, h.frozen 7, h.frozen 8⟩⟩

set_option maxRecDepth 100000 in
set_option maxHeartbeats 4000000 in
theorem whole_re_lex (s : ByteArray) (hs : s.size ≤ 65536) (fv : Value) (c q : Nat) (hA : allL (bl s) 0 = .error (c, q)) (w : World) :
    Calls Try.prog 12 #[.string s, fv] w fun e w' => e = .returned (.tuple #[.agg #[.int .i64 0, .string { data := #[] }, .int .u64 0, .int .u64 0, .int .u64 0, .int .u64 0, .slice none 0 0, .int .i64 0, .int .i64 0], .int .i64 ((q : Nat) : Int), .int .i64 ((c : Nat) : Int)]) ∧ Below w.heap.size w w' := by
  have HA := Lib.hid (fun W => allo_any s hs W)
  have hc0 : (((c : Nat) : Int) != 0) = true := by have := allL_err _ _ _ (Nat.le_refl _) hA; simpa using this
  have t0 := ((Blk.new w 27 #[.int .i64 0, .string { data := #[] }, .int .u64 0, .int .u64 0, .int .u64 0, .int .u64 0, .slice none 0 0, .int .i64 0, .int .i64 0]).alloc (.cells #[.int .i64 0] 3)).alloc (.cells #[.int .i64 0] 28)
  have t1 := (Blk.new (w.alloc (.cells #[.int .i64 0, .string { data := #[] }, .int .u64 0, .int .u64 0, .int .u64 0, .int .u64 0, .slice none 0 0, .int .i64 0, .int .i64 0] 27)) 3 #[.int .i64 0]).alloc (.cells #[.int .i64 0] 28)
  have t2 := Blk.new ((w.alloc (.cells #[.int .i64 0, .string { data := #[] }, .int .u64 0, .int .u64 0, .int .u64 0, .int .u64 0, .slice none 0 0, .int .i64 0, .int .i64 0] 27)).alloc (.cells #[.int .i64 0] 3)) 28 #[.int .i64 0]
  have hB0 := bal (bal (bal0 w (.cells #[.int .i64 0, .string { data := #[] }, .int .u64 0, .int .u64 0, .int .u64 0, .int .u64 0, .slice none 0 0, .int .i64 0, .int .i64 0] 27)) (.cells #[.int .i64 0] 3)) (.cells #[.int .i64 0] 28)
  rw [World.size_alloc] at t1
  rw [World.size_alloc, World.size_alloc] at t2
  go_enter_defers Try.func12, Try.ntmps12
  go_wp2_with fail
  refine (HA.out _).mono ?_
  rintro e w1 ha
  unfold AllO at ha
  rw [hA] at ha
  obtain ⟨⟨so, sc, rfl⟩, hb⟩ := ha
  have hB1 := btr hB0 hb
  have u0 := t0.below hb t0.lt
  have u1 := t1.below hb t1.lt
  have u2 := t2.below hb t2.lt
  have c1 := u1.cell 0
  have c2 := u2.cell 0
  have z1 := u1.frozen 0
  have z2 := u2.frozen 0
  simp only [List.getElem?_toArray, List.getElem?_cons_zero] at c1 c2
  have h2 := (u2.other ⟨w.heap.size + 1, 0, none⟩ (.int .i64 ((q : Nat) : Int)) (by simp)).set 0 (.int .i64 ((c : Nat) : Int))
  have h1 := (u1.set 0 (.int .i64 ((q : Nat) : Int))).other ⟨w.heap.size + 1 + 1, 0, none⟩ (.int .i64 ((c : Nat) : Int)) (by simp)
  have h0 := (u0.other ⟨w.heap.size + 1, 0, none⟩ (.int .i64 ((q : Nat) : Int)) (by simp)).other ⟨w.heap.size + 1 + 1, 0, none⟩ (.int .i64 ((c : Nat) : Int)) (by simp; omega)
  have hB2 := (hB1.setCell (p := ⟨w.heap.size + 1, 0, none⟩) (by simp) (.int .i64 ((q : Nat) : Int))).setCell (p := ⟨w.heap.size + 1 + 1, 0, none⟩) (by simp; omega) (.int .i64 ((c : Nat) : Int))
  simp only [List.setIfInBounds_toArray, List.set_cons_zero] at h1 h2
  clear hb t0 t1 t2 hB0 u0 u1 u2 hB1 hA HA
  go_wp2_with fail
  generalize (w1.setCell ⟨w.heap.size + 1, 0, none⟩ (.int .i64 ((q : Nat) : Int))).setCell ⟨w.heap.size + 1 + 1, 0, none⟩ (.int .i64 ((c : Nat) : Int)) = w2 at *
  obtain ⟨⟨d0, d1, d2, d3, d4, d5, d6, d7, d8⟩, f0, f1, f2, f3, f4, f5, f6, f7, f8⟩ := Blk.nine' h0
  have d10 := h1.cell 0
  have f10 := h1.frozen 0
  have d20 := h2.cell 0
  have f20 := h2.frozen 0
  simp only [List.getElem?_toArray, List.getElem?_cons_zero] at d10 d20
  clear c1 c2 z1 z2
  go_region
  all_goals
    have q0 := (((((((((((h0).set 0 (.int .i64 0)).set 1 (.string { data := #[] })).set 2 (.int .u64 0)).set 3 (.int .u64 0)).set 4 (.int .u64 0)).set 5 (.int .u64 0)).set 6 (.slice none 0 0)).set 7 (.int .i64 0)).set 8 (.int .i64 0)).other ⟨w.heap.size + 1, 0, none⟩ (.int .i64 ((q : Nat) : Int)) (by simp)).other ⟨w.heap.size + 1 + 1, 0, none⟩ (.int .i64 ((c : Nat) : Int)) (by simp; omega)
    have q1 := (((((((((((h1).other ⟨w.heap.size, 0, none⟩ (.int .i64 0) (by simp; done)).other ⟨w.heap.size, 1, none⟩ (.string { data := #[] }) (by simp; done)).other ⟨w.heap.size, 2, none⟩ (.int .u64 0) (by simp; done)).other ⟨w.heap.size, 3, none⟩ (.int .u64 0) (by simp; done)).other ⟨w.heap.size, 4, none⟩ (.int .u64 0) (by simp; done)).other ⟨w.heap.size, 5, none⟩ (.int .u64 0) (by simp; done)).other ⟨w.heap.size, 6, none⟩ (.slice none 0 0) (by simp; done)).other ⟨w.heap.size, 7, none⟩ (.int .i64 0) (by simp; done)).other ⟨w.heap.size, 8, none⟩ (.int .i64 0) (by simp; done)).set 0 (.int .i64 ((q : Nat) : Int))).other ⟨w.heap.size + 1 + 1, 0, none⟩ (.int .i64 ((c : Nat) : Int)) (by simp)
    have q2 := (((((((((((h2).other ⟨w.heap.size, 0, none⟩ (.int .i64 0) (by simp; omega)).other ⟨w.heap.size, 1, none⟩ (.string { data := #[] }) (by simp; omega)).other ⟨w.heap.size, 2, none⟩ (.int .u64 0) (by simp; omega)).other ⟨w.heap.size, 3, none⟩ (.int .u64 0) (by simp; omega)).other ⟨w.heap.size, 4, none⟩ (.int .u64 0) (by simp; omega)).other ⟨w.heap.size, 5, none⟩ (.int .u64 0) (by simp; omega)).other ⟨w.heap.size, 6, none⟩ (.slice none 0 0) (by simp; omega)).other ⟨w.heap.size, 7, none⟩ (.int .i64 0) (by simp; omega)).other ⟨w.heap.size, 8, none⟩ (.int .i64 0) (by simp; omega)).other ⟨w.heap.size + 1, 0, none⟩ (.int .i64 ((q : Nat) : Int)) (by simp)).set 0 (.int .i64 ((c : Nat) : Int))
    have qB := (((((((((((hB2).setCell (p := ⟨w.heap.size, 0, none⟩) (Nat.le_refl _) (.int .i64 0)).setCell (p := ⟨w.heap.size, 1, none⟩) (Nat.le_refl _) (.string { data := #[] })).setCell (p := ⟨w.heap.size, 2, none⟩) (Nat.le_refl _) (.int .u64 0)).setCell (p := ⟨w.heap.size, 3, none⟩) (Nat.le_refl _) (.int .u64 0)).setCell (p := ⟨w.heap.size, 4, none⟩) (Nat.le_refl _) (.int .u64 0)).setCell (p := ⟨w.heap.size, 5, none⟩) (Nat.le_refl _) (.int .u64 0)).setCell (p := ⟨w.heap.size, 6, none⟩) (Nat.le_refl _) (.slice none 0 0)).setCell (p := ⟨w.heap.size, 7, none⟩) (Nat.le_refl _) (.int .i64 0)).setCell (p := ⟨w.heap.size, 8, none⟩) (Nat.le_refl _) (.int .i64 0)).setCell (p := ⟨w.heap.size + 1, 0, none⟩) (by simp) (.int .i64 ((q : Nat) : Int))).setCell (p := ⟨w.heap.size + 1 + 1, 0, none⟩) (by simp; omega) (.int .i64 ((c : Nat) : Int))
    simp only [List.setIfInBounds_toArray, List.set_cons_zero, List.set_cons_succ] at q0 q1 q2
    clear h0 h1 h2 hB2
    go_wp2
    exact ⟨_, results3 rfl rfl rfl rfl (load_re _ _ _ q0.drew rfl) q1.drew q2.drew, rfl, qB.drew⟩
set_option maxRecDepth 100000 in
set_option maxHeartbeats 4000000 in
theorem whole_items_lex (s : ByteArray) (hs : s.size ≤ 65536) (fv : Value) (c q : Nat) (hA : allL (bl s) 0 = .error (c, q)) (w : World) :
    Calls Try.prog 17 #[.string s, fv] w fun e w' => e = .returned (.tuple #[.slice none 0 0, .int .i64 ((q : Nat) : Int), .int .i64 ((c : Nat) : Int)]) ∧ Below w.heap.size w w' := by
  have HA := Lib.hid (fun W => allo_any s hs W)
  have hc0 : (((c : Nat) : Int) != 0) = true := by have := allL_err _ _ _ (Nat.le_refl _) hA; simpa using this
  have t0 := ((Blk.new w 37 #[.slice none 0 0]).alloc (.cells #[.int .i64 0] 3)).alloc (.cells #[.int .i64 0] 28)
  have t1 := (Blk.new (w.alloc (.cells #[.slice none 0 0] 37)) 3 #[.int .i64 0]).alloc (.cells #[.int .i64 0] 28)
  have t2 := Blk.new ((w.alloc (.cells #[.slice none 0 0] 37)).alloc (.cells #[.int .i64 0] 3)) 28 #[.int .i64 0]
  have hB0 := bal (bal (bal0 w (.cells #[.slice none 0 0] 37)) (.cells #[.int .i64 0] 3)) (.cells #[.int .i64 0] 28)
  rw [World.size_alloc] at t1
  rw [World.size_alloc, World.size_alloc] at t2
  go_enter_defers Try.func17, Try.ntmps17
  go_wp2_with fail
  refine (HA.out _).mono ?_
  rintro e w1 ha
  unfold AllO at ha
  rw [hA] at ha
  obtain ⟨⟨so, sc, rfl⟩, hb⟩ := ha
  have hB1 := btr hB0 hb
  have u0 := t0.below hb t0.lt
  have u1 := t1.below hb t1.lt
  have u2 := t2.below hb t2.lt
  have c1 := u1.cell 0
  have c2 := u2.cell 0
  have z1 := u1.frozen 0
  have z2 := u2.frozen 0
  simp only [List.getElem?_toArray, List.getElem?_cons_zero] at c1 c2
  have h2 := (u2.other ⟨w.heap.size + 1, 0, none⟩ (.int .i64 ((q : Nat) : Int)) (by simp)).set 0 (.int .i64 ((c : Nat) : Int))
  have h1 := (u1.set 0 (.int .i64 ((q : Nat) : Int))).other ⟨w.heap.size + 1 + 1, 0, none⟩ (.int .i64 ((c : Nat) : Int)) (by simp)
  have h0 := (u0.other ⟨w.heap.size + 1, 0, none⟩ (.int .i64 ((q : Nat) : Int)) (by simp)).other ⟨w.heap.size + 1 + 1, 0, none⟩ (.int .i64 ((c : Nat) : Int)) (by simp; omega)
  have hB2 := (hB1.setCell (p := ⟨w.heap.size + 1, 0, none⟩) (by simp) (.int .i64 ((q : Nat) : Int))).setCell (p := ⟨w.heap.size + 1 + 1, 0, none⟩) (by simp; omega) (.int .i64 ((c : Nat) : Int))
  simp only [List.setIfInBounds_toArray, List.set_cons_zero] at h1 h2
  clear hb t0 t1 t2 hB0 u0 u1 u2 hB1 hA HA
  go_wp2_with fail
  generalize (w1.setCell ⟨w.heap.size + 1, 0, none⟩ (.int .i64 ((q : Nat) : Int))).setCell ⟨w.heap.size + 1 + 1, 0, none⟩ (.int .i64 ((c : Nat) : Int)) = w2 at *
  have d0 := h0.cell 0
  have f0 := h0.frozen 0
  simp only [List.getElem?_toArray, List.getElem?_cons_zero] at d0
  have d10 := h1.cell 0
  have f10 := h1.frozen 0
  have d20 := h2.cell 0
  have f20 := h2.frozen 0
  simp only [List.getElem?_toArray, List.getElem?_cons_zero] at d10 d20
  clear c1 c2 z1 z2
  go_region
  all_goals
    have q0 := (((h0).set 0 (.slice none 0 0)).other ⟨w.heap.size + 1, 0, none⟩ (.int .i64 ((q : Nat) : Int)) (by simp)).other ⟨w.heap.size + 1 + 1, 0, none⟩ (.int .i64 ((c : Nat) : Int)) (by simp; omega)
    have q1 := (((h1).other ⟨w.heap.size, 0, none⟩ (.slice none 0 0) (by simp; done)).set 0 (.int .i64 ((q : Nat) : Int))).other ⟨w.heap.size + 1 + 1, 0, none⟩ (.int .i64 ((c : Nat) : Int)) (by simp)
    have q2 := (((h2).other ⟨w.heap.size, 0, none⟩ (.slice none 0 0) (by simp; omega)).other ⟨w.heap.size + 1, 0, none⟩ (.int .i64 ((q : Nat) : Int)) (by simp)).set 0 (.int .i64 ((c : Nat) : Int))
    have qB := (((hB2).setCell (p := ⟨w.heap.size, 0, none⟩) (Nat.le_refl _) (.slice none 0 0)).setCell (p := ⟨w.heap.size + 1, 0, none⟩) (by simp) (.int .i64 ((q : Nat) : Int))).setCell (p := ⟨w.heap.size + 1 + 1, 0, none⟩) (by simp; omega) (.int .i64 ((c : Nat) : Int))
    simp only [List.setIfInBounds_toArray, List.set_cons_zero] at q0 q1 q2
    clear h0 h1 h2 hB2
    go_wp2
    exact ⟨_, results3 rfl rfl rfl rfl (load_items _ _ _ q0.drew) q1.drew q2.drew, rfl, qB.drew⟩
end Go.Proofs.Ytbiempopfmpohaa
