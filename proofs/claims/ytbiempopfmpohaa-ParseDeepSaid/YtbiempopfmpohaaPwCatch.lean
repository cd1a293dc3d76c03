/-
  What is wrong ends the reading, and is recovered: the deferred closures of whole. Conditions: none but those that each names.
-/
import Derived.Test.YtbiempopfmpohaaPwRd
import Derived.Defers
import Derived.Recover
import Derived.RegionTactic
import Derived.BigRegion
namespace Go.Proofs.Ytbiempopfmpohaa
open Go.RowKit

theorem acts16 (x y z v : Value) : (#[x, y, z] ++ ((Array.replicate 13 undef).setIfInBounds 3 v).setIfInBounds 0 v : Array Value) = #[x, y, z, v, undef, undef, v, undef, undef, undef, undef, undef, undef, undef, undef, undef] := by
  simp [Array.replicate, List.replicate]
/-- A part that does not recover, its end under a name. -/
theorem wpS_named {P : Program} {c : Code} {Q : Exit → Act → List Frame → World → Prop} {a : Act} {cs : List Frame} {w : World} (h : ∀ Q' : Exit → Act → World → Prop, Hid (Q' = fun e a' w' => Q e a' cs w') → c.wp P Q' a w) : c.wpS P Q a cs w := wpS_of_wp (h _ (Lib.hid rfl))
theorem assert_fault (p c : Int) (w : World) : (Instr.typeAssert (.iface 63 (.agg #[.int .i64 p, .int .i64 c])) 20 63 false).run Try.prog w = .ok (.agg #[.int .i64 p, .int .i64 c]) w := by kernel_rfl
theorem nine_of (cs : Array Value) (h : cs.size = 9) : ∃ a0 a1 a2 a3 a4 a5 a6 a7 a8, cs = #[a0, a1, a2, a3, a4, a5, a6, a7, a8] := by
  obtain ⟨l⟩ := cs
  match l, h with
  | [a0, a1, a2, a3, a4, a5, a6, a7, a8], _ => exact ⟨a0, a1, a2, a3, a4, a5, a6, a7, a8, rfl⟩
theorem one_of (cs : Array Value) (h : cs.size = 1) : ∃ a0, cs = #[a0] := by
  obtain ⟨l⟩ := cs
  match l, h with
  | [a0], _ => exact ⟨a0, rfl⟩
set_option maxRecDepth 100000 in
set_option maxHeartbeats 2000000 in
theorem idle_re (p q r : Addr) (w : World) :
    CallsD Try.prog 21 #[.pointer (some p), .pointer (some q), .pointer (some r)] .returning w fun e u' w' => e = .returned (.tuple #[]) ∧ u' = .returning ∧ w' = w := by
  refine callsD_of_wpS Try.func21 rfl fun c₀ cs hu => ?_
  apply wpS_seq
  apply wpS_region
  simp [wpOpsS, go_sem, recoverD, hu, Try.ntmps21, Exit.thenS]
  refine wpS_named fun Q' HQ => ?_
  rw [acts16]
  go_wp2
  rw [HQ.out]
  have hc : c₀ = { c₀ with mode := .returning } := by cases c₀; simp only at hu; rw [hu]
  exact ⟨rfl, .returning, by rw [← hc], .tuple #[], results_none rfl _ _ _, rfl, rfl, rfl⟩
set_option maxRecDepth 100000 in
set_option maxHeartbeats 4000000 in
theorem catch_re (b : Nat) (p c : Nat) (cs0 : Array Value) (x1 x2 : Int) (older : List PanicEntry) (w : World) (h0 : Blk w b 27 cs0) (hz : cs0.size = 9) (h1 : Blk w (b + 1) 3 #[.int .i64 x1]) (h2 : Blk w (b + 2) 28 #[.int .i64 x2]) :
    CallsD Try.prog 21 #[.pointer (some ⟨b, 0, none⟩), .pointer (some ⟨b + 1, 0, none⟩), .pointer (some ⟨b + 2, 0, none⟩)] (.panicking ({ v := .iface 63 (.agg #[.int .i64 ((p : Nat) : Int), .int .i64 ((c : Nat) : Int)]), recovered := false } :: older)) w fun e u' w' => e = .returned (.tuple #[]) ∧ u' = .panicking ({ v := .iface 63 (.agg #[.int .i64 ((p : Nat) : Int), .int .i64 ((c : Nat) : Int)]), recovered := true } :: older) ∧ Below b w w' ∧ Blk w' b 27 #[.int .i64 0, .string { data := #[] }, .int .u64 0, .int .u64 0, .int .u64 0, .int .u64 0, .slice none 0 0, .int .i64 0, .int .i64 0] ∧ Blk w' (b + 1) 3 #[.int .i64 ((p : Nat) : Int)] ∧ Blk w' (b + 2) 28 #[.int .i64 ((c : Nat) : Int)] := by
  obtain ⟨a0, a1, a2, a3, a4, a5, a6, a7, a8, rfl⟩ := nine_of cs0 hz
  refine callsD_of_wpS Try.func21 rfl fun c₀ cs hu => ?_
  apply wpS_seq
  apply wpS_region
  simp [wpOpsS, go_sem, recoverD, hu, Try.ntmps21, Exit.thenS]
  refine wpS_named fun Q' HQ => ?_
  rw [acts16]
  have hta := fun W => assert_fault ((p : Nat) : Int) ((c : Nat) : Int) W
  generalize ((p : Nat) : Int) = p at *
  generalize ((c : Nat) : Int) = c at *
  have hw := h2.lt
  have hB : Below b w (w.alloc (.cells #[.int .i64 p, .int .i64 c] 63)) := (bal0 w _).mono (by omega)
  have hF := Blk.new w 63 #[.int .i64 p, .int .i64 c]
  have g0 := h0.alloc (.cells #[.int .i64 p, .int .i64 c] 63)
  have g1 := h1.alloc (.cells #[.int .i64 p, .int .i64 c] 63)
  have g2 := h2.alloc (.cells #[.int .i64 p, .int .i64 c] 63)
  have hF := hF.alloc (.cells #[.int .i64 0, .string { data := #[] }, .int .u64 0, .int .u64 0, .int .u64 0, .int .u64 0, .slice none 0 0, .int .i64 0, .int .i64 0] 27)
  have hN := Blk.new (w.alloc (.cells #[.int .i64 p, .int .i64 c] 63)) 27 #[.int .i64 0, .string { data := #[] }, .int .u64 0, .int .u64 0, .int .u64 0, .int .u64 0, .slice none 0 0, .int .i64 0, .int .i64 0]
  rw [World.size_alloc] at hN
  have g0 := g0.alloc (.cells #[.int .i64 0, .string { data := #[] }, .int .u64 0, .int .u64 0, .int .u64 0, .int .u64 0, .slice none 0 0, .int .i64 0, .int .i64 0] 27)
  have g1 := g1.alloc (.cells #[.int .i64 0, .string { data := #[] }, .int .u64 0, .int .u64 0, .int .u64 0, .int .u64 0, .slice none 0 0, .int .i64 0, .int .i64 0] 27)
  have g2 := g2.alloc (.cells #[.int .i64 0, .string { data := #[] }, .int .u64 0, .int .u64 0, .int .u64 0, .int .u64 0, .slice none 0 0, .int .i64 0, .int .i64 0] 27)
  have hB : Below b w ((w.alloc (.cells #[.int .i64 p, .int .i64 c] 63)).alloc (.cells #[.int .i64 0, .string { data := #[] }, .int .u64 0, .int .u64 0, .int .u64 0, .int .u64 0, .slice none 0 0, .int .i64 0, .int .i64 0] 27)) := (bal (bal0 w _) _).mono (by omega)
  go_wp2_with fail
  generalize (w.alloc (.cells #[.int .i64 p, .int .i64 c] 63)).alloc (.cells #[.int .i64 0, .string { data := #[] }, .int .u64 0, .int .u64 0, .int .u64 0, .int .u64 0, .slice none 0 0, .int .i64 0, .int .i64 0] 27) = w2 at *
  have n0 := hN.cell 0
  have n1 := hN.cell 1
  have n2 := hN.cell 2
  have n3 := hN.cell 3
  have n4 := hN.cell 4
  have n5 := hN.cell 5
  have n6 := hN.cell 6
  have n7 := hN.cell 7
  have n8 := hN.cell 8
  simp only [List.getElem?_toArray, List.getElem?_cons_zero, List.getElem?_cons_succ] at n0 n1 n2 n3 n4 n5 n6 n7 n8
  have f0 := hF.cell 0
  have f1 := hF.cell 1
  simp only [List.getElem?_toArray, List.getElem?_cons_zero, List.getElem?_cons_succ] at f0 f1
  have y0 := g1.frozen 0
  have x0 := g2.frozen 0
  have ga := g1.cell 0
  have gb := g2.cell 0
  simp only [List.getElem?_toArray, List.getElem?_cons_zero] at ga gb
  have z0 := g0.frozen 0
  have e0 := g0.cell 0
  have z1 := g0.frozen 1
  have e1 := g0.cell 1
  have z2 := g0.frozen 2
  have e2 := g0.cell 2
  have z3 := g0.frozen 3
  have e3 := g0.cell 3
  have z4 := g0.frozen 4
  have e4 := g0.cell 4
  have z5 := g0.frozen 5
  have e5 := g0.cell 5
  have z6 := g0.frozen 6
  have e6 := g0.cell 6
  have z7 := g0.frozen 7
  have e7 := g0.cell 7
  have z8 := g0.frozen 8
  have e8 := g0.cell 8
  simp only [List.getElem?_toArray, List.getElem?_cons_zero, List.getElem?_cons_succ] at e0 e1 e2 e3 e4 e5 e6 e7 e8
  have q0 := (((((((((((g0).set 0 (.int .i64 0)).set 1 (.string { data := #[] })).set 2 (.int .u64 0)).set 3 (.int .u64 0)).set 4 (.int .u64 0)).set 5 (.int .u64 0)).set 6 (.slice none 0 0)).set 7 (.int .i64 0)).set 8 (.int .i64 0)).other ⟨b + 1, 0, none⟩ (.int .i64 p) (by simp)).other ⟨b + 2, 0, none⟩ (.int .i64 c) (by simp)
  have q1 := (((((((((((g1).other ⟨b, 0, none⟩ (.int .i64 0) (by simp)).other ⟨b, 1, none⟩ (.string { data := #[] }) (by simp)).other ⟨b, 2, none⟩ (.int .u64 0) (by simp)).other ⟨b, 3, none⟩ (.int .u64 0) (by simp)).other ⟨b, 4, none⟩ (.int .u64 0) (by simp)).other ⟨b, 5, none⟩ (.int .u64 0) (by simp)).other ⟨b, 6, none⟩ (.slice none 0 0) (by simp)).other ⟨b, 7, none⟩ (.int .i64 0) (by simp)).other ⟨b, 8, none⟩ (.int .i64 0) (by simp)).set 0 (.int .i64 p)).other ⟨b + 2, 0, none⟩ (.int .i64 c) (by simp)
  have q2 := (((((((((((g2).other ⟨b, 0, none⟩ (.int .i64 0) (by simp)).other ⟨b, 1, none⟩ (.string { data := #[] }) (by simp)).other ⟨b, 2, none⟩ (.int .u64 0) (by simp)).other ⟨b, 3, none⟩ (.int .u64 0) (by simp)).other ⟨b, 4, none⟩ (.int .u64 0) (by simp)).other ⟨b, 5, none⟩ (.int .u64 0) (by simp)).other ⟨b, 6, none⟩ (.slice none 0 0) (by simp)).other ⟨b, 7, none⟩ (.int .i64 0) (by simp)).other ⟨b, 8, none⟩ (.int .i64 0) (by simp)).other ⟨b + 1, 0, none⟩ (.int .i64 p) (by simp)).set 0 (.int .i64 c)
  have qB := (((((((((((hB).setCell (p := ⟨b, 0, none⟩) (Nat.le_refl _) (.int .i64 0)).setCell (p := ⟨b, 1, none⟩) (Nat.le_refl _) (.string { data := #[] })).setCell (p := ⟨b, 2, none⟩) (Nat.le_refl _) (.int .u64 0)).setCell (p := ⟨b, 3, none⟩) (Nat.le_refl _) (.int .u64 0)).setCell (p := ⟨b, 4, none⟩) (Nat.le_refl _) (.int .u64 0)).setCell (p := ⟨b, 5, none⟩) (Nat.le_refl _) (.int .u64 0)).setCell (p := ⟨b, 6, none⟩) (Nat.le_refl _) (.slice none 0 0)).setCell (p := ⟨b, 7, none⟩) (Nat.le_refl _) (.int .i64 0)).setCell (p := ⟨b, 8, none⟩) (Nat.le_refl _) (.int .i64 0)).setCell (p := ⟨b + 1, 0, none⟩) (by simp) (.int .i64 p)).setCell (p := ⟨b + 2, 0, none⟩) (by simp) (.int .i64 c)
  simp only [List.setIfInBounds_toArray, List.set_cons_zero, List.set_cons_succ] at q0 q1 q2
  clear hF h0 h1 h2 hz
  go_region
  all_goals
    rw [HQ.out]
    refine ⟨rfl, .panicking ({ v := .iface 63 (.agg #[.int .i64 p, .int .i64 c]), recovered := true } :: older), rfl, .tuple #[], results_none rfl _ _ _, rfl, rfl, ?_, ?_, ?_, ?_⟩
    · exact qB.drew
    · exact q0.drew
    · exact q1.drew
    · exact q2.drew
set_option maxRecDepth 100000 in
set_option maxHeartbeats 2000000 in
theorem idle_items (p q r : Addr) (w : World) :
    CallsD Try.prog 35 #[.pointer (some p), .pointer (some q), .pointer (some r)] .returning w fun e u' w' => e = .returned (.tuple #[]) ∧ u' = .returning ∧ w' = w := by
  refine callsD_of_wpS Try.func35 rfl fun c₀ cs hu => ?_
  apply wpS_seq
  apply wpS_region
  simp [wpOpsS, go_sem, recoverD, hu, Try.ntmps35, Exit.thenS]
  refine wpS_named fun Q' HQ => ?_
  rw [acts16]
  go_wp2
  rw [HQ.out]
  have hc : c₀ = { c₀ with mode := .returning } := by cases c₀; simp only at hu; rw [hu]
  exact ⟨rfl, .returning, by rw [← hc], .tuple #[], results_none rfl _ _ _, rfl, rfl, rfl⟩
set_option maxRecDepth 100000 in
set_option maxHeartbeats 4000000 in
theorem catch_items (b : Nat) (p c : Nat) (cs0 : Array Value) (x1 x2 : Int) (older : List PanicEntry) (w : World) (h0 : Blk w b 37 cs0) (hz : cs0.size = 1) (h1 : Blk w (b + 1) 3 #[.int .i64 x1]) (h2 : Blk w (b + 2) 28 #[.int .i64 x2]) :
    CallsD Try.prog 35 #[.pointer (some ⟨b, 0, none⟩), .pointer (some ⟨b + 1, 0, none⟩), .pointer (some ⟨b + 2, 0, none⟩)] (.panicking ({ v := .iface 63 (.agg #[.int .i64 ((p : Nat) : Int), .int .i64 ((c : Nat) : Int)]), recovered := false } :: older)) w fun e u' w' => e = .returned (.tuple #[]) ∧ u' = .panicking ({ v := .iface 63 (.agg #[.int .i64 ((p : Nat) : Int), .int .i64 ((c : Nat) : Int)]), recovered := true } :: older) ∧ Below b w w' ∧ Blk w' b 37 #[.slice none 0 0] ∧ Blk w' (b + 1) 3 #[.int .i64 ((p : Nat) : Int)] ∧ Blk w' (b + 2) 28 #[.int .i64 ((c : Nat) : Int)] := by
  obtain ⟨a0, rfl⟩ := one_of cs0 hz
  refine callsD_of_wpS Try.func35 rfl fun c₀ cs hu => ?_
  apply wpS_seq
  apply wpS_region
  simp [wpOpsS, go_sem, recoverD, hu, Try.ntmps35, Exit.thenS]
  refine wpS_named fun Q' HQ => ?_
  rw [acts16]
  have hta := fun W => assert_fault ((p : Nat) : Int) ((c : Nat) : Int) W
  generalize ((p : Nat) : Int) = p at *
  generalize ((c : Nat) : Int) = c at *
  have hw := h2.lt
  have hB : Below b w (w.alloc (.cells #[.int .i64 p, .int .i64 c] 63)) := (bal0 w _).mono (by omega)
  have hF := Blk.new w 63 #[.int .i64 p, .int .i64 c]
  have g0 := h0.alloc (.cells #[.int .i64 p, .int .i64 c] 63)
  have g1 := h1.alloc (.cells #[.int .i64 p, .int .i64 c] 63)
  have g2 := h2.alloc (.cells #[.int .i64 p, .int .i64 c] 63)
  go_wp2_with fail
  generalize w.alloc (.cells #[.int .i64 p, .int .i64 c] 63) = w2 at *
  have f0 := hF.cell 0
  have f1 := hF.cell 1
  simp only [List.getElem?_toArray, List.getElem?_cons_zero, List.getElem?_cons_succ] at f0 f1
  have y0 := g1.frozen 0
  have x0 := g2.frozen 0
  have ga := g1.cell 0
  have gb := g2.cell 0
  simp only [List.getElem?_toArray, List.getElem?_cons_zero] at ga gb
  have z0 := g0.frozen 0
  have e0 := g0.cell 0
  simp only [List.getElem?_toArray, List.getElem?_cons_zero] at e0
  have q0 := (((g0).set 0 (.slice none 0 0)).other ⟨b + 1, 0, none⟩ (.int .i64 p) (by simp)).other ⟨b + 2, 0, none⟩ (.int .i64 c) (by simp)
  have q1 := (((g1).other ⟨b, 0, none⟩ (.slice none 0 0) (by simp)).set 0 (.int .i64 p)).other ⟨b + 2, 0, none⟩ (.int .i64 c) (by simp)
  have q2 := (((g2).other ⟨b, 0, none⟩ (.slice none 0 0) (by simp)).other ⟨b + 1, 0, none⟩ (.int .i64 p) (by simp)).set 0 (.int .i64 c)
  have qB := (((hB).setCell (p := ⟨b, 0, none⟩) (Nat.le_refl _) (.slice none 0 0)).setCell (p := ⟨b + 1, 0, none⟩) (by simp) (.int .i64 p)).setCell (p := ⟨b + 2, 0, none⟩) (by simp) (.int .i64 c)
  simp only [List.setIfInBounds_toArray, List.set_cons_zero] at q0 q1 q2
  clear hF h0 h1 h2 hz
  go_region
  all_goals
    rw [HQ.out]
    refine ⟨rfl, .panicking ({ v := .iface 63 (.agg #[.int .i64 p, .int .i64 c]), recovered := true } :: older), rfl, .tuple #[], results_none rfl _ _ _, rfl, rfl, ?_, ?_, ?_, ?_⟩
    · exact qB.drew
    · exact q0.drew
    · exact q1.drew
    · exact q2.drew
end Go.Proofs.Ytbiempopfmpohaa
