/-
  Does an atom without parts come next? It is read. Conditions: none but those that each names.
-/
import Derived.Test.YtbiempopfmpohaaPwAtom
import Derived.Deep.RegionWith
namespace Go.Proofs.Ytbiempopfmpohaa
open Go.RowKit

theorem Blk.nine {W : World} {R : Nat} {T : TypeId} (h : Blk W R T zr9) : (W.cell? ⟨R, 0, none⟩ = some (.int .i64 0) ∧ W.cell? ⟨R, 1, none⟩ = some (.string { data := #[] }) ∧ W.cell? ⟨R, 2, none⟩ = some (.int .u64 0) ∧ W.cell? ⟨R, 3, none⟩ = some (.int .u64 0) ∧ W.cell? ⟨R, 4, none⟩ = some (.int .u64 0) ∧ W.cell? ⟨R, 5, none⟩ = some (.int .u64 0) ∧ W.cell? ⟨R, 6, none⟩ = some (.slice none 0 0) ∧ W.cell? ⟨R, 7, none⟩ = some (.int .i64 0) ∧ W.cell? ⟨R, 8, none⟩ = some (.int .i64 0)) ∧
    (W.frozen? ⟨R, 0, none⟩ = false ∧ W.frozen? ⟨R, 1, none⟩ = false ∧ W.frozen? ⟨R, 2, none⟩ = false ∧ W.frozen? ⟨R, 3, none⟩ = false ∧ W.frozen? ⟨R, 4, none⟩ = false ∧ W.frozen? ⟨R, 5, none⟩ = false ∧ W.frozen? ⟨R, 6, none⟩ = false ∧ W.frozen? ⟨R, 7, none⟩ = false ∧ W.frozen? ⟨R, 8, none⟩ = false) :=
  ⟨⟨h.cell 0, h.cell 1, h.cell 2, h.cell 3, h.cell 4, h.cell 5, h.cell 6, h.cell 7, h.cell 8⟩, ⟨h.frozen 0, h.frozen 1, h.frozen 2, h.frozen 3, h.frozen 4, h.frozen 5, h.frozen 6, h.frozen 7, h.frozen 8⟩⟩
set_option maxRecDepth 100000 in
set_option maxHeartbeats 1000000 in
theorem patplain_any (B d : Nat) (t : Tk) (p : Nat) (L : List (Tk × Nat)) (w : World) (hR : Rd w B ((t, p) :: L) d) :
    Calls Try.prog 59 #[.pointer (some ⟨B, 0, none⟩)] w fun e w' => e = .returned (.bool (atomT t).isSome) ∧ Below w.heap.size w w' := by
  have hlt := hR.lt
  have HF := Lib.hid (fun W h => pfront_any B d t p L W h)
  have hq : ∀ q : Past w, Rd q.w B ((t, p) :: L) d := fun q => hR.below q.h hlt
  obtain ⟨g, o, c, m, h1, h2, h3, h4, h5, h6, h7⟩ := hR
  have q2 : ∀ q : Past w, q.w.cell? ⟨B, 2, none⟩ = some (.map (some m)) := fun q => (h1.below q.h hlt).cell 2
  have ql : ∀ q : Past w, (Instr.lookup 66 (.map (some m)) (frV (frF t)) false).run Try.prog q.w = .ok (plainF (frF t)) q.w := fun q => (h7.below q.h (by omega)).run _
  have HP := Lib.hid (patom_is t)
  clear h1 h2 h3 h4 h5 h6 h7
  generalize frV (frF t) = f at *
  have e1 : ∀ (k : FuncId) (W : World), (binOp .neq 49 (.func (.func k) #[] #[]) .nilFunc).run Try.prog W = .ok (.bool true) W := fun _ _ => by kernel_rfl
  have e2 : ∀ W : World, (binOp .neq 49 .nilFunc .nilFunc).run Try.prog W = .ok (.bool false) W := fun _ => by kernel_rfl
  rcases HP.out with ⟨a, ha, ⟨hp, -⟩ | ⟨hp, -⟩ | ⟨hp, -⟩ | ⟨hp, -⟩⟩ | ⟨ha, hp⟩
  all_goals
    have HA := Lib.hid ha
    rw [hp] at ql
    clear hp ha HP
    go_enter Try.func59, Try.ntmps59
    go_wp2_with fail
    refine wp_region_past (w0 := w) (by kernel_rfl) (by kernel_rfl) (Below.refl _ _) ?_
    repeat (go_big_quiet_step (first | exact Calls.past (HF.out _ (hq _))))
    refine wpQuiet_nil ?_
    intro q
    have hb := q.h
    go_wp2
    go_ret
    exact ⟨by rw [HA.out]; rfl, hb⟩
theorem Blk.set9 {W : World} {R : Nat} {T : TypeId} (h : Blk W R T zr9) (v0 v1 v2 v3 v4 v5 v6 v7 v8 : Value) : Blk (((((((((W.setCell ⟨R, 0, none⟩ v0).setCell ⟨R, 1, none⟩ v1).setCell ⟨R, 2, none⟩ v2).setCell ⟨R, 3, none⟩ v3).setCell ⟨R, 4, none⟩ v4).setCell ⟨R, 5, none⟩ v5).setCell ⟨R, 6, none⟩ v6).setCell ⟨R, 7, none⟩ v7).setCell ⟨R, 8, none⟩ v8) R T #[v0, v1, v2, v3, v4, v5, v6, v7, v8] := by
  have h9 := (((((((((h.set 0 v0).set 1 v1).set 2 v2).set 3 v3).set 4 v4).set 5 v5).set 6 v6).set 7 v7).set 8 v8)
  simp only [List.setIfInBounds_toArray, List.set_cons_zero, List.set_cons_succ] at h9
  exact h9
theorem Btt.set9 {W : World} (R : Nat) (v0 v1 v2 v3 v4 v5 v6 v7 v8 : Value) : Btt R W (((((((((W.setCell ⟨R, 0, none⟩ v0).setCell ⟨R, 1, none⟩ v1).setCell ⟨R, 2, none⟩ v2).setCell ⟨R, 3, none⟩ v3).setCell ⟨R, 4, none⟩ v4).setCell ⟨R, 5, none⟩ v5).setCell ⟨R, 6, none⟩ v6).setCell ⟨R, 7, none⟩ v7).setCell ⟨R, 8, none⟩ v8) :=
  ((((((((((Btt.refl R W).set 0 v0 (.inl rfl)).set 1 v1 (.inl rfl)).set 2 v2 (.inl rfl)).set 3 v3 (.inl rfl)).set 4 v4 (.inl rfl)).set 5 v5 (.inl rfl)).set 6 v6 (.inl rfl)).set 7 v7 (.inl rfl)).set 8 v8 (.inl rfl))
set_option maxRecDepth 100000 in
set_option maxHeartbeats 4000000 in
theorem pplain_none (B d : Nat) (t : Tk) (p : Nat) (L : List (Tk × Nat)) (w : World) (hR : Rd w B ((t, p) :: L) d) (ht : atomT t = none) :
    Calls Try.prog 96 #[.pointer (some ⟨B, 0, none⟩)] w fun e w' => e = Flt p 4 ∧ Btt B w w' := by
  have hlt := hR.lt
  have hA := hR.alloc (.cells zr9 27)
  have hB0 := bal0 w (.cells zr9 27)
  have HA := Lib.hid (patplain_any B d t p L _ hA)
  have HW := Lib.hid (fun W h => pwrong_any B d t p L 4 W h)
  rw [ht] at HA
  clear hR ht
  go_enter Try.func96, Try.ntmps96
  go_wp2_with fail
  refine HA.out.mono ?_
  rintro e w1 ⟨rfl, hb1⟩
  go_wp2_with fail
  refine (HW.out _ (hA.below hb1 hA.lt)).mono ?_
  rintro e w2 ⟨rfl, hb2⟩
  exact ⟨rfl, rfl, But.of_below (btr (btr hB0 hb1) hb2)⟩
set_option maxRecDepth 100000 in
set_option maxHeartbeats 4000000 in
theorem pplain_text (B d : Nat) (t : Tk) (p : Nat) (L : List (Tk × Nat)) (w : World) (hR : Rd w B ((t, p) :: L) d) (ht : (atomT t).isSome = true) (hp : plainF (frF t) = .func (.func 41) #[] #[]) :
    Calls Try.prog 96 #[.pointer (some ⟨B, 0, none⟩)] w fun e w' => e = .returned (.agg (atC 1 t.text noSet)) ∧ Btt B w w' ∧ Rd w' B L d := by
  have hlt := hR.lt
  have hA := hR.alloc (.cells zr9 27)
  have hF := Blk.new w 27 zr9
  have hB0 := bal0 w (.cells zr9 27)
  have HA := Lib.hid (patplain_any B d t p L _ hA)
  have HF := Lib.hid (fun W h => pfront_any B d t p L W h)
  have HT := Lib.hid (fun W h => ptext_any B d t p L W h)
  rw [ht] at HA
  clear hR ht
  go_enter Try.func96, Try.ntmps96
  go_wp2_with fail
  refine HA.out.mono ?_
  rintro e w1 ⟨rfl, hb1⟩
  have hR1 := hA.below hb1 hA.lt
  have hF1 := hF.below hb1 hF.lt
  have hB1 := btr hB0 hb1
  clear hA hF hB0 hb1
  go_wp2_with fail
  obtain ⟨g, o, c, m, h1, h2, h3, h4, h5, h6, h7⟩ := id hR1
  have r2 := h1.cell 2
  simp only [List.getElem?_toArray, List.getElem?_cons_zero, List.getElem?_cons_succ] at r2
  have hl : ∀ W, Below w1.heap.size w1 W → (Instr.lookup 66 (.map (some m)) (frV (frF t)) false).run Try.prog W = .ok (.func (.func 41) #[] #[]) W := fun W hb => by rw [← hp]; exact (h7.below hb (by have := hR1.lt; omega)).run _
  have HL := Lib.hid hl
  have hlt1 := hR1.lt
  generalize frV (frF t) = f at *
  clear hl h1 h2 h3 h4 h5 h6 h7 hp
  go_region_with (first
    | (go_at_call 39; refine (HF.out _ (hR1.below (Below.refl _ _).drew hR1.lt)).mono ?_; rintro e w2 ⟨rfl, hb2⟩; have hR2 := hR1.below ((Below.refl _ _).drew.trans hb2) hR1.lt; have hF2 := hF1.below ((Below.refl _ _).drew.trans hb2) hF1.lt; have hB2 := btr hB1.drew hb2; have hl2 := HL.out _ ((Below.refl _ _).drew.trans hb2); have r22 := (((Below.refl w1.heap.size w1).drew.trans hb2).cell (p := ⟨B, 2, none⟩) hlt1).trans r2)
    | (go_at_call 41; refine (HT.out _ hR2).mono ?_; rintro e w3 ⟨rfl, hb3, hR3⟩; have hF3 := hb3.at hF2 (by omega); have hB3 := (Btt.ofB (B := B) hB2).next hb3; obtain ⟨⟨d0, d1, d2, d3, d4, d5, d6, d7, d8⟩, f0, f1, f2, f3, f4, f5, f6, f7, f8⟩ := hF3.nine))
  all_goals
    have hF4 := hF3.set9 (.int .i64 1) (.string (mkS t.text)) (.int .u64 ((wd noSet 0 : Nat) : Int)) (.int .u64 ((wd noSet 1 : Nat) : Int)) (.int .u64 ((wd noSet 2 : Nat) : Int)) (.int .u64 ((wd noSet 3 : Nat) : Int)) (.slice none 0 0) (.int .i64 0) (.int .i64 0)
    have hB4 := hB3.own (Btt.set9 (W := w3) w.heap.size (.int .i64 1) (.string (mkS t.text)) (.int .u64 ((wd noSet 0 : Nat) : Int)) (.int .u64 ((wd noSet 1 : Nat) : Int)) (.int .u64 ((wd noSet 2 : Nat) : Int)) (.int .u64 ((wd noSet 3 : Nat) : Int)) (.slice none 0 0) (.int .i64 0) (.int .i64 0)) (Nat.le_refl _)
    have hR4 := hR3.own (Btt.set9 (W := w3) w.heap.size (.int .i64 1) (.string (mkS t.text)) (.int .u64 ((wd noSet 0 : Nat) : Int)) (.int .u64 ((wd noSet 1 : Nat) : Int)) (.int .u64 ((wd noSet 2 : Nat) : Int)) (.int .u64 ((wd noSet 3 : Nat) : Int)) (.slice none 0 0) (.int .i64 0) (.int .i64 0)) hlt
    go_wp2
    refine ret_blk _ _ _ _ _ rfl rfl rfl hF4 Try.underlying27 rfl (by rw [size_re]; rfl) ?_
    exact ⟨rfl, hB4, hR4⟩
set_option maxRecDepth 100000 in
set_option maxHeartbeats 4000000 in
theorem pplain_set (B d : Nat) (t : Tk) (p : Nat) (L : List (Tk × Nat)) (w : World) (hR : Rd w B ((t, p) :: L) d) (ht : (atomT t).isSome = true) (hp : plainF (frF t) = .func (.func 42) #[] #[]) :
    Calls Try.prog 96 #[.pointer (some ⟨B, 0, none⟩)] w fun e w' => e = .returned (.agg (atC 2 [] t.set)) ∧ Btt B w w' ∧ Rd w' B L d := by
  have hlt := hR.lt
  have hA := hR.alloc (.cells zr9 27)
  have hF := Blk.new w 27 zr9
  have hB0 := bal0 w (.cells zr9 27)
  have HA := Lib.hid (patplain_any B d t p L _ hA)
  have HF := Lib.hid (fun W h => pfront_any B d t p L W h)
  have HT := Lib.hid (fun W h => pset_any B d t p L W h)
  rw [ht] at HA
  clear hR ht
  go_enter Try.func96, Try.ntmps96
  go_wp2_with fail
  refine HA.out.mono ?_
  rintro e w1 ⟨rfl, hb1⟩
  have hR1 := hA.below hb1 hA.lt
  have hF1 := hF.below hb1 hF.lt
  have hB1 := btr hB0 hb1
  clear hA hF hB0 hb1
  go_wp2_with fail
  obtain ⟨g, o, c, m, h1, h2, h3, h4, h5, h6, h7⟩ := id hR1
  have r2 := h1.cell 2
  simp only [List.getElem?_toArray, List.getElem?_cons_zero, List.getElem?_cons_succ] at r2
  have hl : ∀ W, Below w1.heap.size w1 W → (Instr.lookup 66 (.map (some m)) (frV (frF t)) false).run Try.prog W = .ok (.func (.func 42) #[] #[]) W := fun W hb => by rw [← hp]; exact (h7.below hb (by have := hR1.lt; omega)).run _
  have HL := Lib.hid hl
  have hlt1 := hR1.lt
  generalize frV (frF t) = f at *
  clear hl h1 h2 h3 h4 h5 h6 h7 hp
  go_region_with (first
    | (go_at_call 39; refine (HF.out _ (hR1.below (Below.refl _ _).drew hR1.lt)).mono ?_; rintro e w2 ⟨rfl, hb2⟩; have hR2 := hR1.below ((Below.refl _ _).drew.trans hb2) hR1.lt; have hF2 := hF1.below ((Below.refl _ _).drew.trans hb2) hF1.lt; have hB2 := btr hB1.drew hb2; have hl2 := HL.out _ ((Below.refl _ _).drew.trans hb2); have r22 := (((Below.refl w1.heap.size w1).drew.trans hb2).cell (p := ⟨B, 2, none⟩) hlt1).trans r2)
    | (go_at_call 42; refine (HT.out _ hR2).mono ?_; rintro e w3 ⟨rfl, hb3, hR3⟩; have hF3 := hb3.at hF2 (by omega); have hB3 := (Btt.ofB (B := B) hB2).next hb3; obtain ⟨⟨d0, d1, d2, d3, d4, d5, d6, d7, d8⟩, f0, f1, f2, f3, f4, f5, f6, f7, f8⟩ := hF3.nine))
  all_goals
    have hF4 := hF3.set9 (.int .i64 2) (.string (mkS [])) (.int .u64 ((wd t.set 0 : Nat) : Int)) (.int .u64 ((wd t.set 1 : Nat) : Int)) (.int .u64 ((wd t.set 2 : Nat) : Int)) (.int .u64 ((wd t.set 3 : Nat) : Int)) (.slice none 0 0) (.int .i64 0) (.int .i64 0)
    have hB4 := hB3.own (Btt.set9 (W := w3) w.heap.size (.int .i64 2) (.string (mkS [])) (.int .u64 ((wd t.set 0 : Nat) : Int)) (.int .u64 ((wd t.set 1 : Nat) : Int)) (.int .u64 ((wd t.set 2 : Nat) : Int)) (.int .u64 ((wd t.set 3 : Nat) : Int)) (.slice none 0 0) (.int .i64 0) (.int .i64 0)) (Nat.le_refl _)
    have hR4 := hR3.own (Btt.set9 (W := w3) w.heap.size (.int .i64 2) (.string (mkS [])) (.int .u64 ((wd t.set 0 : Nat) : Int)) (.int .u64 ((wd t.set 1 : Nat) : Int)) (.int .u64 ((wd t.set 2 : Nat) : Int)) (.int .u64 ((wd t.set 3 : Nat) : Int)) (.slice none 0 0) (.int .i64 0) (.int .i64 0)) hlt
    go_wp2
    refine ret_blk _ _ _ _ _ rfl rfl rfl hF4 Try.underlying27 rfl (by rw [size_re]; rfl) ?_
    exact ⟨rfl, hB4, hR4⟩
set_option maxRecDepth 100000 in
set_option maxHeartbeats 4000000 in
theorem pplain_dot (B d : Nat) (t : Tk) (p : Nat) (L : List (Tk × Nat)) (w : World) (hR : Rd w B ((t, p) :: L) d) (ht : (atomT t).isSome = true) (hp : plainF (frF t) = .func (.func 44) #[] #[]) :
    Calls Try.prog 96 #[.pointer (some ⟨B, 0, none⟩)] w fun e w' => e = .returned (.agg (atC 2 [] allSet)) ∧ Btt B w w' ∧ Rd w' B L d := by
  have hlt := hR.lt
  have hA := hR.alloc (.cells zr9 27)
  have hF := Blk.new w 27 zr9
  have hB0 := bal0 w (.cells zr9 27)
  have HA := Lib.hid (patplain_any B d t p L _ hA)
  have HF := Lib.hid (fun W h => pfront_any B d t p L W h)
  have HT := Lib.hid (fun W h => pdot_any B d t p L W h)
  rw [ht] at HA
  clear hR ht
  go_enter Try.func96, Try.ntmps96
  go_wp2_with fail
  refine HA.out.mono ?_
  rintro e w1 ⟨rfl, hb1⟩
  have hR1 := hA.below hb1 hA.lt
  have hF1 := hF.below hb1 hF.lt
  have hB1 := btr hB0 hb1
  clear hA hF hB0 hb1
  go_wp2_with fail
  obtain ⟨g, o, c, m, h1, h2, h3, h4, h5, h6, h7⟩ := id hR1
  have r2 := h1.cell 2
  simp only [List.getElem?_toArray, List.getElem?_cons_zero, List.getElem?_cons_succ] at r2
  have hl : ∀ W, Below w1.heap.size w1 W → (Instr.lookup 66 (.map (some m)) (frV (frF t)) false).run Try.prog W = .ok (.func (.func 44) #[] #[]) W := fun W hb => by rw [← hp]; exact (h7.below hb (by have := hR1.lt; omega)).run _
  have HL := Lib.hid hl
  have hlt1 := hR1.lt
  generalize frV (frF t) = f at *
  clear hl h1 h2 h3 h4 h5 h6 h7 hp
  go_region_with (first
    | (go_at_call 39; refine (HF.out _ (hR1.below (Below.refl _ _).drew hR1.lt)).mono ?_; rintro e w2 ⟨rfl, hb2⟩; have hR2 := hR1.below ((Below.refl _ _).drew.trans hb2) hR1.lt; have hF2 := hF1.below ((Below.refl _ _).drew.trans hb2) hF1.lt; have hB2 := btr hB1.drew hb2; have hl2 := HL.out _ ((Below.refl _ _).drew.trans hb2); have r22 := (((Below.refl w1.heap.size w1).drew.trans hb2).cell (p := ⟨B, 2, none⟩) hlt1).trans r2)
    | (go_at_call 44; refine (HT.out _ hR2).mono ?_; rintro e w3 ⟨rfl, hb3, hR3⟩; have hF3 := hb3.at hF2 (by omega); have hB3 := (Btt.ofB (B := B) hB2).next hb3; obtain ⟨⟨d0, d1, d2, d3, d4, d5, d6, d7, d8⟩, f0, f1, f2, f3, f4, f5, f6, f7, f8⟩ := hF3.nine))
  all_goals
    have hF4 := hF3.set9 (.int .i64 2) (.string (mkS [])) (.int .u64 ((wd allSet 0 : Nat) : Int)) (.int .u64 ((wd allSet 1 : Nat) : Int)) (.int .u64 ((wd allSet 2 : Nat) : Int)) (.int .u64 ((wd allSet 3 : Nat) : Int)) (.slice none 0 0) (.int .i64 0) (.int .i64 0)
    have hB4 := hB3.own (Btt.set9 (W := w3) w.heap.size (.int .i64 2) (.string (mkS [])) (.int .u64 ((wd allSet 0 : Nat) : Int)) (.int .u64 ((wd allSet 1 : Nat) : Int)) (.int .u64 ((wd allSet 2 : Nat) : Int)) (.int .u64 ((wd allSet 3 : Nat) : Int)) (.slice none 0 0) (.int .i64 0) (.int .i64 0)) (Nat.le_refl _)
    have hR4 := hR3.own (Btt.set9 (W := w3) w.heap.size (.int .i64 2) (.string (mkS [])) (.int .u64 ((wd allSet 0 : Nat) : Int)) (.int .u64 ((wd allSet 1 : Nat) : Int)) (.int .u64 ((wd allSet 2 : Nat) : Int)) (.int .u64 ((wd allSet 3 : Nat) : Int)) (.slice none 0 0) (.int .i64 0) (.int .i64 0)) hlt
    go_wp2
    refine ret_blk _ _ _ _ _ rfl rfl rfl hF4 Try.underlying27 rfl (by rw [size_re]; rfl) ?_
    exact ⟨rfl, hB4, hR4⟩
set_option maxRecDepth 100000 in
set_option maxHeartbeats 4000000 in
theorem pplain_name (B d : Nat) (t : Tk) (p : Nat) (L : List (Tk × Nat)) (w : World) (hR : Rd w B ((t, p) :: L) d) (ht : (atomT t).isSome = true) (hp : plainF (frF t) = .func (.func 43) #[] #[]) :
    Calls Try.prog 96 #[.pointer (some ⟨B, 0, none⟩)] w fun e w' => e = .returned (.agg (atC 3 t.text noSet)) ∧ Btt B w w' ∧ Rd w' B L d := by
  have hlt := hR.lt
  have hA := hR.alloc (.cells zr9 27)
  have hF := Blk.new w 27 zr9
  have hB0 := bal0 w (.cells zr9 27)
  have HA := Lib.hid (patplain_any B d t p L _ hA)
  have HF := Lib.hid (fun W h => pfront_any B d t p L W h)
  have HT := Lib.hid (fun W h => pname_any B d t p L W h)
  rw [ht] at HA
  clear hR ht
  go_enter Try.func96, Try.ntmps96
  go_wp2_with fail
  refine HA.out.mono ?_
  rintro e w1 ⟨rfl, hb1⟩
  have hR1 := hA.below hb1 hA.lt
  have hF1 := hF.below hb1 hF.lt
  have hB1 := btr hB0 hb1
  clear hA hF hB0 hb1
  go_wp2_with fail
  obtain ⟨g, o, c, m, h1, h2, h3, h4, h5, h6, h7⟩ := id hR1
  have r2 := h1.cell 2
  simp only [List.getElem?_toArray, List.getElem?_cons_zero, List.getElem?_cons_succ] at r2
  have hl : ∀ W, Below w1.heap.size w1 W → (Instr.lookup 66 (.map (some m)) (frV (frF t)) false).run Try.prog W = .ok (.func (.func 43) #[] #[]) W := fun W hb => by rw [← hp]; exact (h7.below hb (by have := hR1.lt; omega)).run _
  have HL := Lib.hid hl
  have hlt1 := hR1.lt
  generalize frV (frF t) = f at *
  clear hl h1 h2 h3 h4 h5 h6 h7 hp
  go_region_with (first
    | (go_at_call 39; refine (HF.out _ (hR1.below (Below.refl _ _).drew hR1.lt)).mono ?_; rintro e w2 ⟨rfl, hb2⟩; have hR2 := hR1.below ((Below.refl _ _).drew.trans hb2) hR1.lt; have hF2 := hF1.below ((Below.refl _ _).drew.trans hb2) hF1.lt; have hB2 := btr hB1.drew hb2; have hl2 := HL.out _ ((Below.refl _ _).drew.trans hb2); have r22 := (((Below.refl w1.heap.size w1).drew.trans hb2).cell (p := ⟨B, 2, none⟩) hlt1).trans r2)
    | (go_at_call 43; refine (HT.out _ hR2).mono ?_; rintro e w3 ⟨rfl, hb3, hR3⟩; have hF3 := hb3.at hF2 (by omega); have hB3 := (Btt.ofB (B := B) hB2).next hb3; obtain ⟨⟨d0, d1, d2, d3, d4, d5, d6, d7, d8⟩, f0, f1, f2, f3, f4, f5, f6, f7, f8⟩ := hF3.nine))
  all_goals
    have hF4 := hF3.set9 (.int .i64 3) (.string (mkS t.text)) (.int .u64 ((wd noSet 0 : Nat) : Int)) (.int .u64 ((wd noSet 1 : Nat) : Int)) (.int .u64 ((wd noSet 2 : Nat) : Int)) (.int .u64 ((wd noSet 3 : Nat) : Int)) (.slice none 0 0) (.int .i64 0) (.int .i64 0)
    have hB4 := hB3.own (Btt.set9 (W := w3) w.heap.size (.int .i64 3) (.string (mkS t.text)) (.int .u64 ((wd noSet 0 : Nat) : Int)) (.int .u64 ((wd noSet 1 : Nat) : Int)) (.int .u64 ((wd noSet 2 : Nat) : Int)) (.int .u64 ((wd noSet 3 : Nat) : Int)) (.slice none 0 0) (.int .i64 0) (.int .i64 0)) (Nat.le_refl _)
    have hR4 := hR3.own (Btt.set9 (W := w3) w.heap.size (.int .i64 3) (.string (mkS t.text)) (.int .u64 ((wd noSet 0 : Nat) : Int)) (.int .u64 ((wd noSet 1 : Nat) : Int)) (.int .u64 ((wd noSet 2 : Nat) : Int)) (.int .u64 ((wd noSet 3 : Nat) : Int)) (.slice none 0 0) (.int .i64 0) (.int .i64 0)) hlt
    go_wp2
    refine ret_blk _ _ _ _ _ rfl rfl rfl hF4 Try.underlying27 rfl (by rw [size_re]; rfl) ?_
    exact ⟨rfl, hB4, hR4⟩
/-- An atom without parts, or it is wrong. -/
theorem pplain_any (B d : Nat) (t : Tk) (p : Nat) (L : List (Tk × Nat)) (w : World) (hR : Rd w B ((t, p) :: L) d) :
    Calls Try.prog 96 #[.pointer (some ⟨B, 0, none⟩)] w fun e w' => Btt B w w' ∧ match atomT t with
      | none => e = Flt p 4
      | some a => e = .returned (rxV a none 0) ∧ a.parts = [] ∧ Rd w' B L d := by
  rcases patom_is t with ⟨a, ha, ⟨hp, rfl⟩ | ⟨hp, rfl⟩ | ⟨hp, rfl⟩ | ⟨hp, rfl⟩⟩ | ⟨ha, hp⟩
  · rw [ha]
    exact (pplain_text B d t p L w hR (by rw [ha]; rfl) hp).mono fun e w' ⟨h1, h2, h3⟩ => ⟨h2, h1, rfl, h3⟩
  · rw [ha]
    exact (pplain_set B d t p L w hR (by rw [ha]; rfl) hp).mono fun e w' ⟨h1, h2, h3⟩ => ⟨h2, h1, rfl, h3⟩
  · rw [ha]
    exact (pplain_dot B d t p L w hR (by rw [ha]; rfl) hp).mono fun e w' ⟨h1, h2, h3⟩ => ⟨h2, h1, rfl, h3⟩
  · rw [ha]
    exact (pplain_name B d t p L w hR (by rw [ha]; rfl) hp).mono fun e w' ⟨h1, h2, h3⟩ => ⟨h2, h1, rfl, h3⟩
  · rw [ha]
    exact (pplain_none B d t p L w hR ha).mono fun e w' ⟨h1, h2⟩ => ⟨h2, h1⟩
end Go.Proofs.Ytbiempopfmpohaa
