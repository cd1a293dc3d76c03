/-
  The walk of the statement LexBack: of any bytes, set and text it returns true; nothing that was there before the call has changed. Conditions: none.
-/
import Derived.Test.YtgckhkdjjmeboaaDoorLexAwake
import Derived.Test.YtgckhkdjjmeboaaDoorPast
namespace Go.Proofs.YtgckhkdjjmeboaaDoor
open Go.RowKit

theorem wd_false : ∀ k, k < 4 → wd (fun _ => false) k = 0 := fun k hk => by
  match k, hk with
  | 0, _ => decide +kernel
  | 1, _ => decide +kernel
  | 2, _ => decide +kernel
  | 3, _ => decide +kernel
theorem skip_at {c : UInt8} {l : List UInt8} (h1 : c ≠ 35) (h2 : whiteB c = false) : skipN (c :: l) = 0 := by
  rw [skipN_cons, if_neg h1, h2]; rfl
/-- A text's and a set's token, as values. -/
abbrev textV (b : ByteArray) : Value := .agg #[.int .i64 2, .string b, .int .u64 0, .int .u64 0, .int .u64 0, .int .u64 0, .int .i64 0, .int .i64 0]
abbrev setV (S : Nat → Bool) : Value := .agg #[.int .i64 3, .string { data := #[] }, .int .u64 ((wd S 0 : Nat) : Int), .int .u64 ((wd S 1 : Nat) : Int), .int .u64 ((wd S 2 : Nat) : Int), .int .u64 ((wd S 3 : Nat) : Int), .int .i64 0, .int .i64 0]
abbrev noV : Value := .agg #[.int .i64 0, .string { data := #[] }, .int .u64 0, .int .u64 0, .int .u64 0, .int .u64 0, .int .i64 0, .int .i64 0]
theorem textV_tok (b : ByteArray) : textV b = tokV ⟨2, bl b, fun _ => false, 0⟩ 0 := by
  have z := wd_false
  simp [z, mkS_bl]
theorem noV_tok : noV = tokV Tk.none 0 := by
  have z := wd_false
  simp [z, Tk.none, mkS]
theorem setV_tok (S : Nat → Bool) : setV S = tokV ⟨3, [], S, 0⟩ 0 := rfl
theorem next_text (b rest : ByteArray) (h : b.size ≤ 256) : nextV (bl (mkS (textW (bl b)) ++ rest)) 0 = .tuple #[textV b, .int .i64 (((mkS (textW (bl b))).size : Nat) : Int), .int .i64 0] := by
  have h1 := tok_text (bl b) (bl rest)
  rw [if_neg (by rw [bl_length]; omega)] at h1
  have hs : skipN (textW (bl b) ++ bl rest) = 0 := skip_at (by decide) (by decide)
  unfold nextV
  rw [bl_append, bl_mkS, List.drop_zero, hs, Nat.add_zero, List.drop_zero, h1, textV_tok, size_mkS]
  simp [Tk.none]
theorem next_text_long (b rest : ByteArray) (h : 256 < b.size) : nextV (bl (mkS (textW (bl b)) ++ rest)) 0 = .tuple #[noV, .int .i64 0, .int .i64 2] := by
  have h1 := tok_text (bl b) (bl rest)
  rw [if_pos (by rw [bl_length]; omega)] at h1
  have hs : skipN (textW (bl b) ++ bl rest) = 0 := skip_at (by decide) (by decide)
  unfold nextV
  rw [bl_append, bl_mkS, List.drop_zero, hs, Nat.add_zero, List.drop_zero, h1, noV_tok]
  rfl
theorem next_set (S : Nat → Bool) (rest : ByteArray) : nextV (bl (mkS (setW S) ++ rest)) 0 = .tuple #[setV S, .int .i64 (((mkS (setW S)).size : Nat) : Int), .int .i64 0] := by
  obtain ⟨T, hT, h1⟩ := tok_set S (bl rest)
  have hs : skipN (setW S ++ bl rest) = 0 := by
    unfold setW
    split <;> exact skip_at (by decide) (by decide)
  have e : ∀ k, k < 4 → wd T k = wd S k := fun k hk => wd_ext fun j hj => hT _ (by omega)
  unfold nextV
  rw [bl_append, bl_mkS, List.drop_zero, hs, Nat.add_zero, List.drop_zero, h1, size_mkS]
  simp [Tk.none, e, mkS]
theorem setW_len (S : Nat → Bool) : (setW S).length ≤ 2400 := by
  have h1 := rowsW_len (rowsOf S)
  have h2 := rowsW_len (rowsOf (neg S))
  have h3 := rowsOf_length S
  have h4 := rowsOf_length (neg S)
  unfold setW
  split <;> simp <;> omega
theorem textW_len (b : List UInt8) : (textW b).length ≤ 4 * b.length + 2 := by
  have := flat_len b
  unfold textW
  simp only [List.length_cons, List.length_append, List.length_nil]
  omega

set_option maxRecDepth 100000 in
set_option maxHeartbeats 2000000 in
theorem lexBack_walk (b : ByteArray) (S : Nat → Bool) (rest : ByteArray) (w : World) (hT : Tab w) :
    Calls Tryd.prog 4 #[.string b, sv S, .string rest] w fun e w' => e = .returned (.bool true) ∧ Below w.heap.size w w' := by
  by_cases h : b.size ≤ 400
  · have hi : ¬ (400 : Int) < (b.size : Int) := by omega
    by_cases h' : rest.size ≤ 300
    · have hi' : ¬ (300 : Int) < (rest.size : Int) := by omega
      have T1 := Lib.hid (text_any b (by omega))
      have S1 := Lib.hid (fun W h => lset_any S W h)
      have hx : (mkS (textW (bl b))).size ≤ 1700 := by rw [size_mkS]; have := textW_len (bl b); rw [bl_length] at this; omega
      have hy : (mkS (setW S)).size ≤ 2400 := by rw [size_mkS]; exact setW_len S
      have N2 := Lib.hid (fun w => lnext_any (mkS (setW S) ++ rest) 0 (Nat.zero_le _) (by rw [ByteArray.size_append]; omega) w)
      rw [next_set] at N2
      have N1 := Lib.hid (fun w => lnext_any (mkS (textW (bl b)) ++ rest) 0 (Nat.zero_le _) (by rw [ByteArray.size_append]; omega) w)
      have hqs : ∀ w, (Op.equalIn 10000 30 (setV S) (setV S)).run Tryd.prog w = .ok true w := fun w => by rw [setV_tok, eq_tok, tkEq_self]
      have hqt : ∀ w, (Op.equalIn 10000 30 (textV b) (textV b)).run Tryd.prog w = .ok true w := fun w => by rw [textV_tok, eq_tok, tkEq_self]
      by_cases hl : b.size ≤ 256
      · rw [next_text b rest hl] at N1
        have hli : ¬ (256 : Int) < (b.size : Int) := by omega
        generalize mkS (textW (bl b)) = x at *
        generalize mkS (setW S) = y at *
        go_enter Tryd.func4, Tryd.ntmps4
        have hS0 := Blk.new w 24 (cells4 S)
        have hB0 := bal (Below.refl w.heap.size w) (.cells (cells4 S) 24)
        go_wp2_with fail
        refine (T1.out _).mono ?_
        rintro e w1 ⟨rfl, hb1⟩
        have hB1 := btr hB0 hb1
        have hS1 := hS0.below hb1 hS0.lt
        obtain ⟨s0, s1, s2, s3⟩ := hS1.cells
        clear hS0 hB0 hb1
        go_wp2_with fail
        refine (S1.out _ (hT.below' hB1)).mono ?_
        rintro e w2 ⟨rfl, hb2⟩
        have hB2 := btr hB1 hb2
        have hS2 := hS1.below hb2 hS1.lt
        clear s0 s1 s2 s3 hS1 hB1 hb2
        go_wp2_with fail
        refine (N1.out _).mono ?_
        rintro e w3 ⟨rfl, hb3⟩
        have hB3 := btr hB2 hb3
        have hS3 := hS2.below hb3 hS2.lt
        have hT0 := Blk.new w3 30 #[.int .i64 2, .string b, .int .u64 0, .int .u64 0, .int .u64 0, .int .u64 0, .int .i64 0, .int .i64 0]
        clear hS2 hB2 hb3
        go_wp2_with fail
        refine (N2.out _).mono ?_
        rintro e w4 ⟨rfl, hb4⟩
        have hB4 := btr (bal hB3 (.cells #[.int .i64 2, .string b, .int .u64 0, .int .u64 0, .int .u64 0, .int .u64 0, .int .i64 0, .int .i64 0] 30)) hb4
        have hS4 := (hS3.alloc (.cells #[.int .i64 2, .string b, .int .u64 0, .int .u64 0, .int .u64 0, .int .u64 0, .int .i64 0, .int .i64 0] 30)).below hb4 (by simp; have := hS3.lt; omega)
        have hT4 := hT0.below hb4 hT0.lt
        have hB5 := bal hB4 (.cells #[.int .i64 3, .string { data := #[] }, .int .u64 ((wd S 0 : Nat) : Int), .int .u64 ((wd S 1 : Nat) : Int), .int .u64 ((wd S 2 : Nat) : Int), .int .u64 ((wd S 3 : Nat) : Int), .int .i64 0, .int .i64 0] 30)
        have hT5 := hT4.alloc (.cells #[.int .i64 3, .string { data := #[] }, .int .u64 ((wd S 0 : Nat) : Int), .int .u64 ((wd S 1 : Nat) : Int), .int .u64 ((wd S 2 : Nat) : Int), .int .u64 ((wd S 3 : Nat) : Int), .int .i64 0, .int .i64 0] 30)
        obtain ⟨s0, s1, s2, s3⟩ := hS4.cells
        have hgl := hS4.lt
        have A0 : ∀ (o : Obj) (j : Nat), (w4.alloc o).cell? ⟨w.heap.size, j, none⟩ = w4.cell? ⟨w.heap.size, j, none⟩ := fun o j => World.cell?_of_block (Below.heap_alloc w4 o w.heap.size hgl)
        have zn : ((y.size : Int) != (y.size : Int)) = false := by simp
        clear hB3 hS3 hT0 hb4 hT4 hB4
        go_wp2_with fail
        refine (awake_lex _).mono ?_
        rintro e w6 ⟨rfl, hb6⟩
        have hB6 := btr hB5 hb6
        have hT6 := hT5.below hb6 hT5.lt
        have t0 := hT6.cell 0
        have t1 := hT6.cell 1
        have t2 := hT6.cell 2
        have t3 := hT6.cell 3
        have t4 := hT6.cell 4
        have t5 := hT6.cell 5
        have t6 := hT6.cell 6
        have t7 := hT6.cell 7
        simp at t0 t1 t2 t3 t4 t5 t6 t7
        have zx : ((x.size : Int) == (x.size : Int)) = true := by simp
        clear A0 s0 s1 s2 s3 hT5 hT6 hB5 hb6 hS4
        go_wp2
        go_ret
        exact ⟨rfl, hB6⟩
      · rw [next_text_long b rest (by omega)] at N1
        have hli : (256 : Int) < (b.size : Int) := by omega
        generalize mkS (textW (bl b)) = x at *
        generalize mkS (setW S) = y at *
        go_enter Tryd.func4, Tryd.ntmps4
        have hS0 := Blk.new w 24 (cells4 S)
        have hB0 := bal (Below.refl w.heap.size w) (.cells (cells4 S) 24)
        go_wp2_with fail
        refine (T1.out _).mono ?_
        rintro e w1 ⟨rfl, hb1⟩
        have hB1 := btr hB0 hb1
        have hS1 := hS0.below hb1 hS0.lt
        obtain ⟨s0, s1, s2, s3⟩ := hS1.cells
        clear hS0 hB0 hb1
        go_wp2_with fail
        refine (S1.out _ (hT.below' hB1)).mono ?_
        rintro e w2 ⟨rfl, hb2⟩
        have hB2 := btr hB1 hb2
        have hS2 := hS1.below hb2 hS1.lt
        clear s0 s1 s2 s3 hS1 hB1 hb2
        go_wp2_with fail
        refine (N1.out _).mono ?_
        rintro e w3 ⟨rfl, hb3⟩
        have hB3 := btr hB2 hb3
        have hS3 := hS2.below hb3 hS2.lt
        have hT0 := Blk.new w3 30 #[.int .i64 0, .string { data := #[] }, .int .u64 0, .int .u64 0, .int .u64 0, .int .u64 0, .int .i64 0, .int .i64 0]
        clear hS2 hB2 hb3
        go_wp2_with fail
        refine (N2.out _).mono ?_
        rintro e w4 ⟨rfl, hb4⟩
        have hB4 := btr (bal hB3 (.cells #[.int .i64 0, .string { data := #[] }, .int .u64 0, .int .u64 0, .int .u64 0, .int .u64 0, .int .i64 0, .int .i64 0] 30)) hb4
        have hS4 := (hS3.alloc (.cells #[.int .i64 0, .string { data := #[] }, .int .u64 0, .int .u64 0, .int .u64 0, .int .u64 0, .int .i64 0, .int .i64 0] 30)).below hb4 (by simp; have := hS3.lt; omega)
        have hT4 := hT0.below hb4 hT0.lt
        have hB5 := bal hB4 (.cells #[.int .i64 3, .string { data := #[] }, .int .u64 ((wd S 0 : Nat) : Int), .int .u64 ((wd S 1 : Nat) : Int), .int .u64 ((wd S 2 : Nat) : Int), .int .u64 ((wd S 3 : Nat) : Int), .int .i64 0, .int .i64 0] 30)
        have hT5 := hT4.alloc (.cells #[.int .i64 3, .string { data := #[] }, .int .u64 ((wd S 0 : Nat) : Int), .int .u64 ((wd S 1 : Nat) : Int), .int .u64 ((wd S 2 : Nat) : Int), .int .u64 ((wd S 3 : Nat) : Int), .int .i64 0, .int .i64 0] 30)
        obtain ⟨s0, s1, s2, s3⟩ := hS4.cells
        have hgl := hS4.lt
        have A0 : ∀ (o : Obj) (j : Nat), (w4.alloc o).cell? ⟨w.heap.size, j, none⟩ = w4.cell? ⟨w.heap.size, j, none⟩ := fun o j => World.cell?_of_block (Below.heap_alloc w4 o w.heap.size hgl)
        have zn : ((y.size : Int) != (y.size : Int)) = false := by simp
        clear hB3 hS3 hT0 hb4 hT4 hB4
        go_wp2_with fail
        refine (awake_lex _).mono ?_
        rintro e w6 ⟨rfl, hb6⟩
        have hB6 := btr hB5 hb6
        have hT6 := hT5.below hb6 hT5.lt
        have t0 := hT6.cell 0
        have t1 := hT6.cell 1
        have t2 := hT6.cell 2
        have t3 := hT6.cell 3
        have t4 := hT6.cell 4
        have t5 := hT6.cell 5
        have t6 := hT6.cell 6
        have t7 := hT6.cell 7
        simp at t0 t1 t2 t3 t4 t5 t6 t7
        have zx : ((x.size : Int) == (x.size : Int)) = true := by simp
        clear A0 s0 s1 s2 s3 hT5 hT6 hB5 hb6 hS4
        go_wp2
        go_ret
        exact ⟨rfl, hB6⟩
    · have hi' : (300 : Int) < (rest.size : Int) := by omega
      go_enter Tryd.func4, Tryd.ntmps4
      go_wp2
      go_ret
      exact ⟨rfl, bal (Below.refl _ _) _⟩
  · have hi : (400 : Int) < (b.size : Int) := by omega
    go_enter Tryd.func4, Tryd.ntmps4
    go_wp2
    go_ret
    exact ⟨rfl, bal (Below.refl _ _) _⟩
end Go.Proofs.YtgckhkdjjmeboaaDoor
