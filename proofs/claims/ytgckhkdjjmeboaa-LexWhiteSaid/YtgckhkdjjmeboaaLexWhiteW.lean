/-
  The walk of the statement LexWhite: of any text and any two numbers it returns true; nothing that was there before the call has changed. Conditions: sizes up to 2^47.
-/
import Derived.Test.YtgckhkdjjmeboaaLexJoinW
import Derived.Test.YtgckhkdjjmeboaaLexRef2
namespace Go.Proofs.Ytgckhkdjjmeboaa
open Go.RowKit

/-- So many lines and blanks. -/
def linesL : Nat → List UInt8
  | 0 => []
  | n + 1 => linesL n ++ [35, 32, 34, 91, 10]
def blanksL : Nat → List UInt8
  | 0 => []
  | n + 1 => blanksL n ++ [32, 9, 13]
theorem linesL_len : ∀ n, (linesL n).length = 5 * n
  | 0 => rfl
  | n + 1 => by rw [linesL, List.length_append, linesL_len n]; simp; omega
theorem blanksL_len : ∀ n, (blanksL n).length = 3 * n
  | 0 => rfl
  | n + 1 => by rw [blanksL, List.length_append, blanksL_len n]; simp; omega
theorem skip_line (l : List UInt8) : skipN (35 :: 32 :: 34 :: 91 :: 10 :: l) = 5 + skipN l := by
  rw [skipN_cons, if_pos rfl]
  have e : lineN (32 :: 34 :: 91 :: 10 :: l) = 3 := rfl
  rw [e]
  have e2 : (32 :: 34 :: 91 :: 10 :: l : List UInt8).drop 3 = 10 :: l := rfl
  rw [e2, skipN_cons, if_neg (by decide), if_pos (by decide)]
  omega
theorem skip_blank (l : List UInt8) : skipN (32 :: 9 :: 13 :: l) = 3 + skipN l := by
  rw [skipN_cons, if_neg (by decide), if_pos (by decide), skipN_cons, if_neg (by decide), if_pos (by decide), skipN_cons, if_neg (by decide), if_pos (by decide)]
  omega
theorem skip_blanks : ∀ n (l : List UInt8), skipN (blanksL n ++ l) = 3 * n + skipN l
  | 0, l => by simp [blanksL]
  | n + 1, l => by
    rw [blanksL, List.append_assoc, skip_blanks n]
    show 3 * n + skipN (32 :: 9 :: 13 :: l) = _
    rw [skip_blank]; omega
theorem skip_lines : ∀ n (l : List UInt8), skipN (linesL n ++ l) = 5 * n + skipN l
  | 0, l => by simp [linesL]
  | n + 1, l => by
    rw [linesL, List.append_assoc, skip_lines n]
    show 5 * n + skipN (35 :: 32 :: 34 :: 91 :: 10 :: l) = _
    rw [skip_line]; omega
theorem white_skip (m n : Nat) (s : List UInt8) : skipN ((linesL m ++ blanksL n) ++ s) = (linesL m ++ blanksL n).length + skipN s := by
  rw [List.append_assoc, skip_lines, skip_blanks, List.length_append, linesL_len, blanksL_len]
  omega
theorem all_white (m n : Nat) (s : List UInt8) : allL ((linesL m ++ blanksL n) ++ s) 0 = match allL s 0 with
    | .error x => .error (x.1, x.2 + (linesL m ++ blanksL n).length)
    | .ok A => .ok (moved A (linesL m ++ blanksL n).length) := by
  rw [allL_white _ _ _ (white_skip m n s)]
  exact allL_shift _ s.length s 0 (Nat.le_refl _)
theorem moved_get (A : List (Tk × Nat)) (d k : Nat) (h : k < A.length) : (moved A d).getD k (Tk.none, 0) = ((A.getD k (Tk.none, 0)).1, (A.getD k (Tk.none, 0)).2 + d) := by
  simp [List.getD, moved, h]

set_option maxRecDepth 100000 in
set_option maxHeartbeats 4000000 in
theorem lexWhite_main (s : ByteArray) (lines blanks : Nat) (hs : s.size ≤ 1500) (hl : lines ≤ 20) (hb : blanks ≤ 20) (w : World) :
    Calls Try.prog 3 #[.string s, .int .i64 (lines : Int), .int .i64 (blanks : Int)] w fun e w' => e = .returned (.bool true) ∧ Below w.heap.size w w' := by
  have g1 : ¬ (1500 : Int) < (s.size : Int) := by omega
  have g2 : ¬ (lines : Int) < 0 := by omega
  have g3 : ¬ (20 : Int) < (lines : Int) := by omega
  have g4 : ¬ (blanks : Int) < 0 := by omega
  have g5 : ¬ (20 : Int) < (blanks : Int) := by omega
  have R1 := Lib.hid (lall_any s (by omega))
  have hbl := bl_length s
  have hfl : (linesL lines ++ blanksL blanks).length = 5 * lines + 3 * blanks := by rw [List.length_append, linesL_len, blanksL_len]
  have hfs : (mkS (linesL lines ++ blanksL blanks)).size = 5 * lines + 3 * blanks := by rw [size_mkS, hfl]
  have R2 := Lib.hid (lall_any (mkS (linesL lines ++ blanksL blanks) ++ s) (by rw [ByteArray.size_append, hfs]; omega))
  have hb2 : bl (mkS (linesL lines ++ blanksL blanks) ++ s) = (linesL lines ++ blanksL blanks) ++ bl s := by rw [bl_append, bl_mkS]
  rw [hb2] at R2
  have hw := all_white lines blanks (bl s)
  rw [hfl] at hw
  go_enter Try.func3, Try.ntmps3
  go_wp2
  go_loopw [7, 8] (fun o i wr => ∃ k : Nat, k ≤ lines ∧ i = .int .i64 k ∧ o = .string (mkS (linesL k)) ∧ Below w.heap.size w wr)
    (fun _ i _ => lines - (intOf i).toNat)
  case atStart => exact ⟨0, Nat.zero_le _, rfl, rfl, Below.refl _ _⟩
  case round =>
    obtain ⟨k, hk, rfl, rfl, hB⟩ := hrel
    by_cases hlt : k < lines
    · have hlti : (k : Int) < (lines : Int) := by omega
      have ho : (mkS (linesL k)).size ≤ 100 := by rw [size_mkS, linesL_len]; omega
      have HS := Lib.hid (show mkS (linesL k) ++ ByteArray.mk #[35, 32, 34, 91, 10] = mkS (linesL (k + 1)) from bl_inj (by rw [bl_append, bl_mkS, bl_mkS]; rfl))
      generalize mkS (linesL k) = o at *
      go_wp2
      go_roundw
      case rel => exact ⟨k + 1, by omega, by go_num, by rw [← HS.out], hB⟩
      case measure => simp [intOf]; omega
    · obtain rfl : k = lines := by omega
      have hnk : ¬ (k : Int) < (k : Int) := by omega
      have HB := Lib.hid hB
      clear hB
      go_wp2
      go_loopw [7, 9] (fun o i wr => ∃ j : Nat, j ≤ blanks ∧ i = .int .i64 j ∧ o = .string (mkS (linesL k ++ blanksL j)) ∧ Below w.heap.size w wr)
        (fun _ i _ => blanks - (intOf i).toNat)
      case atStart => exact ⟨0, Nat.zero_le _, rfl, by rw [blanksL, List.append_nil], HB.out⟩
      case round =>
        obtain ⟨j, hj, rfl, rfl, hB⟩ := hrel
        by_cases hlt2 : j < blanks
        · have hlti : (j : Int) < (blanks : Int) := by omega
          have ho : (mkS (linesL k ++ blanksL j)).size ≤ 200 := by rw [size_mkS, List.length_append, linesL_len, blanksL_len]; omega
          have HS := Lib.hid (show mkS (linesL k ++ blanksL j) ++ ByteArray.mk #[32, 9, 13] = mkS (linesL k ++ blanksL (j + 1)) from bl_inj (by rw [bl_append, bl_mkS, bl_mkS, blanksL, ← List.append_assoc]; rfl))
          generalize mkS (linesL k ++ blanksL j) = o at *
          go_wp2
          go_roundw
          case rel => exact ⟨j + 1, by omega, by go_num, by rw [← HS.out], hB⟩
          case measure => simp [intOf]; omega
        · obtain rfl : j = blanks := by omega
          have hnj : ¬ (j : Int) < (j : Int) := by omega
          have hfa : (mkS (linesL k ++ blanksL j) ++ s).size = 5 * k + 3 * j + s.size := by rw [ByteArray.size_append, hfs]
          have hlf : ((linesL k ++ blanksL j) ++ bl s).length = 5 * k + 3 * j + s.size := by rw [List.length_append, hfl, hbl]
          obtain ⟨d, hd⟩ : ∃ d, 5 * k + 3 * j = d := ⟨_, rfl⟩
          have hd200 : d ≤ 200 := by omega
          rw [hd] at hw hfs hfa hlf
          generalize mkS (linesL k ++ blanksL j) = front at *
          cases h1 : allL (bl s) 0 with
          | error x =>
            obtain ⟨e1, q1⟩ := x
            rw [h1] at hw
            have A1 := Lib.hid (fun w w' e (h : AllA (bl s) w e w') => AllA.err h1 h)
            have hpl := allL_place (bl s).length (bl s) 0 (Nat.le_refl _) h1
            rw [hbl] at hpl
            have A2 := Lib.hid (fun w w' e (h : AllA ((linesL k ++ blanksL j) ++ bl s) w e w') => AllA.err hw h)
            obtain ⟨z, hz⟩ : ∃ z : Int, ((q1 + d : Nat) : Int) = z := ⟨_, rfl⟩
            rw [hz] at A2
            have hwz : IntKind.i64.wrap ((q1 : Int) + (front.size : Int)) = z := by rw [show (q1 : Int) + (front.size : Int) = z by omega]; exact IntWalk.i64_in _ (by omega)
            have z2 : (z != z) = false := by simp
            have hfB : front.size ≤ 200 := by omega
            have hfaB : (front ++ s).size ≤ 1700 := by omega
            clear hz
            clear hbl hfl hb2 hw h1 hlf hd HB hfs hfa
            have z1 : (((e1 : Nat) : Int) != ((e1 : Nat) : Int)) = false := by simp
            go_wp2_with fail
            refine (R1.out wr).mono ?_
            intro e v1 ha
            obtain ⟨⟨so, sc, rfl⟩, hv1⟩ := A1.out _ _ _ ha
            clear ha
            go_wp2_with fail
            refine (R2.out v1).mono ?_
            intro e v2 ha
            obtain ⟨⟨so2, sc2, rfl⟩, hv2⟩ := A2.out _ _ _ ha
            have hB2 := btr hB (btr hv1 hv2)
            clear ha
            go_wp2_with fail
            refine wp_loop_rounds 1 ?_
            rw [rounds_succ]
            go_wp2_with fail
            refine (awake_lex v2).mono ?_
            rintro e v4 ⟨rfl, hb4⟩
            have hB4 := btr hB2 hb4
            go_wp2
            go_ret
            exact ⟨rfl, hB4⟩
          | ok A =>
            rw [h1] at hw
            have A1 := Lib.hid (fun w w' e (h : AllA (bl s) w e w') => AllA.ok h1 h)
            have A2 := Lib.hid (fun w w' e (h : AllA ((linesL k ++ blanksL j) ++ bl s) w e w') => AllA.ok hw h)
            obtain ⟨na, hna⟩ : ∃ n, A.length = n := ⟨_, rfl⟩
            have hal := allL_len (bl s).length (bl s) 0 (Nat.le_refl _) h1
            have hml : (moved A d).length = na := by rw [moved_len, hna]
            rw [hbl, hna] at A1
            rw [hml, hlf] at A2
            rw [hna, hbl] at hal
            have HNA := Lib.hid hna
            have HML := Lib.hid hml
            have HAT := Lib.hid (fun i (hi : i < A.length) => okAt_get (allL_at (bl s).length (bl s) 0 (Nat.le_refl _) h1) hi)
            have HBL := Lib.hid hbl
            obtain ⟨z, hz⟩ : ∃ z : Int, ((d + s.size : Nat) : Int) = z := ⟨_, rfl⟩
            rw [hz] at A2
            have hwz : IntKind.i64.wrap ((s.size : Int) + (front.size : Int)) = z := by rw [show (s.size : Int) + (front.size : Int) = z by omega]; exact IntWalk.i64_in _ (by omega)
            have z2 : (z != z) = false := by simp
            have z3 : ((na : Int) != (na : Int)) = false := by simp
            have HFS := Lib.hid hfs
            have hfB : front.size ≤ 200 := by omega
            have hfaB : (front ++ s).size ≤ 1700 := by omega
            clear hz hna hml hbl hfl hb2 hw h1 hlf hd HB hfs hfa
            go_wp2_with fail
            refine (R1.out wr).mono ?_
            intro e v1 ha
            obtain ⟨ao, ac, rfl, _, k1, hv1⟩ := A1.out _ _ _ ha
            have K1 := Lib.hid k1
            clear ha k1
            go_wp2_with fail
            refine (R2.out v1).mono ?_
            intro e v2 ha
            obtain ⟨bo, bc, rfl, _, k2, hv2⟩ := A2.out _ _ _ ha
            have hB2 := btr hB (btr hv1 hv2)
            have K1 := KAt.hid HNA.out ((K1.out.below hv2 (Nat.le_refl _)).mono hv2.size)
            have K2 := KAt.hid HML.out k2
            clear ha k2 hv1 hv2 hB
            go_wp2_with fail
            go_loopw [16] (fun i wr => ∃ k : Nat, k ≤ na ∧ i = .int .i64 k ∧ Below v2.heap.size v2 wr)
              (fun i _ => na - (intOf i).toNat)
            case atStart => exact ⟨0, Nat.zero_le _, rfl, Below.refl _ _⟩
            case round =>
              obtain ⟨i, hi, rfl, hW⟩ := hrel
              by_cases hlt3 : i < na
              · obtain ⟨g1', o1, rfl, hg1, hc1⟩ := K1.out (by omega)
                obtain ⟨g2', o2, rfl, hg2, hc2⟩ := K2.out (by omega)
                have hiA : i < A.length := by rw [HNA.out]; exact hlt3
                obtain ⟨hpp, hp2, n, hn, htk, hsk, hnx⟩ := HAT.out i hiA
                rw [Nat.sub_zero] at hp2 htk hsk
                have hge : A.getD i (Tk.none, 0) = A[i] := by simp [List.getD, hiA]
                have k1i := hc1 i hlt3
                have k2i := hc2 i hlt3
                rw [moved_get A d i hiA] at k2i
                rw [hge] at k1i k2i
                have HNX := Lib.hid (fun h : i + 1 < na => (show A[i].2 + n ≤ (A.getD (i + 1) (Tk.none, 0)).2 by
                  have h' : i + 1 < A.length := by rw [HNA.out]; exact h
                  rw [show A.getD (i + 1) (Tk.none, 0) = A[i + 1] by simp [List.getD, h']]
                  exact hnx h'))
                obtain ⟨x, hx⟩ : ∃ x, A[i] = x := ⟨_, rfl⟩
                rw [hx] at k1i k2i htk hsk hp2 HNX
                obtain ⟨u, p⟩ := x
                simp only at k1i k2i htk hsk hp2
                have hnle : p + n ≤ s.size := by
                  rcases Classical.em ((bl s).drop p = []) with e | e
                  · have := congrArg List.length e
                    rw [List.length_drop] at this
                    simp at this
                    rw [HBL.out] at hp2 this
                    omega
                  · have := (tokL_pos e htk).2.1
                    rw [List.length_drop, HBL.out] at this
                    rw [HBL.out] at hp2
                    omega
                have hnv : nextV (bl s) p = .tuple #[tokV u ((p : Nat) : Int), .int .i64 ((p + n : Nat) : Int), .int .i64 0] := by
                  unfold nextV
                  rw [hsk, Nat.add_zero, htk]
                obtain ⟨z1, hz1⟩ : ∃ z : Int, ((p + n : Nat) : Int) = z := ⟨_, rfl⟩
                rw [hz1] at hnv
                have HN := Lib.hid (fun w => lnext_any s p (by omega) (by omega) w)
                rw [hnv] at HN
                obtain ⟨z4, hz4⟩ : ∃ z : Int, ((p + d : Nat) : Int) = z := ⟨_, rfl⟩
                rw [hz4] at k2i
                have hwp : IntKind.i64.wrap ((p : Int) + (front.size : Int)) = z4 := by have hfs := HFS.out; rw [show (p : Int) + (front.size : Int) = z4 by omega]; exact IntWalk.i64_in _ (by omega)
                have hq : ∀ w, (Op.equalIn 10000 30 (tokV u z4) (tokV u z4)).run Try.prog w = .ok true w := fun w => by rw [eq_tok, tkEq_self]
                have hd1 : decide (z1 ≤ (p : Int)) = false := decide_eq_false (by omega)
                have hlti : (i : Int) < (na : Int) := by omega
                have hi0 : (0 : Int) ≤ (i : Int) := by omega
                have hK1 := Lib.hid k1i
                have hK2 := Lib.hid k2i
                have hC1 := Lib.hid hc1
                have HZ1 := Lib.hid hz1
                clear hpp k1i k2i hc1 hc2 hx hge hnx htk hsk hnv hz1 hz4 hiA
                obtain ⟨a0, a1, a2, a3, a4, a5, a6, a7⟩ := hK1.out wr hW
                have hgl : g1' < wr.heap.size := Nat.lt_of_lt_of_le hg1 hW.size
                have A0 : ∀ (o : Obj) (j : Nat), (wr.alloc o).cell? ⟨g1', j, none⟩ = wr.cell? ⟨g1', j, none⟩ := fun o j => World.cell?_of_block (Below.heap_alloc wr o g1' hgl)
                go_wp2_with fail
                refine (HN.out _).mono ?_
                rintro e v3 ⟨rfl, hb3⟩
                have hX3 := (Blk.new wr 30 (tokCells u z4)).below hb3 (by rw [World.size_alloc]; omega)
                have hW3 := btr (bal hW (.cells (tokCells u z4) 30)) hb3
                clear hb3 a0 a1 a2 a3 a4 a5 a6 a7 A0
                generalize wr.heap.size = gx at *
                go_wp2_with fail
                change Code.wp _ _ _ _ (v3.alloc (.cells (tokCells u ((p : Nat) : Int)) 30))
                have hX4 := hX3.alloc (.cells (tokCells u ((p : Nat) : Int)) 30)
                have hW4 := bal hW3 (.cells (tokCells u ((p : Nat) : Int)) 30)
                clear hX3 hW3
                generalize v3.alloc (.cells (tokCells u ((p : Nat) : Int)) 30) = v4 at *
                have K8a := hK1.out v4 hW4
                have K8b := hK2.out v4 hW4
                have K8c := Lib.hid (fun h : i + 1 < na => hC1.out (i + 1) h v4 hW4)
                obtain ⟨a0, a1, a2, a3, a4, a5, a6, a7⟩ := K8a
                obtain ⟨b0, b1, b2, b3, b4, b5, b6, b7⟩ := K8b
                have f0 := hX4.cell 0
                have f1 := hX4.cell 1
                have f2 := hX4.cell 2
                have f3 := hX4.cell 3
                have f4 := hX4.cell 4
                have f5 := hX4.cell 5
                have f6 := hX4.cell 6
                have f7 := hX4.cell 7
                simp at f0 f1 f2 f3 f4 f5 f6 f7
                by_cases h5 : i + 1 < na
                · have hk5 : IntKind.i64.wrap ((i : Int) + 1) = (i : Int) + 1 := IntWalk.i64_in _ (by omega)
                  have hk6 : decide ((i : Int) + 1 < (na : Int)) = true := decide_eq_true (by omega)
                  have hk7 : (0 : Int) ≤ (i : Int) + 1 := by omega
                  have hk8 : (i : Int) + 1 < (na : Int) := by omega
                  have hk10 : ((i : Int) + 1).toNat = i + 1 := by omega
                  obtain ⟨c0, c1, c2, c3, c4, c5, c6, c7⟩ := K8c.out h5
                  have hq5 : p + n ≤ (A.getD (i + 1) (Tk.none, 0)).2 := HNX.out h5
                  have hk9 : decide (((((A.getD (i + 1) (Tk.none, 0)).2 : Nat)) : Int) < z1) = false := by have := HZ1.out; exact decide_eq_false (by omega)
                  clear R1 R2 A1 A2 HAT HN HNX hq5
                  generalize A.getD (i + 1) (Tk.none, 0) = y at *
                  obtain ⟨u', p'⟩ := y
                  simp only at c0 c1 c2 c3 c4 c5 c6 c7 hk9
                  go_quiet (fail)
                  go_wp2
                  go_roundw
                  case rel => exact ⟨i + 1, by omega, by go_num, below_drewN hW4 _⟩
                  case measure => simp [intOf]; omega
                · have hk5 : IntKind.i64.wrap ((i : Int) + 1) = (i : Int) + 1 := IntWalk.i64_in _ (by omega)
                  have hk6 : decide ((i : Int) + 1 < (na : Int)) = false := decide_eq_false (by omega)
                  clear R1 R2 A1 A2 HAT HN HNX
                  go_quiet (fail)
                  go_wp2
                  go_roundw
                  case rel => exact ⟨i + 1, by omega, by go_num, below_drewN hW4 _⟩
                  case measure => simp [intOf]; omega
              · obtain rfl : i = na := by omega
                have hnk3 : ¬ (i : Int) < (i : Int) := by omega
                have hBB := btr hB2 hW
                go_wp2_with fail
                refine (awake_lex _).mono ?_
                rintro e v4 ⟨rfl, hb4⟩
                have hB4 := btr hBB hb4
                go_wp2
                go_ret
                exact ⟨rfl, hB4⟩

set_option maxHeartbeats 1000000 in
theorem lexWhite_walk (s : ByteArray) (lines blanks : Int) (hs : s.size ≤ 140737488355328) (w : World) :
    Calls Try.prog 3 #[.string s, .int .i64 lines, .int .i64 blanks] w fun e w' => e = .returned (.bool true) ∧ Below w.heap.size w w' := by
  by_cases c1 : (1500 : Int) < (s.size : Int)
  · go_enter Try.func3, Try.ntmps3
    go_wp2
    go_ret
    exact ⟨rfl, Below.refl _ _⟩
  by_cases c2 : lines < 0
  · go_enter Try.func3, Try.ntmps3
    go_wp2
    go_ret
    exact ⟨rfl, Below.refl _ _⟩
  by_cases c3 : (20 : Int) < lines
  · go_enter Try.func3, Try.ntmps3
    go_wp2
    go_ret
    exact ⟨rfl, Below.refl _ _⟩
  by_cases c4 : blanks < 0
  · go_enter Try.func3, Try.ntmps3
    go_wp2
    go_ret
    exact ⟨rfl, Below.refl _ _⟩
  by_cases c5 : (20 : Int) < blanks
  · go_enter Try.func3, Try.ntmps3
    go_wp2
    go_ret
    exact ⟨rfl, Below.refl _ _⟩
  obtain ⟨l, rfl⟩ := Int.eq_ofNat_of_zero_le (show (0 : Int) ≤ lines by omega)
  obtain ⟨b, rfl⟩ := Int.eq_ofNat_of_zero_le (show (0 : Int) ≤ blanks by omega)
  exact lexWhite_main s l b (by omega) (by omega) (by omega) w
end Go.Proofs.Ytgckhkdjjmeboaa
