/-
  The lexer reads a set in brackets. Conditions: a bracket stands at the place ahead.
-/
import Derived.Test.YtbiempopfmpohaaLexWd
import Derived.Test.YtbiempopfmpohaaSetWs
namespace Go.Proofs.Ytbiempopfmpohaa
open Go.RowKit

theorem setL_row (c : UInt8) (r : List UInt8) (hc : c ≠ 93) : setL (c :: r) = match rowR (c :: r) with
    | .error e => .error e
    | .ok (x, n) => match setL ((c :: r).drop n) with
      | .error e => .error e
      | .ok (t, k) => .ok (x :: t, n + k) := by
  rw [setL_cons, if_neg hc]
  unfold rowR
  cases oneL (c :: r) with
  | error e => rfl
  | ok x =>
    obtain ⟨a, n⟩ := x
    simp only
    split
    · cases oneL ((c :: r).drop (n + 1)) with
      | error e => rfl
      | ok y =>
        obtain ⟨b, m⟩ := y
        simp only
        split
        · rfl
        · rfl
    · rfl
theorem setL_rbad {c : UInt8} {r : List UInt8} (hc : c ≠ 93) {e : Nat} (h : rowR (c :: r) = .error e) : setL (c :: r) = .error e := by
  rw [setL_row c r hc, h]
theorem setL_rstep {c : UInt8} {r : List UInt8} (hc : c ≠ 93) {x : UInt8 × UInt8} {n : Nat} (h : rowR (c :: r) = .ok (x, n)) (rs : List (UInt8 × UInt8)) (d : Nat) : gathS rs d (setL (c :: r)) = gathS (rs ++ [x]) (d + n) (setL ((c :: r).drop n)) := by
  rw [setL_row c r hc, h]
  simp only
  cases setL ((c :: r).drop n) with
  | error e => rfl
  | ok y => simp [gathS, Nat.add_assoc]
theorem rowR_err {l : List UInt8} {e : Nat} (h : rowR l = .error e) : e ≠ 0 := by
  unfold rowR at h
  cases ho : oneL l with
  | error x => rw [ho] at h; cases h; exact oneL_err ho
  | ok x =>
    obtain ⟨a, n⟩ := x
    rw [ho] at h
    simp only at h
    split at h
    · cases ho2 : oneL (l.drop (n + 1)) with
      | error x => rw [ho2] at h; cases h; exact oneL_err ho2
      | ok y =>
        obtain ⟨b, m⟩ := y
        rw [ho2] at h
        simp only at h
        split at h
        · cases h; decide
        · cases h
    · cases h
theorem rowR_pos {l : List UInt8} {x : UInt8 × UInt8} {n : Nat} (h : rowR l = .ok (x, n)) : 0 < n ∧ n ≤ l.length := by
  unfold rowR at h
  cases ho : oneL l with
  | error e => rw [ho] at h; cases h
  | ok y =>
    obtain ⟨a, k⟩ := y
    have hp := oneL_pos ho
    rw [ho] at h
    simp only at h
    split at h
    · cases ho2 : oneL (l.drop (k + 1)) with
      | error e => rw [ho2] at h; cases h
      | ok z =>
        obtain ⟨b, m⟩ := z
        have hp2 := oneL_pos ho2
        rw [ho2] at h
        simp only at h
        rw [List.length_drop] at hp2
        split at h
        · cases h
        · cases h; omega
    · cases h; omega
theorem wd4 {S T : Nat → Bool} (h : ∀ i, i < 256 → S i = T i) : wd S 0 = wd T 0 ∧ wd S 1 = wd T 1 ∧ wd S 2 = wd T 2 ∧ wd S 3 = wd T 3 := by
  have e := cells4_ext h
  simp only [cells4, Array.mk.injEq, List.cons.injEq, Value.int.injEq, and_true, true_and] at e
  omega

set_option maxRecDepth 100000 in
set_option maxHeartbeats 4000000 in
theorem listed_not (s : ByteArray) (p q0 : Nat) (hq0 : q0 = p + 1) (hp : p < s.size) (hs : s.size ≤ 140737488355328) (hc : s[p]'hp = 91) (h2 : ∃ h : p + 1 < s.size, s[p + 1]'h = 94) (w : World) :
    Calls Try.prog 70 #[.string s, .int .i64 (q0 : Int)] w fun e w' => e = .returned (partV ((bl s).drop p) p) ∧ Below w.heap.size w w' := by
  have i00 : (0 : Int) ≤ (q0 : Int) := by omega
  have HT := Lib.hid (show tokL ((bl s).drop p) = _ from (by obtain ⟨h, e⟩ := h2; exact tok_not s p h hc e))
  have HWE := Lib.hid (fun e (h : tokL ((bl s).drop p) = .error e) => partV_err (p := p) h)
  have HWO := Lib.hid (fun t n (h : tokL ((bl s).drop p) = .ok (t, n)) => partV_ok (p := p) h)
  have HST0 := Lib.hid (fun W => stands_any s q0 94 W)
  rw [show standB s q0 94 = true by obtain ⟨h, e⟩ := h2; subst hq0; unfold standB; rw [drop_byte s (p + 1) h, e]; rfl] at HST0
  have hq1s : (q0 + 1) ≤ s.size := (by obtain ⟨h, _⟩ := h2; omega)
  have HQ0 := Lib.hid hq0
  clear hc hq0 h2
  go_enter Try.func70, Try.ntmps70
  go_wp2_with fail
  refine (HST0.out _).mono ?_
  rintro e w1 ⟨rfl, rfl⟩
  go_wp2
  go_loopw [1] (fun i wr => ∃ (q : Nat) (rs : List (UInt8 × UInt8)), (q0 + 1) ≤ q ∧ q ≤ s.size ∧ i = .int .i64 q ∧ Hid (gathS rs (q - (q0 + 1)) (setL ((bl s).drop q)) = setL ((bl s).drop (p + 2))) ∧ Blk wr (w.heap.size + 1) 24 (cells4 (inRows rs)) ∧ Blk wr w.heap.size 65 (tokCells Tk.none 0) ∧ Below w.heap.size w wr)
    (fun i _ => s.size - (intOf i).toNat)
  case atStart =>
    refine ⟨(q0 + 1), [], Nat.le_refl _, hq1s, by first | rfl | go_num, Lib.hid (by rw [Nat.sub_self, show p + 2 = (q0 + 1) by have := HQ0.out; omega]; exact gathS_nil _), ?_, ?_, bal (bal0 w _) _⟩
    · have := Blk.new (w.alloc (.cells (tokCells Tk.none 0) 65)) 24 (cells4 (inRows []))
      rw [World.size_alloc, none_cells] at this
      exact this
    · rw [none_cells]; exact (Blk.new w _ _).alloc _
  case round =>
    obtain ⟨q, rs, hq1, hq2, rfl, hj, hS, hK, hB⟩ := hrel
    have i0 : (0 : Int) ≤ (q : Int) := by omega
    have HO := Lib.hid (fun W => lrow_any s q hq2 hs W)
    by_cases hlt : q < s.size
    · have HDQ := Lib.hid (drop_byte s q hlt)
      have HST := Lib.hid (fun W => stands_yes s q hlt 93 W)
      by_cases hc : s[q]'hlt = 93
      · rw [show (s[q]'hlt == (93 : UInt8)) = true by rw [hc]; rfl] at HST
        have HTX := Lib.hid (show setL ((bl s).drop (p + 2)) = .ok (rs, q - (q0 + 1) + 1) by
          rw [← hj.out, HDQ.out, setL_cons, if_pos hc]
          simp [gathS])
        clear hc
        have HTE := Lib.hid (HWO.out { Tk.none with kind := 3, set := fun x => decide (x < 256) && !inRows rs x } (2 + (q - (q0 + 1) + 1)) (by rw [HT.out, HTX.out]))
        have HPN := Lib.hid (show p + (2 + (q - (q0 + 1) + 1)) = q + 1 by have := HQ0.out; omega)
        obtain ⟨s0, s1, s2, s3⟩ := hS.cells
        have HNG := Lib.hid (fun W => neg_to (inRows rs) W)
        have HWD := Lib.hid (wd4 (S := neg (inRows rs)) (T := fun x => decide (x < 256) && !inRows rs x) (fun i hi => by unfold neg; rw [decide_eq_true hi, Bool.true_and]))
        generalize hSS : (fun x => decide (x < 256) && !inRows rs x) = S0 at HWD HTE
        generalize hSN : neg (inRows rs) = SN at HNG HWD
        generalize inRows rs = SR at *
        clear hSS hSN
        go_wp2_with fail
        refine (HST.out _).mono ?_
        rintro e w1 ⟨rfl, rfl⟩
        go_wp2_with fail
        refine (HNG.out _).mono ?_
        rintro e w2 ⟨rfl, hb2⟩
        have hB2 := btr hB hb2
        have hS2 := hS.below hb2 hS.lt
        have hK2 := hK.below hb2 hK.lt
        clear s0 s1 s2 s3
        go_wp2_with (first | (refine wp_set rfl _ _ rfl (w.heap.size + 1) SN (cells4 SR) rfl rfl hS2 rfl ?_; intro w3 hS3 hkp3 hko3; have hB3 := hkp3 _ _ (by omega) hB2; have hK3 := hko3 _ _ _ (by omega) hK2; obtain ⟨s0, s1, s2, s3⟩ := hS3.cells) | (refine wp_tok rfl _ _ rfl w.heap.size { Tk.none with kind := 3, set := S0 } 0 (tokCells Tk.none 0) rfl (by rw [set_cells]; simp only [← HWD.out.1, ← HWD.out.2.1, ← HWD.out.2.2.1, ← HWD.out.2.2.2]; rfl) hK3 rfl ?_; intro w5 hK5 hkp; have hB5 := hkp _ _ (Nat.le_refl _) hB3; obtain ⟨c0, c1, c2, c3, c4, c5, c6, c7⟩ := tok8 hK5) | fail)
        refine bodyPost_ret (v := .tuple #[tokV { Tk.none with kind := 3, set := S0 } 0, .int .i64 ((q + 1 : Nat) : Int), .int .i64 0]) (by simp [results, Try.results70, go_sem, c0, c1, c2, c3, c4, c5, c6, c7]) rfl ⟨by rw [HTE.out, HPN.out], hB5⟩
      · rw [show (s[q]'hlt == (93 : UInt8)) = false by simpa using hc] at HST
        rw [HDQ.out] at HO
        cases ho : rowR (s[q]'hlt :: (bl s).drop (q + 1)) with
        | error er =>
          rw [rowV_err ho] at HO
          have hne : (((er : Nat) : Int) != 0) = true := by simpa using rowR_err ho
          have HTE := Lib.hid (HWE.out er (by
            have h2 : setL ((bl s).drop (p + 2)) = .error er := by
              rw [← hj.out, HDQ.out, setL_rbad hc ho]
              rfl
            rw [HT.out, h2]))
          clear hc ho
          go_wp2_with fail
          refine (HST.out _).mono ?_
          rintro e w1 ⟨rfl, rfl⟩
          go_wp2_with fail
          refine (HO.out _).mono ?_
          rintro e w1 ⟨rfl, hb1⟩
          have hB1 := btr hB hb1
          have hK1 := hK.below hb1 hK.lt
          have hR1 := Blk.new w1 24 zero4
          have hw1 : w.heap.size < w1.heap.size := hK1.lt
          go_wp2_with (first | (refine wp_set rfl _ _ rfl w1.heap.size (fun _ => false) zero4 rfl rfl hR1 rfl ?_; intro w3 hS3 hkp3 hko3; have hB3 := hkp3 _ _ (by omega) (bal hB1 _); have hK3 := hko3 _ _ _ (by omega) (hK1.alloc _)) | (refine wp_tok rfl _ _ rfl w.heap.size Tk.none 0 (tokCells Tk.none 0) rfl (by rw [none_cells]; rfl) hK3 rfl ?_; intro w5 hK5 hkp; have hB5 := hkp _ _ (Nat.le_refl _) hB3; obtain ⟨c0, c1, c2, c3, c4, c5, c6, c7⟩ := tok8 hK5) | fail)
          refine bodyPost_ret (v := .tuple #[tokV Tk.none 0, .int .i64 0, .int .i64 ((er : Nat) : Int)]) (by simp [results, Try.results70, go_sem, c0, c1, c2, c3, c4, c5, c6, c7]) rfl ⟨by rw [HTE.out], hB5⟩
        | ok x =>
          obtain ⟨⟨ra, rb⟩, n⟩ := x
          rw [rowV_ok ho] at HO
          have hpos := rowR_pos ho
          have hnl : q + n ≤ s.size := by have := hpos.2; rw [← HDQ.out, List.length_drop, bl_length] at this; omega
          have HJ := Lib.hid (show gathS (rs ++ [(ra, rb)]) (q + n - (q0 + 1)) (setL ((bl s).drop (q + n))) = setL ((bl s).drop (p + 2)) by
            rw [← hj.out, HDQ.out, setL_rstep hc ho, ← HDQ.out, List.drop_drop]
            congr 1
            omega)
          have hn0 := hpos.1
          have HAN := Lib.hid (fun W => any_to (inRows rs) (rowS ra rb) W)
          rw [inRows_row] at HAN
          clear hc ho hpos hj
          generalize rowS ra rb = RS at *
          generalize hSN : inRows (rs ++ [(ra, rb)]) = SN at HAN
          generalize inRows rs = SR at *
          go_wp2_with fail
          refine (HST.out _).mono ?_
          rintro e w1 ⟨rfl, rfl⟩
          go_wp2_with fail
          refine (HO.out _).mono ?_
          rintro e w1 ⟨rfl, hb1⟩
          have hB1 := btr hB hb1
          have hK1 := hK.below hb1 hK.lt
          have hS1 := hS.below hb1 hS.lt
          have hR1 := Blk.new w1 24 zero4
          have hw1 : w.heap.size + 1 < w1.heap.size := hS1.lt
          clear hB hK hS
          go_wp2_with (first | (refine wp_set rfl _ _ rfl w1.heap.size RS zero4 rfl rfl hR1 rfl ?_; intro w3 hR3 hkp3 hko3; have hB3 := hkp3 _ _ (by omega) (bal hB1 _); have hK3 := hko3 _ _ _ (by omega) (hK1.alloc _); have hS3 := hko3 _ _ _ (by omega) (hS1.alloc _); obtain ⟨r0, r1, r2, r3⟩ := hR3.cells; obtain ⟨s0, s1, s2, s3⟩ := hS3.cells) | fail)
          refine (HAN.out _).mono ?_
          rintro e w4 ⟨rfl, hb4⟩
          have hB4 := btr hB3 hb4
          have hK4 := hK3.below hb4 hK3.lt
          have hS4 := hS3.below hb4 hS3.lt
          clear r0 r1 r2 r3 s0 s1 s2 s3 hB1 hK1 hS1 hR1 hB3 hK3 hS3 hR3
          go_wp2_with (first | (refine wp_set rfl _ _ rfl (w.heap.size + 1) SN (cells4 SR) rfl rfl hS4 rfl ?_; intro w5 hS5 hkp5 hko5; have hB5 := hkp5 _ _ (by omega) hB4; have hK5 := hko5 _ _ _ (by omega) hK4) | fail)
          go_roundw
          case rel => exact ⟨q + n, rs ++ [(ra, rb)], by omega, hnl, rfl, HJ, by rw [hSN]; exact hS5, hK5, hB5⟩
          case measure => simp [intOf]; omega
    · have HST := Lib.hid (fun W => stands_no s q (by omega) 93 W)
      obtain ⟨er, her⟩ : ∃ er, er = 6 := ⟨_, rfl⟩
      rw [drop_end s q (by omega), rowV_err (e := 6) rfl, ← her] at HO
      have hne : (((er : Nat) : Int) != 0) = true := by subst her; rfl
      have HTE := Lib.hid (HWE.out er (by
        have h2 : setL ((bl s).drop (p + 2)) = .error er := by
          rw [← hj.out, drop_end s q (by omega), setL_nil, her]
          rfl
        rw [HT.out, h2]))
      have HZ := Lib.hid hlt
      clear her hlt
      go_wp2_with fail
      refine (HST.out _).mono ?_
      rintro e w1 ⟨rfl, rfl⟩
      go_wp2_with fail
      refine (HO.out _).mono ?_
      rintro e w1 ⟨rfl, hb1⟩
      have hB1 := btr hB hb1
      have hK1 := hK.below hb1 hK.lt
      have hR1 := Blk.new w1 24 zero4
      have hw1 : w.heap.size < w1.heap.size := hK1.lt
      go_wp2_with (first | (refine wp_set rfl _ _ rfl w1.heap.size (fun _ => false) zero4 rfl rfl hR1 rfl ?_; intro w3 hS3 hkp3 hko3; have hB3 := hkp3 _ _ (by omega) (bal hB1 _); have hK3 := hko3 _ _ _ (by omega) (hK1.alloc _)) | (refine wp_tok rfl _ _ rfl w.heap.size Tk.none 0 (tokCells Tk.none 0) rfl (by rw [none_cells]; rfl) hK3 rfl ?_; intro w5 hK5 hkp; have hB5 := hkp _ _ (Nat.le_refl _) hB3; obtain ⟨c0, c1, c2, c3, c4, c5, c6, c7⟩ := tok8 hK5) | fail)
      refine bodyPost_ret (v := .tuple #[tokV Tk.none 0, .int .i64 0, .int .i64 ((er : Nat) : Int)]) (by simp [results, Try.results70, go_sem, c0, c1, c2, c3, c4, c5, c6, c7]) rfl ⟨by rw [HTE.out], hB5⟩

set_option maxRecDepth 100000 in
set_option maxHeartbeats 4000000 in
theorem listed_plain (s : ByteArray) (p q0 : Nat) (hq0 : q0 = p + 1) (hp : p < s.size) (hs : s.size ≤ 140737488355328) (hc : s[p]'hp = 91) (h2 : ∀ h : p + 1 < s.size, s[p + 1]'h ≠ 94) (w : World) :
    Calls Try.prog 70 #[.string s, .int .i64 (q0 : Int)] w fun e w' => e = .returned (partV ((bl s).drop p) p) ∧ Below w.heap.size w w' := by
  have i00 : (0 : Int) ≤ (q0 : Int) := by omega
  have HT := Lib.hid (show tokL ((bl s).drop p) = _ from (tok_plain s p hp hc h2))
  have HWE := Lib.hid (fun e (h : tokL ((bl s).drop p) = .error e) => partV_err (p := p) h)
  have HWO := Lib.hid (fun t n (h : tokL ((bl s).drop p) = .ok (t, n)) => partV_ok (p := p) h)
  have HST0 := Lib.hid (fun W => stands_any s q0 94 W)
  rw [show standB s q0 94 = false by
    subst hq0; unfold standB
    by_cases h : p + 1 < s.size
    · rw [drop_byte s (p + 1) h, List.head?_cons, Bool.eq_false_iff]
      intro e; exact h2 h (Option.some.inj (beq_iff_eq.1 e))
    · rw [drop_end s (p + 1) (by omega)]; rfl] at HST0
  have hq1s : q0 ≤ s.size := (by omega)
  have HQ0 := Lib.hid hq0
  clear hc hq0 h2
  go_enter Try.func70, Try.ntmps70
  go_wp2_with fail
  refine (HST0.out _).mono ?_
  rintro e w1 ⟨rfl, rfl⟩
  go_wp2
  go_loopw [1] (fun i wr => ∃ (q : Nat) (rs : List (UInt8 × UInt8)), q0 ≤ q ∧ q ≤ s.size ∧ i = .int .i64 q ∧ Hid (gathS rs (q - q0) (setL ((bl s).drop q)) = setL ((bl s).drop (p + 1))) ∧ Blk wr (w.heap.size + 1) 24 (cells4 (inRows rs)) ∧ Blk wr w.heap.size 65 (tokCells Tk.none 0) ∧ Below w.heap.size w wr)
    (fun i _ => s.size - (intOf i).toNat)
  case atStart =>
    refine ⟨q0, [], Nat.le_refl _, hq1s, by first | rfl | go_num, Lib.hid (by rw [Nat.sub_self, show p + 1 = q0 by have := HQ0.out; omega]; exact gathS_nil _), ?_, ?_, bal (bal0 w _) _⟩
    · have := Blk.new (w.alloc (.cells (tokCells Tk.none 0) 65)) 24 (cells4 (inRows []))
      rw [World.size_alloc, none_cells] at this
      exact this
    · rw [none_cells]; exact (Blk.new w _ _).alloc _
  case round =>
    obtain ⟨q, rs, hq1, hq2, rfl, hj, hS, hK, hB⟩ := hrel
    have i0 : (0 : Int) ≤ (q : Int) := by omega
    have HO := Lib.hid (fun W => lrow_any s q hq2 hs W)
    by_cases hlt : q < s.size
    · have HDQ := Lib.hid (drop_byte s q hlt)
      have HST := Lib.hid (fun W => stands_yes s q hlt 93 W)
      by_cases hc : s[q]'hlt = 93
      · rw [show (s[q]'hlt == (93 : UInt8)) = true by rw [hc]; rfl] at HST
        have HTX := Lib.hid (show setL ((bl s).drop (p + 1)) = .ok (rs, q - q0 + 1) by
          rw [← hj.out, HDQ.out, setL_cons, if_pos hc]
          simp [gathS])
        clear hc
        have HTE := Lib.hid (HWO.out { Tk.none with kind := 3, set := fun x => inRows rs x } (1 + (q - q0 + 1)) (by rw [HT.out, HTX.out]))
        have HPN := Lib.hid (show p + (1 + (q - q0 + 1)) = q + 1 by have := HQ0.out; omega)
        obtain ⟨s0, s1, s2, s3⟩ := hS.cells
        generalize hSS : inRows rs = SR at *
        clear hSS
        go_wp2_with fail
        refine (HST.out _).mono ?_
        rintro e w1 ⟨rfl, rfl⟩
        go_wp2_with (first | (refine wp_tok rfl _ _ rfl w.heap.size { Tk.none with kind := 3, set := SR } 0 (tokCells Tk.none 0) rfl (by rw [set_cells]; rfl) hK rfl ?_; intro w5 hK5 hkp; have hB5 := hkp _ _ (Nat.le_refl _) hB; obtain ⟨c0, c1, c2, c3, c4, c5, c6, c7⟩ := tok8 hK5) | fail)
        refine bodyPost_ret (v := .tuple #[tokV { Tk.none with kind := 3, set := SR } 0, .int .i64 ((q + 1 : Nat) : Int), .int .i64 0]) (by simp [results, Try.results70, go_sem, c0, c1, c2, c3, c4, c5, c6, c7]) rfl ⟨by rw [HTE.out, HPN.out], hB5⟩
      · rw [show (s[q]'hlt == (93 : UInt8)) = false by simpa using hc] at HST
        rw [HDQ.out] at HO
        cases ho : rowR (s[q]'hlt :: (bl s).drop (q + 1)) with
        | error er =>
          rw [rowV_err ho] at HO
          have hne : (((er : Nat) : Int) != 0) = true := by simpa using rowR_err ho
          have HTE := Lib.hid (HWE.out er (by
            have h2 : setL ((bl s).drop (p + 1)) = .error er := by
              rw [← hj.out, HDQ.out, setL_rbad hc ho]
              rfl
            rw [HT.out, h2]))
          clear hc ho
          go_wp2_with fail
          refine (HST.out _).mono ?_
          rintro e w1 ⟨rfl, rfl⟩
          go_wp2_with fail
          refine (HO.out _).mono ?_
          rintro e w1 ⟨rfl, hb1⟩
          have hB1 := btr hB hb1
          have hK1 := hK.below hb1 hK.lt
          have hR1 := Blk.new w1 24 zero4
          have hw1 : w.heap.size < w1.heap.size := hK1.lt
          go_wp2_with (first | (refine wp_set rfl _ _ rfl w1.heap.size (fun _ => false) zero4 rfl rfl hR1 rfl ?_; intro w3 hS3 hkp3 hko3; have hB3 := hkp3 _ _ (by omega) (bal hB1 _); have hK3 := hko3 _ _ _ (by omega) (hK1.alloc _)) | (refine wp_tok rfl _ _ rfl w.heap.size Tk.none 0 (tokCells Tk.none 0) rfl (by rw [none_cells]; rfl) hK3 rfl ?_; intro w5 hK5 hkp; have hB5 := hkp _ _ (Nat.le_refl _) hB3; obtain ⟨c0, c1, c2, c3, c4, c5, c6, c7⟩ := tok8 hK5) | fail)
          refine bodyPost_ret (v := .tuple #[tokV Tk.none 0, .int .i64 0, .int .i64 ((er : Nat) : Int)]) (by simp [results, Try.results70, go_sem, c0, c1, c2, c3, c4, c5, c6, c7]) rfl ⟨by rw [HTE.out], hB5⟩
        | ok x =>
          obtain ⟨⟨ra, rb⟩, n⟩ := x
          rw [rowV_ok ho] at HO
          have hpos := rowR_pos ho
          have hnl : q + n ≤ s.size := by have := hpos.2; rw [← HDQ.out, List.length_drop, bl_length] at this; omega
          have HJ := Lib.hid (show gathS (rs ++ [(ra, rb)]) (q + n - q0) (setL ((bl s).drop (q + n))) = setL ((bl s).drop (p + 1)) by
            rw [← hj.out, HDQ.out, setL_rstep hc ho, ← HDQ.out, List.drop_drop]
            congr 1
            omega)
          have hn0 := hpos.1
          have HAN := Lib.hid (fun W => any_to (inRows rs) (rowS ra rb) W)
          rw [inRows_row] at HAN
          clear hc ho hpos hj
          generalize rowS ra rb = RS at *
          generalize hSN : inRows (rs ++ [(ra, rb)]) = SN at HAN
          generalize inRows rs = SR at *
          go_wp2_with fail
          refine (HST.out _).mono ?_
          rintro e w1 ⟨rfl, rfl⟩
          go_wp2_with fail
          refine (HO.out _).mono ?_
          rintro e w1 ⟨rfl, hb1⟩
          have hB1 := btr hB hb1
          have hK1 := hK.below hb1 hK.lt
          have hS1 := hS.below hb1 hS.lt
          have hR1 := Blk.new w1 24 zero4
          have hw1 : w.heap.size + 1 < w1.heap.size := hS1.lt
          clear hB hK hS
          go_wp2_with (first | (refine wp_set rfl _ _ rfl w1.heap.size RS zero4 rfl rfl hR1 rfl ?_; intro w3 hR3 hkp3 hko3; have hB3 := hkp3 _ _ (by omega) (bal hB1 _); have hK3 := hko3 _ _ _ (by omega) (hK1.alloc _); have hS3 := hko3 _ _ _ (by omega) (hS1.alloc _); obtain ⟨r0, r1, r2, r3⟩ := hR3.cells; obtain ⟨s0, s1, s2, s3⟩ := hS3.cells) | fail)
          refine (HAN.out _).mono ?_
          rintro e w4 ⟨rfl, hb4⟩
          have hB4 := btr hB3 hb4
          have hK4 := hK3.below hb4 hK3.lt
          have hS4 := hS3.below hb4 hS3.lt
          clear r0 r1 r2 r3 s0 s1 s2 s3 hB1 hK1 hS1 hR1 hB3 hK3 hS3 hR3
          go_wp2_with (first | (refine wp_set rfl _ _ rfl (w.heap.size + 1) SN (cells4 SR) rfl rfl hS4 rfl ?_; intro w5 hS5 hkp5 hko5; have hB5 := hkp5 _ _ (by omega) hB4; have hK5 := hko5 _ _ _ (by omega) hK4) | fail)
          go_roundw
          case rel => exact ⟨q + n, rs ++ [(ra, rb)], by omega, hnl, rfl, HJ, by rw [hSN]; exact hS5, hK5, hB5⟩
          case measure => simp [intOf]; omega
    · have HST := Lib.hid (fun W => stands_no s q (by omega) 93 W)
      obtain ⟨er, her⟩ : ∃ er, er = 6 := ⟨_, rfl⟩
      rw [drop_end s q (by omega), rowV_err (e := 6) rfl, ← her] at HO
      have hne : (((er : Nat) : Int) != 0) = true := by subst her; rfl
      have HTE := Lib.hid (HWE.out er (by
        have h2 : setL ((bl s).drop (p + 1)) = .error er := by
          rw [← hj.out, drop_end s q (by omega), setL_nil, her]
          rfl
        rw [HT.out, h2]))
      have HZ := Lib.hid hlt
      clear her hlt
      go_wp2_with fail
      refine (HST.out _).mono ?_
      rintro e w1 ⟨rfl, rfl⟩
      go_wp2_with fail
      refine (HO.out _).mono ?_
      rintro e w1 ⟨rfl, hb1⟩
      have hB1 := btr hB hb1
      have hK1 := hK.below hb1 hK.lt
      have hR1 := Blk.new w1 24 zero4
      have hw1 : w.heap.size < w1.heap.size := hK1.lt
      go_wp2_with (first | (refine wp_set rfl _ _ rfl w1.heap.size (fun _ => false) zero4 rfl rfl hR1 rfl ?_; intro w3 hS3 hkp3 hko3; have hB3 := hkp3 _ _ (by omega) (bal hB1 _); have hK3 := hko3 _ _ _ (by omega) (hK1.alloc _)) | (refine wp_tok rfl _ _ rfl w.heap.size Tk.none 0 (tokCells Tk.none 0) rfl (by rw [none_cells]; rfl) hK3 rfl ?_; intro w5 hK5 hkp; have hB5 := hkp _ _ (Nat.le_refl _) hB3; obtain ⟨c0, c1, c2, c3, c4, c5, c6, c7⟩ := tok8 hK5) | fail)
      refine bodyPost_ret (v := .tuple #[tokV Tk.none 0, .int .i64 0, .int .i64 ((er : Nat) : Int)]) (by simp [results, Try.results70, go_sem, c0, c1, c2, c3, c4, c5, c6, c7]) rfl ⟨by rw [HTE.out], hB5⟩

theorem listed_any (s : ByteArray) (p q0 : Nat) (hq0 : q0 = p + 1) (hp : p < s.size) (hs : s.size ≤ 140737488355328) (hc : s[p]'hp = 91) (w : World) :
    Calls Try.prog 70 #[.string s, .int .i64 (q0 : Int)] w fun e w' => e = .returned (partV ((bl s).drop p) p) ∧ Below w.heap.size w w' := by
  by_cases h : ∃ h : p + 1 < s.size, s[p + 1]'h = 94
  · exact listed_not s p q0 hq0 hp hs hc h w
  · exact listed_plain s p q0 hq0 hp hs hc (fun h' e => h ⟨h', e⟩) w
end Go.Proofs.Ytbiempopfmpohaa
