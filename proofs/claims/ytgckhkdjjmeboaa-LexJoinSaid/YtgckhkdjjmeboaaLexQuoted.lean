/-
  The lexer reads a text in quotes. Conditions: a quote stands at the place ahead.
-/
import Derived.Test.YtgckhkdjjmeboaaLexSign
namespace Go.Proofs.Ytgckhkdjjmeboaa
open Go.RowKit

/-- A slice of bytes of the call's own, as a text. -/
theorem conv_own {wr : World} {base len cap : Nat} {ao : Option Addr} {bs : List UInt8} (hown : wr.ownsRow base 5 1 (.slice ao len cap) bs.length (u8Cells bs)) :
    (convert 42 9 (.slice ao len cap)).run Try.prog wr = .ok (.string (mkS bs)) wr := by
  rcases hown.2 with ⟨e, hz⟩ | ⟨g, c, cur, e, _⟩
  · obtain ⟨rfl, rfl, rfl⟩ := Value.slice.inj e
    obtain rfl : bs = [] := List.eq_nil_of_length_eq_zero hz
    exact run_convert_bytes_nil (P := Try.prog) wr 42 5 Try.underlying42 Try.underlying5 _ _ _ Try.underlying9
  · obtain ⟨rfl, rfl, rfl⟩ := Value.slice.inj e
    rw [← str_bI]
    refine run_convert_bytes_arg (P := Try.prog) wr 42 5 Try.underlying42 Try.underlying5 g 0 bs.length _ (bI bs) (by simp [bI]) (fun i hi => ?_) _ Try.underlying9
    rw [Nat.zero_add, hown.cellAt i (by omega)]
    simp [u8Cells, bI, List.getD, hi]

set_option maxRecDepth 100000 in
set_option maxHeartbeats 2000000 in
theorem quoted_any (s : ByteArray) (p q0 : Nat) (hq0 : q0 = p + 1) (hp : p < s.size) (hs : s.size ≤ 140737488355328) (hc : s[p]'hp = 34) (w : World) :
    Calls Try.prog 19 #[.string s, .int .i64 (q0 : Int)] w fun e w' => e = .returned (partV ((bl s).drop p) p) ∧ Below w.heap.size w w' := by
  have HT := Lib.hid (tok_quote s p hp hc)
  have HWE := Lib.hid (fun e (h : tokL ((bl s).drop p) = .error e) => partV_err (p := p) h)
  have HWO := Lib.hid (fun t n (h : tokL ((bl s).drop p) = .ok (t, n)) => partV_ok (p := p) h)
  have HQ0 := Lib.hid hq0
  have hq0s : q0 ≤ s.size := by omega
  obtain ⟨ii, hi, hz0, hz1, hz2⟩ := info_parts info_u8t
  clear hc hq0
  go_enter Try.func19, Try.ntmps19
  go_wp2
  go_loopw [1, 7] (fun i v wr => ∃ (q : Nat) (bs : List UInt8), q0 ≤ q ∧ q ≤ s.size ∧ bs.length ≤ q ∧ i = .int .i64 q ∧ Hid (joinT bs (q - q0) (textL ((bl s).drop q)) = textL ((bl s).drop (p + 1))) ∧ wr.ownsRow (w.heap.size + 1) 5 1 v bs.length (u8Cells bs) ∧ Blk wr w.heap.size 30 (tokCells Tk.none 0) ∧ Below w.heap.size w wr)
    (fun i _ _ => s.size - (intOf i).toNat)
  case atStart =>
    refine ⟨q0, [], Nat.le_refl _, hq0s, by simp, rfl, Lib.hid (by rw [Nat.sub_self, HQ0.out]; exact joinT_nil _), World.ownsRow_nil _ _ _ _, ?_, bal0 w _⟩
    rw [none_cells]; exact Blk.new w _ _
  case round =>
    obtain ⟨q, bs, hq1, hq2, hbl, rfl, hj, hown, hK, hB⟩ := hrel
    have i0 : (0 : Int) ≤ (q : Int) := by omega
    have hB2 : w.heap.size + 1 ≤ wr.heap.size := by have := hK.lt; omega
    obtain ⟨vo, vc, rfl, hvc⟩ := owns_form hown
    have HO := Lib.hid (fun W => read_any s q hq2 hs W)
    by_cases hlt : q < s.size
    · have HDQ := Lib.hid (drop_byte s q hlt)
      have HST := Lib.hid (fun W => stands_yes s q hlt 34 W)
      by_cases hc : s[q]'hlt = 34
      · rw [show (s[q]'hlt == (34 : UInt8)) = true by rw [hc]; rfl] at HST
        have HTX := Lib.hid (show textL ((bl s).drop (p + 1)) = .ok (bs, q - q0 + 1) by
          rw [← hj.out, HDQ.out, textL_cons, if_pos hc]
          simp [joinT])
        clear hc
        by_cases h256 : 256 < bs.length
        · have i256 : (256 : Int) < (bs.length : Int) := by omega
          have HTE := Lib.hid (HWE.out 2 (by rw [HT.out, HTX.out]; simp only [if_pos h256]))
          clear h256
          go_wp2_with fail
          refine (HST.out _).mono ?_
          rintro e w1 ⟨rfl, rfl⟩
          go_wp2_with (first | (refine wp_tok rfl _ _ rfl w.heap.size Tk.none 0 (tokCells Tk.none 0) rfl (by rw [none_cells]; rfl) hK rfl ?_; intro w5 hK5 hkp; have hB5 := hkp _ _ (Nat.le_refl _) hB; obtain ⟨c0, c1, c2, c3, c4, c5, c6, c7⟩ := tok8 hK5) | fail)
          refine bodyPost_ret (v := .tuple #[tokV Tk.none 0, .int .i64 0, .int .i64 2]) (by simp [results, Try.results19, go_sem, c0, c1, c2, c3, c4, c5, c6, c7]) rfl ⟨by rw [HTE.out]; rfl, hB5⟩
        · have i256 : ¬ (256 : Int) < (bs.length : Int) := by omega
          have HTE := Lib.hid (HWO.out { Tk.none with kind := 2, text := bs } (1 + (q - q0 + 1)) (by rw [HT.out, HTX.out]; simp only [if_neg h256]))
          have HPN := Lib.hid (show p + (1 + (q - q0 + 1)) = q + 1 by have := HQ0.out; omega)
          have hcv := conv_own hown
          clear h256
          have HBS := Lib.hid (text_cells bs 0)
          go_wp2_with fail
          refine (HST.out _).mono ?_
          rintro e w1 ⟨rfl, rfl⟩
          go_wp2_with (first | (refine wp_tok rfl _ _ rfl w.heap.size { Tk.none with kind := 2, text := bs } 0 (tokCells Tk.none 0) rfl (by rw [HBS.out]; rfl) hK rfl ?_; intro w5 hK5 hkp; have hB5 := hkp _ _ (Nat.le_refl _) hB; obtain ⟨c0, c1, c2, c3, c4, c5, c6, c7⟩ := tok8 hK5) | fail)
          refine bodyPost_ret (v := .tuple #[tokV { Tk.none with kind := 2, text := bs } 0, .int .i64 ((q + 1 : Nat) : Int), .int .i64 0]) (by simp [results, Try.results19, go_sem, c0, c1, c2, c3, c4, c5, c6, c7]) rfl ⟨by rw [HTE.out, HPN.out], hB5⟩
      · rw [show (s[q]'hlt == (34 : UInt8)) = false by simpa using hc] at HST
        rw [HDQ.out] at HO
        cases ho : oneL (s[q]'hlt :: (bl s).drop (q + 1)) with
        | error er =>
          rw [readV_err ho] at HO
          have hne : (((er : Nat) : Int) != 0) = true := by simpa using oneL_err ho
          have HTE := Lib.hid (HWE.out er (by
            have h2 : textL ((bl s).drop (p + 1)) = .error er := by
              rw [← hj.out, HDQ.out, textL_cons, if_neg hc, ho]
              rfl
            rw [HT.out, h2]))
          clear hc ho
          go_wp2_with fail
          refine (HST.out _).mono ?_
          rintro e w1 ⟨rfl, rfl⟩
          go_wp2_with fail
          refine (HO.out _).mono ?_
          rintro e w1 ⟨rfl, rfl⟩
          go_wp2_with (first | (refine wp_tok rfl _ _ rfl w.heap.size Tk.none 0 (tokCells Tk.none 0) rfl (by rw [none_cells]; rfl) hK rfl ?_; intro w5 hK5 hkp; have hB5 := hkp _ _ (Nat.le_refl _) hB; obtain ⟨c0, c1, c2, c3, c4, c5, c6, c7⟩ := tok8 hK5) | fail)
          refine bodyPost_ret (v := .tuple #[tokV Tk.none 0, .int .i64 0, .int .i64 ((er : Nat) : Int)]) (by simp [results, Try.results19, go_sem, c0, c1, c2, c3, c4, c5, c6, c7]) rfl ⟨by rw [HTE.out], hB5⟩
        | ok x =>
          obtain ⟨b, n⟩ := x
          rw [readV_ok ho] at HO
          have hpos := oneL_pos ho
          have hnl : q + n ≤ s.size := by have := hpos.2; rw [← HDQ.out, List.length_drop, bl_length] at this; omega
          have HJ := Lib.hid (show joinT (bs ++ [b]) (q + n - q0) (textL ((bl s).drop (q + n))) = textL ((bl s).drop (p + 1)) by
            rw [← hj.out, HDQ.out, textL_step hc ho, ← HDQ.out, List.drop_drop]
            congr 1
            omega)
          have hn0 := hpos.1
          clear hc ho hpos
          go_wp2_with fail
          refine (HST.out _).mono ?_
          rintro e w1 ⟨rfl, rfl⟩
          go_wp2_with fail
          refine (HO.out _).mono ?_
          rintro e w1 ⟨rfl, hw1⟩
          rw [← hw1] at hB hK hown hB2
          clear hw1
          go_wp2_with (first | (at_builtin; refine wpList_append_own _ rfl _ _ 42 rfl (w.heap.size + 1) 5 ii (.int .u8 0) 1 1 Try.underlying42 hi hz0 hz1 hz2 rfl (by decide) _ _ _ rfl (hown.alloc _) ⟨w1.heap.size, 0, none⟩ 1 1 [.int .u8 ((b.toNat : Nat) : Int)] rfl rfl (cell_one_new _ _ _) (by simp [Value.oneCell']) (by unfold maxLen; omega) (by omega) (by simp; omega) ?_; intro v' w3 hown3 hg3 _; have hlow := grown_keep (hown.alloc _) (by simp; omega) hg3) | fail)
          go_roundw
          case rel =>
            refine ⟨q + n, bs ++ [b], by omega, hnl, by simp; omega, rfl, HJ, by simpa [u8Cells] using hown3, ?_, ?_⟩
            · exact (hK.alloc _).below hlow (by omega)
            · exact (bal hB _).trans (hlow.mono (by omega))
          case measure => simp [intOf]; omega
    · have HST := Lib.hid (fun W => stands_no s q (by omega) 34 W)
      obtain ⟨er, her⟩ : ∃ er, er = 6 := ⟨_, rfl⟩
      rw [drop_end s q (by omega), readV_err (e := 6) rfl, ← her] at HO
      have hne : (((er : Nat) : Int) != 0) = true := by subst her; rfl
      have HTE := Lib.hid (HWE.out er (by
        have h2 : textL ((bl s).drop (p + 1)) = .error er := by
          rw [← hj.out, drop_end s q (by omega), textL_nil, her]
          rfl
        rw [HT.out, h2]))
      have HZ := Lib.hid hlt
      clear her hlt
      go_wp2_with fail
      refine (HST.out _).mono ?_
      rintro e w1 ⟨rfl, rfl⟩
      go_wp2_with fail
      refine (HO.out _).mono ?_
      rintro e w1 ⟨rfl, rfl⟩
      go_wp2_with (first | (refine wp_tok rfl _ _ rfl w.heap.size Tk.none 0 (tokCells Tk.none 0) rfl (by rw [none_cells]; rfl) hK rfl ?_; intro w5 hK5 hkp; have hB5 := hkp _ _ (Nat.le_refl _) hB; obtain ⟨c0, c1, c2, c3, c4, c5, c6, c7⟩ := tok8 hK5) | fail)
      refine bodyPost_ret (v := .tuple #[tokV Tk.none 0, .int .i64 0, .int .i64 ((er : Nat) : Int)]) (by simp [results, Try.results19, go_sem, c0, c1, c2, c3, c4, c5, c6, c7]) rfl ⟨by rw [HTE.out], hB5⟩
end Go.Proofs.Ytgckhkdjjmeboaa
