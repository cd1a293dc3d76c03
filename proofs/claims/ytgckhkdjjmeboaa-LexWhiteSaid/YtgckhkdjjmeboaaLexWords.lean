/-
  The lexer reads a name, a number, a sign. Conditions: the place lies within the text, and such a byte stands there.
-/
import Derived.Test.YtgckhkdjjmeboaaLexWs
import Derived.Test.YtgckhkdjjmeboaaLexRs
import Derived.Test.YtgckhkdjjmeboaaTextClone
import Derived.Laws.RangeString
import Derived.Laws.RangeAny
import Derived.Laws.Runes
namespace Go.Proofs.Ytgckhkdjjmeboaa
open Go.RowKit

/-- What token, name, number and the like answer: a token without its place. -/
def partV (l : List UInt8) (p : Nat) : Value := match tokL l with
  | .error e => .tuple #[tokV Tk.none 0, .int .i64 0, .int .i64 ((e : Nat) : Int)]
  | .ok (t, n) => .tuple #[tokV t 0, .int .i64 ((p + n : Nat) : Int), .int .i64 0]
theorem partV_err {l : List UInt8} {p e : Nat} (h : tokL l = .error e) : partV l p = .tuple #[tokV Tk.none 0, .int .i64 0, .int .i64 ((e : Nat) : Int)] := by unfold partV; rw [h]
theorem partV_ok {l : List UInt8} {p n : Nat} {t : Tk} (h : tokL l = .ok (t, n)) : partV l p = .tuple #[tokV t 0, .int .i64 ((p + n : Nat) : Int), .int .i64 0] := by unfold partV; rw [h]

theorem tok_name (s : ByteArray) (p : Nat) (hp : p < s.size) (hc : letterB (s[p]'hp) = true) (n : Nat) (hn : (((bl s).drop p).takeWhile fun x => digitB x || letterB x).length = n) :
    tokL ((bl s).drop p) = if 31 < n then .error 2 else .ok ({ Tk.none with kind := 1, text := ((bl s).drop p).take n }, n) := by
  have ht := take_is _ s p n hn
  have hn2 : (((bl s).drop p).take n).length = n := by rw [← ht]; exact hn
  rw [drop_byte s p hp] at ht hn2 ⊢
  obtain ⟨n1, n2⟩ := letter_not hc
  unfold tokL
  simp only [if_neg n1, if_neg n2, hc, if_true, ht, hn2]
theorem tok_number (s : ByteArray) (p : Nat) (hp : p < s.size) (hc : digitB (s[p]'hp) = true) (n : Nat) (hn : (((bl s).drop p).takeWhile digitB).length = n) :
    tokL ((bl s).drop p) = if 4 < n then .error 2 else .ok ({ Tk.none with kind := 5, num := numL (((bl s).drop p).take n) }, n) := by
  have ht := take_is _ s p n hn
  have hn2 : (((bl s).drop p).take n).length = n := by rw [← ht]; exact hn
  rw [drop_byte s p hp] at ht hn2 ⊢
  obtain ⟨n1, n2, n3⟩ := digit_not hc
  unfold tokL
  simp only [if_neg n1, if_neg n2, n3, Bool.false_eq_true, if_false, hc, if_true, ht, hn2]

set_option maxRecDepth 100000 in
set_option maxHeartbeats 1000000 in
theorem name_any (s : ByteArray) (p : Nat) (hp : p < s.size) (hs : s.size ≤ 140737488355328) (hc : letterB (s[p]'hp) = true) (w : World) :
    Calls Try.prog 16 #[.string s, .int .i64 (p : Int)] w fun e w' => e = .returned (partV ((bl s).drop p) p) ∧ Below w.heap.size w w' := by
  have p0 : (0 : Int) ≤ (p : Int) := by omega
  obtain ⟨n, hn⟩ : ∃ n, (((bl s).drop p).takeWhile fun x => digitB x || letterB x).length = n := ⟨_, rfl⟩
  have HN := Lib.hid hn
  have HT := Lib.hid (tok_name s p hp hc n hn)
  clear hn hc
  go_enter Try.func16, Try.ntmps16
  go_wp2
  go_loopw [7] (fun i wr => ∃ q : Nat, p ≤ q ∧ q ≤ s.size ∧ i = .int .i64 q ∧ Hid ((q - p) + (((bl s).drop q).takeWhile fun x => digitB x || letterB x).length = n) ∧ Blk wr w.heap.size 30 (tokCells Tk.none 0) ∧ Below w.heap.size w wr)
    (fun i _ => s.size - (intOf i).toNat)
  case atStart => exact ⟨p, Nat.le_refl _, by omega, rfl, Lib.hid (by rw [HN.out]; omega), Blk.new _ _ _, bal0 _ _⟩
  case round =>
    obtain ⟨q, hq1, hq2, rfl, HQ, hK, hB⟩ := hrel
    have q0 : (0 : Int) ≤ (q : Int) := by omega
    by_cases hgo : ∃ h : q < s.size, (digitB (s[q]'h) || letterB (s[q]'h)) = true
    · obtain ⟨hlt, hdl⟩ := hgo
      have hlti : (q : Int) < (s.size : Int) := by omega
      have nq := UInt8.toNat_lt (s[q]'hlt)
      have HDG := Lib.hid (fun W => isdigit_any (s[q]'hlt) W)
      have HLQ := Lib.hid (fun W => isletter_any (s[q]'hlt) W)
      have HF := Lib.hid (show (q + 1 - p) + (((bl s).drop (q + 1)).takeWhile fun x => digitB x || letterB x).length = n by
        have h1 := take_step (fun x => digitB x || letterB x) s q hlt
        have h2 := HQ.out
        rw [if_pos hdl] at h1
        omega)
      cases hl : letterB (s[q]'hlt) with
      | true =>
        rw [hl] at HLQ
        clear hl hdl
        go_wp2_with fail
        refine (HLQ.out _).mono ?_
        rintro e w1 ⟨rfl, rfl⟩
        go_wp2
        go_roundw
        case rel => exact ⟨q + 1, by omega, by omega, by go_num, HF, hK, hB⟩
        case measure => simp [intOf]; omega
      | false =>
        have hd : digitB (s[q]'hlt) = true := by simpa [hl] using hdl
        rw [hl] at HLQ
        rw [hd] at HDG
        clear hl hdl hd
        go_wp2_with fail
        refine (HLQ.out _).mono ?_
        rintro e w1 ⟨rfl, rfl⟩
        go_wp2_with fail
        refine (HDG.out _).mono ?_
        rintro e w1 ⟨rfl, rfl⟩
        go_wp2
        go_roundw
        case rel => exact ⟨q + 1, by omega, by omega, by go_num, HF, hK, hB⟩
        case measure => simp [intOf]; omega
    · have HF := Lib.hid (show q = p + n by
        have h2 := HQ.out
        by_cases hlt : q < s.size
        · have h1 := take_step (fun x => digitB x || letterB x) s q hlt
          rw [if_neg (fun h => hgo ⟨hlt, h⟩)] at h1
          omega
        · rw [drop_end s q (by omega)] at h2
          simp at h2
          omega)
      have j1 : (p : Int) ≤ (q : Int) := by omega
      have j2 : (q : Int) ≤ (s.size : Int) := by omega
      have HX := Lib.hid (show s.extract p q = mkS (((bl s).drop p).take n) by rw [HF.out]; exact extract_is s p n)
      have HCL := Lib.hid (fun W => clone_any (s.extract p q) W (by rw [HX.out, size_mkS, List.length_take, List.length_drop, bl_length]; omega))
      by_cases hlt : q < s.size
      · have hlti : (q : Int) < (s.size : Int) := by omega
        have nq := UInt8.toNat_lt (s[q]'hlt)
        have HDG := Lib.hid (fun W => isdigit_any (s[q]'hlt) W)
        have HLQ := Lib.hid (fun W => isletter_any (s[q]'hlt) W)
        have hd : digitB (s[q]'hlt) = false := by
          cases h : digitB (s[q]'hlt) with
          | false => rfl
          | true => exact absurd ⟨hlt, by rw [h]; rfl⟩ hgo
        have hl : letterB (s[q]'hlt) = false := by
          cases h : letterB (s[q]'hlt) with
          | false => rfl
          | true => exact absurd ⟨hlt, by rw [h, hd]; rfl⟩ hgo
        rw [hd] at HDG
        rw [hl] at HLQ
        clear hd hl hgo
        by_cases h31 : 31 < n
        · have i31 : (31 : Int) < (q : Int) - (p : Int) := by have := HF.out; omega
          have HV := Lib.hid (partV_err (p := p) (HT.out.trans (if_pos h31)))
          go_wp2_with fail
          refine (HLQ.out _).mono ?_
          rintro e w1 ⟨rfl, rfl⟩
          go_wp2_with fail
          refine (HDG.out _).mono ?_
          rintro e w1 ⟨rfl, rfl⟩
          go_wp2_with (first | (refine wp_tok rfl _ _ rfl w.heap.size Tk.none 0 (tokCells Tk.none 0) rfl (by rw [none_cells]; rfl) hK rfl ?_; intro w5 hK5 hkp; have hB5 := hkp _ _ (Nat.le_refl _) hB; obtain ⟨c0, c1, c2, c3, c4, c5, c6, c7⟩ := tok8 hK5) | fail)
          refine bodyPost_ret (v := .tuple #[tokV Tk.none 0, .int .i64 0, .int .i64 2]) (by simp [results, Try.results16, go_sem, c0, c1, c2, c3, c4, c5, c6, c7]) rfl ⟨by rw [HV.out]; rfl, hB5⟩
        · have i31 : ¬ (31 : Int) < (q : Int) - (p : Int) := by have := HF.out; omega
          have HV := Lib.hid (partV_ok (p := p) (HT.out.trans (if_neg h31)))
          have HPN := Lib.hid (show ((p + n : Nat) : Int) = (q : Int) by have := HF.out; omega)
          clear h31
          go_wp2_with fail
          refine (HLQ.out _).mono ?_
          rintro e w1 ⟨rfl, rfl⟩
          go_wp2_with fail
          refine (HDG.out _).mono ?_
          rintro e w1 ⟨rfl, rfl⟩
          go_wp2_with fail
          refine (HCL.out _).mono ?_
          rintro e w2 ⟨rfl, hb2⟩
          have hB2 := btr hB hb2
          have hK2 := hK.below hb2 hK.lt
          go_wp2_with (first | (refine wp_tok rfl _ _ rfl w.heap.size { Tk.none with kind := 1, text := ((bl s).drop p).take n } 0 (tokCells Tk.none 0) rfl (by rw [name_cells, ← HX.out]; rfl) hK2 rfl ?_; intro w5 hK5 hkp; have hB5 := hkp _ _ (Nat.le_refl _) hB2; obtain ⟨c0, c1, c2, c3, c4, c5, c6, c7⟩ := tok8 hK5) | fail)
          refine bodyPost_ret (v := .tuple #[tokV { Tk.none with kind := 1, text := ((bl s).drop p).take n } 0, .int .i64 (q : Int), .int .i64 0]) (by simp [results, Try.results16, go_sem, c0, c1, c2, c3, c4, c5, c6, c7]) rfl ⟨by rw [HV.out, HPN.out], hB5⟩
      · have hlti : ¬ (q : Int) < (s.size : Int) := by omega
        have HZ := Lib.hid hlt
        clear hgo hlt
        by_cases h31 : 31 < n
        · have i31 : (31 : Int) < (q : Int) - (p : Int) := by have := HF.out; omega
          have HV := Lib.hid (partV_err (p := p) (HT.out.trans (if_pos h31)))
          go_wp2_with (first | (refine wp_tok rfl _ _ rfl w.heap.size Tk.none 0 (tokCells Tk.none 0) rfl (by rw [none_cells]; rfl) hK rfl ?_; intro w5 hK5 hkp; have hB5 := hkp _ _ (Nat.le_refl _) hB; obtain ⟨c0, c1, c2, c3, c4, c5, c6, c7⟩ := tok8 hK5) | fail)
          refine bodyPost_ret (v := .tuple #[tokV Tk.none 0, .int .i64 0, .int .i64 2]) (by simp [results, Try.results16, go_sem, c0, c1, c2, c3, c4, c5, c6, c7]) rfl ⟨by rw [HV.out]; rfl, hB5⟩
        · have i31 : ¬ (31 : Int) < (q : Int) - (p : Int) := by have := HF.out; omega
          have HV := Lib.hid (partV_ok (p := p) (HT.out.trans (if_neg h31)))
          have HPN := Lib.hid (show ((p + n : Nat) : Int) = (q : Int) by have := HF.out; omega)
          clear h31
          go_wp2_with fail
          refine (HCL.out _).mono ?_
          rintro e w2 ⟨rfl, hb2⟩
          have hB2 := btr hB hb2
          have hK2 := hK.below hb2 hK.lt
          go_wp2_with (first | (refine wp_tok rfl _ _ rfl w.heap.size { Tk.none with kind := 1, text := ((bl s).drop p).take n } 0 (tokCells Tk.none 0) rfl (by rw [name_cells, ← HX.out]; rfl) hK2 rfl ?_; intro w5 hK5 hkp; have hB5 := hkp _ _ (Nat.le_refl _) hB2; obtain ⟨c0, c1, c2, c3, c4, c5, c6, c7⟩ := tok8 hK5) | fail)
          refine bodyPost_ret (v := .tuple #[tokV { Tk.none with kind := 1, text := ((bl s).drop p).take n } 0, .int .i64 (q : Int), .int .i64 0]) (by simp [results, Try.results16, go_sem, c0, c1, c2, c3, c4, c5, c6, c7]) rfl ⟨by rw [HV.out, HPN.out], hB5⟩

set_option maxRecDepth 100000 in
set_option maxHeartbeats 1000000 in
theorem number_any (s : ByteArray) (p : Nat) (hp : p < s.size) (hs : s.size ≤ 140737488355328) (hc : digitB (s[p]'hp) = true) (w : World) :
    Calls Try.prog 18 #[.string s, .int .i64 (p : Int)] w fun e w' => e = .returned (partV ((bl s).drop p) p) ∧ Below w.heap.size w w' := by
  have p0 : (0 : Int) ≤ (p : Int) := by omega
  obtain ⟨n, hn⟩ : ∃ n, (((bl s).drop p).takeWhile digitB).length = n := ⟨_, rfl⟩
  have HN := Lib.hid hn
  have HT := Lib.hid (tok_number s p hp hc n hn)
  clear hn hc
  go_enter Try.func18, Try.ntmps18
  go_wp2
  go_loopw [7, 8] (fun v i wr => ∃ j m : Nat, j ≤ 4 ∧ p + j ≤ s.size ∧ i = .int .i64 ((p + j : Nat) : Int) ∧ v = .int .i64 m ∧ Hid (numL (((bl s).drop p).take j) = m) ∧ Hid (j + (((bl s).drop (p + j)).takeWhile digitB).length = n) ∧ Blk wr w.heap.size 30 (tokCells Tk.none 0) ∧ Below w.heap.size w wr)
    (fun _ i _ => s.size - (intOf i).toNat)
  case atStart => exact ⟨0, 0, by omega, by omega, rfl, rfl, Lib.hid rfl, Lib.hid (by rw [Nat.add_zero, HN.out, Nat.zero_add]), Blk.new _ _ _, bal0 _ _⟩
  case round =>
    obtain ⟨j, m, hj, hjs, rfl, rfl, HM, HQ, hK, hB⟩ := hrel
    have q0 : (0 : Int) ≤ ((p + j : Nat) : Int) := by omega
    have hmb : m ≤ 30000000000000 := by
      have h1 := numL_le (((bl s).drop p).take j) 4 0 (by rw [List.length_take]; omega)
      have hm := HM.out
      unfold numL at hm
      rw [hm] at h1
      omega
    by_cases hgo : ∃ h : p + j < s.size, digitB (s[p + j]'h) = true
    · obtain ⟨hlt, hd⟩ := hgo
      have hlti : ((p + j : Nat) : Int) < (s.size : Int) := by omega
      have HDG := Lib.hid (fun W => isdigit_any (s[p + j]'hlt) W)
      have hdj := digit_range hd
      have HNS := Lib.hid (numL_step s p j hlt)
      have nj := UInt8.toNat_lt (s[p + j]'hlt)
      have HF := Lib.hid (show j + 1 + (((bl s).drop (p + (j + 1))).takeWhile digitB).length = n by
        have h1 := take_step digitB s (p + j) hlt
        have h2 := HQ.out
        rw [if_pos hd] at h1
        rw [show p + (j + 1) = p + j + 1 by omega]
        omega)
      rw [hd] at HDG
      clear hd
      obtain ⟨z, hz⟩ : ∃ z, (s[p + j]'hlt).toNat = z := ⟨_, rfl⟩
      rw [hz] at hdj HNS nj HDG
      have HZ := Lib.hid hz
      have hw8 : IntKind.u8.wrap ((z : Int) - 48) = (z : Int) - 48 := by rw [IntKind.wrap_u8]; omega
      by_cases h4 : j = 4
      · have i4 : ((((p + j : Nat) : Int) - (p : Int)) == 4) = true := by simp; omega
        have HV := Lib.hid (partV_err (p := p) (HT.out.trans (if_pos (by have := HF.out; omega))))
        clear h4
        go_wp2_with fail
        refine (HDG.out _).mono ?_
        rintro e w1 ⟨rfl, rfl⟩
        go_wp2_with (first | (refine wp_tok rfl _ _ rfl w.heap.size Tk.none 0 (tokCells Tk.none 0) rfl (by rw [none_cells]; rfl) hK rfl ?_; intro w5 hK5 hkp; have hB5 := hkp _ _ (Nat.le_refl _) hB; obtain ⟨c0, c1, c2, c3, c4, c5, c6, c7⟩ := tok8 hK5) | fail)
        refine bodyPost_ret (v := .tuple #[tokV Tk.none 0, .int .i64 0, .int .i64 2]) (by simp [results, Try.results18, go_sem, c0, c1, c2, c3, c4, c5, c6, c7]) rfl ⟨by rw [HV.out]; rfl, hB5⟩
      · have i4 : ((((p + j : Nat) : Int) - (p : Int)) == 4) = false := by simp; omega
        have hj4 : j < 4 := by omega
        clear h4
        go_wp2_with fail
        refine (HDG.out _).mono ?_
        rintro e w1 ⟨rfl, rfl⟩
        go_wp2
        go_roundw
        case rel => exact ⟨j + 1, 10 * m + (z - 48), by omega, by omega, by go_num, by go_num, Lib.hid (by rw [HNS.out, HM.out]), HF, hK, hB⟩
        case measure => simp [intOf]; omega
    · have HF := Lib.hid (show j = n by
        have h2 := HQ.out
        by_cases hlt : p + j < s.size
        · have h1 := take_step digitB s (p + j) hlt
          rw [if_neg (fun h => hgo ⟨hlt, h⟩)] at h1
          omega
        · rw [drop_end s (p + j) (by omega)] at h2
          simp at h2
          omega)
      have HV := Lib.hid (partV_ok (p := p) (HT.out.trans (if_neg (by have := HF.out; omega))))
      rw [← HF.out, HM.out] at HV
      by_cases hlt : p + j < s.size
      · have hlti : ((p + j : Nat) : Int) < (s.size : Int) := by omega
        have nq := UInt8.toNat_lt (s[p + j]'hlt)
        have HDG := Lib.hid (fun W => isdigit_any (s[p + j]'hlt) W)
        have hd : digitB (s[p + j]'hlt) = false := by
          cases h : digitB (s[p + j]'hlt) with
          | false => rfl
          | true => exact absurd ⟨hlt, h⟩ hgo
        rw [hd] at HDG
        clear hd hgo
        go_wp2_with fail
        refine (HDG.out _).mono ?_
        rintro e w1 ⟨rfl, rfl⟩
        go_wp2_with (first | (refine wp_tok rfl _ _ rfl w.heap.size { Tk.none with kind := 5, num := m } 0 (tokCells Tk.none 0) rfl (by rw [number_cells]; rfl) hK rfl ?_; intro w5 hK5 hkp; have hB5 := hkp _ _ (Nat.le_refl _) hB; obtain ⟨c0, c1, c2, c3, c4, c5, c6, c7⟩ := tok8 hK5) | fail)
        refine bodyPost_ret (v := .tuple #[tokV { Tk.none with kind := 5, num := m } 0, .int .i64 ((p + j : Nat) : Int), .int .i64 0]) (by simp [results, Try.results18, go_sem, c0, c1, c2, c3, c4, c5, c6, c7]) rfl ⟨by rw [HV.out], hB5⟩
      · have hlti : ¬ ((p + j : Nat) : Int) < (s.size : Int) := by omega
        have HZ := Lib.hid hlt
        clear hgo hlt
        go_wp2_with (first | (refine wp_tok rfl _ _ rfl w.heap.size { Tk.none with kind := 5, num := m } 0 (tokCells Tk.none 0) rfl (by rw [number_cells]; rfl) hK rfl ?_; intro w5 hK5 hkp; have hB5 := hkp _ _ (Nat.le_refl _) hB; obtain ⟨c0, c1, c2, c3, c4, c5, c6, c7⟩ := tok8 hK5) | fail)
        refine bodyPost_ret (v := .tuple #[tokV { Tk.none with kind := 5, num := m } 0, .int .i64 ((p + j : Nat) : Int), .int .i64 0]) (by simp [results, Try.results18, go_sem, c0, c1, c2, c3, c4, c5, c6, c7]) rfl ⟨by rw [HV.out], hB5⟩
end Go.Proofs.Ytgckhkdjjmeboaa
