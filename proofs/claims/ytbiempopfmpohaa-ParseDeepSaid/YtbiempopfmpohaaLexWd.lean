/-
The lexer reads a name, a number, a sign. Conditions: the place lies within the text, and such a byte stands there.
The lexer reads a sign. Conditions: the place lies within the text, and neither a name, a number, a text nor a set begins there.
The lexer reads a text in quotes. Conditions: a quote stands at the place ahead.
The lexer reads a row of a set: a byte, or two with - between. Conditions: the place lies within the text.
-/
import Derived.Test.YtbiempopfmpohaaLexWs
import Derived.Test.YtbiempopfmpohaaLexRt
import Derived.Laws.RangeString
import Derived.Laws.RangeAny
import Derived.Laws.Runes
import Derived.Test.YtbiempopfmpohaaSetWs
namespace Go.Proofs.Ytbiempopfmpohaa
open Go.RowKit

/-- What token, name, number and the like answer: a token without its place. -/
def partV (l : List UInt8) (p : Nat) : Value := match tokL l with
  | .error e => .tuple #[tokV Tk.none 0, .int .i64 0, .int .i64 ((e : Nat) : Int)]
  | .ok (t, n) => .tuple #[tokV t 0, .int .i64 ((p + n : Nat) : Int), .int .i64 0]
theorem partV_err {l : List UInt8} {p e : Nat} (h : tokL l = .error e) : partV l p = .tuple #[tokV Tk.none 0, .int .i64 0, .int .i64 ((e : Nat) : Int)] := by unfold partV; rw [h]
theorem partV_ok {l : List UInt8} {p n : Nat} {t : Tk} (h : tokL l = .ok (t, n)) : partV l p = .tuple #[tokV t 0, .int .i64 ((p + n : Nat) : Int), .int .i64 0] := by unfold partV; rw [h]

theorem tok_name (s : ByteArray) (p : Nat) (hp : p < s.size) (hc : letterB (s[p]'hp) = true) (n : Nat) (hn : (((bl s).drop p).takeWhile fun x => digitB x || letterB x).length = n) :
    tokL ((bl s).drop p) = if 31 < n then .error 2 else .ok ({ Tk.none with kind := 1, text := ((bl s).drop p).take n }, n) := by
  have ht := take_is _ s p n hn
  have hn2 : (((bl s).drop p).take n).length = n := by rw [← ht]; exact hn
  rw [drop_byte s p hp] at ht hn2 ⊢
  obtain ⟨n1, n2⟩ := letter_nots hc
  unfold tokL
  simp only [if_neg n1, if_neg n2, hc, if_true, ht, hn2]
theorem tok_number (s : ByteArray) (p : Nat) (hp : p < s.size) (hc : digitB (s[p]'hp) = true) (n : Nat) (hn : (((bl s).drop p).takeWhile digitB).length = n) :
    tokL ((bl s).drop p) = if 4 < n then .error 2 else .ok ({ Tk.none with kind := 5, num := numL (((bl s).drop p).take n) }, n) := by
  have ht := take_is _ s p n hn
  have hn2 : (((bl s).drop p).take n).length = n := by rw [← ht]; exact hn
  rw [drop_byte s p hp] at ht hn2 ⊢
  obtain ⟨n1, n2, n3⟩ := digit_not hc
  unfold tokL
  simp only [if_neg n1, if_neg n2, n3, Bool.false_eq_true, if_false, hc, if_true, ht, hn2]

set_option maxRecDepth 100000 in
set_option maxHeartbeats 1000000 in
theorem name_any (s : ByteArray) (p : Nat) (hp : p < s.size) (hs : s.size ≤ 140737488355328) (hc : letterB (s[p]'hp) = true) (w : World) :
    Calls Try.prog 66 #[.string s, .int .i64 (p : Int)] w fun e w' => e = .returned (partV ((bl s).drop p) p) ∧ Below w.heap.size w w' := by
  have p0 : (0 : Int) ≤ (p : Int) := by omega
  obtain ⟨n, hn⟩ : ∃ n, (((bl s).drop p).takeWhile fun x => digitB x || letterB x).length = n := ⟨_, rfl⟩
  have HN := Lib.hid hn
  have HT := Lib.hid (tok_name s p hp hc n hn)
  clear hn hc
  go_enter Try.func66, Try.ntmps66
  go_wp2
  go_loopw [7] (fun i wr => ∃ q : Nat, p ≤ q ∧ q ≤ s.size ∧ i = .int .i64 q ∧ Hid ((q - p) + (((bl s).drop q).takeWhile fun x => digitB x || letterB x).length = n) ∧ Blk wr w.heap.size 65 (tokCells Tk.none 0) ∧ Below w.heap.size w wr)
    (fun i _ => s.size - (intOf i).toNat)
  case atStart => exact ⟨p, Nat.le_refl _, by omega, rfl, Lib.hid (by rw [HN.out]; omega), Blk.new _ _ _, bal0 _ _⟩
  case round =>
    obtain ⟨q, hq1, hq2, rfl, HQ, hK, hB⟩ := hrel
    have q0 : (0 : Int) ≤ (q : Int) := by omega
    by_cases hgo : ∃ h : q < s.size, (digitB (s[q]'h) || letterB (s[q]'h)) = true
    · obtain ⟨hlt, hdl⟩ := hgo
      have hlti : (q : Int) < (s.size : Int) := by omega
      have nq := UInt8.toNat_lt (s[q]'hlt)
      have HDG := Lib.hid (fun W => isdigit_any (s[q]'hlt) W)
      have HLQ := Lib.hid (fun W => isletter_any (s[q]'hlt) W)
      have HF := Lib.hid (show (q + 1 - p) + (((bl s).drop (q + 1)).takeWhile fun x => digitB x || letterB x).length = n by
        have h1 := take_step (fun x => digitB x || letterB x) s q hlt
        have h2 := HQ.out
        rw [if_pos hdl] at h1
        omega)
      cases hl : letterB (s[q]'hlt) with
      | true =>
        rw [hl] at HLQ
        clear hl hdl
        go_wp2_with fail
        refine (HLQ.out _).mono ?_
        rintro e w1 ⟨rfl, rfl⟩
        go_wp2
        go_roundw
        case rel => exact ⟨q + 1, by omega, by omega, by go_num, HF, hK, hB⟩
        case measure => simp [intOf]; omega
      | false =>
        have hd : digitB (s[q]'hlt) = true := by simpa [hl] using hdl
        rw [hl] at HLQ
        rw [hd] at HDG
        clear hl hdl hd
        go_wp2_with fail
        refine (HLQ.out _).mono ?_
        rintro e w1 ⟨rfl, rfl⟩
        go_wp2_with fail
        refine (HDG.out _).mono ?_
        rintro e w1 ⟨rfl, rfl⟩
        go_wp2
        go_roundw
        case rel => exact ⟨q + 1, by omega, by omega, by go_num, HF, hK, hB⟩
        case measure => simp [intOf]; omega
    · have HF := Lib.hid (show q = p + n by
        have h2 := HQ.out
        by_cases hlt : q < s.size
        · have h1 := take_step (fun x => digitB x || letterB x) s q hlt
          rw [if_neg (fun h => hgo ⟨hlt, h⟩)] at h1
          omega
        · rw [drop_end s q (by omega)] at h2
          simp at h2
          omega)
      have j1 : (p : Int) ≤ (q : Int) := by omega
      have j2 : (q : Int) ≤ (s.size : Int) := by omega
      have HX := Lib.hid (show s.extract p q = mkS (((bl s).drop p).take n) by rw [HF.out]; exact extract_is s p n)
      have HCL := Lib.hid (fun W => clone_any (s.extract p q) W (by rw [HX.out, size_mkS, List.length_take, List.length_drop, bl_length]; omega))
      by_cases hlt : q < s.size
      · have hlti : (q : Int) < (s.size : Int) := by omega
        have nq := UInt8.toNat_lt (s[q]'hlt)
        have HDG := Lib.hid (fun W => isdigit_any (s[q]'hlt) W)
        have HLQ := Lib.hid (fun W => isletter_any (s[q]'hlt) W)
        have hd : digitB (s[q]'hlt) = false := by
          cases h : digitB (s[q]'hlt) with
          | false => rfl
          | true => exact absurd ⟨hlt, by rw [h]; rfl⟩ hgo
        have hl : letterB (s[q]'hlt) = false := by
          cases h : letterB (s[q]'hlt) with
          | false => rfl
          | true => exact absurd ⟨hlt, by rw [h, hd]; rfl⟩ hgo
        rw [hd] at HDG
        rw [hl] at HLQ
        clear hd hl hgo
        by_cases h31 : 31 < n
        · have i31 : (31 : Int) < (q : Int) - (p : Int) := by have := HF.out; omega
          have HV := Lib.hid (partV_err (p := p) (HT.out.trans (if_pos h31)))
          go_wp2_with fail
          refine (HLQ.out _).mono ?_
          rintro e w1 ⟨rfl, rfl⟩
          go_wp2_with fail
          refine (HDG.out _).mono ?_
          rintro e w1 ⟨rfl, rfl⟩
          go_wp2_with (first | (refine wp_tok rfl _ _ rfl w.heap.size Tk.none 0 (tokCells Tk.none 0) rfl (by rw [none_cells]; rfl) hK rfl ?_; intro w5 hK5 hkp; have hB5 := hkp _ _ (Nat.le_refl _) hB; obtain ⟨c0, c1, c2, c3, c4, c5, c6, c7⟩ := tok8 hK5) | fail)
          refine bodyPost_ret (v := .tuple #[tokV Tk.none 0, .int .i64 0, .int .i64 2]) (by simp [results, Try.results66, go_sem, c0, c1, c2, c3, c4, c5, c6, c7]) rfl ⟨by rw [HV.out]; rfl, hB5⟩
        · have i31 : ¬ (31 : Int) < (q : Int) - (p : Int) := by have := HF.out; omega
          have HV := Lib.hid (partV_ok (p := p) (HT.out.trans (if_neg h31)))
          have HPN := Lib.hid (show ((p + n : Nat) : Int) = (q : Int) by have := HF.out; omega)
          clear h31
          go_wp2_with fail
          refine (HLQ.out _).mono ?_
          rintro e w1 ⟨rfl, rfl⟩
          go_wp2_with fail
          refine (HDG.out _).mono ?_
          rintro e w1 ⟨rfl, rfl⟩
          go_wp2_with fail
          refine (HCL.out _).mono ?_
          rintro e w2 ⟨rfl, hb2⟩
          have hB2 := btr hB hb2
          have hK2 := hK.below hb2 hK.lt
          go_wp2_with (first | (refine wp_tok rfl _ _ rfl w.heap.size { Tk.none with kind := 1, text := ((bl s).drop p).take n } 0 (tokCells Tk.none 0) rfl (by rw [name_cells, ← HX.out]; rfl) hK2 rfl ?_; intro w5 hK5 hkp; have hB5 := hkp _ _ (Nat.le_refl _) hB2; obtain ⟨c0, c1, c2, c3, c4, c5, c6, c7⟩ := tok8 hK5) | fail)
          refine bodyPost_ret (v := .tuple #[tokV { Tk.none with kind := 1, text := ((bl s).drop p).take n } 0, .int .i64 (q : Int), .int .i64 0]) (by simp [results, Try.results66, go_sem, c0, c1, c2, c3, c4, c5, c6, c7]) rfl ⟨by rw [HV.out, HPN.out], hB5⟩
      · have hlti : ¬ (q : Int) < (s.size : Int) := by omega
        have HZ := Lib.hid hlt
        clear hgo hlt
        by_cases h31 : 31 < n
        · have i31 : (31 : Int) < (q : Int) - (p : Int) := by have := HF.out; omega
          have HV := Lib.hid (partV_err (p := p) (HT.out.trans (if_pos h31)))
          go_wp2_with (first | (refine wp_tok rfl _ _ rfl w.heap.size Tk.none 0 (tokCells Tk.none 0) rfl (by rw [none_cells]; rfl) hK rfl ?_; intro w5 hK5 hkp; have hB5 := hkp _ _ (Nat.le_refl _) hB; obtain ⟨c0, c1, c2, c3, c4, c5, c6, c7⟩ := tok8 hK5) | fail)
          refine bodyPost_ret (v := .tuple #[tokV Tk.none 0, .int .i64 0, .int .i64 2]) (by simp [results, Try.results66, go_sem, c0, c1, c2, c3, c4, c5, c6, c7]) rfl ⟨by rw [HV.out]; rfl, hB5⟩
        · have i31 : ¬ (31 : Int) < (q : Int) - (p : Int) := by have := HF.out; omega
          have HV := Lib.hid (partV_ok (p := p) (HT.out.trans (if_neg h31)))
          have HPN := Lib.hid (show ((p + n : Nat) : Int) = (q : Int) by have := HF.out; omega)
          clear h31
          go_wp2_with fail
          refine (HCL.out _).mono ?_
          rintro e w2 ⟨rfl, hb2⟩
          have hB2 := btr hB hb2
          have hK2 := hK.below hb2 hK.lt
          go_wp2_with (first | (refine wp_tok rfl _ _ rfl w.heap.size { Tk.none with kind := 1, text := ((bl s).drop p).take n } 0 (tokCells Tk.none 0) rfl (by rw [name_cells, ← HX.out]; rfl) hK2 rfl ?_; intro w5 hK5 hkp; have hB5 := hkp _ _ (Nat.le_refl _) hB2; obtain ⟨c0, c1, c2, c3, c4, c5, c6, c7⟩ := tok8 hK5) | fail)
          refine bodyPost_ret (v := .tuple #[tokV { Tk.none with kind := 1, text := ((bl s).drop p).take n } 0, .int .i64 (q : Int), .int .i64 0]) (by simp [results, Try.results66, go_sem, c0, c1, c2, c3, c4, c5, c6, c7]) rfl ⟨by rw [HV.out, HPN.out], hB5⟩

set_option maxRecDepth 100000 in
set_option maxHeartbeats 1000000 in
theorem number_any (s : ByteArray) (p : Nat) (hp : p < s.size) (hs : s.size ≤ 140737488355328) (hc : digitB (s[p]'hp) = true) (w : World) :
    Calls Try.prog 68 #[.string s, .int .i64 (p : Int)] w fun e w' => e = .returned (partV ((bl s).drop p) p) ∧ Below w.heap.size w w' := by
  have p0 : (0 : Int) ≤ (p : Int) := by omega
  obtain ⟨n, hn⟩ : ∃ n, (((bl s).drop p).takeWhile digitB).length = n := ⟨_, rfl⟩
  have HN := Lib.hid hn
  have HT := Lib.hid (tok_number s p hp hc n hn)
  clear hn hc
  go_enter Try.func68, Try.ntmps68
  go_wp2
  go_loopw [7, 8] (fun v i wr => ∃ j m : Nat, j ≤ 4 ∧ p + j ≤ s.size ∧ i = .int .i64 ((p + j : Nat) : Int) ∧ v = .int .i64 m ∧ Hid (numL (((bl s).drop p).take j) = m) ∧ Hid (j + (((bl s).drop (p + j)).takeWhile digitB).length = n) ∧ Blk wr w.heap.size 65 (tokCells Tk.none 0) ∧ Below w.heap.size w wr)
    (fun _ i _ => s.size - (intOf i).toNat)
  case atStart => exact ⟨0, 0, by omega, by omega, rfl, rfl, Lib.hid rfl, Lib.hid (by rw [Nat.add_zero, HN.out, Nat.zero_add]), Blk.new _ _ _, bal0 _ _⟩
  case round =>
    obtain ⟨j, m, hj, hjs, rfl, rfl, HM, HQ, hK, hB⟩ := hrel
    have q0 : (0 : Int) ≤ ((p + j : Nat) : Int) := by omega
    have hmb : m ≤ 30000000000000 := by
      have h1 := numL_le (((bl s).drop p).take j) 4 0 (by rw [List.length_take]; omega)
      have hm := HM.out
      unfold numL at hm
      rw [hm] at h1
      omega
    by_cases hgo : ∃ h : p + j < s.size, digitB (s[p + j]'h) = true
    · obtain ⟨hlt, hd⟩ := hgo
      have hlti : ((p + j : Nat) : Int) < (s.size : Int) := by omega
      have HDG := Lib.hid (fun W => isdigit_any (s[p + j]'hlt) W)
      have hdj := digit_range hd
      have HNS := Lib.hid (numL_step s p j hlt)
      have nj := UInt8.toNat_lt (s[p + j]'hlt)
      have HF := Lib.hid (show j + 1 + (((bl s).drop (p + (j + 1))).takeWhile digitB).length = n by
        have h1 := take_step digitB s (p + j) hlt
        have h2 := HQ.out
        rw [if_pos hd] at h1
        rw [show p + (j + 1) = p + j + 1 by omega]
        omega)
      rw [hd] at HDG
      clear hd
      obtain ⟨z, hz⟩ : ∃ z, (s[p + j]'hlt).toNat = z := ⟨_, rfl⟩
      rw [hz] at hdj HNS nj HDG
      have HZ := Lib.hid hz
      have hw8 : IntKind.u8.wrap ((z : Int) - 48) = (z : Int) - 48 := by rw [IntKind.wrap_u8]; omega
      by_cases h4 : j = 4
      · have i4 : ((((p + j : Nat) : Int) - (p : Int)) == 4) = true := by simp; omega
        have HV := Lib.hid (partV_err (p := p) (HT.out.trans (if_pos (by have := HF.out; omega))))
        clear h4
        go_wp2_with fail
        refine (HDG.out _).mono ?_
        rintro e w1 ⟨rfl, rfl⟩
        go_wp2_with (first | (refine wp_tok rfl _ _ rfl w.heap.size Tk.none 0 (tokCells Tk.none 0) rfl (by rw [none_cells]; rfl) hK rfl ?_; intro w5 hK5 hkp; have hB5 := hkp _ _ (Nat.le_refl _) hB; obtain ⟨c0, c1, c2, c3, c4, c5, c6, c7⟩ := tok8 hK5) | fail)
        refine bodyPost_ret (v := .tuple #[tokV Tk.none 0, .int .i64 0, .int .i64 2]) (by simp [results, Try.results68, go_sem, c0, c1, c2, c3, c4, c5, c6, c7]) rfl ⟨by rw [HV.out]; rfl, hB5⟩
      · have i4 : ((((p + j : Nat) : Int) - (p : Int)) == 4) = false := by simp; omega
        have hj4 : j < 4 := by omega
        clear h4
        go_wp2_with fail
        refine (HDG.out _).mono ?_
        rintro e w1 ⟨rfl, rfl⟩
        go_wp2
        go_roundw
        case rel => exact ⟨j + 1, 10 * m + (z - 48), by omega, by omega, by go_num, by go_num, Lib.hid (by rw [HNS.out, HM.out]), HF, hK, hB⟩
        case measure => simp [intOf]; omega
    · have HF := Lib.hid (show j = n by
        have h2 := HQ.out
        by_cases hlt : p + j < s.size
        · have h1 := take_step digitB s (p + j) hlt
          rw [if_neg (fun h => hgo ⟨hlt, h⟩)] at h1
          omega
        · rw [drop_end s (p + j) (by omega)] at h2
          simp at h2
          omega)
      have HV := Lib.hid (partV_ok (p := p) (HT.out.trans (if_neg (by have := HF.out; omega))))
      rw [← HF.out, HM.out] at HV
      by_cases hlt : p + j < s.size
      · have hlti : ((p + j : Nat) : Int) < (s.size : Int) := by omega
        have nq := UInt8.toNat_lt (s[p + j]'hlt)
        have HDG := Lib.hid (fun W => isdigit_any (s[p + j]'hlt) W)
        have hd : digitB (s[p + j]'hlt) = false := by
          cases h : digitB (s[p + j]'hlt) with
          | false => rfl
          | true => exact absurd ⟨hlt, h⟩ hgo
        rw [hd] at HDG
        clear hd hgo
        go_wp2_with fail
        refine (HDG.out _).mono ?_
        rintro e w1 ⟨rfl, rfl⟩
        go_wp2_with (first | (refine wp_tok rfl _ _ rfl w.heap.size { Tk.none with kind := 5, num := m } 0 (tokCells Tk.none 0) rfl (by rw [number_cells]; rfl) hK rfl ?_; intro w5 hK5 hkp; have hB5 := hkp _ _ (Nat.le_refl _) hB; obtain ⟨c0, c1, c2, c3, c4, c5, c6, c7⟩ := tok8 hK5) | fail)
        refine bodyPost_ret (v := .tuple #[tokV { Tk.none with kind := 5, num := m } 0, .int .i64 ((p + j : Nat) : Int), .int .i64 0]) (by simp [results, Try.results68, go_sem, c0, c1, c2, c3, c4, c5, c6, c7]) rfl ⟨by rw [HV.out], hB5⟩
      · have hlti : ¬ ((p + j : Nat) : Int) < (s.size : Int) := by omega
        have HZ := Lib.hid hlt
        clear hgo hlt
        go_wp2_with (first | (refine wp_tok rfl _ _ rfl w.heap.size { Tk.none with kind := 5, num := m } 0 (tokCells Tk.none 0) rfl (by rw [number_cells]; rfl) hK rfl ?_; intro w5 hK5 hkp; have hB5 := hkp _ _ (Nat.le_refl _) hB; obtain ⟨c0, c1, c2, c3, c4, c5, c6, c7⟩ := tok8 hK5) | fail)
        refine bodyPost_ret (v := .tuple #[tokV { Tk.none with kind := 5, num := m } 0, .int .i64 ((p + j : Nat) : Int), .int .i64 0]) (by simp [results, Try.results68, go_sem, c0, c1, c2, c3, c4, c5, c6, c7]) rfl ⟨by rw [HV.out], hB5⟩
end Go.Proofs.Ytbiempopfmpohaa
namespace Go.Proofs.Ytbiempopfmpohaa
open Go.RowKit

theorem encode_byte (c : UInt8) (h : c.toNat < 128) : Utf8.encode ((c.toNat : Nat) : Int) = mkS [c] := by
  refine all_bytes (p := fun c => c.toNat < 128 → Utf8.encode ((c.toNat : Nat) : Int) = mkS [c]) ?_ c h
  decide +kernel
abbrev sgnsT : ByteArray := { data := #[61, 59, 40, 41, 124, 38, 33, 42, 43, 63, 58, 46, 47, 44, 123, 125, 126, 62] }
theorem sgnsT_size : sgnsT.size = 18 := rfl
theorem sgnsT_low : ∀ k, (h : k < 18) → (sgnsT[k]'h).toNat < 128 := by decide +kernel
theorem sgnsT_none (c : UInt8) (h : ∀ k, (hk : k < 18) → sgnsT[k]'hk ≠ c) : signB c = false := by
  rw [← sign_is]
  cases hc : (bl { data := #[61, 59, 40, 41, 124, 38, 33, 42, 43, 63, 58, 46, 47, 44, 123, 125, 126, 62] }).contains c with
  | false => rfl
  | true =>
    obtain ⟨k, hk, e⟩ := List.getElem_of_mem (List.contains_iff_mem.1 hc)
    exact absurd e (h k hk)
theorem sgnsT_some (k : Nat) (hk : k < 18) : signB (sgnsT[k]'hk) = true := by
  revert k
  decide +kernel
theorem arrow_is (c : UInt8) (r : List UInt8) : Lib.hasPrefix (c :: r) (bl { data := #[45, 62] }) = (decide (c = 45) && decide (r.head? = some 62)) := by
  show List.isPrefixOf [45, 62] (c :: r) = _
  rw [List.isPrefixOf_cons_cons]
  have e1 : ((45 : UInt8) == c) = decide (c = 45) := by rw [Bool.eq_iff_iff, beq_iff_eq, decide_eq_true_iff]; exact eq_comm
  rw [e1]
  congr 1
  cases r with
  | nil => rfl
  | cons d r =>
    rw [List.isPrefixOf_cons_cons]
    have e2 : ((62 : UInt8) == d) = decide (d = 62) := by rw [Bool.eq_iff_iff, beq_iff_eq, decide_eq_true_iff]; exact eq_comm
    rw [e2, List.isPrefixOf_nil_left, Bool.and_true, List.head?_cons, Bool.eq_iff_iff, decide_eq_true_iff, decide_eq_true_iff]
    exact ⟨congrArg some, fun h => Option.some.inj h⟩

set_option maxRecDepth 100000 in
set_option maxHeartbeats 1000000 in
theorem sign_any (s : ByteArray) (p : Nat) (hp : p < s.size) (hs : s.size ≤ 140737488355328) (h1 : s[p]'hp ≠ 34) (h2 : s[p]'hp ≠ 91) (h3 : letterB (s[p]'hp) = false) (h4 : digitB (s[p]'hp) = false) (w : World) :
    Calls Try.prog 71 #[.string s, .int .i64 (p : Int)] w fun e w' => e = .returned (partV ((bl s).drop p) p) ∧ Below w.heap.size w w' := by
  have p0 : (0 : Int) ≤ (p : Int) := by omega
  have p1 : (p : Int) ≤ (s.size : Int) := by omega
  have hlti : (p : Int) < (s.size : Int) := by omega
  have nc := UInt8.toNat_lt (s[p]'hp)
  have HT := Lib.hid (show tokL ((bl s).drop p) = _ from (congrArg tokL (drop_byte s p hp)).trans (tokL_cons _ _ h1 h2 h3 h4))
  have HP := Lib.hid (fun W => hpre_any (s.extract p s.size) { data := #[45, 62] } W)
  rw [show Lib.hasPrefix (bl (s.extract p s.size)) (bl { data := #[45, 62] }) = (decide (s[p]'hp = 45) && decide (((bl s).drop (p + 1)).head? = some 62)) by
    rw [extract_end s p (by omega), bl_mkS, drop_byte s p hp]; exact arrow_is _ _] at HP
  clear h1 h2 h3 h4
  cases hab : (decide (s[p]'hp = 45) && decide (((bl s).drop (p + 1)).head? = some 62)) with
  | true =>
    rw [hab] at HP
    have HV := Lib.hid (partV_ok (p := p) (HT.out.trans (if_pos hab)))
    have hK := Blk.new w 65 (tokCells Tk.none 0)
    have hB := bal0 w (.cells (tokCells Tk.none 0) 65)
    rw [none_cells] at hK hB
    clear hab
    go_enter Try.func71, Try.ntmps71
    go_wp2_with fail
    refine (HP.out _).mono ?_
    rintro e w1 ⟨rfl, rfl⟩
    rw [← none_cells] at hK
    go_wp2_with (first | (refine wp_tok rfl _ _ rfl w.heap.size { Tk.none with kind := 4, text := [45, 62] } 0 (tokCells Tk.none 0) rfl (by rw [sign_cells]; rfl) hK rfl ?_; intro w5 hK5 hkp; have hB5 := hkp _ _ (Nat.le_refl _) hB; obtain ⟨c0, c1, c2, c3, c4, c5, c6, c7⟩ := tok8 hK5) | fail)
    refine bodyPost_ret (v := .tuple #[tokV { Tk.none with kind := 4, text := [45, 62] } 0, .int .i64 ((p + 2 : Nat) : Int), .int .i64 0]) (by simp [results, Try.results71, go_sem, c0, c1, c2, c3, c4, c5, c6, c7]) rfl ⟨by rw [HV.out], hB5⟩
  | false =>
    rw [hab] at HP
    have HT2 := Lib.hid (HT.out.trans (if_neg (by rw [hab]; decide)))
    clear hab
    have hK := Blk.new w 65 (tokCells Tk.none 0)
    have hB := bal0 w (.cells (tokCells Tk.none 0) 65)
    rw [none_cells] at hK hB
    go_enter Try.func71, Try.ntmps71
    go_wp2_with fail
    refine (HP.out _).mono ?_
    rintro e w1 ⟨rfl, hw1⟩
    rw [← hw1, ← none_cells] at hK
    rw [← hw1] at hB
    clear hw1
    go_wp2
    go_loopw [8] (fun _ wr => ∃ k : Nat, k ≤ 18 ∧ wr = w1.iter sgnsT k ∧ Hid (∀ j, (h : j < 18) → j < k → sgnsT[j]'h ≠ s[p]'hp))
      (fun _ wr => 18 - wr.iterPos w1.heap.size)
    case atStart => exact ⟨0, by omega, rfl, Lib.hid (fun j _ h => absurd h (Nat.not_lt_zero _))⟩
    case round =>
      obtain ⟨k, hk, rfl, HJ⟩ := hrel
      by_cases hlt : k < 18
      · have ha := sgnsT_low k hlt
        have hnx : ∀ ty, (Instr.next (.pointer (some ⟨w1.heap.size, 0, none⟩)) true ty).run Try.prog (w1.iter sgnsT k) = _ := fun ty => run_next_ascii w1 sgnsT k ty hlt ha
        have HE := Lib.hid (encode_byte (sgnsT[k]'hlt) ha)
        have hK6 : Blk (w1.iter sgnsT (k + 1)) w.heap.size 65 (tokCells Tk.none 0) := hK.alloc _
        have hB6 : Below w.heap.size w (w1.iter sgnsT (k + 1)) := bal hB _
        have HSG := Lib.hid (sgnsT_some k hlt)
        obtain ⟨x, hx⟩ : ∃ x, sgnsT[k]'hlt = x := ⟨_, rfl⟩
        rw [hx] at hnx HE ha HSG
        have HX := Lib.hid hx
        clear hx
        by_cases he : x = s[p]'hp
        · have d1 : (((x.toNat : Nat) : Int) == (((s[p]'hp).toNat : Nat) : Int)) = true := by rw [he]; simp
          have HV := Lib.hid (partV_ok (p := p) (HT2.out.trans (if_pos (by rw [← he]; exact HSG.out))))
          have HTX := Lib.hid (show mkS [s[p]'hp] = Utf8.encode ((x.toNat : Nat) : Int) by rw [HE.out, he])
          clear he
          go_wp2_with (first | (refine wp_tok rfl _ _ rfl w.heap.size { Tk.none with kind := 4, text := [s[p]'hp] } 0 (tokCells Tk.none 0) rfl (by rw [sign_cells, HTX.out]; rfl) hK6 rfl ?_; intro w5 hK5 hkp; have hB5 := hkp _ _ (Nat.le_refl _) hB6; obtain ⟨c0, c1, c2, c3, c4, c5, c6, c7⟩ := tok8 hK5) | fail)
          refine bodyPost_ret (v := .tuple #[tokV { Tk.none with kind := 4, text := [s[p]'hp] } 0, .int .i64 ((p + 1 : Nat) : Int), .int .i64 0]) (by simp [results, Try.results71, go_sem, c0, c1, c2, c3, c4, c5, c6, c7]) rfl ⟨by rw [HV.out], hB5⟩
        · have hne : x.toNat ≠ (s[p]'hp).toNat := fun e => he (UInt8.toNat_inj.1 e)
          have d1 : (((x.toNat : Nat) : Int) == (((s[p]'hp).toNat : Nat) : Int)) = false := by simp; omega
          have HNX := Lib.hid (show ∀ j, (h : j < 18) → j < k + 1 → sgnsT[j]'h ≠ s[p]'hp by
            intro j h hj
            rcases Nat.lt_or_ge j k with h' | h'
            · exact HJ.out j h h'
            · obtain rfl : j = k := by omega
              rw [HX.out]; exact he)
          clear he hne
          go_wp2
          go_roundw
          case rel => exact ⟨k + 1, by omega, rfl, HNX⟩
          case measure => simp; omega
      · obtain rfl : k = 18 := by omega
        have hnx : ∀ ty, (Instr.next (.pointer (some ⟨w1.heap.size, 0, none⟩)) true ty).run Try.prog (w1.iter sgnsT 18) = _ := fun ty => run_next_end w1 sgnsT 18 ty hlt
        have HV := Lib.hid (partV_err (p := p) (HT2.out.trans (if_neg (by rw [sgnsT_none _ (fun k hk => HJ.out k hk hk)]; decide))))
        have hK6 : Blk (w1.iter sgnsT 18) w.heap.size 65 (tokCells Tk.none 0) := hK.alloc _
        have hB6 : Below w.heap.size w (w1.iter sgnsT 18) := bal hB _
        go_wp2_with (first | (refine wp_tok rfl _ _ rfl w.heap.size Tk.none 0 (tokCells Tk.none 0) rfl (by rw [none_cells]; rfl) hK6 rfl ?_; intro w5 hK5 hkp; have hB5 := hkp _ _ (Nat.le_refl _) hB6; obtain ⟨c0, c1, c2, c3, c4, c5, c6, c7⟩ := tok8 hK5) | fail)
        refine bodyPost_ret (v := .tuple #[tokV Tk.none 0, .int .i64 0, .int .i64 4]) (by simp [results, Try.results71, go_sem, c0, c1, c2, c3, c4, c5, c6, c7]) rfl ⟨by rw [HV.out]; rfl, hB5⟩
end Go.Proofs.Ytbiempopfmpohaa
namespace Go.Proofs.Ytbiempopfmpohaa
open Go.RowKit

/-- A slice of bytes of the call's own, as a text. -/
theorem conv_own {wr : World} {base len cap : Nat} {ao : Option Addr} {bs : List UInt8} (hown : wr.ownsRow base 5 1 (.slice ao len cap) bs.length (u8Cells bs)) :
    (convert 78 9 (.slice ao len cap)).run Try.prog wr = .ok (.string (mkS bs)) wr := by
  rcases hown.2 with ⟨e, hz⟩ | ⟨g, c, cur, e, _⟩
  · obtain ⟨rfl, rfl, rfl⟩ := Value.slice.inj e
    obtain rfl : bs = [] := List.eq_nil_of_length_eq_zero hz
    exact run_convert_bytes_nil (P := Try.prog) wr 78 5 Try.underlying78 Try.underlying5 _ _ _ Try.underlying9
  · obtain ⟨rfl, rfl, rfl⟩ := Value.slice.inj e
    rw [← str_bI]
    refine run_convert_bytes_arg (P := Try.prog) wr 78 5 Try.underlying78 Try.underlying5 g 0 bs.length _ (bI bs) (by simp [bI]) (fun i hi => ?_) _ Try.underlying9
    rw [Nat.zero_add, hown.cellAt i (by omega)]
    simp [u8Cells, bI, List.getD, hi]

set_option maxRecDepth 100000 in
set_option maxHeartbeats 2000000 in
theorem quoted_any (s : ByteArray) (p q0 : Nat) (hq0 : q0 = p + 1) (hp : p < s.size) (hs : s.size ≤ 140737488355328) (hc : s[p]'hp = 34) (w : World) :
    Calls Try.prog 69 #[.string s, .int .i64 (q0 : Int)] w fun e w' => e = .returned (partV ((bl s).drop p) p) ∧ Below w.heap.size w w' := by
  have HT := Lib.hid (tok_quote s p hp hc)
  have HWE := Lib.hid (fun e (h : tokL ((bl s).drop p) = .error e) => partV_err (p := p) h)
  have HWO := Lib.hid (fun t n (h : tokL ((bl s).drop p) = .ok (t, n)) => partV_ok (p := p) h)
  have HQ0 := Lib.hid hq0
  have hq0s : q0 ≤ s.size := by omega
  obtain ⟨ii, hi, hz0, hz1, hz2⟩ := info_parts info_u8t
  clear hc hq0
  go_enter Try.func69, Try.ntmps69
  go_wp2
  go_loopw [1, 7] (fun i v wr => ∃ (q : Nat) (bs : List UInt8), q0 ≤ q ∧ q ≤ s.size ∧ bs.length ≤ q ∧ i = .int .i64 q ∧ Hid (gathT bs (q - q0) (textL ((bl s).drop q)) = textL ((bl s).drop (p + 1))) ∧ wr.ownsRow (w.heap.size + 1) 5 1 v bs.length (u8Cells bs) ∧ Blk wr w.heap.size 65 (tokCells Tk.none 0) ∧ Below w.heap.size w wr)
    (fun i _ _ => s.size - (intOf i).toNat)
  case atStart =>
    refine ⟨q0, [], Nat.le_refl _, hq0s, by simp, rfl, Lib.hid (by rw [Nat.sub_self, HQ0.out]; exact gathT_nil _), World.ownsRow_nil _ _ _ _, ?_, bal0 w _⟩
    rw [none_cells]; exact Blk.new w _ _
  case round =>
    obtain ⟨q, bs, hq1, hq2, hbl, rfl, hj, hown, hK, hB⟩ := hrel
    have i0 : (0 : Int) ≤ (q : Int) := by omega
    have hB2 : w.heap.size + 1 ≤ wr.heap.size := by have := hK.lt; omega
    obtain ⟨vo, vc, rfl, hvc⟩ := owns_form hown
    have HO := Lib.hid (fun W => read_any s q hq2 hs W)
    by_cases hlt : q < s.size
    · have HDQ := Lib.hid (drop_byte s q hlt)
      have HST := Lib.hid (fun W => stands_yes s q hlt 34 W)
      by_cases hc : s[q]'hlt = 34
      · rw [show (s[q]'hlt == (34 : UInt8)) = true by rw [hc]; rfl] at HST
        have HTX := Lib.hid (show textL ((bl s).drop (p + 1)) = .ok (bs, q - q0 + 1) by
          rw [← hj.out, HDQ.out, textL_cons, if_pos hc]
          simp [gathT])
        clear hc
        by_cases h256 : 256 < bs.length
        · have i256 : (256 : Int) < (bs.length : Int) := by omega
          have HTE := Lib.hid (HWE.out 2 (by rw [HT.out, HTX.out]; simp only [if_pos h256]))
          clear h256
          go_wp2_with fail
          refine (HST.out _).mono ?_
          rintro e w1 ⟨rfl, rfl⟩
          go_wp2_with (first | (refine wp_tok rfl _ _ rfl w.heap.size Tk.none 0 (tokCells Tk.none 0) rfl (by rw [none_cells]; rfl) hK rfl ?_; intro w5 hK5 hkp; have hB5 := hkp _ _ (Nat.le_refl _) hB; obtain ⟨c0, c1, c2, c3, c4, c5, c6, c7⟩ := tok8 hK5) | fail)
          refine bodyPost_ret (v := .tuple #[tokV Tk.none 0, .int .i64 0, .int .i64 2]) (by simp [results, Try.results69, go_sem, c0, c1, c2, c3, c4, c5, c6, c7]) rfl ⟨by rw [HTE.out]; rfl, hB5⟩
        · have i256 : ¬ (256 : Int) < (bs.length : Int) := by omega
          have HTE := Lib.hid (HWO.out { Tk.none with kind := 2, text := bs } (1 + (q - q0 + 1)) (by rw [HT.out, HTX.out]; simp only [if_neg h256]))
          have HPN := Lib.hid (show p + (1 + (q - q0 + 1)) = q + 1 by have := HQ0.out; omega)
          have hcv := conv_own hown
          clear h256
          have HBS := Lib.hid (text_cells bs 0)
          go_wp2_with fail
          refine (HST.out _).mono ?_
          rintro e w1 ⟨rfl, rfl⟩
          go_wp2_with (first | (refine wp_tok rfl _ _ rfl w.heap.size { Tk.none with kind := 2, text := bs } 0 (tokCells Tk.none 0) rfl (by rw [HBS.out]; rfl) hK rfl ?_; intro w5 hK5 hkp; have hB5 := hkp _ _ (Nat.le_refl _) hB; obtain ⟨c0, c1, c2, c3, c4, c5, c6, c7⟩ := tok8 hK5) | fail)
          refine bodyPost_ret (v := .tuple #[tokV { Tk.none with kind := 2, text := bs } 0, .int .i64 ((q + 1 : Nat) : Int), .int .i64 0]) (by simp [results, Try.results69, go_sem, c0, c1, c2, c3, c4, c5, c6, c7]) rfl ⟨by rw [HTE.out, HPN.out], hB5⟩
      · rw [show (s[q]'hlt == (34 : UInt8)) = false by simpa using hc] at HST
        rw [HDQ.out] at HO
        cases ho : oneL (s[q]'hlt :: (bl s).drop (q + 1)) with
        | error er =>
          rw [readV_err ho] at HO
          have hne : (((er : Nat) : Int) != 0) = true := by simpa using oneL_err ho
          have HTE := Lib.hid (HWE.out er (by
            have h2 : textL ((bl s).drop (p + 1)) = .error er := by
              rw [← hj.out, HDQ.out, textL_cons, if_neg hc, ho]
              rfl
            rw [HT.out, h2]))
          clear hc ho
          go_wp2_with fail
          refine (HST.out _).mono ?_
          rintro e w1 ⟨rfl, rfl⟩
          go_wp2_with fail
          refine (HO.out _).mono ?_
          rintro e w1 ⟨rfl, rfl⟩
          go_wp2_with (first | (refine wp_tok rfl _ _ rfl w.heap.size Tk.none 0 (tokCells Tk.none 0) rfl (by rw [none_cells]; rfl) hK rfl ?_; intro w5 hK5 hkp; have hB5 := hkp _ _ (Nat.le_refl _) hB; obtain ⟨c0, c1, c2, c3, c4, c5, c6, c7⟩ := tok8 hK5) | fail)
          refine bodyPost_ret (v := .tuple #[tokV Tk.none 0, .int .i64 0, .int .i64 ((er : Nat) : Int)]) (by simp [results, Try.results69, go_sem, c0, c1, c2, c3, c4, c5, c6, c7]) rfl ⟨by rw [HTE.out], hB5⟩
        | ok x =>
          obtain ⟨b, n⟩ := x
          rw [readV_ok ho] at HO
          have hpos := oneL_pos ho
          have hnl : q + n ≤ s.size := by have := hpos.2; rw [← HDQ.out, List.length_drop, bl_length] at this; omega
          have HJ := Lib.hid (show gathT (bs ++ [b]) (q + n - q0) (textL ((bl s).drop (q + n))) = textL ((bl s).drop (p + 1)) by
            rw [← hj.out, HDQ.out, textL_step hc ho, ← HDQ.out, List.drop_drop]
            congr 1
            omega)
          have hn0 := hpos.1
          clear hc ho hpos
          go_wp2_with fail
          refine (HST.out _).mono ?_
          rintro e w1 ⟨rfl, rfl⟩
          go_wp2_with fail
          refine (HO.out _).mono ?_
          rintro e w1 ⟨rfl, hw1⟩
          rw [← hw1] at hB hK hown hB2
          clear hw1
          go_wp2_with (first | (at_builtin; refine wpList_append_own _ rfl _ _ 78 rfl (w.heap.size + 1) 5 ii (.int .u8 0) 1 1 Try.underlying78 hi hz0 hz1 hz2 rfl (by decide) _ _ _ rfl (hown.alloc _) ⟨w1.heap.size, 0, none⟩ 1 1 [.int .u8 ((b.toNat : Nat) : Int)] rfl rfl (cell_one_new _ _ _) (by simp [Value.oneCell']) (by unfold maxLen; omega) (by omega) (by simp; omega) ?_; intro v' w3 hown3 hg3 _; have hlow := grown_keep (hown.alloc _) (by simp; omega) hg3) | fail)
          go_roundw
          case rel =>
            refine ⟨q + n, bs ++ [b], by omega, hnl, by simp; omega, rfl, HJ, by simpa [u8Cells] using hown3, ?_, ?_⟩
            · exact (hK.alloc _).below hlow (by omega)
            · exact (bal hB _).trans (hlow.mono (by omega))
          case measure => simp [intOf]; omega
    · have HST := Lib.hid (fun W => stands_no s q (by omega) 34 W)
      obtain ⟨er, her⟩ : ∃ er, er = 6 := ⟨_, rfl⟩
      rw [drop_end s q (by omega), readV_err (e := 6) rfl, ← her] at HO
      have hne : (((er : Nat) : Int) != 0) = true := by subst her; rfl
      have HTE := Lib.hid (HWE.out er (by
        have h2 : textL ((bl s).drop (p + 1)) = .error er := by
          rw [← hj.out, drop_end s q (by omega), textL_nil, her]
          rfl
        rw [HT.out, h2]))
      have HZ := Lib.hid hlt
      clear her hlt
      go_wp2_with fail
      refine (HST.out _).mono ?_
      rintro e w1 ⟨rfl, rfl⟩
      go_wp2_with fail
      refine (HO.out _).mono ?_
      rintro e w1 ⟨rfl, rfl⟩
      go_wp2_with (first | (refine wp_tok rfl _ _ rfl w.heap.size Tk.none 0 (tokCells Tk.none 0) rfl (by rw [none_cells]; rfl) hK rfl ?_; intro w5 hK5 hkp; have hB5 := hkp _ _ (Nat.le_refl _) hB; obtain ⟨c0, c1, c2, c3, c4, c5, c6, c7⟩ := tok8 hK5) | fail)
      refine bodyPost_ret (v := .tuple #[tokV Tk.none 0, .int .i64 0, .int .i64 ((er : Nat) : Int)]) (by simp [results, Try.results69, go_sem, c0, c1, c2, c3, c4, c5, c6, c7]) rfl ⟨by rw [HTE.out], hB5⟩
end Go.Proofs.Ytbiempopfmpohaa
namespace Go.Proofs.Ytbiempopfmpohaa
open Go.RowKit

theorem size_set4 : (Try.prog.info? 24).map (·.size) = some 4 := by kernel_rfl
/-- A set stored into a block of its own: what has become of the world. -/
theorem wp_set {ops : Array Oper} {rest : List Oper} {op : Oper} {a : Act} {w : World} {Q : Exit → Act → World → Prop} (hg : op.guard = none) (x y : Operand) (ho : op.op = .store 24 x y) (B : Nat) (S : Nat → Bool) (cs : Array Value)
    (hx : a.eval x = .pointer (some ⟨B, 0, none⟩)) (hy : a.eval y = sv S) (hK : Blk w B 24 cs) (h4 : cs.size = 4)
    (h : ∀ w', Blk w' B 24 (cells4 S) → (∀ (W0 : World) (n : Nat), n ≤ B → Below n W0 w → Below n W0 w') → (∀ (B' : Nat) (t : TypeId) (vs : Array Value), B' ≠ B → Blk w B' t vs → Blk w' B' t vs) → wpList Try.prog ops Q rest (a.put op.dst undef) w') : wpList Try.prog ops Q (op :: rest) a w := by
  refine wpList_store_row hg 24 x y ho B (cells4 S) hx hy 24 cs hK (by rw [size_set4]; rfl) (by rw [h4]; rfl) (by simp [Value.oneCell']) (h _ (setRow_heap _ _ _ _ _ _ hK) (fun W0 n hn hb => ?_) (fun B' t vs hne hb => ?_))
  · refine ⟨hb.os, hb.tape, hb.output, by simpa [World.setRow] using hb.size, fun k hk => ?_⟩
    rw [← hb.block k hk]
    simp [World.setRow, Array.getElem?_modify, show B ≠ k by omega]
  · have hb' : w.heap[B']? = some (.cells vs t (0, 0)) := hb
    show (World.setRow _ _ _).heap[B']? = _
    simp [World.setRow, Array.getElem?_modify, show B ≠ B' from fun e => hne e.symm, hb']
/-- The set of a row. -/
def rowS (a b : UInt8) : Nat → Bool := fun x => decide (a.toNat ≤ x) && decide (x ≤ b.toNat)
theorem rowS_span (a b : UInt8) : fromTo a.toNat (b.toNat + 1) = rowS a b := by
  funext x
  unfold fromTo rowS
  congr 1
  rw [Bool.eq_iff_iff]; simp; omega
theorem rowS_one (a : UInt8) : ofL [a.toNat] = rowS a a := by
  funext x
  unfold ofL rowS
  rw [Bool.eq_iff_iff]; simp; omega
theorem inRows_row (rs : List (UInt8 × UInt8)) (a b : UInt8) : cor (inRows rs) (rowS a b) = inRows (rs ++ [(a, b)]) := by
  funext x
  rw [inRows_snoc]
  rfl
/-- A row, and how many bytes it takes; or what is wrong. -/
def rowR (l : List UInt8) : Except Nat ((UInt8 × UInt8) × Nat) := match oneL l with
  | .error e => .error e
  | .ok (a, n) =>
    if (l.drop n).head? = some 45 then
      match oneL (l.drop (n + 1)) with
      | .error e => .error e
      | .ok (b, m) => if b < a then .error 4 else .ok ((a, b), n + 1 + m)
    else .ok ((a, a), n)
/-- What readRow answers. -/
def rowV (l : List UInt8) (p : Nat) : Value := match rowR l with
  | .error e => .tuple #[.agg zero4, .int .i64 0, .int .i64 ((e : Nat) : Int)]
  | .ok (r, n) => .tuple #[sv (rowS r.1 r.2), .int .i64 ((p + n : Nat) : Int), .int .i64 0]
theorem rowV_err {l : List UInt8} {p e : Nat} (h : rowR l = .error e) : rowV l p = .tuple #[.agg zero4, .int .i64 0, .int .i64 ((e : Nat) : Int)] := by unfold rowV; rw [h]
theorem rowV_ok {l : List UInt8} {p n : Nat} {a b : UInt8} (h : rowR l = .ok ((a, b), n)) : rowV l p = .tuple #[sv (rowS a b), .int .i64 ((p + n : Nat) : Int), .int .i64 0] := by unfold rowV; rw [h]
theorem rowR_bad {l : List UInt8} {e : Nat} (h : oneL l = .error e) : rowR l = .error e := by unfold rowR; rw [h]
theorem rowR_one {l : List UInt8} {a : UInt8} {n : Nat} (h : oneL l = .ok (a, n)) (hd : ¬ (l.drop n).head? = some 45) : rowR l = .ok ((a, a), n) := by unfold rowR; rw [h]; simp only [if_neg hd]
theorem rowR_bad2 {l : List UInt8} {a : UInt8} {n e : Nat} (h : oneL l = .ok (a, n)) (hd : (l.drop n).head? = some 45) (h2 : oneL (l.drop (n + 1)) = .error e) : rowR l = .error e := by unfold rowR; rw [h]; simp only [if_pos hd, h2]
theorem rowR_less {l : List UInt8} {a b : UInt8} {n m : Nat} (h : oneL l = .ok (a, n)) (hd : (l.drop n).head? = some 45) (h2 : oneL (l.drop (n + 1)) = .ok (b, m)) (hab : b < a) : rowR l = .error 4 := by unfold rowR; rw [h]; simp only [if_pos hd, h2, if_pos hab]
theorem rowR_two {l : List UInt8} {a b : UInt8} {n m : Nat} (h : oneL l = .ok (a, n)) (hd : (l.drop n).head? = some 45) (h2 : oneL (l.drop (n + 1)) = .ok (b, m)) (hab : ¬ b < a) : rowR l = .ok ((a, b), n + 1 + m) := by unfold rowR; rw [h]; simp only [if_pos hd, h2, if_neg hab]

set_option maxRecDepth 100000 in
set_option maxHeartbeats 2000000 in
theorem lrow_any (s : ByteArray) (p : Nat) (hp : p ≤ s.size) (hs : s.size ≤ 140737488355328) (w : World) :
    Calls Try.prog 82 #[.string s, .int .i64 (p : Int)] w fun e w' => e = .returned (rowV ((bl s).drop p) p) ∧ Below w.heap.size w w' := by
  have p0 : (0 : Int) ≤ (p : Int) := by omega
  have HO := Lib.hid (fun W => read_any s p hp hs W)
  have hK := Blk.new w 24 zero4
  have hB := bal0 w (.cells zero4 24)
  cases ho : oneL ((bl s).drop p) with
  | error er =>
    rw [readV_err ho] at HO
    have hne : (((er : Nat) : Int) != 0) = true := by simpa using oneL_err ho
    have HV := Lib.hid (rowV_err (p := p) (rowR_bad ho))
    clear ho
    go_enter Try.func82, Try.ntmps82
    go_wp2_with fail
    refine (HO.out _).mono ?_
    rintro e w1 ⟨rfl, rfl⟩
    go_wp2_with (first | (refine wp_set rfl _ _ rfl w.heap.size (fun _ => false) zero4 rfl rfl hK rfl ?_; intro w5 hK5 hkp hko; have hB5 := hkp _ _ (Nat.le_refl _) hB; obtain ⟨c0, c1, c2, c3⟩ := hK5.cells) | fail)
    refine bodyPost_ret (v := .tuple #[.agg zero4, .int .i64 0, .int .i64 ((er : Nat) : Int)]) (by simp [results, Try.results82, go_sem, c0, c1, c2, c3, zero_set]) rfl ⟨by rw [HV.out], hB5⟩
  | ok x =>
    obtain ⟨a, n⟩ := x
    rw [readV_ok ho] at HO
    have hpos := oneL_pos ho
    have hnl : p + n ≤ s.size := by have := hpos.2; rw [List.length_drop, bl_length] at this; omega
    have na := UInt8.toNat_lt a
    have HST := Lib.hid (fun W => stands_any s (p + n) 45 W)
    obtain ⟨q, hq⟩ : ∃ q, p + n = q := ⟨_, rfl⟩
    have hhd : standB s q 45 = decide ((((bl s).drop p).drop n).head? = some 45) := by
      unfold standB
      rw [List.drop_drop, hq, Bool.eq_iff_iff, beq_iff_eq, decide_eq_true_iff]
    rw [hq] at HO HST hnl
    rw [hhd] at HST
    have q0 : (0 : Int) ≤ (q : Int) := by omega
    have HQ := Lib.hid hq
    clear hhd hpos hq
    by_cases hd : (((bl s).drop p).drop n).head? = some 45
    · have hqs : q < s.size := by
        rcases Nat.lt_or_ge q s.size with h | h
        · exact h
        · rw [List.drop_drop, HQ.out] at hd
          exact absurd hd (head_end s q h 45)
      rw [decide_eq_true hd] at HST
      have HO2 := Lib.hid (fun W => read_any s (q + 1) (by omega) hs W)
      have hdr : ((bl s).drop p).drop (n + 1) = (bl s).drop (q + 1) := by rw [List.drop_drop, show p + (n + 1) = q + 1 by have := HQ.out; omega]
      rw [show ((q + 1 : Nat) : Int) = (q : Int) + 1 from rfl] at HO2
      cases ho2 : oneL ((bl s).drop (q + 1)) with
      | error er =>
        rw [readV_err ho2] at HO2
        have hne : (((er : Nat) : Int) != 0) = true := by simpa using oneL_err ho2
        have HV := Lib.hid (rowV_err (p := p) (rowR_bad2 ho hd (by rw [hdr]; exact ho2)))
        clear ho hd ho2 hdr
        go_enter Try.func82, Try.ntmps82
        go_wp2_with fail
        refine (HO.out _).mono ?_
        rintro e w1 ⟨rfl, rfl⟩
        go_wp2_with fail
        refine (HST.out _).mono ?_
        rintro e w1 ⟨rfl, rfl⟩
        go_wp2_with fail
        refine (HO2.out _).mono ?_
        rintro e w1 ⟨rfl, rfl⟩
        go_wp2_with (first | (refine wp_set rfl _ _ rfl w.heap.size (fun _ => false) zero4 rfl rfl hK rfl ?_; intro w5 hK5 hkp hko; have hB5 := hkp _ _ (Nat.le_refl _) hB; obtain ⟨c0, c1, c2, c3⟩ := hK5.cells) | fail)
        refine bodyPost_ret (v := .tuple #[.agg zero4, .int .i64 0, .int .i64 ((er : Nat) : Int)]) (by simp [results, Try.results82, go_sem, c0, c1, c2, c3, zero_set]) rfl ⟨by rw [HV.out], hB5⟩
      | ok y =>
        obtain ⟨b, m⟩ := y
        rw [readV_ok ho2] at HO2
        have nb := UInt8.toNat_lt b
        by_cases hab : b < a
        · have HV := Lib.hid (rowV_err (p := p) (rowR_less ho hd (by rw [hdr]; exact ho2) hab))
          have hlt : ((b.toNat : Nat) : Int) < ((a.toNat : Nat) : Int) := by have := UInt8.lt_iff_toNat_lt.1 hab; omega
          clear ho hd ho2 hdr hab
          go_enter Try.func82, Try.ntmps82
          go_wp2_with fail
          refine (HO.out _).mono ?_
          rintro e w1 ⟨rfl, rfl⟩
          go_wp2_with fail
          refine (HST.out _).mono ?_
          rintro e w1 ⟨rfl, rfl⟩
          go_wp2_with fail
          refine (HO2.out _).mono ?_
          rintro e w1 ⟨rfl, rfl⟩
          go_wp2_with (first | (refine wp_set rfl _ _ rfl w.heap.size (fun _ => false) zero4 rfl rfl hK rfl ?_; intro w5 hK5 hkp hko; have hB5 := hkp _ _ (Nat.le_refl _) hB; obtain ⟨c0, c1, c2, c3⟩ := hK5.cells) | fail)
          refine bodyPost_ret (v := .tuple #[.agg zero4, .int .i64 0, .int .i64 4]) (by simp [results, Try.results82, go_sem, c0, c1, c2, c3, zero_set]) rfl ⟨by rw [HV.out]; rfl, hB5⟩
        · have HV := Lib.hid (rowV_ok (p := p) (rowR_two ho hd (by rw [hdr]; exact ho2) hab))
          have hlt : ¬ ((b.toNat : Nat) : Int) < ((a.toNat : Nat) : Int) := by have h2 : ¬ b.toNat < a.toNat := fun h => hab (UInt8.lt_iff_toNat_lt.2 h); omega
          have HSP := Lib.hid (fun W => span_any a.toNat b.toNat (by omega) (by omega) W)
          rw [rowS_span] at HSP
          have HPN := Lib.hid (show ((p + (n + 1 + m) : Nat) : Int) = ((q + 1 + m : Nat) : Int) by have := HQ.out; omega)
          clear ho hd ho2 hdr hab
          go_enter Try.func82, Try.ntmps82
          go_wp2_with fail
          refine (HO.out _).mono ?_
          rintro e w1 ⟨rfl, rfl⟩
          go_wp2_with fail
          refine (HST.out _).mono ?_
          rintro e w1 ⟨rfl, rfl⟩
          go_wp2_with fail
          refine (HO2.out _).mono ?_
          rintro e w1 ⟨rfl, rfl⟩
          go_wp2_with fail
          refine (HSP.out _).mono ?_
          rintro e w2 ⟨rfl, hb2⟩
          have hB2 := btr hB hb2
          have hK2 := hK.below hb2 hK.lt
          go_wp2_with (first | (refine wp_set rfl _ _ rfl w.heap.size (rowS a b) zero4 rfl rfl hK2 rfl ?_; intro w5 hK5 hkp hko; have hB5 := hkp _ _ (Nat.le_refl _) hB2; obtain ⟨c0, c1, c2, c3⟩ := hK5.cells) | fail)
          refine bodyPost_ret (v := .tuple #[sv (rowS a b), .int .i64 ((q + 1 + m : Nat) : Int), .int .i64 0]) (by simp [results, Try.results82, go_sem, c0, c1, c2, c3]) rfl ⟨by rw [HV.out, HPN.out], hB5⟩
    · rw [decide_eq_false hd] at HST
      have HV := Lib.hid (rowV_ok (p := p) (rowR_one ho hd))
      have HPN := Lib.hid (show ((p + n : Nat) : Int) = (q : Int) by have := HQ.out; omega)
      have HOF := Lib.hid (fun W h => of_any (some ⟨w.heap.size + 1, 0, none⟩) 1 1 [a.toNat] rfl (by omega) (by intro z hz; rw [List.mem_singleton] at hz; omega) W (fun _ => ⟨_, _, rfl, h⟩))
      rw [rowS_one] at HOF
      clear ho hd
      go_enter Try.func82, Try.ntmps82
      go_wp2_with fail
      refine (HO.out _).mono ?_
      rintro e w1 ⟨rfl, rfl⟩
      go_wp2_with fail
      refine (HST.out _).mono ?_
      rintro e w1 ⟨rfl, rfl⟩
      go_wp2_with fail
      refine (HOF.out _ (fun i hi => by obtain rfl : i = 0 := by omega
                                        have hcl := (Blk.new (w.alloc (.cells zero4 24)) 5 #[.int .u8 ((a.toNat : Nat) : Int)]).cell 0
                                        rw [World.size_alloc] at hcl
                                        exact hcl)).mono ?_
      rintro e w2 ⟨rfl, hb2⟩
      have hB2 := btr (bal hB _) hb2
      have hK2 := (hK.alloc _).below hb2 (hK.alloc _).lt
      go_wp2_with (first | (refine wp_set rfl _ _ rfl w.heap.size (rowS a a) zero4 rfl rfl hK2 rfl ?_; intro w5 hK5 hkp hko; have hB5 := hkp _ _ (Nat.le_refl _) hB2; obtain ⟨c0, c1, c2, c3⟩ := hK5.cells) | fail)
      refine bodyPost_ret (v := .tuple #[sv (rowS a a), .int .i64 (q : Int), .int .i64 0]) (by simp [results, Try.results82, go_sem, c0, c1, c2, c3]) rfl ⟨by rw [HV.out, HPN.out], hB5⟩
end Go.Proofs.Ytbiempopfmpohaa
