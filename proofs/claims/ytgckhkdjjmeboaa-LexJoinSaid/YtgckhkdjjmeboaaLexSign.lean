/-
  The lexer reads a sign. Conditions: the place lies within the text, and neither a name, a number, a text nor a set begins there.
-/
import Derived.Test.YtgckhkdjjmeboaaLexWords
namespace Go.Proofs.Ytgckhkdjjmeboaa
open Go.RowKit

theorem encode_byte (c : UInt8) (h : c.toNat < 128) : Utf8.encode ((c.toNat : Nat) : Int) = mkS [c] := by
  refine all_bytes (p := fun c => c.toNat < 128 → Utf8.encode ((c.toNat : Nat) : Int) = mkS [c]) ?_ c h
  decide +kernel
abbrev sgT : ByteArray := { data := #[61, 59, 40, 41, 124, 38, 33, 42, 43, 63, 58, 46, 47, 44, 123, 125, 126, 62] }
theorem sgT_size : sgT.size = 18 := rfl
theorem sgT_low : ∀ k, (h : k < 18) → (sgT[k]'h).toNat < 128 := by decide +kernel
theorem sgT_none (c : UInt8) (h : ∀ k, (hk : k < 18) → sgT[k]'hk ≠ c) : signB c = false := by
  rw [← sign_is]
  cases hc : (bl { data := #[61, 59, 40, 41, 124, 38, 33, 42, 43, 63, 58, 46, 47, 44, 123, 125, 126, 62] }).contains c with
  | false => rfl
  | true =>
    obtain ⟨k, hk, e⟩ := List.getElem_of_mem (List.contains_iff_mem.1 hc)
    exact absurd e (h k hk)
theorem sgT_some (k : Nat) (hk : k < 18) : signB (sgT[k]'hk) = true := by
  revert k
  decide +kernel
theorem arrow_is (c : UInt8) (r : List UInt8) : Lib.hasPrefix (c :: r) (bl { data := #[45, 62] }) = (decide (c = 45) && decide (r.head? = some 62)) := by
  show List.isPrefixOf [45, 62] (c :: r) = _
  rw [List.isPrefixOf_cons_cons]
  have e1 : ((45 : UInt8) == c) = decide (c = 45) := by rw [Bool.eq_iff_iff, beq_iff_eq, decide_eq_true_iff]; exact eq_comm
  rw [e1]
  congr 1
  cases r with
  | nil => rfl
  | cons d r =>
    rw [List.isPrefixOf_cons_cons]
    have e2 : ((62 : UInt8) == d) = decide (d = 62) := by rw [Bool.eq_iff_iff, beq_iff_eq, decide_eq_true_iff]; exact eq_comm
    rw [e2, List.isPrefixOf_nil_left, Bool.and_true, List.head?_cons, Bool.eq_iff_iff, decide_eq_true_iff, decide_eq_true_iff]
    exact ⟨congrArg some, fun h => Option.some.inj h⟩

set_option maxRecDepth 100000 in
set_option maxHeartbeats 1000000 in
theorem sign_any (s : ByteArray) (p : Nat) (hp : p < s.size) (hs : s.size ≤ 140737488355328) (h1 : s[p]'hp ≠ 34) (h2 : s[p]'hp ≠ 91) (h3 : letterB (s[p]'hp) = false) (h4 : digitB (s[p]'hp) = false) (w : World) :
    Calls Try.prog 21 #[.string s, .int .i64 (p : Int)] w fun e w' => e = .returned (partV ((bl s).drop p) p) ∧ Below w.heap.size w w' := by
  have p0 : (0 : Int) ≤ (p : Int) := by omega
  have p1 : (p : Int) ≤ (s.size : Int) := by omega
  have hlti : (p : Int) < (s.size : Int) := by omega
  have nc := UInt8.toNat_lt (s[p]'hp)
  have HT := Lib.hid (show tokL ((bl s).drop p) = _ from (congrArg tokL (drop_byte s p hp)).trans (tokL_cons _ _ h1 h2 h3 h4))
  have HP := Lib.hid (fun W => hpre_any (s.extract p s.size) { data := #[45, 62] } W)
  rw [show Lib.hasPrefix (bl (s.extract p s.size)) (bl { data := #[45, 62] }) = (decide (s[p]'hp = 45) && decide (((bl s).drop (p + 1)).head? = some 62)) by
    rw [extract_end s p (by omega), bl_mkS, drop_byte s p hp]; exact arrow_is _ _] at HP
  clear h1 h2 h3 h4
  cases hab : (decide (s[p]'hp = 45) && decide (((bl s).drop (p + 1)).head? = some 62)) with
  | true =>
    rw [hab] at HP
    have HV := Lib.hid (partV_ok (p := p) (HT.out.trans (if_pos hab)))
    have hK := Blk.new w 30 (tokCells Tk.none 0)
    have hB := bal0 w (.cells (tokCells Tk.none 0) 30)
    rw [none_cells] at hK hB
    clear hab
    go_enter Try.func21, Try.ntmps21
    go_wp2_with fail
    refine (HP.out _).mono ?_
    rintro e w1 ⟨rfl, rfl⟩
    rw [← none_cells] at hK
    go_wp2_with (first | (refine wp_tok rfl _ _ rfl w.heap.size { Tk.none with kind := 4, text := [45, 62] } 0 (tokCells Tk.none 0) rfl (by rw [sign_cells]; rfl) hK rfl ?_; intro w5 hK5 hkp; have hB5 := hkp _ _ (Nat.le_refl _) hB; obtain ⟨c0, c1, c2, c3, c4, c5, c6, c7⟩ := tok8 hK5) | fail)
    refine bodyPost_ret (v := .tuple #[tokV { Tk.none with kind := 4, text := [45, 62] } 0, .int .i64 ((p + 2 : Nat) : Int), .int .i64 0]) (by simp [results, Try.results21, go_sem, c0, c1, c2, c3, c4, c5, c6, c7]) rfl ⟨by rw [HV.out], hB5⟩
  | false =>
    rw [hab] at HP
    have HT2 := Lib.hid (HT.out.trans (if_neg (by rw [hab]; decide)))
    clear hab
    have hK := Blk.new w 30 (tokCells Tk.none 0)
    have hB := bal0 w (.cells (tokCells Tk.none 0) 30)
    rw [none_cells] at hK hB
    go_enter Try.func21, Try.ntmps21
    go_wp2_with fail
    refine (HP.out _).mono ?_
    rintro e w1 ⟨rfl, hw1⟩
    rw [← hw1, ← none_cells] at hK
    rw [← hw1] at hB
    clear hw1
    go_wp2
    go_loopw [8] (fun _ wr => ∃ k : Nat, k ≤ 18 ∧ wr = w1.iter sgT k ∧ Hid (∀ j, (h : j < 18) → j < k → sgT[j]'h ≠ s[p]'hp))
      (fun _ wr => 18 - wr.iterPos w1.heap.size)
    case atStart => exact ⟨0, by omega, rfl, Lib.hid (fun j _ h => absurd h (Nat.not_lt_zero _))⟩
    case round =>
      obtain ⟨k, hk, rfl, HJ⟩ := hrel
      by_cases hlt : k < 18
      · have ha := sgT_low k hlt
        have hnx : ∀ ty, (Instr.next (.pointer (some ⟨w1.heap.size, 0, none⟩)) true ty).run Try.prog (w1.iter sgT k) = _ := fun ty => run_next_ascii w1 sgT k ty hlt ha
        have HE := Lib.hid (encode_byte (sgT[k]'hlt) ha)
        have hK6 : Blk (w1.iter sgT (k + 1)) w.heap.size 30 (tokCells Tk.none 0) := hK.alloc _
        have hB6 : Below w.heap.size w (w1.iter sgT (k + 1)) := bal hB _
        have HSG := Lib.hid (sgT_some k hlt)
        obtain ⟨x, hx⟩ : ∃ x, sgT[k]'hlt = x := ⟨_, rfl⟩
        rw [hx] at hnx HE ha HSG
        have HX := Lib.hid hx
        clear hx
        by_cases he : x = s[p]'hp
        · have d1 : (((x.toNat : Nat) : Int) == (((s[p]'hp).toNat : Nat) : Int)) = true := by rw [he]; simp
          have HV := Lib.hid (partV_ok (p := p) (HT2.out.trans (if_pos (by rw [← he]; exact HSG.out))))
          have HTX := Lib.hid (show mkS [s[p]'hp] = Utf8.encode ((x.toNat : Nat) : Int) by rw [HE.out, he])
          clear he
          go_wp2_with (first | (refine wp_tok rfl _ _ rfl w.heap.size { Tk.none with kind := 4, text := [s[p]'hp] } 0 (tokCells Tk.none 0) rfl (by rw [sign_cells, HTX.out]; rfl) hK6 rfl ?_; intro w5 hK5 hkp; have hB5 := hkp _ _ (Nat.le_refl _) hB6; obtain ⟨c0, c1, c2, c3, c4, c5, c6, c7⟩ := tok8 hK5) | fail)
          refine bodyPost_ret (v := .tuple #[tokV { Tk.none with kind := 4, text := [s[p]'hp] } 0, .int .i64 ((p + 1 : Nat) : Int), .int .i64 0]) (by simp [results, Try.results21, go_sem, c0, c1, c2, c3, c4, c5, c6, c7]) rfl ⟨by rw [HV.out], hB5⟩
        · have hne : x.toNat ≠ (s[p]'hp).toNat := fun e => he (UInt8.toNat_inj.1 e)
          have d1 : (((x.toNat : Nat) : Int) == (((s[p]'hp).toNat : Nat) : Int)) = false := by simp; omega
          have HNX := Lib.hid (show ∀ j, (h : j < 18) → j < k + 1 → sgT[j]'h ≠ s[p]'hp by
            intro j h hj
            rcases Nat.lt_or_ge j k with h' | h'
            · exact HJ.out j h h'
            · obtain rfl : j = k := by omega
              rw [HX.out]; exact he)
          clear he hne
          go_wp2
          go_roundw
          case rel => exact ⟨k + 1, by omega, rfl, HNX⟩
          case measure => simp; omega
      · obtain rfl : k = 18 := by omega
        have hnx : ∀ ty, (Instr.next (.pointer (some ⟨w1.heap.size, 0, none⟩)) true ty).run Try.prog (w1.iter sgT 18) = _ := fun ty => run_next_end w1 sgT 18 ty hlt
        have HV := Lib.hid (partV_err (p := p) (HT2.out.trans (if_neg (by rw [sgT_none _ (fun k hk => HJ.out k hk hk)]; decide))))
        have hK6 : Blk (w1.iter sgT 18) w.heap.size 30 (tokCells Tk.none 0) := hK.alloc _
        have hB6 : Below w.heap.size w (w1.iter sgT 18) := bal hB _
        go_wp2_with (first | (refine wp_tok rfl _ _ rfl w.heap.size Tk.none 0 (tokCells Tk.none 0) rfl (by rw [none_cells]; rfl) hK6 rfl ?_; intro w5 hK5 hkp; have hB5 := hkp _ _ (Nat.le_refl _) hB6; obtain ⟨c0, c1, c2, c3, c4, c5, c6, c7⟩ := tok8 hK5) | fail)
        refine bodyPost_ret (v := .tuple #[tokV Tk.none 0, .int .i64 0, .int .i64 4]) (by simp [results, Try.results21, go_sem, c0, c1, c2, c3, c4, c5, c6, c7]) rfl ⟨by rw [HV.out]; rfl, hB5⟩
end Go.Proofs.Ytgckhkdjjmeboaa
