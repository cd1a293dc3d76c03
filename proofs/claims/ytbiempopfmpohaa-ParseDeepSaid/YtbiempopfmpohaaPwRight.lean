/-
  parse.Check, as it has landed, finds nothing in what is right and at most 200 deep. Conditions: those that each names.
-/
import Derived.Test.YtbiempopfmpohaaPwEnd
namespace Go.Proofs.Ytbiempopfmpohaa
open Go.RowKit

set_option maxRecDepth 100000 in
set_option maxHeartbeats 2000000 in
theorem isname_any (T : List UInt8) (hn : nameB T = true) (w : World) :
    Calls Try.prog 31 #[.string (mkS T)] w fun e w' => e = .returned (.bool true) ∧ Below w.heap.size w w' := by
  obtain ⟨h1, h2, h3⟩ := tok_of_name hn
  have hlen : T.length ≤ 31 := by
    unfold nameB at hn
    simp only [Bool.and_eq_true, decide_eq_true_iff] at hn
    exact hn.1.2
  have hsz : (mkS T).size = T.length := by rw [← bl_length, bl_mkS]
  have hf : frF { Tk.none with kind := 1, text := T } = (1, []) := by
    unfold frF
    rw [if_neg]
    rintro (h | ⟨_, h⟩)
    · cases h
    · rw [h3] at h; cases h
  obtain ⟨tk, htk⟩ : ∃ tk : Tk, tk = { Tk.none with kind := 1, text := T } := ⟨_, rfl⟩
  rw [← htk] at hf h2
  have hx : tk.text = T := by rw [htk]
  have HN := Lib.hid (fun W => nextl_any (mkS T) 0 (Nat.zero_le _) (by omega) W)
  have hv : nextV (bl (mkS T)) 0 = .tuple #[tokV tk 0, .int .i64 ((T.length : Nat) : Int), .int .i64 0] := by
    rw [bl_mkS]
    unfold nextV
    simp only [List.drop_zero, h1, Nat.add_zero, h2, Nat.zero_add]
    rfl
  rw [hv] at HN
  have HF := Lib.hid (fun W => show Calls Try.prog 48 #[tokV tk 0] W fun e w' => e = .returned (.agg #[.int .i64 1, .string { data := #[] }]) ∧ Below W.heap.size W w' from by
    have := pfrontof_any tk 0 W
    rw [hf] at this
    exact this)
  have HK := Lib.hid (fun W => pkind_any 1 W)
  have he : ∀ W : World, (Op.equalIn 10000 72 (.agg #[.int .i64 1, .string { data := #[] }]) (.agg #[.int .i64 1, .string { data := #[] }])).run Try.prog W = .ok true W := fun W => by
    have := eq_front 1 1 { data := #[] } { data := #[] } W
    simpa using this
  rw [← hx] at HN ⊢
  have ht : ((mkS tk.text).toList == (mkS tk.text).toList) = true := beq_self_eq_true _
  have HN := Lib.hid (fun W => show Calls Try.prog 40 #[.string (mkS tk.text), .int .i64 0] W fun e w' => e = .returned (.tuple #[tokV tk 0, .int .i64 ((tk.text.length : Nat) : Int), .int .i64 0]) ∧ Below W.heap.size W w' from HN.out W)
  clear hv hf hn h1 h2 h3 htk hsz hx hlen
  generalize ((tk.text.length : Nat) : Int) = q at *
  go_enter Try.func31, Try.ntmps31
  go_wp2_with fail
  refine (HN.out _).mono ?_
  rintro e w1 ⟨rfl, hb1⟩
  have hE := Blk.new w1 65 zr8
  have hB1 := bal hb1 (.cells zr8 65)
  have hsz1 := hb1.size
  go_wp2_with (first | (refine wp_put rfl _ _ _ rfl w1.heap.size _ (tokCells tk 0) rfl rfl hE (by rw [size_tok]; rfl) rfl (by simp [Value.oneCell']) ?_; intro w5 hE5 hb5; have hB5 := hB1.trans (hb5.low (n := w.heap.size) (by omega) hB1.size); obtain ⟨d0, d1, d2, d3, d4, d5, d6, d7⟩ := tok8 hE5) | fail)
  refine (HF.out _).mono ?_
  rintro e w6 ⟨rfl, hb6⟩
  have hE6 := hE5.below hb6 hE5.lt
  have hB6 := btr hB5 hb6
  clear d0 d1 d2 d3 d4 d5 d6 d7
  go_wp2_with fail
  refine (HK.out _).mono ?_
  rintro e w7 ⟨rfl, hb7⟩
  have hE7 := hE6.below hb7 hE6.lt
  have hB7 := btr hB6 hb7
  obtain ⟨d0, d1, d2, d3, d4, d5, d6, d7⟩ := tok8 hE7
  go_wp2
  go_ret
  exact ⟨rfl, hB7⟩

set_option maxRecDepth 100000 in
set_option maxHeartbeats 2000000 in
theorem arer_any (l : List Rx) (ao : Option Addr) (cap : Nat) (w : World) (h1 : l.length ≤ 4398046511104) (h2 : l.length ≤ cap) (HA : ∀ i (hi : i < l.length), ∃ g off, ao = some ⟨g, off, none⟩ ∧ g < w.heap.size ∧ ∃ po pc, R9At w g (off + i * 9) l[i] po pc ∧ ReAt w w.heap.size l[i] po pc)
    (IH : ∀ p ∈ l, ∀ (ao : Option Addr) (cap : Nat) (w : World), ReAt w w.heap.size p ao cap → Calls Try.prog 16 #[rxV p ao cap] w fun e w' => e = .returned (.bool true) ∧ Below w.heap.size w w') :
    Calls Try.prog 34 #[.slice ao l.length cap] w fun e w' => e = .returned (.bool true) ∧ Below w.heap.size w w' := by
  have HI := Lib.hid IH
  have HA := Lib.hid HA
  clear IH
  obtain ⟨len, hlen⟩ : ∃ len, l.length = len := ⟨_, rfl⟩
  rw [hlen] at h1 h2 ⊢
  have HL := Lib.hid hlen
  go_enter Try.func34, Try.ntmps34
  go_wp2
  go_loopw [7] (fun i wr => ∃ j : Nat, j ≤ len ∧ i = .int .i64 j ∧ Below w.heap.size w wr)
    (fun i _ => len - (intOf i).toNat)
  case atStart => exact ⟨0, Nat.zero_le _, rfl, Below.refl _ _⟩
  case round =>
    obtain ⟨j, hj, rfl, hB⟩ := hrel
    by_cases hlt : j < len
    · obtain ⟨g, off, rfl, hg, po, pc, r9, rp⟩ := HA.out j (by rw [HL.out]; exact hlt)
      have hm := HI.out l[j] (List.getElem_mem (by rw [HL.out]; exact hlt))
      generalize l[j] = x at *
      have r9' := r9.below hB hg
      have i0 : (0 : Int) ≤ (j : Int) := by omega
      have i1 : (j : Int) < (len : Int) := by omega
      have hE := Blk.new wr 27 zr9
      have hBa := bal hB (.cells zr9 27)
      have hwsz : w.heap.size ≤ wr.heap.size := hB.size
      go_wp2_with (first | (refine wp_ld9 rfl _ rfl g (off + j * 9) x po pc rfl r9' ?_) | (refine wp_put rfl _ _ _ rfl wr.heap.size _ (rxCells x po pc) rfl rfl hE (by rw [size_re]; rfl) rfl (by simp [Value.oneCell']) ?_; intro w5 hE5 hb5; have hB5 := hBa.trans (hb5.low (n := w.heap.size) (by omega) hBa.size)) | (refine wp_get rfl _ _ rfl wr.heap.size (rxCells x po pc) _ rfl hE5 Try.underlying27 rfl (by rw [size_re]; rfl) ?_) | fail)
      refine (hm po pc w5 (rp.go hB5)).mono ?_
      rintro e w6 ⟨rfl, hb6⟩
      have hB6 := btr hB5 hb6
      clear hm rp r9 r9' hE hBa hB5 hb6 hE5 hb5 hB
      go_wp2
      go_roundw
      case rel => exact ⟨j + 1, by omega, by go_num, hB6⟩
      case measure => simp [intOf]; omega
    · obtain rfl : j = len := by omega
      go_wp2
      go_ret
      exact ⟨rfl, hB⟩
set_option maxRecDepth 100000 in
set_option maxHeartbeats 2000000 in
theorem right_text (T : List UInt8) (ao : Option Addr) (cap : Nat) (w : World) (hT : T.length ≤ 256) (HE : ∀ W so sc, Calls Try.prog 33 #[.agg #[.int .i64 0, .string { data := #[] }, .int .u64 0, .int .u64 0, .int .u64 0, .int .u64 0, .slice so 0 sc, .int .i64 0, .int .i64 0]] W fun e w' => e = .returned (.bool true) ∧ Below W.heap.size W w')
    (HR : ∀ W, Below w.heap.size w W → Calls Try.prog 34 #[.slice ao 0 cap] W fun e w' => e = .returned (.bool true) ∧ Below W.heap.size W w') :
    Calls Try.prog 16 #[.agg #[.int .i64 1, .string (mkS T), .int .u64 0, .int .u64 0, .int .u64 0, .int .u64 0, .slice ao 0 cap, .int .i64 0, .int .i64 0]] w fun e w' => e = .returned (.bool true) ∧ Below w.heap.size w w' := by
  have HE := Lib.hid HE
  have HR := Lib.hid HR
  have h256 : ((T.length : Nat) : Int) ≤ 256 := by omega
  have hB0 := bal (bal0 w (.cells #[.int .i64 1, .string (mkS T), .int .u64 0, .int .u64 0, .int .u64 0, .int .u64 0, .slice ao 0 cap, .int .i64 0, .int .i64 0] 27)) (.cells #[.int .i64 0, .string { data := #[] }, .int .u64 0, .int .u64 0, .int .u64 0, .int .u64 0, .slice ao 0 cap, .int .i64 0, .int .i64 0] 27)
  have h1 := (Blk.new w 27 #[.int .i64 1, .string (mkS T), .int .u64 0, .int .u64 0, .int .u64 0, .int .u64 0, .slice ao 0 cap, .int .i64 0, .int .i64 0]).alloc (.cells #[.int .i64 0, .string { data := #[] }, .int .u64 0, .int .u64 0, .int .u64 0, .int .u64 0, .slice ao 0 cap, .int .i64 0, .int .i64 0] 27)
  go_enter Try.func16, Try.ntmps16
  go_wp2_with fail
  refine (HE.out _ _ _).mono ?_
  rintro e w2 ⟨rfl, hb2⟩
  have h12 := h1.below hb2 h1.lt
  have hB2 := btr hB0 hb2
  have c3 := h12.cell 6
  simp only [List.getElem?_toArray, List.getElem?_cons_zero, List.getElem?_cons_succ] at c3
  go_wp2_with fail
  refine (HR.out _ hB2).mono ?_
  rintro e w3 ⟨rfl, hb3⟩
  have hB3 := btr hB2 hb3
  go_wp2
  go_ret
  exact ⟨rfl, hB3⟩
set_option maxRecDepth 100000 in
set_option maxHeartbeats 2000000 in
theorem right_set (s0 s1 s2 s3 : Int) (ao : Option Addr) (cap : Nat) (w : World) (HE : ∀ W so sc, Calls Try.prog 33 #[.agg #[.int .i64 0, .string { data := #[] }, .int .u64 0, .int .u64 0, .int .u64 0, .int .u64 0, .slice so 0 sc, .int .i64 0, .int .i64 0]] W fun e w' => e = .returned (.bool true) ∧ Below W.heap.size W w')
    (HR : ∀ W, Below w.heap.size w W → Calls Try.prog 34 #[.slice ao 0 cap] W fun e w' => e = .returned (.bool true) ∧ Below W.heap.size W w') :
    Calls Try.prog 16 #[.agg #[.int .i64 2, .string { data := #[] }, .int .u64 s0, .int .u64 s1, .int .u64 s2, .int .u64 s3, .slice ao 0 cap, .int .i64 0, .int .i64 0]] w fun e w' => e = .returned (.bool true) ∧ Below w.heap.size w w' := by
  have HE := Lib.hid HE
  have HR := Lib.hid HR
  skip
  have hB0 := bal (bal0 w (.cells #[.int .i64 2, .string { data := #[] }, .int .u64 s0, .int .u64 s1, .int .u64 s2, .int .u64 s3, .slice ao 0 cap, .int .i64 0, .int .i64 0] 27)) (.cells #[.int .i64 0, .string { data := #[] }, .int .u64 0, .int .u64 0, .int .u64 0, .int .u64 0, .slice ao 0 cap, .int .i64 0, .int .i64 0] 27)
  have h1 := (Blk.new w 27 #[.int .i64 2, .string { data := #[] }, .int .u64 s0, .int .u64 s1, .int .u64 s2, .int .u64 s3, .slice ao 0 cap, .int .i64 0, .int .i64 0]).alloc (.cells #[.int .i64 0, .string { data := #[] }, .int .u64 0, .int .u64 0, .int .u64 0, .int .u64 0, .slice ao 0 cap, .int .i64 0, .int .i64 0] 27)
  go_enter Try.func16, Try.ntmps16
  go_wp2_with fail
  refine (HE.out _ _ _).mono ?_
  rintro e w2 ⟨rfl, hb2⟩
  have h12 := h1.below hb2 h1.lt
  have hB2 := btr hB0 hb2
  have c3 := h12.cell 6
  simp only [List.getElem?_toArray, List.getElem?_cons_zero, List.getElem?_cons_succ] at c3
  go_wp2_with fail
  refine (HR.out _ hB2).mono ?_
  rintro e w3 ⟨rfl, hb3⟩
  have hB3 := btr hB2 hb3
  go_wp2
  go_ret
  exact ⟨rfl, hB3⟩
set_option maxRecDepth 100000 in
set_option maxHeartbeats 2000000 in
theorem right_name (T : List UInt8) (ao : Option Addr) (cap : Nat) (w : World) (hT : nameB T = true) (HE : ∀ W so sc, Calls Try.prog 33 #[.agg #[.int .i64 0, .string { data := #[] }, .int .u64 0, .int .u64 0, .int .u64 0, .int .u64 0, .slice so 0 sc, .int .i64 0, .int .i64 0]] W fun e w' => e = .returned (.bool true) ∧ Below W.heap.size W w')
    (HR : ∀ W, Below w.heap.size w W → Calls Try.prog 34 #[.slice ao 0 cap] W fun e w' => e = .returned (.bool true) ∧ Below W.heap.size W w') :
    Calls Try.prog 16 #[.agg #[.int .i64 3, .string (mkS T), .int .u64 0, .int .u64 0, .int .u64 0, .int .u64 0, .slice ao 0 cap, .int .i64 0, .int .i64 0]] w fun e w' => e = .returned (.bool true) ∧ Below w.heap.size w w' := by
  have HE := Lib.hid HE
  have HR := Lib.hid HR
  have HN := Lib.hid (fun W => isname_any T hT W)
  have hB0 := bal (bal0 w (.cells #[.int .i64 3, .string (mkS T), .int .u64 0, .int .u64 0, .int .u64 0, .int .u64 0, .slice ao 0 cap, .int .i64 0, .int .i64 0] 27)) (.cells #[.int .i64 0, .string { data := #[] }, .int .u64 0, .int .u64 0, .int .u64 0, .int .u64 0, .slice ao 0 cap, .int .i64 0, .int .i64 0] 27)
  have h1 := (Blk.new w 27 #[.int .i64 3, .string (mkS T), .int .u64 0, .int .u64 0, .int .u64 0, .int .u64 0, .slice ao 0 cap, .int .i64 0, .int .i64 0]).alloc (.cells #[.int .i64 0, .string { data := #[] }, .int .u64 0, .int .u64 0, .int .u64 0, .int .u64 0, .slice ao 0 cap, .int .i64 0, .int .i64 0] 27)
  go_enter Try.func16, Try.ntmps16
  go_wp2_with fail
  refine (HN.out _).mono ?_
  rintro e wn ⟨rfl, hbn⟩
  have h1 := h1.below hbn h1.lt
  have hu := (Blk.new (w.alloc (.cells #[.int .i64 3, .string (mkS T), .int .u64 0, .int .u64 0, .int .u64 0, .int .u64 0, .slice ao 0 cap, .int .i64 0, .int .i64 0] 27)) 27 #[.int .i64 0, .string { data := #[] }, .int .u64 0, .int .u64 0, .int .u64 0, .int .u64 0, .slice ao 0 cap, .int .i64 0, .int .i64 0]).below hbn (Blk.new _ _ _).lt
  rw [World.size_alloc] at hu
  have hB0 := btr hB0 hbn
  obtain ⟨⟨d0, d1, d2, d3, d4, d5, d6, d7, d8⟩, -⟩ : (_ ∧ _ ∧ _ ∧ _ ∧ _ ∧ _ ∧ _ ∧ _ ∧ _) ∧ True := ⟨⟨hu.cell 0, hu.cell 1, hu.cell 2, hu.cell 3, hu.cell 4, hu.cell 5, hu.cell 6, hu.cell 7, hu.cell 8⟩, trivial⟩
  simp only [List.getElem?_toArray, List.getElem?_cons_zero, List.getElem?_cons_succ] at d0 d1 d2 d3 d4 d5 d6 d7 d8
  go_wp2_with fail
  refine (HE.out _ _ _).mono ?_
  rintro e w2 ⟨rfl, hb2⟩
  have h12 := h1.below hb2 h1.lt
  have hB2 := btr hB0 hb2
  have c3 := h12.cell 6
  simp only [List.getElem?_toArray, List.getElem?_cons_zero, List.getElem?_cons_succ] at c3
  go_wp2_with fail
  refine (HR.out _ hB2).mono ?_
  rintro e w3 ⟨rfl, hb3⟩
  have hB3 := btr hB2 hb3
  go_wp2
  go_ret
  exact ⟨rfl, hB3⟩
set_option maxRecDepth 100000 in
set_option maxHeartbeats 2000000 in
theorem right_cat (n : Nat) (ao : Option Addr) (cap : Nat) (w : World) (hn : 2 ≤ n) (HE : ∀ W so sc, Calls Try.prog 33 #[.agg #[.int .i64 0, .string { data := #[] }, .int .u64 0, .int .u64 0, .int .u64 0, .int .u64 0, .slice so 0 sc, .int .i64 0, .int .i64 0]] W fun e w' => e = .returned (.bool true) ∧ Below W.heap.size W w')
    (HR : ∀ W, Below w.heap.size w W → Calls Try.prog 34 #[.slice ao n cap] W fun e w' => e = .returned (.bool true) ∧ Below W.heap.size W w') :
    Calls Try.prog 16 #[.agg #[.int .i64 4, .string { data := #[] }, .int .u64 0, .int .u64 0, .int .u64 0, .int .u64 0, .slice ao n cap, .int .i64 0, .int .i64 0]] w fun e w' => e = .returned (.bool true) ∧ Below w.heap.size w w' := by
  have HE := Lib.hid HE
  have HR := Lib.hid HR
  have hn2 : (2 : Int) ≤ ((n : Nat) : Int) := by omega
  have hB0 := bal (bal0 w (.cells #[.int .i64 4, .string { data := #[] }, .int .u64 0, .int .u64 0, .int .u64 0, .int .u64 0, .slice ao n cap, .int .i64 0, .int .i64 0] 27)) (.cells #[.int .i64 0, .string { data := #[] }, .int .u64 0, .int .u64 0, .int .u64 0, .int .u64 0, .slice none 0 0, .int .i64 0, .int .i64 0] 27)
  have h1 := (Blk.new w 27 #[.int .i64 4, .string { data := #[] }, .int .u64 0, .int .u64 0, .int .u64 0, .int .u64 0, .slice ao n cap, .int .i64 0, .int .i64 0]).alloc (.cells #[.int .i64 0, .string { data := #[] }, .int .u64 0, .int .u64 0, .int .u64 0, .int .u64 0, .slice none 0 0, .int .i64 0, .int .i64 0] 27)
  go_enter Try.func16, Try.ntmps16
  go_wp2_with fail
  refine (HE.out _ _ _).mono ?_
  rintro e w2 ⟨rfl, hb2⟩
  have h12 := h1.below hb2 h1.lt
  have hB2 := btr hB0 hb2
  have c3 := h12.cell 6
  simp only [List.getElem?_toArray, List.getElem?_cons_zero, List.getElem?_cons_succ] at c3
  go_wp2_with fail
  refine (HR.out _ hB2).mono ?_
  rintro e w3 ⟨rfl, hb3⟩
  have hB3 := btr hB2 hb3
  go_wp2
  go_ret
  exact ⟨rfl, hB3⟩
set_option maxRecDepth 100000 in
set_option maxHeartbeats 2000000 in
theorem right_alt (n : Nat) (ao : Option Addr) (cap : Nat) (w : World) (hn : 2 ≤ n) (HE : ∀ W so sc, Calls Try.prog 33 #[.agg #[.int .i64 0, .string { data := #[] }, .int .u64 0, .int .u64 0, .int .u64 0, .int .u64 0, .slice so 0 sc, .int .i64 0, .int .i64 0]] W fun e w' => e = .returned (.bool true) ∧ Below W.heap.size W w')
    (HR : ∀ W, Below w.heap.size w W → Calls Try.prog 34 #[.slice ao n cap] W fun e w' => e = .returned (.bool true) ∧ Below W.heap.size W w') :
    Calls Try.prog 16 #[.agg #[.int .i64 5, .string { data := #[] }, .int .u64 0, .int .u64 0, .int .u64 0, .int .u64 0, .slice ao n cap, .int .i64 0, .int .i64 0]] w fun e w' => e = .returned (.bool true) ∧ Below w.heap.size w w' := by
  have HE := Lib.hid HE
  have HR := Lib.hid HR
  have hn2 : (2 : Int) ≤ ((n : Nat) : Int) := by omega
  have hB0 := bal (bal0 w (.cells #[.int .i64 5, .string { data := #[] }, .int .u64 0, .int .u64 0, .int .u64 0, .int .u64 0, .slice ao n cap, .int .i64 0, .int .i64 0] 27)) (.cells #[.int .i64 0, .string { data := #[] }, .int .u64 0, .int .u64 0, .int .u64 0, .int .u64 0, .slice none 0 0, .int .i64 0, .int .i64 0] 27)
  have h1 := (Blk.new w 27 #[.int .i64 5, .string { data := #[] }, .int .u64 0, .int .u64 0, .int .u64 0, .int .u64 0, .slice ao n cap, .int .i64 0, .int .i64 0]).alloc (.cells #[.int .i64 0, .string { data := #[] }, .int .u64 0, .int .u64 0, .int .u64 0, .int .u64 0, .slice none 0 0, .int .i64 0, .int .i64 0] 27)
  go_enter Try.func16, Try.ntmps16
  go_wp2_with fail
  refine (HE.out _ _ _).mono ?_
  rintro e w2 ⟨rfl, hb2⟩
  have h12 := h1.below hb2 h1.lt
  have hB2 := btr hB0 hb2
  have c3 := h12.cell 6
  simp only [List.getElem?_toArray, List.getElem?_cons_zero, List.getElem?_cons_succ] at c3
  go_wp2_with fail
  refine (HR.out _ hB2).mono ?_
  rintro e w3 ⟨rfl, hb3⟩
  have hB3 := btr hB2 hb3
  go_wp2
  go_ret
  exact ⟨rfl, hB3⟩
set_option maxRecDepth 100000 in
set_option maxHeartbeats 2000000 in
theorem right_and (n : Nat) (ao : Option Addr) (cap : Nat) (w : World) (hn : 2 ≤ n) (HE : ∀ W so sc, Calls Try.prog 33 #[.agg #[.int .i64 0, .string { data := #[] }, .int .u64 0, .int .u64 0, .int .u64 0, .int .u64 0, .slice so 0 sc, .int .i64 0, .int .i64 0]] W fun e w' => e = .returned (.bool true) ∧ Below W.heap.size W w')
    (HR : ∀ W, Below w.heap.size w W → Calls Try.prog 34 #[.slice ao n cap] W fun e w' => e = .returned (.bool true) ∧ Below W.heap.size W w') :
    Calls Try.prog 16 #[.agg #[.int .i64 6, .string { data := #[] }, .int .u64 0, .int .u64 0, .int .u64 0, .int .u64 0, .slice ao n cap, .int .i64 0, .int .i64 0]] w fun e w' => e = .returned (.bool true) ∧ Below w.heap.size w w' := by
  have HE := Lib.hid HE
  have HR := Lib.hid HR
  have hn2 : (2 : Int) ≤ ((n : Nat) : Int) := by omega
  have hB0 := bal (bal0 w (.cells #[.int .i64 6, .string { data := #[] }, .int .u64 0, .int .u64 0, .int .u64 0, .int .u64 0, .slice ao n cap, .int .i64 0, .int .i64 0] 27)) (.cells #[.int .i64 0, .string { data := #[] }, .int .u64 0, .int .u64 0, .int .u64 0, .int .u64 0, .slice none 0 0, .int .i64 0, .int .i64 0] 27)
  have h1 := (Blk.new w 27 #[.int .i64 6, .string { data := #[] }, .int .u64 0, .int .u64 0, .int .u64 0, .int .u64 0, .slice ao n cap, .int .i64 0, .int .i64 0]).alloc (.cells #[.int .i64 0, .string { data := #[] }, .int .u64 0, .int .u64 0, .int .u64 0, .int .u64 0, .slice none 0 0, .int .i64 0, .int .i64 0] 27)
  go_enter Try.func16, Try.ntmps16
  go_wp2_with fail
  refine (HE.out _ _ _).mono ?_
  rintro e w2 ⟨rfl, hb2⟩
  have h12 := h1.below hb2 h1.lt
  have hB2 := btr hB0 hb2
  have c3 := h12.cell 6
  simp only [List.getElem?_toArray, List.getElem?_cons_zero, List.getElem?_cons_succ] at c3
  go_wp2_with fail
  refine (HR.out _ hB2).mono ?_
  rintro e w3 ⟨rfl, hb3⟩
  have hB3 := btr hB2 hb3
  go_wp2
  go_ret
  exact ⟨rfl, hB3⟩
set_option maxRecDepth 100000 in
set_option maxHeartbeats 2000000 in
theorem right_not (ao : Option Addr) (cap : Nat) (w : World) (HE : ∀ W so sc, Calls Try.prog 33 #[.agg #[.int .i64 0, .string { data := #[] }, .int .u64 0, .int .u64 0, .int .u64 0, .int .u64 0, .slice so 0 sc, .int .i64 0, .int .i64 0]] W fun e w' => e = .returned (.bool true) ∧ Below W.heap.size W w')
    (HR : ∀ W, Below w.heap.size w W → Calls Try.prog 34 #[.slice ao 1 cap] W fun e w' => e = .returned (.bool true) ∧ Below W.heap.size W w') :
    Calls Try.prog 16 #[.agg #[.int .i64 7, .string { data := #[] }, .int .u64 0, .int .u64 0, .int .u64 0, .int .u64 0, .slice ao 1 cap, .int .i64 0, .int .i64 0]] w fun e w' => e = .returned (.bool true) ∧ Below w.heap.size w w' := by
  have HE := Lib.hid HE
  have HR := Lib.hid HR
  skip
  have hB0 := bal (bal0 w (.cells #[.int .i64 7, .string { data := #[] }, .int .u64 0, .int .u64 0, .int .u64 0, .int .u64 0, .slice ao 1 cap, .int .i64 0, .int .i64 0] 27)) (.cells #[.int .i64 0, .string { data := #[] }, .int .u64 0, .int .u64 0, .int .u64 0, .int .u64 0, .slice none 0 0, .int .i64 0, .int .i64 0] 27)
  have h1 := (Blk.new w 27 #[.int .i64 7, .string { data := #[] }, .int .u64 0, .int .u64 0, .int .u64 0, .int .u64 0, .slice ao 1 cap, .int .i64 0, .int .i64 0]).alloc (.cells #[.int .i64 0, .string { data := #[] }, .int .u64 0, .int .u64 0, .int .u64 0, .int .u64 0, .slice none 0 0, .int .i64 0, .int .i64 0] 27)
  go_enter Try.func16, Try.ntmps16
  go_wp2_with fail
  refine (HE.out _ _ _).mono ?_
  rintro e w2 ⟨rfl, hb2⟩
  have h12 := h1.below hb2 h1.lt
  have hB2 := btr hB0 hb2
  have c3 := h12.cell 6
  simp only [List.getElem?_toArray, List.getElem?_cons_zero, List.getElem?_cons_succ] at c3
  go_wp2_with fail
  refine (HR.out _ hB2).mono ?_
  rintro e w3 ⟨rfl, hb3⟩
  have hB3 := btr hB2 hb3
  go_wp2
  go_ret
  exact ⟨rfl, hB3⟩
set_option maxRecDepth 100000 in
set_option maxHeartbeats 2000000 in
theorem right_rep (lo hi : Int) (ao : Option Addr) (cap : Nat) (w : World) (hl : 0 ≤ lo) (hh : hi = -1 ∧ lo ≤ 1 ∨ lo ≤ hi ∧ hi ≤ 64) (HE : ∀ W so sc, Calls Try.prog 33 #[.agg #[.int .i64 0, .string { data := #[] }, .int .u64 0, .int .u64 0, .int .u64 0, .int .u64 0, .slice so 0 sc, .int .i64 0, .int .i64 0]] W fun e w' => e = .returned (.bool true) ∧ Below W.heap.size W w')
    (HR : ∀ W, Below w.heap.size w W → Calls Try.prog 34 #[.slice ao 1 cap] W fun e w' => e = .returned (.bool true) ∧ Below W.heap.size W w') :
    Calls Try.prog 16 #[.agg #[.int .i64 8, .string { data := #[] }, .int .u64 0, .int .u64 0, .int .u64 0, .int .u64 0, .slice ao 1 cap, .int .i64 lo, .int .i64 hi]] w fun e w' => e = .returned (.bool true) ∧ Below w.heap.size w w' := by
  have HE := Lib.hid HE
  have HR := Lib.hid HR
  have HN := Lib.hid (fun W => often_any lo hi hl hh W)
  clear hl hh
  have hB0 := bal (bal0 w (.cells #[.int .i64 8, .string { data := #[] }, .int .u64 0, .int .u64 0, .int .u64 0, .int .u64 0, .slice ao 1 cap, .int .i64 lo, .int .i64 hi] 27)) (.cells #[.int .i64 0, .string { data := #[] }, .int .u64 0, .int .u64 0, .int .u64 0, .int .u64 0, .slice none 0 0, .int .i64 0, .int .i64 0] 27)
  have h1 := (Blk.new w 27 #[.int .i64 8, .string { data := #[] }, .int .u64 0, .int .u64 0, .int .u64 0, .int .u64 0, .slice ao 1 cap, .int .i64 lo, .int .i64 hi]).alloc (.cells #[.int .i64 0, .string { data := #[] }, .int .u64 0, .int .u64 0, .int .u64 0, .int .u64 0, .slice none 0 0, .int .i64 0, .int .i64 0] 27)
  go_enter Try.func16, Try.ntmps16
  go_wp2_with fail
  refine (HN.out _).mono ?_
  rintro e wn ⟨rfl, hbn⟩
  subst wn
  go_wp2_with fail
  refine (HE.out _ _ _).mono ?_
  rintro e w2 ⟨rfl, hb2⟩
  have h12 := h1.below hb2 h1.lt
  have hB2 := btr hB0 hb2
  have c3 := h12.cell 6
  simp only [List.getElem?_toArray, List.getElem?_cons_zero, List.getElem?_cons_succ] at c3
  go_wp2_with fail
  refine (HR.out _ hB2).mono ?_
  rintro e w3 ⟨rfl, hb3⟩
  have hB3 := btr hB2 hb3
  go_wp2
  go_ret
  exact ⟨rfl, hB3⟩
end Go.Proofs.Ytbiempopfmpohaa
