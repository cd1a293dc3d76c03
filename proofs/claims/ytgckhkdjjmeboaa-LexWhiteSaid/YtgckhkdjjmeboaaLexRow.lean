/-
  The lexer reads a row of a set: a byte, or two with - between. Conditions: the place lies within the text.
-/
import Derived.Test.YtgckhkdjjmeboaaLexQuoted
import Derived.Test.YtgckhkdjjmeboaaSetOf
namespace Go.Proofs.Ytgckhkdjjmeboaa
open Go.RowKit

theorem size_set4 : (Try.prog.info? 28).map (·.size) = some 4 := by kernel_rfl
/-- A set stored into a block of its own: what has become of the world. -/
theorem wp_set {ops : Array Oper} {rest : List Oper} {op : Oper} {a : Act} {w : World} {Q : Exit → Act → World → Prop} (hg : op.guard = none) (x y : Operand) (ho : op.op = .store 28 x y) (B : Nat) (S : Nat → Bool) (cs : Array Value)
    (hx : a.eval x = .pointer (some ⟨B, 0, none⟩)) (hy : a.eval y = sv S) (hK : Blk w B 28 cs) (h4 : cs.size = 4)
    (h : ∀ w', Blk w' B 28 (cells4 S) → (∀ (W0 : World) (n : Nat), n ≤ B → Below n W0 w → Below n W0 w') → (∀ (B' : Nat) (t : TypeId) (vs : Array Value), B' ≠ B → Blk w B' t vs → Blk w' B' t vs) → wpList Try.prog ops Q rest (a.put op.dst undef) w') : wpList Try.prog ops Q (op :: rest) a w := by
  refine wpList_store_row hg 28 x y ho B (cells4 S) hx hy 28 cs hK (by rw [size_set4]; rfl) (by rw [h4]; rfl) (by simp [Value.oneCell']) (h _ (setRow_heap _ _ _ _ _ _ hK) (fun W0 n hn hb => ?_) (fun B' t vs hne hb => ?_))
  · refine ⟨hb.os, hb.tape, hb.output, by simpa [World.setRow] using hb.size, fun k hk => ?_⟩
    rw [← hb.block k hk]
    simp [World.setRow, Array.getElem?_modify, show B ≠ k by omega]
  · have hb' : w.heap[B']? = some (.cells vs t (0, 0)) := hb
    show (World.setRow _ _ _).heap[B']? = _
    simp [World.setRow, Array.getElem?_modify, show B ≠ B' from fun e => hne e.symm, hb']
/-- The set of a row. -/
def rowS (a b : UInt8) : Nat → Bool := fun x => decide (a.toNat ≤ x) && decide (x ≤ b.toNat)
theorem rowS_span (a b : UInt8) : fromTo a.toNat (b.toNat + 1) = rowS a b := by
  funext x
  unfold fromTo rowS
  congr 1
  rw [Bool.eq_iff_iff]; simp; omega
theorem rowS_one (a : UInt8) : ofL [a.toNat] = rowS a a := by
  funext x
  unfold ofL rowS
  rw [Bool.eq_iff_iff]; simp; omega
theorem inRows_row (rs : List (UInt8 × UInt8)) (a b : UInt8) : cor (inRows rs) (rowS a b) = inRows (rs ++ [(a, b)]) := by
  funext x
  rw [inRows_snoc]
  rfl
/-- A row, and how many bytes it takes; or what is wrong. -/
def rowR (l : List UInt8) : Except Nat ((UInt8 × UInt8) × Nat) := match oneL l with
  | .error e => .error e
  | .ok (a, n) =>
    if (l.drop n).head? = some 45 then
      match oneL (l.drop (n + 1)) with
      | .error e => .error e
      | .ok (b, m) => if b < a then .error 4 else .ok ((a, b), n + 1 + m)
    else .ok ((a, a), n)
/-- What readRow answers. -/
def rowV (l : List UInt8) (p : Nat) : Value := match rowR l with
  | .error e => .tuple #[.agg zero4, .int .i64 0, .int .i64 ((e : Nat) : Int)]
  | .ok (r, n) => .tuple #[sv (rowS r.1 r.2), .int .i64 ((p + n : Nat) : Int), .int .i64 0]
theorem rowV_err {l : List UInt8} {p e : Nat} (h : rowR l = .error e) : rowV l p = .tuple #[.agg zero4, .int .i64 0, .int .i64 ((e : Nat) : Int)] := by unfold rowV; rw [h]
theorem rowV_ok {l : List UInt8} {p n : Nat} {a b : UInt8} (h : rowR l = .ok ((a, b), n)) : rowV l p = .tuple #[sv (rowS a b), .int .i64 ((p + n : Nat) : Int), .int .i64 0] := by unfold rowV; rw [h]
theorem rowR_bad {l : List UInt8} {e : Nat} (h : oneL l = .error e) : rowR l = .error e := by unfold rowR; rw [h]
theorem rowR_one {l : List UInt8} {a : UInt8} {n : Nat} (h : oneL l = .ok (a, n)) (hd : ¬ (l.drop n).head? = some 45) : rowR l = .ok ((a, a), n) := by unfold rowR; rw [h]; simp only [if_neg hd]
theorem rowR_bad2 {l : List UInt8} {a : UInt8} {n e : Nat} (h : oneL l = .ok (a, n)) (hd : (l.drop n).head? = some 45) (h2 : oneL (l.drop (n + 1)) = .error e) : rowR l = .error e := by unfold rowR; rw [h]; simp only [if_pos hd, h2]
theorem rowR_less {l : List UInt8} {a b : UInt8} {n m : Nat} (h : oneL l = .ok (a, n)) (hd : (l.drop n).head? = some 45) (h2 : oneL (l.drop (n + 1)) = .ok (b, m)) (hab : b < a) : rowR l = .error 4 := by unfold rowR; rw [h]; simp only [if_pos hd, h2, if_pos hab]
theorem rowR_two {l : List UInt8} {a b : UInt8} {n m : Nat} (h : oneL l = .ok (a, n)) (hd : (l.drop n).head? = some 45) (h2 : oneL (l.drop (n + 1)) = .ok (b, m)) (hab : ¬ b < a) : rowR l = .ok ((a, b), n + 1 + m) := by unfold rowR; rw [h]; simp only [if_pos hd, h2, if_neg hab]

set_option maxRecDepth 100000 in
set_option maxHeartbeats 2000000 in
theorem lrow_any (s : ByteArray) (p : Nat) (hp : p ≤ s.size) (hs : s.size ≤ 140737488355328) (w : World) :
    Calls Try.prog 27 #[.string s, .int .i64 (p : Int)] w fun e w' => e = .returned (rowV ((bl s).drop p) p) ∧ Below w.heap.size w w' := by
  have p0 : (0 : Int) ≤ (p : Int) := by omega
  have HO := Lib.hid (fun W => read_any s p hp hs W)
  have hK := Blk.new w 28 zero4
  have hB := bal0 w (.cells zero4 28)
  cases ho : oneL ((bl s).drop p) with
  | error er =>
    rw [readV_err ho] at HO
    have hne : (((er : Nat) : Int) != 0) = true := by simpa using oneL_err ho
    have HV := Lib.hid (rowV_err (p := p) (rowR_bad ho))
    clear ho
    go_enter Try.func27, Try.ntmps27
    go_wp2_with fail
    refine (HO.out _).mono ?_
    rintro e w1 ⟨rfl, rfl⟩
    go_wp2_with (first | (refine wp_set rfl _ _ rfl w.heap.size (fun _ => false) zero4 rfl rfl hK rfl ?_; intro w5 hK5 hkp hko; have hB5 := hkp _ _ (Nat.le_refl _) hB; obtain ⟨c0, c1, c2, c3⟩ := hK5.cells) | fail)
    refine bodyPost_ret (v := .tuple #[.agg zero4, .int .i64 0, .int .i64 ((er : Nat) : Int)]) (by simp [results, Try.results27, go_sem, c0, c1, c2, c3, zero_set]) rfl ⟨by rw [HV.out], hB5⟩
  | ok x =>
    obtain ⟨a, n⟩ := x
    rw [readV_ok ho] at HO
    have hpos := oneL_pos ho
    have hnl : p + n ≤ s.size := by have := hpos.2; rw [List.length_drop, bl_length] at this; omega
    have na := UInt8.toNat_lt a
    have HST := Lib.hid (fun W => stands_any s (p + n) 45 W)
    obtain ⟨q, hq⟩ : ∃ q, p + n = q := ⟨_, rfl⟩
    have hhd : standB s q 45 = decide ((((bl s).drop p).drop n).head? = some 45) := by
      unfold standB
      rw [List.drop_drop, hq, Bool.eq_iff_iff, beq_iff_eq, decide_eq_true_iff]
    rw [hq] at HO HST hnl
    rw [hhd] at HST
    have q0 : (0 : Int) ≤ (q : Int) := by omega
    have HQ := Lib.hid hq
    clear hhd hpos hq
    by_cases hd : (((bl s).drop p).drop n).head? = some 45
    · have hqs : q < s.size := by
        rcases Nat.lt_or_ge q s.size with h | h
        · exact h
        · rw [List.drop_drop, HQ.out] at hd
          exact absurd hd (head_end s q h 45)
      rw [decide_eq_true hd] at HST
      have HO2 := Lib.hid (fun W => read_any s (q + 1) (by omega) hs W)
      have hdr : ((bl s).drop p).drop (n + 1) = (bl s).drop (q + 1) := by rw [List.drop_drop, show p + (n + 1) = q + 1 by have := HQ.out; omega]
      rw [show ((q + 1 : Nat) : Int) = (q : Int) + 1 from rfl] at HO2
      cases ho2 : oneL ((bl s).drop (q + 1)) with
      | error er =>
        rw [readV_err ho2] at HO2
        have hne : (((er : Nat) : Int) != 0) = true := by simpa using oneL_err ho2
        have HV := Lib.hid (rowV_err (p := p) (rowR_bad2 ho hd (by rw [hdr]; exact ho2)))
        clear ho hd ho2 hdr
        go_enter Try.func27, Try.ntmps27
        go_wp2_with fail
        refine (HO.out _).mono ?_
        rintro e w1 ⟨rfl, rfl⟩
        go_wp2_with fail
        refine (HST.out _).mono ?_
        rintro e w1 ⟨rfl, rfl⟩
        go_wp2_with fail
        refine (HO2.out _).mono ?_
        rintro e w1 ⟨rfl, rfl⟩
        go_wp2_with (first | (refine wp_set rfl _ _ rfl w.heap.size (fun _ => false) zero4 rfl rfl hK rfl ?_; intro w5 hK5 hkp hko; have hB5 := hkp _ _ (Nat.le_refl _) hB; obtain ⟨c0, c1, c2, c3⟩ := hK5.cells) | fail)
        refine bodyPost_ret (v := .tuple #[.agg zero4, .int .i64 0, .int .i64 ((er : Nat) : Int)]) (by simp [results, Try.results27, go_sem, c0, c1, c2, c3, zero_set]) rfl ⟨by rw [HV.out], hB5⟩
      | ok y =>
        obtain ⟨b, m⟩ := y
        rw [readV_ok ho2] at HO2
        have nb := UInt8.toNat_lt b
        by_cases hab : b < a
        · have HV := Lib.hid (rowV_err (p := p) (rowR_less ho hd (by rw [hdr]; exact ho2) hab))
          have hlt : ((b.toNat : Nat) : Int) < ((a.toNat : Nat) : Int) := by have := UInt8.lt_iff_toNat_lt.1 hab; omega
          clear ho hd ho2 hdr hab
          go_enter Try.func27, Try.ntmps27
          go_wp2_with fail
          refine (HO.out _).mono ?_
          rintro e w1 ⟨rfl, rfl⟩
          go_wp2_with fail
          refine (HST.out _).mono ?_
          rintro e w1 ⟨rfl, rfl⟩
          go_wp2_with fail
          refine (HO2.out _).mono ?_
          rintro e w1 ⟨rfl, rfl⟩
          go_wp2_with (first | (refine wp_set rfl _ _ rfl w.heap.size (fun _ => false) zero4 rfl rfl hK rfl ?_; intro w5 hK5 hkp hko; have hB5 := hkp _ _ (Nat.le_refl _) hB; obtain ⟨c0, c1, c2, c3⟩ := hK5.cells) | fail)
          refine bodyPost_ret (v := .tuple #[.agg zero4, .int .i64 0, .int .i64 4]) (by simp [results, Try.results27, go_sem, c0, c1, c2, c3, zero_set]) rfl ⟨by rw [HV.out]; rfl, hB5⟩
        · have HV := Lib.hid (rowV_ok (p := p) (rowR_two ho hd (by rw [hdr]; exact ho2) hab))
          have hlt : ¬ ((b.toNat : Nat) : Int) < ((a.toNat : Nat) : Int) := by have h2 : ¬ b.toNat < a.toNat := fun h => hab (UInt8.lt_iff_toNat_lt.2 h); omega
          have HSP := Lib.hid (fun W => span_any a.toNat b.toNat (by omega) (by omega) W)
          rw [rowS_span] at HSP
          have HPN := Lib.hid (show ((p + (n + 1 + m) : Nat) : Int) = ((q + 1 + m : Nat) : Int) by have := HQ.out; omega)
          clear ho hd ho2 hdr hab
          go_enter Try.func27, Try.ntmps27
          go_wp2_with fail
          refine (HO.out _).mono ?_
          rintro e w1 ⟨rfl, rfl⟩
          go_wp2_with fail
          refine (HST.out _).mono ?_
          rintro e w1 ⟨rfl, rfl⟩
          go_wp2_with fail
          refine (HO2.out _).mono ?_
          rintro e w1 ⟨rfl, rfl⟩
          go_wp2_with fail
          refine (HSP.out _).mono ?_
          rintro e w2 ⟨rfl, hb2⟩
          have hB2 := btr hB hb2
          have hK2 := hK.below hb2 hK.lt
          go_wp2_with (first | (refine wp_set rfl _ _ rfl w.heap.size (rowS a b) zero4 rfl rfl hK2 rfl ?_; intro w5 hK5 hkp hko; have hB5 := hkp _ _ (Nat.le_refl _) hB2; obtain ⟨c0, c1, c2, c3⟩ := hK5.cells) | fail)
          refine bodyPost_ret (v := .tuple #[sv (rowS a b), .int .i64 ((q + 1 + m : Nat) : Int), .int .i64 0]) (by simp [results, Try.results27, go_sem, c0, c1, c2, c3]) rfl ⟨by rw [HV.out, HPN.out], hB5⟩
    · rw [decide_eq_false hd] at HST
      have HV := Lib.hid (rowV_ok (p := p) (rowR_one ho hd))
      have HPN := Lib.hid (show ((p + n : Nat) : Int) = (q : Int) by have := HQ.out; omega)
      have HOF := Lib.hid (fun W h => of_any (some ⟨w.heap.size + 1, 0, none⟩) 1 1 [a.toNat] rfl (by omega) (by intro z hz; rw [List.mem_singleton] at hz; omega) W (fun _ => ⟨_, _, rfl, h⟩))
      rw [rowS_one] at HOF
      clear ho hd
      go_enter Try.func27, Try.ntmps27
      go_wp2_with fail
      refine (HO.out _).mono ?_
      rintro e w1 ⟨rfl, rfl⟩
      go_wp2_with fail
      refine (HST.out _).mono ?_
      rintro e w1 ⟨rfl, rfl⟩
      go_wp2_with fail
      refine (HOF.out _ (fun i hi => by obtain rfl : i = 0 := by omega
                                        have hcl := (Blk.new (w.alloc (.cells zero4 28)) 5 #[.int .u8 ((a.toNat : Nat) : Int)]).cell 0
                                        rw [World.size_alloc] at hcl
                                        exact hcl)).mono ?_
      rintro e w2 ⟨rfl, hb2⟩
      have hB2 := btr (bal hB _) hb2
      have hK2 := (hK.alloc _).below hb2 (hK.alloc _).lt
      go_wp2_with (first | (refine wp_set rfl _ _ rfl w.heap.size (rowS a a) zero4 rfl rfl hK2 rfl ?_; intro w5 hK5 hkp hko; have hB5 := hkp _ _ (Nat.le_refl _) hB2; obtain ⟨c0, c1, c2, c3⟩ := hK5.cells) | fail)
      refine bodyPost_ret (v := .tuple #[sv (rowS a a), .int .i64 (q : Int), .int .i64 0]) (by simp [results, Try.results27, go_sem, c0, c1, c2, c3]) rfl ⟨by rw [HV.out, HPN.out], hB5⟩
end Go.Proofs.Ytgckhkdjjmeboaa
