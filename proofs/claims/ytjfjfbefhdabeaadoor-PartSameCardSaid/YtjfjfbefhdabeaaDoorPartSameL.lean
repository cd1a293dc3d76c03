/-
  The walk of the statement PartSame: of any row of sets and any place it returns true; nothing that was there before the call has changed. Conditions: the sets lie in memory as a slice; the table of math/bits as it is laid.
-/
import Derived.Test.YtjfjfbefhdabeaaDoorPartAwake
import Derived.Test.YtjfjfbefhdabeaaDoorPartSameR
namespace Go.Proofs.YtjfjfbefhdabeaaDoor
open Go.RowKit

/-- The set with its first n words turned. -/
def flipTo (n : Nat) (S : Nat → Bool) : Nat → Bool := fun b => if b < 64 * n then !S b else S b
theorem flipTo_zero (S : Nat → Bool) : flipTo 0 S = S := by
  funext b
  unfold flipTo
  rw [if_neg (by omega)]
theorem flip_other (n k : Nat) (S : Nat → Bool) (h : k ≠ n) : wd (flipTo n S) k = wd (flipTo (n + 1) S) k := wd_ext fun j hj => by
  unfold flipTo
  have : (64 * k + j < 64 * n) = (64 * k + j < 64 * (n + 1)) := by apply propext; omega
  simp only [this]
theorem flip_here (n : Nat) (S : Nat → Bool) : bits .xor .u64 IntKind.u64.max ((wd (flipTo n S) n : Nat) : Int) = ((wd (flipTo (n + 1) S) n : Nat) : Int) := by
  rw [wd_not, wd_ext (S := fun i => !flipTo n S i) (T := flipTo (n + 1) S) (k := n) fun j hj => by
    unfold flipTo
    rw [if_neg (by omega), if_pos (by omega)]]
theorem owns_put4g {w : World} {base g n cap : Nat} {P : List (Nat → Bool)} (h : w.ownsRow base 35 4 (.slice (some ⟨g, 0, none⟩) n cap) n (setCells P)) (S : Nat → Bool) (hi : 0 < P.length) {u0 u1 u2 u3 : Value}
    (e0 : u0 = .int .u64 ((wd S 0 : Nat) : Int)) (e1 : u1 = .int .u64 ((wd S 1 : Nat) : Int)) (e2 : u2 = .int .u64 ((wd S 2 : Nat) : Int)) (e3 : u3 = .int .u64 ((wd S 3 : Nat) : Int)) :
    ((((w.setCell ⟨g, 0, none⟩ u0).setCell ⟨g, 1, none⟩ u1).setCell ⟨g, 2, none⟩ u2).setCell ⟨g, 3, none⟩ u3).ownsRow base 35 4 (.slice (some ⟨g, 0, none⟩) n cap) n (setCells (P.set 0 S)) := by
  subst e0 e1 e2 e3
  have := owns_put4 h 0 S hi
  simpa using this
theorem below_put4g {w0 w : World} {n g : Nat} (h : Below n w0 w) (hg : n ≤ g) (u0 u1 u2 u3 : Value) : Below n w0 ((((w.setCell ⟨g, 0, none⟩ u0).setCell ⟨g, 1, none⟩ u1).setCell ⟨g, 2, none⟩ u2).setCell ⟨g, 3, none⟩ u3) :=
  (((h.setCell (p := ⟨g, _, none⟩) hg _).setCell (p := ⟨g, _, none⟩) hg _).setCell (p := ⟨g, _, none⟩) hg _).setCell (p := ⟨g, _, none⟩) hg _

theorem cell_four_new (w : World) (a b c d : Value) (t : TypeId) : ∀ j u, [a, b, c, d][j]? = some u → (w.alloc (.cells #[a, b, c, d] t)).cell? ((⟨w.heap.size, 0, none⟩ : Addr).add j) = some u := by
  intro j u hj
  match j, hj with
  | 0, hj => simp at hj; subst hj; simp [Addr.add]
  | 1, hj => simp at hj; subst hj; simp [Addr.add]
  | 2, hj => simp at hj; subst hj; simp [Addr.add]
  | 3, hj => simp at hj; subst hj; simp [Addr.add]
  | j + 4, hj => simp at hj

/-- The sets from the last one back to place j. -/
def backTo (L : List (Nat → Bool)) (j : Nat) : List (Nat → Bool) := (L.drop j).reverse
theorem backTo_end (L : List (Nat → Bool)) : backTo L L.length = [] := by simp [backTo]
theorem backTo_step (L : List (Nat → Bool)) (j : Nat) (h : j < L.length) : backTo L j = backTo L (j + 1) ++ [L.getD j no] := by
  unfold backTo
  rw [List.drop_eq_getElem_cons h, List.reverse_cons, getD_mem h]
theorem backTo_length (L : List (Nat → Bool)) (j : Nat) : (backTo L j).length = L.length - j := by simp [backTo]
/-- The row that PartSame makes. -/
def turned (L : List (Nat → Bool)) (a n : Nat) : List (Nat → Bool) := (backTo L 0 ++ [L.getD a no]).set 0 (flipTo n ((backTo L 0 ++ [L.getD a no]).getD 0 no))
theorem turned_length (L : List (Nat → Bool)) (a n : Nat) : (turned L a n).length = L.length + 1 := by simp [turned, backTo]
theorem turned_zero (L : List (Nat → Bool)) (a : Nat) : turned L a 0 = backTo L 0 ++ [L.getD a no] := by
  unfold turned
  rw [flipTo_zero]
  generalize backTo L 0 ++ [L.getD a no] = B
  cases B <;> rfl
theorem turned_get (L : List (Nat → Bool)) (a n : Nat) : (turned L a n).getD 0 no = flipTo n ((backTo L 0 ++ [L.getD a no]).getD 0 no) := by
  unfold turned
  generalize hB : backTo L 0 ++ [L.getD a no] = B
  cases B with
  | nil => simp at hB
  | cons x r => rfl
theorem turned_set (L : List (Nat → Bool)) (a n : Nat) : (turned L a n).set 0 (flipTo (n + 1) ((backTo L 0 ++ [L.getD a no]).getD 0 no)) = turned L a (n + 1) := by
  unfold turned
  rw [List.set_set]
theorem turned_alk (L : List (Nat → Bool)) (a : Nat) (ha : a < L.length) (x y : Nat) (hx : x < 256) (hy : y < 256) : alk (turned L a 4) x y = true ↔ alk L x y = true := by
  have hf : ∀ S : Nat → Bool, flipTo 4 S x = flipTo 4 S y ↔ S x = S y := fun S => by
    unfold flipTo
    rw [if_pos (by omega), if_pos (by omega)]
    cases S x <;> cases S y <;> simp
  have hm : ∀ S, S ∈ backTo L 0 ++ [L.getD a no] ↔ S ∈ L := fun S => by
    rw [List.mem_append, getD_mem ha]
    unfold backTo
    simp only [List.drop_zero, List.mem_reverse, List.mem_singleton]
    exact ⟨fun h => h.elim id fun e => by rw [e]; exact List.getElem_mem ha, .inl⟩
  have hg := turned_get L a 4
  rw [alk_iff, alk_iff]
  constructor
  · intro h S hS
    obtain ⟨i, hi, rfl⟩ := List.mem_iff_getElem.1 ((hm S).2 hS)
    by_cases h0 : i = 0
    · subst h0
      have h1 : flipTo 4 ((backTo L 0 ++ [L.getD a no])[0]) ∈ turned L a 4 := by
        rw [← getD_mem (z := no) hi, ← hg, getD_mem (by rw [turned_length]; omega)]
        exact List.getElem_mem _
      exact (hf _).1 (h _ h1)
    · refine h _ ?_
      unfold turned
      rw [List.mem_iff_getElem]
      exact ⟨i, by simpa using hi, by rw [List.getElem_set_ne (by omega)]⟩
  · intro h S hS
    rcases List.mem_or_eq_of_mem_set hS with h1 | h1
    · exact h S ((hm S).1 h1)
    · rw [h1, hf]
      refine h _ ((hm _).1 ?_)
      rw [getD_mem (show 0 < (backTo L 0 ++ [L.getD a no]).length by simp)]
      exact List.getElem_mem _
theorem parts_turned (L : List (Nat → Bool)) (a : Nat) (ha : a < L.length) : parts (turned L a 4) = parts L :=
  prts_ext fun b hb => cls_same (fun x y hx hy => turned_alk L a ha x y hx hy) b hb

set_option maxRecDepth 100000 in
set_option maxHeartbeats 20000000 in
theorem partSame_main (ao : Option Addr) (len cap a : Nat) (L : List (Nat → Bool)) (hl : L.length = len) (hlen : len ≤ 30) (ha : a < len) (w : World) (hT : Tab w) (hS : SAt w ao L w.heap.size) :
    Calls Tryd.prog 7 #[.slice ao len cap, .int .i64 (a : Int)] w fun e w' => e = .returned (.bool true) ∧ Below w.heap.size w w' := by
  obtain ⟨i0, hi, hz0, hz1, hz2⟩ := info_parts info_set
  have HL := Lib.hid hl
  have HS := Lib.hid hS
  have HT := Lib.hid hT
  clear hl hS hT
  have hg1 : ¬ (30 : Int) < (len : Int) := by omega
  have hg2 : ¬ (len : Int) ≤ (a : Int) := by omega
  go_enter Tryd.func7, Tryd.ntmps7
  go_wp2_with fail
  refine (parts_any (H := Unit) ao len cap L HL.out (by omega) w HS.out).mono ?_
  rintro e w1 ⟨v, rfl, hown, hb1⟩
  obtain ⟨po, pc, rfl, hat⟩ := SAt.of_owns hown
  have HAT := Lib.hid hat
  have HB1 := Lib.hid hb1
  have hsz1 := hb1.size
  have hpl := parts_length_le L
  have hparts := Lib.hid (parts_turned L a (by rw [HL.out]; exact ha))
  clear hown hat hb1
  generalize parts L = PP at *
  obtain ⟨pn, hpn⟩ : ∃ pn, PP.length = pn := ⟨_, rfl⟩
  have HPN := Lib.hid hpn
  rw [hpn] at hpl ⊢
  clear hpn
  go_wp2_with fail
  generalize hw1 : w1 = wp at *
  clear hw1
  go_loopw [7, 8] (fun v i wr => ∃ (j : Nat) (y : Int), y + 1 = (j : Int) ∧ j ≤ len ∧ i = .int .i64 y ∧ wr.ownsRow wp.heap.size 35 4 v (backTo L j).length (setCells (backTo L j)) ∧ Below wp.heap.size wp wr)
    (fun _ i _ => (intOf i + 1).toNat)
  case atStart => exact ⟨len, (len : Int) - 1, by omega, Nat.le_refl _, by go_num, by rw [← HL.out, backTo_end]; exact World.ownsRow_nil _ _ _ _, Below.refl _ _⟩
  case round =>
    obtain ⟨j, y, hy, hj, rfl, hown, hbi⟩ := hrel
    have hbl := backTo_length L j
    rw [HL.out] at hbl
    obtain ⟨qo, qc, rfl⟩ := owns_slice hown
    obtain ⟨g, off, rfl, hg, hc⟩ := HS.out (by rw [HL.out]; omega)
    by_cases hj0 : j = 0
    · subst hj0
      obtain rfl : y = -1 := by omega
      obtain ⟨s0, s1, s2, s3⟩ := ((hc a (by rw [HL.out]; exact ha)).below HB1.out hg).below hbi (by omega)
      have hz0' := Lib.hid (turned_zero L a)
      have hal := (show (a : Int) < (len : Int) by omega)
      have hsz := hbi.size
      have hge := Lib.hid (turned_get L a)
      have hse := Lib.hid (turned_set L a)
      have hlg := Lib.hid (turned_length L a)
      generalize hS1 : L.getD a no = S at s0 s1 s2 s3 hz0' hge hse
      clear hS1 hc
      rw [hbl] at hown ⊢
      obtain ⟨q, hq⟩ : ∃ q, len - 0 + 1 = q := ⟨_, rfl⟩
      go_wp2_with (first | (at_builtin; refine wpList_append_own _ rfl _ _ 22 rfl wp.heap.size 35 i0 (.agg zero4) 4 32 Tryd.underlying22 hi hz0 hz1 hz2 rfl (by decide) _ _ _ rfl (hown.alloc _) ⟨wr.heap.size, 0, none⟩ 1 1 [.int .u64 ((wd S 0 : Nat) : Int), .int .u64 ((wd S 1 : Nat) : Int), .int .u64 ((wd S 2 : Nat) : Int), .int .u64 ((wd S 3 : Nat) : Int)] rfl rfl (cell_four_new _ _ _ _ _ _) (by simp [Value.oneCell']) (by unfold maxLen; omega) (by omega) (by simp; omega) ?_; intro v' w3 hown3 hg3 _; rw [hq] at hown3; obtain ⟨gb, cb, rfl, hgb1, hgb2⟩ := hown3.form (by omega)) | fail)
      have hlow := grown_low _ hown hsz hg3
      have hb3 := hbi.trans hlow
      have e4 : setCells (backTo L 0) ++ [.int .u64 ((wd S 0 : Nat) : Int), .int .u64 ((wd S 1 : Nat) : Int), .int .u64 ((wd S 2 : Nat) : Int), .int .u64 ((wd S 3 : Nat) : Int)] = setCells (turned L a 0) := by rw [hz0'.out, setCells_append]; rfl
      rw [e4] at hown3
      clear s0 s1 s2 s3 hown hbi hg3 hlow e4 hz0' hgb2
      generalize (backTo L 0 ++ [S]).getD 0 no = S0 at *
      go_loopw [9] (fun i wr => ∃ n : Nat, n ≤ 4 ∧ i = .int .i64 n ∧ wr.ownsRow wp.heap.size 35 4 (.slice (some ⟨gb, 0, none⟩) q cb) q (setCells (turned L a n)) ∧ Below wp.heap.size wp wr)
        (fun i _ => 4 - (intOf i).toNat)
      case atStart => exact ⟨0, by decide, rfl, hown3, hb3⟩
      case round =>
        clear hown3 hb3
        obtain ⟨n, hn, rfl, hown, hb⟩ := hrel
        by_cases hlt : n < 4
        · have hql : (turned L a n).length = q := by rw [hlg.out, HL.out]; omega
          have hgn := Lib.hid (hge.out n)
          obtain ⟨b0, b1, b2, b3⟩ := owns_cellsQ hown hql 0 (by omega) hgn
          have hx := flip_here n S0
          have ho := Lib.hid (fun k h => flip_other n k S0 h)
          have hsn := Lib.hid (hse.out n)
          have f0 := hown.frozenAt 0
          have f1 := hown.frozenAt 1
          have f2 := hown.frozenAt 2
          have f3 := hown.frozenAt 3
          have hszr := hb.size
          have hgl := (hown.lt gb rfl).2
          have hqi : (0 : Int) < (q : Int) := by omega
          simp only [Nat.zero_mul, Nat.zero_add] at b0 b1 b2 b3
          clear hgn hge hse hql
          rcases (show n = 0 ∨ n = 1 ∨ n = 2 ∨ n = 3 by omega) with rfl | rfl | rfl | rfl
          · go_wp2
            clear b0 b1 b2 b3 f0 f1 f2 f3
            have hown2 := owns_put4g hown (flipTo 1 S0) (by rw [hlg.out]; omega) (congrArg (Value.int .u64) hx) (congrArg (Value.int .u64) (congrArg (fun z : Nat => (z : Int)) (ho.out 1 (by decide)))) (congrArg (Value.int .u64) (congrArg (fun z : Nat => (z : Int)) (ho.out 2 (by decide)))) (congrArg (Value.int .u64) (congrArg (fun z : Nat => (z : Int)) (ho.out 3 (by decide))))
            rw [hsn.out] at hown2
            go_roundw
            case rel => exact ⟨1, by decide, rfl, hown2.alloc _, (below_put4g hb hgb1 _ _ _ _).alloc (by simp; omega) _⟩
            case measure => simp [intOf]
          · go_wp2
            clear b0 b1 b2 b3 f0 f1 f2 f3
            have hown2 := owns_put4g hown (flipTo 2 S0) (by rw [hlg.out]; omega) (congrArg (Value.int .u64) (congrArg (fun z : Nat => (z : Int)) (ho.out 0 (by decide)))) (congrArg (Value.int .u64) hx) (congrArg (Value.int .u64) (congrArg (fun z : Nat => (z : Int)) (ho.out 2 (by decide)))) (congrArg (Value.int .u64) (congrArg (fun z : Nat => (z : Int)) (ho.out 3 (by decide))))
            rw [hsn.out] at hown2
            go_roundw
            case rel => exact ⟨2, by decide, rfl, hown2.alloc _, (below_put4g hb hgb1 _ _ _ _).alloc (by simp; omega) _⟩
            case measure => simp [intOf]
          · go_wp2
            clear b0 b1 b2 b3 f0 f1 f2 f3
            have hown2 := owns_put4g hown (flipTo 3 S0) (by rw [hlg.out]; omega) (congrArg (Value.int .u64) (congrArg (fun z : Nat => (z : Int)) (ho.out 0 (by decide)))) (congrArg (Value.int .u64) (congrArg (fun z : Nat => (z : Int)) (ho.out 1 (by decide)))) (congrArg (Value.int .u64) hx) (congrArg (Value.int .u64) (congrArg (fun z : Nat => (z : Int)) (ho.out 3 (by decide))))
            rw [hsn.out] at hown2
            go_roundw
            case rel => exact ⟨3, by decide, rfl, hown2.alloc _, (below_put4g hb hgb1 _ _ _ _).alloc (by simp; omega) _⟩
            case measure => simp [intOf]
          · go_wp2
            clear b0 b1 b2 b3 f0 f1 f2 f3
            have hown2 := owns_put4g hown (flipTo 4 S0) (by rw [hlg.out]; omega) (congrArg (Value.int .u64) (congrArg (fun z : Nat => (z : Int)) (ho.out 0 (by decide)))) (congrArg (Value.int .u64) (congrArg (fun z : Nat => (z : Int)) (ho.out 1 (by decide)))) (congrArg (Value.int .u64) (congrArg (fun z : Nat => (z : Int)) (ho.out 2 (by decide)))) (congrArg (Value.int .u64) hx)
            rw [hsn.out] at hown2
            go_roundw
            case rel => exact ⟨4, by decide, rfl, hown2.alloc _, (below_put4g hb hgb1 _ _ _ _).alloc (by simp; omega) _⟩
            case measure => simp [intOf]
        · obtain rfl : n = 4 := by omega
          have hql : (turned L a 4).length = q := by rw [hlg.out, HL.out]; omega
          have hatb := (show ∃ ao cap, Value.slice (some ⟨gb, 0, none⟩) q cb = .slice ao (turned L a 4).length cap ∧ SAt wr ao (turned L a 4) wr.heap.size from SAt.of_owns (by rw [hql]; exact hown))
          obtain ⟨ab, cb', e, hatb⟩ := hatb
          rw [hql] at e
          simp only [Value.slice.injEq, true_and] at e
          obtain ⟨rfl, rfl⟩ := e
          have hB6 : Below w.heap.size w wr := HB1.out.trans (hb.mono hsz1)
          have hat6 := Lib.hid (HAT.out.below hb (Nat.le_refl _))
          have hsz6 := hb.size
          clear hown hb hge hse hlg
          generalize turned L a 4 = M at *
          go_wp2_with fail
          refine (parts_any (H := Unit) _ q cb M hql (by omega) wr hatb).mono ?_
          rintro e w7 ⟨v7, rfl, hown7, hb7⟩
          rw [hparts.out] at hown7
          obtain ⟨p7, c7, rfl, hat7⟩ := SAt.of_owns hown7
          rw [HPN.out]
          have hB7 := btr hB6 hb7
          have hT7 := HT.out.below' hB7
          have hat8 := hat6.out.below hb7 hsz6
          have hsz7 := hb7.size
          clear hatb hown7 hb7 hB6 hat6
          go_wp2_with fail
          refine (awake_part w7 hT7).mono ?_
          rintro e w8 ⟨rfl, hb8⟩
          have hB8 := btr hB7 hb8
          have hatA := (hat8.below hb8 (by omega)).mono (show wp.heap.size ≤ w8.heap.size by have := hb8.size; omega)
          have hatB := (hat7.below hb8 (Nat.le_refl _)).mono hb8.size
          clear hat8 hat7 hb8 hB7 hT7
          go_wp2_with fail
          refine (same_any po p7 pn pc c7 PP HPN.out (by omega) w8 hatA hatB).mono ?_
          rintro e w9 ⟨rfl, hb9⟩
          have hB9 := btr hB8 hb9
          clear hatA hatB hb9 hB8
          go_wp2
          go_ret
          exact ⟨rfl, hB9⟩
    · obtain ⟨j', rfl⟩ : ∃ j', j = j' + 1 := ⟨j - 1, by omega⟩
      obtain rfl : y = (j' : Int) := by omega
      have hst := Lib.hid (backTo_step L j' (by rw [HL.out]; omega))
      obtain ⟨s0, s1, s2, s3⟩ := ((hc j' (by rw [HL.out]; omega)).below HB1.out hg).below hbi (by omega)
      generalize L.getD j' no = S at s0 s1 s2 s3 hst
      have hj1 : (j' : Int) < (len : Int) := by omega
      have hsz := hbi.size
      obtain ⟨m, hm⟩ : ∃ m, (backTo L (j' + 1)).length = m := ⟨_, rfl⟩
      have HM := Lib.hid hm
      rw [hm] at hown hbl ⊢
      clear hm hc
      go_wp2_with (first | (at_builtin; refine wpList_append_own _ rfl _ _ 22 rfl wp.heap.size 35 i0 (.agg zero4) 4 32 Tryd.underlying22 hi hz0 hz1 hz2 rfl (by decide) _ _ _ rfl (hown.alloc _) ⟨wr.heap.size, 0, none⟩ 1 1 [.int .u64 ((wd S 0 : Nat) : Int), .int .u64 ((wd S 1 : Nat) : Int), .int .u64 ((wd S 2 : Nat) : Int), .int .u64 ((wd S 3 : Nat) : Int)] rfl rfl (cell_four_new _ _ _ _ _ _) (by simp [Value.oneCell']) (by unfold maxLen; omega) (by omega) (by simp; omega) ?_; intro v' w3 hown3 hg3 _) | fail)
      have hlow := grown_low _ hown hsz hg3
      have hb3 := hbi.trans hlow
      have e4 : setCells (backTo L (j' + 1)) ++ [.int .u64 ((wd S 0 : Nat) : Int), .int .u64 ((wd S 1 : Nat) : Int), .int .u64 ((wd S 2 : Nat) : Int), .int .u64 ((wd S 3 : Nat) : Int)] = setCells (backTo L j') := by rw [hst.out, setCells_append]; rfl
      rw [e4] at hown3
      have e5 : (backTo L j').length = m + 1 := by rw [hst.out, List.length_append, HM.out]; rfl
      clear s0 s1 s2 s3 hown hbi hg3 hlow e4
      go_roundw
      case rel => exact ⟨j', (j' : Int) - 1, by omega, by omega, by go_num, by rw [e5]; exact hown3, hb3⟩
      case measure => simp [intOf]
end Go.Proofs.YtjfjfbefhdabeaaDoor
