/-
Walks of the small functions of package set, of math/bits and of the reference: what each returns; nothing that was there before the call has changed. Conditions: bytes up to 255, the table of math/bits as it is laid.
Walks of package set's Both, Any, Less, Size, next and First: what each returns; nothing that was there before the call has changed. Conditions: the table of math/bits as it is laid.
How Go's == on two pairs of bytes, and on two sets of bytes, is reckoned. Conditions: none.
The contracts of package set's functions once more, over named sets, with what is needed where a statement's order is open. Conditions: the table of math/bits as it is laid.
Walks of package set's Of and Span: the set of the bytes, the set from one byte to another one; nothing that was there before the call has changed. Conditions: bytes up to 255, at most 2^47 of them.
Plain mathematics: the rows of a set rise and do not touch; together they are the set; a span has one row, or none. Conditions: none; no program is named here.
-/
import Derived.Test.YtbiempopfmpohaaSetKs
import Derived.RegionTactic
import Derived.ChangeAlike
import Derived.BigRegion
import Derived.Lib.Hide
import Derived.Test.YtbiempopfmpohaaSetRowsPlain
namespace Go.Proofs.Ytbiempopfmpohaa
open Go.RowKit

theorem and64 (x m : Nat) (hm : m < 18446744073709551616) (hx : x < 18446744073709551616) : bits .and .u64 (x : Int) (m : Int) = ((x &&& m : Nat) : Int) := bits_and_u64_nat x m hx hm
theorem stepA (x : Nat) (hx : x < 18446744073709551616) : IntKind.u64.wrap (bits BinOp.and IntKind.u64 ((x : Int) / 2) 6148914691236517205 + bits BinOp.and IntKind.u64 (x : Int) 6148914691236517205) = ((pA x : Nat) : Int) := by
  have e1 := and64 (x / 2) 6148914691236517205 (by decide) (by omega)
  have e2 := and64 x 6148914691236517205 (by decide) hx
  have l1 := Nat.and_le_right (n := x / 2) (m := 6148914691236517205)
  have l2 := Nat.and_le_right (n := x) (m := 6148914691236517205)
  simp only [Int.natCast_ediv] at e1
  rw [show ((x : Int) / 2) = (x : Int) / ((2 : Nat) : Int) from rfl]
  erw [e1, e2]
  rw [IntKind.wrap_u64]
  unfold pA
  omega
theorem pA_lt (x : Nat) : pA x < 18446744073709551616 := by
  have l1 := Nat.and_le_right (n := x / 2) (m := 6148914691236517205)
  have l2 := Nat.and_le_right (n := x) (m := 6148914691236517205)
  unfold pA; omega
theorem stepB (x : Nat) (hx : x < 18446744073709551616) : IntKind.u64.wrap (bits BinOp.and IntKind.u64 ((x : Int) / 4) 3689348814741910323 + bits BinOp.and IntKind.u64 (x : Int) 3689348814741910323) = ((pB x : Nat) : Int) := by
  have e1 := and64 (x / 4) 3689348814741910323 (by decide) (by omega)
  have e2 := and64 x 3689348814741910323 (by decide) hx
  have l1 := Nat.and_le_right (n := x / 4) (m := 3689348814741910323)
  have l2 := Nat.and_le_right (n := x) (m := 3689348814741910323)
  simp only [Int.natCast_ediv] at e1
  rw [show ((x : Int) / 4) = (x : Int) / ((4 : Nat) : Int) from rfl]
  erw [e1, e2]
  rw [IntKind.wrap_u64]
  unfold pB
  omega
theorem pB_lt (x : Nat) : pB x ≤ 7378697629483820646 := by
  have l1 := Nat.and_le_right (n := x / 4) (m := 3689348814741910323)
  have l2 := Nat.and_le_right (n := x) (m := 3689348814741910323)
  unfold pB; omega
theorem stepC (x : Nat) (hx : x ≤ 7378697629483820646) : bits BinOp.and IntKind.u64 (IntKind.u64.wrap ((x : Int) / 16 + (x : Int))) 1085102592571150095 = ((pC x : Nat) : Int) := by
  have e : IntKind.u64.wrap ((x : Int) / 16 + (x : Int)) = ((x / 16 + x : Nat) : Int) := by rw [IntKind.wrap_u64]; omega
  have e1 := and64 (x / 16 + x) 1085102592571150095 (by decide) (by omega)
  rw [e]
  exact e1
theorem stepD (x : Nat) : IntKind.u64.wrap ((x : Int) + (x : Int) / 256) = ((pD x : Nat) : Int) := by rw [IntKind.wrap_u64]; unfold pD; omega
theorem stepE (x : Nat) : IntKind.u64.wrap ((x : Int) + (x : Int) / 65536) = ((pE x : Nat) : Int) := by rw [IntKind.wrap_u64]; unfold pE; omega
theorem stepF (x : Nat) : IntKind.u64.wrap ((x : Int) + (x : Int) / 4294967296) = ((pF x : Nat) : Int) := by rw [IntKind.wrap_u64]; unfold pF; omega

theorem last7 (y : Nat) (hy : y < 18446744073709551616) : bits BinOp.and IntKind.i64 (wrap64 (y : Int)) 127 = ((y % 128 : Nat) : Int) := by
  have h1 : (BitVec.ofInt 64 (wrap64 (y : Int))).toNat = y := by
    rw [BitVec.toNat_ofInt]; unfold wrap64; omega
  have h2 : (BitVec.ofInt 64 (127 : Int)).toNat = 127 := by decide
  show IntKind.i64.wrap ((BitVec.ofInt 64 (wrap64 (y : Int)) &&& BitVec.ofInt 64 127).toNat : Int) = _
  rw [BitVec.toNat_and, h1, h2, show (127 : Nat) = 2 ^ 7 - 1 from rfl, Nat.and_two_pow_sub_one_eq_mod]
  have h3 : y % 2 ^ 7 < 128 := Nat.mod_lt _ (by decide)
  generalize y % 2 ^ 7 = z at h3
  simp [IntKind.wrap, IntKind.bits, IntKind.signed]
  omega

set_option maxHeartbeats 400000 in
theorem not_any (S : Nat → Bool) (w : World) :
    Calls Try.prog 56 #[sv S] w fun e w' => e = .returned (sv fun i => !S i) ∧ Below w.heap.size w w' := by
  have h0 := wd_not S 0
  have h1 := wd_not S 1
  have h2 := wd_not S 2
  have h3 := wd_not S 3
  go_enter Try.func56, Try.ntmps56
  go_wp2
  refine wp_loop_rounds 5 ?_
  iterate 5 (rw [rounds_succ]; go_wp2)
  refine bodyPost_ret (v := sv fun i => !S i) (by simp [results, Try.results56, go_sem]) rfl ⟨rfl, ?_⟩
  exact ((Below.refl _ _).alloc (Nat.le_refl _) _).alloc (by simp) _

theorem has_test (S : Nat → Bool) (x : Nat) : (bits BinOp.and IntKind.u64 (((wd S (x / 64) : Nat) : Int) / 2 ^ (x % 64)) 1 == 1) = S x := by
  have e : (((wd S (x / 64) : Nat) : Int) / 2 ^ (x % 64)) = ((wd S (x / 64) / 2 ^ (x % 64) : Nat) : Int) := by rw [Int.natCast_ediv, Int.natCast_pow]; rfl
  have e2 : bits BinOp.and IntKind.u64 ((wd S (x / 64) / 2 ^ (x % 64) : Nat) : Int) 1 = _ := bits_and_u64_nat (wd S (x / 64) / 2 ^ (x % 64)) 1 (Nat.lt_of_le_of_lt (Nat.div_le_self _ _) (wd_lt _ _)) (by decide)
  rw [e, e2, Nat.and_one_is_mod, has_iff]
  cases S x <;> rfl

end Go.Proofs.Ytbiempopfmpohaa
namespace Go.Proofs.Ytbiempopfmpohaa
open Go.RowKit

set_option maxHeartbeats 800000 in
theorem any_any (S T : Nat → Bool) (w : World) :
    Calls Try.prog 83 #[sv S, sv T] w fun e w' => e = .returned (sv fun i => S i || T i) ∧ Below w.heap.size w w' := by
  have h0 := wd_or S T 0
  have h1 := wd_or S T 1
  have h2 := wd_or S T 2
  have h3 := wd_or S T 3
  go_enter Try.func83, Try.ntmps83
  go_wp2
  refine wp_loop_rounds 5 ?_
  iterate 4 (rw [rounds_succ]; go_wp2; go_region; go_wp2)
  rw [rounds_succ]
  go_wp2
  refine bodyPost_ret (v := sv fun i => S i || T i) (by simp [results, Try.results83, go_sem]) rfl ⟨rfl, ?_⟩
  repeat (first | exact Below.refl _ _ | apply Below.drew | apply bal)

theorem rest_int (S : Nat → Bool) (b : Nat) : (((wd S (b / 64) : Nat) : Int) / 2 ^ (b % 64)) = ((rest S b : Nat) : Int) := by
  unfold rest; rw [Int.natCast_ediv, Int.natCast_pow]; rfl

end Go.Proofs.Ytbiempopfmpohaa
namespace Go.Proofs.Ytbiempopfmpohaa
open Go.RowKit

theorem eq_sets (S : Nat → Bool) (w : World) : (Op.equalIn 10000 24 (sv S) (sv S)).run Try.prog w = .ok true w := by
  have hs : (sizeOf 22).run Try.prog w = .ok 1 w := by kernel_rfl
  have p0 : (part 22 (cells4 S) 0).run Try.prog w = .ok (.int .u64 ((wd S 0 : Nat) : Int)) w := by kernel_rfl
  have p1 : (part 22 (cells4 S) 1).run Try.prog w = .ok (.int .u64 ((wd S 1 : Nat) : Int)) w := by kernel_rfl
  have p2 : (part 22 (cells4 S) 2).run Try.prog w = .ok (.int .u64 ((wd S 2 : Nat) : Int)) w := by kernel_rfl
  have p3 : (part 22 (cells4 S) 3).run Try.prog w = .ok (.int .u64 ((wd S 3 : Nat) : Int)) w := by kernel_rfl
  have e : ∀ i : Nat, (Op.equalIn 9999 22 (.int .u64 ((wd S i : Nat) : Int)) (.int .u64 ((wd S i : Nat) : Int))).run Try.prog w = .ok true w := fun i => by
    rw [run_equalIn_int w 9998 22 .u64 .u64 _ _ Try.underlying22, beq_self_eq_true]
  rw [show (10000 : Nat) = 9999 + 1 from rfl, Op.equalIn]
  simp only [Sem.run_bind, run_underlying Try.underlying24, Result.andThen_ok, hs]
  rw [Std.Legacy.Range.forIn_eq_forIn_range']
  simp [List.range', Std.Legacy.Range.size, Sem.run_bind, p0, p1, p2, p3, e]

theorem eql_sets (S : Nat → Bool) (w : World) : (binOp .eql 24 (sv S) (sv S)).run Try.prog w = .ok (.bool true) w := by
  rw [run_eql_struct, eq_sets]; rfl
theorem eql_sets_of {S T : Nat → Bool} (h : ∀ i, i < 256 → S i = T i) (w : World) : (binOp .eql 24 (sv S) (sv T)).run Try.prog w = .ok (.bool true) w := by
  rw [sv_ext h]; exact eql_sets T w
theorem guard25 : Try.prog.eqGuardType Try.prog.depth 24 = false := by kernel_rfl
end Go.Proofs.Ytbiempopfmpohaa
namespace Go.Proofs.Ytbiempopfmpohaa
open Go.RowKit

def cand (S T : Nat → Bool) : Nat → Bool := fun i => S i && T i
def cor (S T : Nat → Bool) : Nat → Bool := fun i => S i || T i
def cless (S T : Nat → Bool) : Nat → Bool := fun i => S i && !T i
/-- How many bytes are in the set. -/
def sz (S : Nat → Bool) : Nat := cnt S 256
theorem sz_le (S : Nat → Bool) : sz S ≤ 256 := cnt_le _ _

theorem cnt_and_or (S T : Nat → Bool) : ∀ n, cnt (cand S T) n + cnt (cor S T) n = cnt S n + cnt T n
  | 0 => rfl
  | n + 1 => by
    have := cnt_and_or S T n
    rw [cnt, cnt, cnt, cnt]
    unfold cand cor at *
    cases S n <;> cases T n <;> simp <;> omega
theorem cnt_neg (S : Nat → Bool) : ∀ n, cnt S n + cnt (neg S) n = n
  | 0 => rfl
  | n + 1 => by
    have := cnt_neg S n
    rw [cnt, cnt]
    unfold neg at *
    cases S n <;> simp <;> omega
theorem sz_and_or (S T : Nat → Bool) : sz (cand S T) + sz (cor S T) = sz S + sz T := cnt_and_or S T 256
theorem sz_neg (S : Nat → Bool) : sz S + sz (neg S) = 256 := cnt_neg S 256

theorem neg_to (S : Nat → Bool) (w : World) : Calls Try.prog 56 #[sv S] w fun e w' => e = .returned (sv (neg S)) ∧ Below w.heap.size w w' := not_any S w
theorem any_to (S T : Nat → Bool) (w : World) : Calls Try.prog 83 #[sv S, sv T] w fun e w' => e = .returned (sv (cor S T)) ∧ Below w.heap.size w w' := any_any S T w
/-- The four cells of a set's block. -/
def C4 (W : World) (B : Nat) (S : Nat → Bool) : Prop :=
  W.cell? ⟨B, 0, none⟩ = some (.int .u64 ((wd S 0 : Nat) : Int)) ∧ W.cell? ⟨B, 1, none⟩ = some (.int .u64 ((wd S 1 : Nat) : Int)) ∧ W.cell? ⟨B, 2, none⟩ = some (.int .u64 ((wd S 2 : Nat) : Int)) ∧ W.cell? ⟨B, 3, none⟩ = some (.int .u64 ((wd S 3 : Nat) : Int))

end Go.Proofs.Ytbiempopfmpohaa
namespace Go.Proofs.Ytbiempopfmpohaa
open Go.RowKit

def ofL (l : List Nat) : Nat → Bool := fun i => l.contains i
theorem ofL_snoc (l : List Nat) (x : Nat) : ofL (l ++ [x]) = upd (ofL l) x := by
  funext i
  have e : (i == x) = decide (i = x) := by rw [Bool.eq_iff_iff]; simp
  simp [ofL, upd, e]
theorem ofL_take (l : List Nat) (k : Nat) (hk : k < l.length) : ofL (l.take (k + 1)) = upd (ofL (l.take k)) (l.getD k 0) := by
  rw [List.take_succ_eq_append_getElem hk, ofL_snoc]
  simp [List.getD, hk]

theorem ofL_nil : ofL [] = fun _ => false := rfl

set_option maxRecDepth 100000 in
set_option maxHeartbeats 1000000 in
theorem of_any (ao : Option Addr) (len cap : Nat) (zs : List Nat) (hl : zs.length = len) (hlen : len ≤ 140737488355328) (hz : ∀ z ∈ zs, z ≤ 255) (w : World)
    (hc : 0 < len → ∃ b off, ao = some ⟨b, off, none⟩ ∧ ∀ i, i < len → w.cell? ⟨b, off + i, none⟩ = some (.int .u8 ((zs.getD i 0 : Nat) : Int))) :
    Calls Try.prog 14 #[.slice ao len cap] w fun e w' => e = .returned (sv (ofL zs)) ∧ Below w.heap.size w w' := by
  have HL := Lib.hid hl
  have HZ := Lib.hid hz
  have HC := Lib.hid hc
  clear hl hz hc
  go_enter Try.func14, Try.ntmps14
  go_wp2
  go_loopw [8] (fun i wr => ∃ k : Nat, k ≤ len ∧ i = .int .i64 k ∧ Blk wr (w.heap.size + 1) 24 (cells4 (ofL (zs.take k))) ∧ Blk wr w.heap.size 24 zero4 ∧ Below w.heap.size w wr)
    (fun i _ => len - (intOf i).toNat)
  case atStart => exact ⟨0, Nat.zero_le _, rfl, by rw [List.take_zero, ofL_nil, cells4_zero]; have := Blk.new (w.alloc (.cells zero4 24)) 24 zero4; rwa [World.size_alloc] at this, (Blk.new w 24 zero4).alloc _, bal (bal (Below.refl _ _) _) _⟩
  case round =>
    obtain ⟨k, hk, rfl, hS, hR, hB⟩ := hrel
    by_cases hlt : k < len
    · obtain ⟨b, off, rfl, hcell⟩ := HC.out (by omega)
      have hx := HZ.out (zs.getD k 0) (by rw [List.getD, List.getElem?_eq_getElem (by rw [HL.out]; exact hlt)]; simp)
      have HT := Lib.hid (ofL_take zs k (by rw [HL.out]; exact hlt))
      have hck := hcell k hlt
      have hb : b < w.heap.size := by
        rcases Nat.lt_or_ge b w.heap.size with h | h
        · exact h
        · simp [World.cell?, Array.getElem?_eq_none h] at hck
      have hckr := (hB.cell (p := ⟨b, off + k, none⟩) hb).trans hck
      clear hcell hck
      generalize zs.getD k 0 = x at hx HT hckr
      have hs := (hS.cell (x / 64)).trans (cells4_get _ (x / 64) (by omega))
      have hsf := hS.frozen (x / 64)
      have hor := or_walk (ofL (zs.take k)) x
      go_wp2
      go_roundw
      case rel => exact ⟨k + 1, by omega, by go_num, by rw [HT.out]; exact hS.upd x (by omega), hR.other _ _ (by simp), hB.setCell (by simp) _⟩
      case measure => simp [intOf]; omega
    · obtain rfl : k = len := by omega
      have HE := Lib.hid (show zs.take k = zs by rw [← HL.out]; exact List.take_length)
      obtain ⟨c0, c1, c2, c3⟩ := hS.cells
      have r0 := hR.cell 0
      have r1 := hR.cell 1
      have r2 := hR.cell 2
      have r3 := hR.cell 3
      have f0 := hR.frozen 0
      have f1 := hR.frozen 1
      have f2 := hR.frozen 2
      have f3 := hR.frozen 3
      go_wp2
      refine bodyPost_ret (v := sv (ofL (zs.take k))) (by simp [results, Try.results14, go_sem, *]) rfl ⟨by rw [HE.out], ?_⟩
      repeat (first | exact hB | refine Below.setCell ?_ (by simp) _)

/-- The bytes from a on, below n. -/
def fromTo (a n : Nat) : Nat → Bool := fun i => decide (a ≤ i) && decide (i < n)
theorem fromTo_nil (a : Nat) : fromTo a a = fun _ => false := by
  funext i
  have : ¬ (a ≤ i ∧ i < a) := by omega
  unfold fromTo
  rw [← Bool.decide_and, decide_eq_false this]
theorem fromTo_snoc (a k : Nat) (h : a ≤ k) : fromTo a (k + 1) = upd (fromTo a k) k := by
  funext i
  unfold fromTo upd
  rw [Bool.eq_iff_iff]
  simp only [Bool.and_eq_true, Bool.or_eq_true, decide_eq_true_eq, beq_iff_eq]
  omega

set_option maxRecDepth 100000 in
set_option maxHeartbeats 1000000 in
theorem span_any (a z : Nat) (ha : a ≤ 255) (hz : z ≤ 255) (w : World) :
    Calls Try.prog 93 #[.int .u8 a, .int .u8 z] w fun e w' => e = .returned (sv (fromTo a (z + 1))) ∧ Below w.heap.size w w' := by
  go_enter Try.func93, Try.ntmps93
  go_wp2
  go_loopw [6] (fun i wr => ∃ k : Nat, a ≤ k ∧ k ≤ 256 ∧ (k ≤ z + 1 ∨ k = a) ∧ i = .int .i64 k ∧ Blk wr (w.heap.size + 1) 24 (cells4 (fromTo a k)) ∧ Blk wr w.heap.size 24 zero4 ∧ Below w.heap.size w wr)
    (fun i _ => 256 - (intOf i).toNat)
  case atStart => exact ⟨a, Nat.le_refl _, by omega, .inr rfl, rfl, by rw [fromTo_nil, cells4_zero]; have := Blk.new (w.alloc (.cells zero4 24)) 24 zero4; rwa [World.size_alloc] at this, (Blk.new w 24 zero4).alloc _, bal (bal (Below.refl _ _) _) _⟩
  case round =>
    obtain ⟨k, hak, hk, hk2, rfl, hS, hR, hB⟩ := hrel
    have HK := Lib.hid hk2
    clear hk2
    by_cases hlt : k ≤ z
    · have HT := Lib.hid (fromTo_snoc a k hak)
      have hs := (hS.cell (k / 64)).trans (cells4_get _ (k / 64) (by omega))
      have hsf := hS.frozen (k / 64)
      have hor := or_walk (fromTo a k) k
      go_wp2
      go_region
      go_wp2
      go_roundw
      case rel => exact ⟨k + 1, by omega, by omega, .inl (by omega), by go_num, by rw [HT.out]; exact (hS.upd k (by omega)).drew, (hR.other _ _ (by simp)).drew, (hB.setCell (by simp) _).drew⟩
      case measure => simp [intOf]; omega
    · have HE := Lib.hid (show sv (fromTo a k) = sv (fromTo a (z + 1)) by
        have h := HK.out
        by_cases e : k = z + 1
        · rw [e]
        · apply sv_ext; intro i _; unfold fromTo; rw [Bool.eq_iff_iff]; simp only [Bool.and_eq_true, decide_eq_true_eq]; omega)
      obtain ⟨c0, c1, c2, c3⟩ := hS.cells
      have r0 := hR.cell 0
      have r1 := hR.cell 1
      have r2 := hR.cell 2
      have r3 := hR.cell 3
      have f0 := hR.frozen 0
      have f1 := hR.frozen 1
      have f2 := hR.frozen 2
      have f3 := hR.frozen 3
      go_wp2
      refine bodyPost_ret (v := sv (fromTo a k)) (by simp [results, Try.results93, go_sem, *]) rfl ⟨by rw [HE.out], ?_⟩
      repeat (first | exact hB | refine Below.setCell ?_ (by simp) _)

end Go.Proofs.Ytbiempopfmpohaa
namespace Go.Proofs.Ytbiempopfmpohaa

/-- Rows from m on: each is a row of bytes, and between two there is a byte. -/
def RowsOk : Nat → List (Nat × Nat) → Prop
  | _, [] => True
  | m, x :: r => m ≤ x.1 ∧ x.1 ≤ x.2 ∧ x.2 ≤ 255 ∧ RowsOk (x.2 + 2) r

theorem rowsF_ok (S : Nat → Bool) : ∀ f b, b ≤ 256 → (b < 256 → S b = true) → RowsOk b (rowsF S f b)
  | 0, b, _, _ => trivial
  | f + 1, b, hb, hS => by
    rw [rowsF]
    split
    · rename_i hlt
      obtain ⟨h1, h2⟩ := neg_gt S b hlt (hS hlt)
      obtain ⟨g1, g2, g3, g4⟩ := nxt_spec S (nxt (neg S) b) h2
      obtain ⟨n1, n2, n3, n4⟩ := nxt_spec (neg S) b hb
      refine ⟨Nat.le_refl _, by simp only; omega, by simp only; omega, ?_⟩
      have ih := rowsF_ok S f (nxt S (nxt (neg S) b)) g2 g4
      simp only
      generalize hB : nxt S (nxt (neg S) b) = b' at *
      by_cases h256 : b' = 256
      · subst h256
        cases f with
        | zero => trivial
        | succ f => rw [rowsF, if_neg (by decide)]; trivial
      · have hne : b' ≠ nxt (neg S) b := by
          intro e
          have a1 := g4 (by omega)
          have a2 := n4 (by omega)
          rw [← e] at a2
          simp [neg, a1] at a2
        cases f with
        | zero => trivial
        | succ f =>
          rw [rowsF, if_pos (by omega)] at ih ⊢
          exact ⟨by simp only; omega, ih.2.1, ih.2.2.1, ih.2.2.2⟩
    · trivial

theorem rowsOf_ok (S : Nat → Bool) : RowsOk 0 (rowsOf S) := by
  have h := nxt_spec S 0 (by decide)
  have := rowsF_ok S (256 - nxt S 0) (nxt S 0) h.2.1 h.2.2.2
  unfold rowsOf rowsL
  cases hr : rowsF S (256 - nxt S 0) (nxt S 0) with
  | nil => trivial
  | cons x r => rw [hr] at this; exact ⟨Nat.zero_le _, this.2⟩

theorem RowsOk.at : ∀ {l : List (Nat × Nat)} {m : Nat}, RowsOk m l → ∀ i, i < l.length → m ≤ (l.getD i (0, 0)).1 ∧ (l.getD i (0, 0)).1 ≤ (l.getD i (0, 0)).2 ∧ (l.getD i (0, 0)).2 ≤ 255
  | [], _, _, i, hi => by simp at hi
  | x :: r, m, h, 0, _ => ⟨h.1, h.2.1, h.2.2.1⟩
  | x :: r, m, h, i + 1, hi => by
    have := RowsOk.at h.2.2.2 i (by simpa using hi)
    have h1 := h.1
    have h2 := h.2.1
    simp only [List.getD_cons_succ]
    omega
theorem RowsOk.gap : ∀ {l : List (Nat × Nat)} {m : Nat}, RowsOk m l → ∀ i, i + 1 < l.length → (l.getD i (0, 0)).2 + 2 ≤ (l.getD (i + 1) (0, 0)).1
  | [], _, _, i, hi => by simp at hi
  | x :: r, m, h, 0, hi => (RowsOk.at h.2.2.2 0 (by simpa using hi)).1
  | x :: r, m, h, i + 1, hi => by
    have := RowsOk.gap h.2.2.2 i (by simpa using hi)
    simpa using this

/-- The rows' spans together. -/
def accOf (l : List (Nat × Nat)) : Nat → Bool := l.foldl (fun S x => cor S (fromTo x.1 (x.2 + 1))) (fun _ => false)
theorem accOf_snoc (l : List (Nat × Nat)) (x : Nat × Nat) : accOf (l ++ [x]) = cor (accOf l) (fromTo x.1 (x.2 + 1)) := by simp [accOf]
theorem accOf_take (l : List (Nat × Nat)) (k : Nat) (h : k < l.length) : accOf (l.take (k + 1)) = cor (accOf (l.take k)) (fromTo (l.getD k (0, 0)).1 ((l.getD k (0, 0)).2 + 1)) := by
  rw [List.take_succ_eq_append_getElem h, accOf_snoc]
  simp [List.getD, h]

theorem foldl_cor (l : List (Nat × Nat)) : ∀ (A : Nat → Bool) (i : Nat), l.foldl (fun S x => cor S (fromTo x.1 (x.2 + 1))) A i = (A i || l.any fun x => fromTo x.1 (x.2 + 1) i) := by
  induction l with
  | nil => intro A i; simp
  | cons x r ih =>
    intro A i
    rw [List.foldl_cons, ih, List.any_cons]
    unfold cor
    rw [Bool.or_assoc]
theorem accOf_any (l : List (Nat × Nat)) (i : Nat) : accOf l i = l.any fun x => fromTo x.1 (x.2 + 1) i := by
  unfold accOf; rw [foldl_cor]; simp

theorem any_rowsF (S : Nat → Bool) : ∀ f b, b ≤ 256 → 256 ≤ f + b → (b < 256 → S b = true) → ∀ i, i < 256 → (rowsF S f b).any (fun x => fromTo x.1 (x.2 + 1) i) = (decide (b ≤ i) && S i)
  | 0, b, hb, hf, _, i, hi => by
    have : ¬ b ≤ i := by omega
    simp [rowsF, this]
  | f + 1, b, hb, hf, hS, i, hi => by
    rw [rowsF]
    split
    · rename_i hlt
      obtain ⟨h1, h2⟩ := neg_gt S b hlt (hS hlt)
      obtain ⟨g1, g2, g3, g4⟩ := nxt_spec S (nxt (neg S) b) h2
      obtain ⟨n1, n2, n3, n4⟩ := nxt_spec (neg S) b hb
      rw [List.any_cons, any_rowsF S f _ g2 (by have := nxt_step S b hlt; omega) g4 i hi]
      simp only
      unfold fromTo
      generalize hB : nxt S (nxt (neg S) b) = b' at *
      generalize hH : nxt (neg S) b = h at *
      rw [Bool.eq_iff_iff]
      simp only [Bool.or_eq_true, Bool.and_eq_true, decide_eq_true_eq]
      constructor
      · rintro (⟨a1, a2⟩ | ⟨a1, a2⟩)
        · refine ⟨a1, ?_⟩
          have := n3 i a1 (by omega)
          simpa [neg] using this
        · exact ⟨by omega, a2⟩
      · rintro ⟨a1, a2⟩
        by_cases c1 : i < h
        · exact .inl ⟨a1, by omega⟩
        · refine .inr ⟨?_, a2⟩
          rcases Nat.lt_or_ge i b' with c2 | c2
          · have := g3 i (by omega) c2
            rw [a2] at this; cases this
          · exact c2
    · have : ¬ b ≤ i := by omega
      simp [this]

theorem accOf_rows (S : Nat → Bool) (i : Nat) (hi : i < 256) : accOf (rowsOf S) i = S i := by
  have h := nxt_spec S 0 (by decide)
  rw [accOf_any]
  unfold rowsOf rowsL
  rw [any_rowsF S _ _ h.2.1 (by omega) h.2.2.2 i hi]
  by_cases c : nxt S 0 ≤ i
  · simp [c]
  · have := h.2.2.1 i (Nat.zero_le _) (by omega)
    simp [c, this]

theorem nxt_none (S : Nat → Bool) (b : Nat) (hb : b ≤ 256) (h : ∀ j, b ≤ j → j < 256 → S j = false) : nxt S b = 256 :=
  nxt_eq S b 256 hb (Nat.le_refl _) h (fun h => absurd h (by decide))

theorem rows_span_none (a z : Nat) (h : z < a) : rowsOf (fromTo a (z + 1)) = [] := by
  have e : nxt (fromTo a (z + 1)) 0 = 256 := nxt_none _ _ (by decide) fun j _ _ => by
    unfold fromTo
    rw [← Bool.decide_and]
    exact decide_eq_false (by omega)
  unfold rowsOf
  rw [e]
  rfl

theorem rows_span_one (a z : Nat) (h : a ≤ z) (hz : z ≤ 255) : rowsOf (fromTo a (z + 1)) = [(a, z)] := by
  have f : ∀ j, fromTo a (z + 1) j = decide (a ≤ j ∧ j < z + 1) := fun j => by unfold fromTo; rw [Bool.decide_and]
  have e0 : nxt (fromTo a (z + 1)) 0 = a := nxt_eq _ _ _ (Nat.zero_le _) (by omega) (fun j _ hj => by rw [f]; exact decide_eq_false (by omega)) (fun _ => by rw [f]; exact decide_eq_true (by omega))
  have e1 : nxt (neg (fromTo a (z + 1))) a = z + 1 := nxt_eq _ _ _ (by omega) (by omega) (fun j hj hj' => by unfold neg; rw [f, decide_eq_true (by omega)]; rfl) (fun _ => by unfold neg; rw [f, decide_eq_false (by omega)]; rfl)
  have e2 : nxt (fromTo a (z + 1)) (z + 1) = 256 := nxt_none _ _ (by omega) fun j hj _ => by rw [f]; exact decide_eq_false (by omega)
  unfold rowsOf
  rw [e0, rowsL_cons _ _ (by omega), e1, e2, rowsL_end]
  rfl
end Go.Proofs.Ytbiempopfmpohaa
