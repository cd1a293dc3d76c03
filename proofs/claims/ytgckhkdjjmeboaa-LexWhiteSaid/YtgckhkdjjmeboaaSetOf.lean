/-
  Walks of package set's Of and Span: the set of the bytes, the set from one byte to another one; nothing that was there before the call has changed. Conditions: bytes up to 255, at most 2^47 of them.
-/
import Derived.Test.YtgckhkdjjmeboaaSetW2
import Derived.RegionTactic
import Derived.ChangeAlike
import Derived.BigRegion
namespace Go.Proofs.Ytgckhkdjjmeboaa
open Go.RowKit

def ofL (l : List Nat) : Nat → Bool := fun i => l.contains i
theorem ofL_snoc (l : List Nat) (x : Nat) : ofL (l ++ [x]) = upd (ofL l) x := by
  funext i
  have e : (i == x) = decide (i = x) := by rw [Bool.eq_iff_iff]; simp
  simp [ofL, upd, e]
theorem ofL_take (l : List Nat) (k : Nat) (hk : k < l.length) : ofL (l.take (k + 1)) = upd (ofL (l.take k)) (l.getD k 0) := by
  rw [List.take_succ_eq_append_getElem hk, ofL_snoc]
  simp [List.getD, hk]

theorem ofL_nil : ofL [] = fun _ => false := rfl

set_option maxRecDepth 100000 in
set_option maxHeartbeats 1000000 in
theorem of_any (ao : Option Addr) (len cap : Nat) (zs : List Nat) (hl : zs.length = len) (hlen : len ≤ 140737488355328) (hz : ∀ z ∈ zs, z ≤ 255) (w : World)
    (hc : 0 < len → ∃ b off, ao = some ⟨b, off, none⟩ ∧ ∀ i, i < len → w.cell? ⟨b, off + i, none⟩ = some (.int .u8 ((zs.getD i 0 : Nat) : Int))) :
    Calls Try.prog 35 #[.slice ao len cap] w fun e w' => e = .returned (sv (ofL zs)) ∧ Below w.heap.size w w' := by
  have HL := Lib.hid hl
  have HZ := Lib.hid hz
  have HC := Lib.hid hc
  clear hl hz hc
  go_enter Try.func35, Try.ntmps35
  go_wp2
  go_loopw [8] (fun i wr => ∃ k : Nat, k ≤ len ∧ i = .int .i64 k ∧ Blk wr (w.heap.size + 1) 28 (cells4 (ofL (zs.take k))) ∧ Blk wr w.heap.size 28 zero4 ∧ Below w.heap.size w wr)
    (fun i _ => len - (intOf i).toNat)
  case atStart => exact ⟨0, Nat.zero_le _, rfl, by rw [List.take_zero, ofL_nil, cells4_zero]; have := Blk.new (w.alloc (.cells zero4 28)) 28 zero4; rwa [World.size_alloc] at this, (Blk.new w 28 zero4).alloc _, bal (bal (Below.refl _ _) _) _⟩
  case round =>
    obtain ⟨k, hk, rfl, hS, hR, hB⟩ := hrel
    by_cases hlt : k < len
    · obtain ⟨b, off, rfl, hcell⟩ := HC.out (by omega)
      have hx := HZ.out (zs.getD k 0) (by rw [List.getD, List.getElem?_eq_getElem (by rw [HL.out]; exact hlt)]; simp)
      have HT := Lib.hid (ofL_take zs k (by rw [HL.out]; exact hlt))
      have hck := hcell k hlt
      have hb : b < w.heap.size := by
        rcases Nat.lt_or_ge b w.heap.size with h | h
        · exact h
        · simp [World.cell?, Array.getElem?_eq_none h] at hck
      have hckr := (hB.cell (p := ⟨b, off + k, none⟩) hb).trans hck
      clear hcell hck
      generalize zs.getD k 0 = x at hx HT hckr
      have hs := (hS.cell (x / 64)).trans (cells4_get _ (x / 64) (by omega))
      have hsf := hS.frozen (x / 64)
      have hor := or_walk (ofL (zs.take k)) x
      go_wp2
      go_roundw
      case rel => exact ⟨k + 1, by omega, by go_num, by rw [HT.out]; exact hS.upd x (by omega), hR.other _ _ (by simp), hB.setCell (by simp) _⟩
      case measure => simp [intOf]; omega
    · obtain rfl : k = len := by omega
      have HE := Lib.hid (show zs.take k = zs by rw [← HL.out]; exact List.take_length)
      obtain ⟨c0, c1, c2, c3⟩ := hS.cells
      have r0 := hR.cell 0
      have r1 := hR.cell 1
      have r2 := hR.cell 2
      have r3 := hR.cell 3
      have f0 := hR.frozen 0
      have f1 := hR.frozen 1
      have f2 := hR.frozen 2
      have f3 := hR.frozen 3
      go_wp2
      refine bodyPost_ret (v := sv (ofL (zs.take k))) (by simp [results, Try.results35, go_sem, *]) rfl ⟨by rw [HE.out], ?_⟩
      repeat (first | exact hB | refine Below.setCell ?_ (by simp) _)

/-- The bytes from a on, below n. -/
def fromTo (a n : Nat) : Nat → Bool := fun i => decide (a ≤ i) && decide (i < n)
theorem fromTo_nil (a : Nat) : fromTo a a = fun _ => false := by
  funext i
  have : ¬ (a ≤ i ∧ i < a) := by omega
  unfold fromTo
  rw [← Bool.decide_and, decide_eq_false this]
theorem fromTo_snoc (a k : Nat) (h : a ≤ k) : fromTo a (k + 1) = upd (fromTo a k) k := by
  funext i
  unfold fromTo upd
  rw [Bool.eq_iff_iff]
  simp only [Bool.and_eq_true, Bool.or_eq_true, decide_eq_true_eq, beq_iff_eq]
  omega

set_option maxRecDepth 100000 in
set_option maxHeartbeats 1000000 in
theorem span_any (a z : Nat) (ha : a ≤ 255) (hz : z ≤ 255) (w : World) :
    Calls Try.prog 10 #[.int .u8 a, .int .u8 z] w fun e w' => e = .returned (sv (fromTo a (z + 1))) ∧ Below w.heap.size w w' := by
  go_enter Try.func10, Try.ntmps10
  go_wp2
  go_loopw [6] (fun i wr => ∃ k : Nat, a ≤ k ∧ k ≤ 256 ∧ (k ≤ z + 1 ∨ k = a) ∧ i = .int .i64 k ∧ Blk wr (w.heap.size + 1) 28 (cells4 (fromTo a k)) ∧ Blk wr w.heap.size 28 zero4 ∧ Below w.heap.size w wr)
    (fun i _ => 256 - (intOf i).toNat)
  case atStart => exact ⟨a, Nat.le_refl _, by omega, .inr rfl, rfl, by rw [fromTo_nil, cells4_zero]; have := Blk.new (w.alloc (.cells zero4 28)) 28 zero4; rwa [World.size_alloc] at this, (Blk.new w 28 zero4).alloc _, bal (bal (Below.refl _ _) _) _⟩
  case round =>
    obtain ⟨k, hak, hk, hk2, rfl, hS, hR, hB⟩ := hrel
    have HK := Lib.hid hk2
    clear hk2
    by_cases hlt : k ≤ z
    · have HT := Lib.hid (fromTo_snoc a k hak)
      have hs := (hS.cell (k / 64)).trans (cells4_get _ (k / 64) (by omega))
      have hsf := hS.frozen (k / 64)
      have hor := or_walk (fromTo a k) k
      go_wp2
      go_region
      go_wp2
      go_roundw
      case rel => exact ⟨k + 1, by omega, by omega, .inl (by omega), by go_num, by rw [HT.out]; exact (hS.upd k (by omega)).drew, (hR.other _ _ (by simp)).drew, (hB.setCell (by simp) _).drew⟩
      case measure => simp [intOf]; omega
    · have HE := Lib.hid (show sv (fromTo a k) = sv (fromTo a (z + 1)) by
        have h := HK.out
        by_cases e : k = z + 1
        · rw [e]
        · apply sv_ext; intro i _; unfold fromTo; rw [Bool.eq_iff_iff]; simp only [Bool.and_eq_true, decide_eq_true_eq]; omega)
      obtain ⟨c0, c1, c2, c3⟩ := hS.cells
      have r0 := hR.cell 0
      have r1 := hR.cell 1
      have r2 := hR.cell 2
      have r3 := hR.cell 3
      have f0 := hR.frozen 0
      have f1 := hR.frozen 1
      have f2 := hR.frozen 2
      have f3 := hR.frozen 3
      go_wp2
      refine bodyPost_ret (v := sv (fromTo a k)) (by simp [results, Try.results10, go_sem, *]) rfl ⟨by rw [HE.out], ?_⟩
      repeat (first | exact hB | refine Below.setCell ?_ (by simp) _)

end Go.Proofs.Ytgckhkdjjmeboaa
