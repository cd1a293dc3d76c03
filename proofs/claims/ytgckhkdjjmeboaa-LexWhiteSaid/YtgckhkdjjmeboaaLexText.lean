/-
  A text, written as one. Conditions: it has at most 1000000 bytes.
-/
import Derived.Test.YtgckhkdjjmeboaaLexWrite
import Derived.Test.YtgckhkdjjmeboaaLexRef3
namespace Go.Proofs.Ytgckhkdjjmeboaa
open Go.RowKit

/-- A slice of bytes of the call's own, as a text, whatever its length is said to be. -/
theorem conv_any {wr : World} {base len cap n : Nat} {ao : Option Addr} {bs : List UInt8} (hown : wr.ownsRow base 5 1 (.slice ao len cap) n (u8Cells bs)) :
    (convert 42 9 (.slice ao len cap)).run Try.prog wr = .ok (.string (mkS bs)) wr := by
  have h1 := hown.1
  have hn : n = bs.length := by simp [u8Cells] at h1; omega
  subst hn
  exact conv_own hown
theorem own_below {w w' : World} {base size n : Nat} {e : TypeId} {v : Value} {xs : List Value} (h : w.ownsRow base e size v n xs) (hb : base ≤ w.heap.size) (hg : w.grownBy w' v.ownBlock) : Below base w w' :=
  (Below.refl base w).grown hg hb fun k hk => (h.lt k hk).1

set_option maxRecDepth 100000 in
set_option maxHeartbeats 1000000 in
theorem text_any (b : ByteArray) (hb : b.size ≤ 1000000) (w : World) :
    Calls Try.prog 12 #[.string b] w fun e w' => e = .returned (.string (mkS (textW (bl b)))) ∧ Below w.heap.size w w' := by
  obtain ⟨ii, hi, hz0, hz1, hz2⟩ := info_parts info_u8t
  have HBL := Lib.hid (bl_length b)
  have hown0 : (w.alloc (.cells #[.int .u8 34] 5)).ownsRow w.heap.size 5 1 (.slice (some ⟨w.heap.size, 0, none⟩) 1 1) 1 [.int .u8 34] := World.ownsRow_lit w #[.int .u8 34] 1 (Nat.le_refl _) (by unfold maxLen; omega) rfl
  go_enter Try.func12, Try.ntmps12
  go_wp2
  go_loopw [3, 8] (fun v i wr => ∃ (k : Nat) (bs : List UInt8), k ≤ b.size ∧ i = .int .i64 k ∧ bs.length ≤ 4 * k + 1 ∧ Hid (bs = 34 :: ((bl b).take k).flatMap byteL) ∧ wr.ownsRow w.heap.size 5 1 v bs.length (u8Cells bs) ∧ Below w.heap.size w wr)
    (fun _ i _ => b.size - (intOf i).toNat)
  case atStart => exact ⟨0, [34], Nat.zero_le _, rfl, by simp, Lib.hid (by simp), hown0, bal0 w _⟩
  case round =>
    obtain ⟨k, bs, hk, rfl, hbl, HBS, hown, hB⟩ := hrel
    have i0 : (0 : Int) ≤ (k : Int) := by omega
    obtain ⟨vo, vc, rfl, hvc⟩ := owns_form hown
    by_cases hlt : k < b.size
    · have hlti : (k : Int) < (b.size : Int) := by omega
      have nk := UInt8.toNat_lt (b[k]'hlt)
      have HW := Lib.hid (write_any w.heap.size bs _ (b[k]'hlt) (by omega) wr hown hB.size)
      have HNX := Lib.hid (show bs ++ byteL (b[k]'hlt) = 34 :: ((bl b).take (k + 1)).flatMap byteL by
        rw [HBS.out, List.take_succ_eq_append_getElem (by rw [HBL.out]; exact hlt), List.flatMap_append, byte_get' b k hlt]
        simp)
      have hyl := byteL_len (b[k]'hlt)
      have hnl : (bs ++ byteL (b[k]'hlt)).length ≤ 4 * (k + 1) + 1 := by rw [List.length_append]; omega
      go_wp2_with fail
      refine HW.out.mono ?_
      rintro e w1 ⟨v1, rfl, hown1, hg1, -⟩
      have hB1 := hB.trans (own_below hown hB.size hg1)
      go_wp2
      go_roundw
      case rel => exact ⟨k + 1, bs ++ byteL (b[k]'hlt), by omega, by go_num, hnl, HNX, hown1, hB1⟩
      case measure => simp [intOf]; omega
    · have hlti : ¬ (k : Int) < (b.size : Int) := by omega
      have HFI := Lib.hid (show mkS (textW (bl b)) = mkS (bs ++ [34]) by
        rw [HBS.out, List.take_of_length_le (by rw [HBL.out]; omega)]
        rfl)
      go_wp2_with (first | (at_builtin; refine wpList_append_own _ rfl _ _ 42 rfl w.heap.size 5 ii (.int .u8 0) 1 1 Try.underlying42 hi hz0 hz1 hz2 rfl (by decide) _ _ _ rfl (hown.alloc _) ⟨wr.heap.size, 0, none⟩ 1 1 [.int .u8 34] rfl rfl (cell_one_new _ _ _) (by simp [Value.oneCell']) (by unfold maxLen; omega) (by omega) (by have := hB.size; simp; omega) ?_; intro v' w3 hown3 hg3 _; have hlow := grown_keep (hown.alloc _) (by have := hB.size; simp; omega) hg3; rw [show u8Cells bs ++ [Value.int .u8 34] = u8Cells (bs ++ [34]) by simp [u8Cells]] at hown3; obtain ⟨vo3, vc3, rfl, hvc3⟩ := owns_form hown3; have hcv := conv_any hown3) | fail)
      go_ret
      exact ⟨by rw [HFI.out]; rfl, (bal hB _).trans hlow⟩
end Go.Proofs.Ytgckhkdjjmeboaa
