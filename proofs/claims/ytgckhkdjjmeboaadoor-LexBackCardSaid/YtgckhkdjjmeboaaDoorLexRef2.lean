/-
  Layer 6's reference: a text and a set, written. Conditions: sizes that each names.
-/
import Derived.Test.YtgckhkdjjmeboaaDoorLexRef
import Derived.Test.YtgckhkdjjmeboaaDoorSetRef4
namespace Go.Proofs.YtgckhkdjjmeboaaDoor
open Go.RowKit

theorem byteL_len (c : UInt8) : (byteL c).length ≤ 4 := by
  unfold byteL
  repeat' split
  all_goals simp
theorem flat_len (b : List UInt8) : (b.flatMap byteL).length ≤ 4 * b.length := by
  induction b with
  | nil => simp
  | cons c b ih =>
    have := byteL_len c
    rw [List.flatMap_cons, List.length_append, List.length_cons]
    omega
theorem mkS_append (a b : List UInt8) : mkS a ++ mkS b = mkS (a ++ b) := bl_inj (by rw [bl_append, bl_mkS, bl_mkS, bl_mkS])
theorem lit_mkS (l : List UInt8) : (ByteArray.mk l.toArray) = mkS l := rfl

set_option maxRecDepth 100000 in
theorem reftext_any (b : ByteArray) (hb : b.size ≤ 1000000) (w : World) :
    Calls Tryd.prog 7 #[.string b] w fun e w' => e = .returned (.string (mkS (textW (bl b)))) ∧ Below w.heap.size w w' := by
  have hbl := bl_length b
  have HBL := Lib.hid hbl
  have HE := Lib.hid (show ByteArray.mk #[34] ++ mkS ((bl b).flatMap byteL) ++ ByteArray.mk #[34] = mkS (textW (bl b)) from bl_inj (by
    rw [bl_append, bl_append, bl_mkS, bl_mkS]; rfl))
  clear hbl
  go_enter Tryd.func7, Tryd.ntmps7
  go_wp2
  go_loopw [3, 4] (fun o i wr => ∃ k : Nat, k ≤ b.size ∧ i = .int .i64 k ∧ o = .string (mkS (((bl b).take k).flatMap byteL)) ∧ Below w.heap.size w wr)
    (fun _ i _ => b.size - (intOf i).toNat)
  case atStart => exact ⟨0, Nat.zero_le _, rfl, rfl, Below.refl _ _⟩
  case round =>
    obtain ⟨k, hk, rfl, rfl, hB⟩ := hrel
    by_cases hlt : k < b.size
    · have hlti : (k : Int) < (b.size : Int) := by omega
      have hk0 : (0 : Int) ≤ (k : Int) := by omega
      have hkl : k < (bl b).length := by rw [HBL.out]; exact hlt
      have np := UInt8.toNat_lt (b[k]'hlt)
      have HY := Lib.hid (refbyte_any (b[k]'hlt))
      have hl1 := flat_len ((bl b).take k)
      rw [List.length_take] at hl1
      have hs1 : (mkS (((bl b).take k).flatMap byteL)).size ≤ 4000000 := by rw [size_mkS]; omega
      have hs2 : (mkS (byteL (b[k]'hlt))).size ≤ 4 := by rw [size_mkS]; exact byteL_len _
      have HS := Lib.hid (show mkS (((bl b).take k).flatMap byteL) ++ mkS (byteL (b[k]'hlt)) = mkS (((bl b).take (k + 1)).flatMap byteL) by
        rw [mkS_append, List.take_succ_eq_append_getElem hkl, List.flatMap_append, byte_get' b k hlt]
        simp)
      generalize mkS (((bl b).take k).flatMap byteL) = o at *
      generalize mkS (byteL (b[k]'hlt)) = y at *
      clear hl1 hkl
      go_wp2_with fail
      refine (HY.out wr).mono ?_
      rintro e w1 ⟨rfl, hb1⟩
      have hB1 := btr hB hb1
      go_wp2
      go_roundw
      case rel => exact ⟨k + 1, by omega, by go_num, by rw [← HS.out], hB1⟩
      case measure => simp [intOf]; omega
    · obtain rfl : k = b.size := by omega
      have ht : (bl b).take b.size = bl b := by rw [← HBL.out, List.take_length]
      have hl1 := flat_len (bl b)
      rw [ht]
      have hs1 : (mkS ((bl b).flatMap byteL)).size ≤ 4000000 := by rw [size_mkS]; have := HBL.out; omega
      generalize mkS ((bl b).flatMap byteL) = o at *
      clear hl1 ht
      go_wp2
      go_ret
      exact ⟨by rw [← HE.out]; rfl, hB⟩
end Go.Proofs.YtgckhkdjjmeboaaDoor
