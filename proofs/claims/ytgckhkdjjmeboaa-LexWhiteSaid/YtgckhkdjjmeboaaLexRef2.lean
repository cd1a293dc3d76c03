/-
  Layer 6's reference: a text and a set, written. Conditions: sizes that each names.
-/
import Derived.Test.YtgckhkdjjmeboaaLexRef
import Derived.Test.YtgckhkdjjmeboaaSetRef4
namespace Go.Proofs.Ytgckhkdjjmeboaa
open Go.RowKit

theorem byteL_len (c : UInt8) : (byteL c).length ≤ 4 := by
  unfold byteL
  repeat' split
  all_goals simp
theorem flat_len (b : List UInt8) : (b.flatMap byteL).length ≤ 4 * b.length := by
  induction b with
  | nil => simp
  | cons c b ih =>
    have := byteL_len c
    rw [List.flatMap_cons, List.length_append, List.length_cons]
    omega
theorem mkS_append (a b : List UInt8) : mkS a ++ mkS b = mkS (a ++ b) := bl_inj (by rw [bl_append, bl_mkS, bl_mkS, bl_mkS])
theorem lit_mkS (l : List UInt8) : (ByteArray.mk l.toArray) = mkS l := rfl

end Go.Proofs.Ytgckhkdjjmeboaa
