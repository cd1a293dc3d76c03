/-
  Layer 6's reference: is a byte one of some, does it stand for itself, a byte written. Conditions: none but those that each names.
-/
import Derived.Test.YtbiempopfmpohaaLexBackM
import Derived.Test.YtbiempopfmpohaaTextPlain
import Derived.Laws.BytesArg
import Derived.Laws.Concat
import Derived.Laws.Strings3
import Derived.Deep.QuietTactic
import Derived.BigQuiet
namespace Go.Proofs.Ytbiempopfmpohaa
open Go.RowKit

theorem byte_get' (a : ByteArray) (k : Nat) (h : k < a.size) : (bl a)[k]'(by rw [bl_length]; exact h) = a[k] := rfl

theorem in_six (c : UInt8) : (bl { data := #[92, 34, 91, 93, 94, 45] }).contains c = sixB c := by
  have h : ∀ n : Fin 256, (bl { data := #[92, 34, 91, 93, 94, 45] }).contains (UInt8.ofNat n.val) = sixB (UInt8.ofNat n.val) := by decide +kernel
  have := h ⟨c.toNat, UInt8.toNat_lt c⟩
  simpa using this
theorem digits_at : ∀ n : Fin 16, (ByteArray.mk #[48, 49, 50, 51, 52, 53, 54, 55, 56, 57, 97, 98, 99, 100, 101, 102]).extract n.val (n.val + 1) = mkS [hexD n.val] := by decide +kernel
theorem digit_at {n : Nat} (h : n < 16) : (ByteArray.mk #[48, 49, 50, 51, 52, 53, 54, 55, 56, 57, 97, 98, 99, 100, 101, 102]).extract n (n + 1) = mkS [hexD n] := digits_at ⟨n, h⟩

end Go.Proofs.Ytbiempopfmpohaa
