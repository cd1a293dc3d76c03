/-
  Package lex's exported functions, as the walks of stage 6's statements use them. Conditions: sizes that each names.
-/
import Derived.Test.YtgckhkdjjmeboaaLexSetW
import Derived.Test.YtgckhkdjjmeboaaLexTok
namespace Go.Proofs.Ytgckhkdjjmeboaa
open Go.RowKit

theorem lnext_any (s : ByteArray) (p : Nat) (hp : p ≤ s.size) (hs : s.size ≤ 100000) (w : World) :
    Calls Try.prog 6 #[.string s, .int .i64 (p : Int)] w fun e w' => e = .returned (nextV (bl s) p) ∧ Below w.heap.size w w' :=
  nextl_any s p hp (by omega) w
theorem lall_any (s : ByteArray) (hs : s.size ≤ 65536) (w : World) :
    Calls Try.prog 5 #[.string s] w fun e w' => AllA (bl s) w e w' :=
  alll_any s hs w
end Go.Proofs.Ytgckhkdjjmeboaa
