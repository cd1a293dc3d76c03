/-
  The contracts of package set's functions once more, over named sets, with what is needed where a statement's order is open. Conditions: the table of math/bits as it is laid.
-/
import Derived.Test.YtgckhkdjjmeboaaSetW2
import Derived.Test.YtgckhkdjjmeboaaSetEq
import Derived.Test.YtgckhkdjjmeboaaSetRowsPlain
namespace Go.Proofs.Ytgckhkdjjmeboaa
open Go.RowKit

def cand (S T : Nat → Bool) : Nat → Bool := fun i => S i && T i
def cor (S T : Nat → Bool) : Nat → Bool := fun i => S i || T i
def cless (S T : Nat → Bool) : Nat → Bool := fun i => S i && !T i
/-- How many bytes are in the set. -/
def sz (S : Nat → Bool) : Nat := cnt S 256
theorem sz_le (S : Nat → Bool) : sz S ≤ 256 := cnt_le _ _

theorem cnt_and_or (S T : Nat → Bool) : ∀ n, cnt (cand S T) n + cnt (cor S T) n = cnt S n + cnt T n
  | 0 => rfl
  | n + 1 => by
    have := cnt_and_or S T n
    rw [cnt, cnt, cnt, cnt]
    unfold cand cor at *
    cases S n <;> cases T n <;> simp <;> omega
theorem cnt_neg (S : Nat → Bool) : ∀ n, cnt S n + cnt (neg S) n = n
  | 0 => rfl
  | n + 1 => by
    have := cnt_neg S n
    rw [cnt, cnt]
    unfold neg at *
    cases S n <;> simp <;> omega
theorem sz_and_or (S T : Nat → Bool) : sz (cand S T) + sz (cor S T) = sz S + sz T := cnt_and_or S T 256
theorem sz_neg (S : Nat → Bool) : sz S + sz (neg S) = 256 := cnt_neg S 256

theorem neg_to (S : Nat → Bool) (w : World) : Calls Try.prog 29 #[sv S] w fun e w' => e = .returned (sv (neg S)) ∧ Below w.heap.size w w' := not_any S w
theorem any_to (S T : Nat → Bool) (w : World) : Calls Try.prog 28 #[sv S, sv T] w fun e w' => e = .returned (sv (cor S T)) ∧ Below w.heap.size w w' := any_any S T w
/-- The four cells of a set's block. -/
def C4 (W : World) (B : Nat) (S : Nat → Bool) : Prop :=
  W.cell? ⟨B, 0, none⟩ = some (.int .u64 ((wd S 0 : Nat) : Int)) ∧ W.cell? ⟨B, 1, none⟩ = some (.int .u64 ((wd S 1 : Nat) : Int)) ∧ W.cell? ⟨B, 2, none⟩ = some (.int .u64 ((wd S 2 : Nat) : Int)) ∧ W.cell? ⟨B, 3, none⟩ = some (.int .u64 ((wd S 3 : Nat) : Int))

end Go.Proofs.Ytgckhkdjjmeboaa
