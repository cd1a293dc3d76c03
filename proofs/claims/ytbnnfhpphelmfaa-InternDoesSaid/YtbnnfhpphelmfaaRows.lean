/-
  No cell of these rows narrows 'for every input' (looked for: loops, veiled, ifaces, maps, wideKeys, modest, calm, conditions, laid).
  DERIVED. THE GIVEN ROWS OF THIS SEAT. 6 by the template 'for every input the law returns true; each argument reads behind the call as it read before'; 0 by the template 'total and deterministic' (their statements: YtbnnfhpphelmfaaTotals.lean).
  GIVEN WITH THE SEED: the statements are not yours to turn. If you find one false, say at which input.
  Laid BY PROGRAM, IN A SANDBOX (cutbox-rows.mjs): the forced cells as the released guide's own fill.sh prints them over the translation 82eec589ec959091… (all of the seat's roots in one cut). By AI agents, Wed Nov 11 2026. No macro, syntax, notation, axiom, sorry.
-/
import Derived.Test.YtbnnfhpphelmfaaChecked
import GoSem.Claim
import GoSem.ClaimJoined
import GoSem.ClaimMapViews
import Derived.JoinedTies
import Derived.KernelRfl
namespace Go.Proofs.Ytbnnfhpphelmfaa
/- THE CELL 'sum', in the pinned program and in every row, IS THE sha256 OF THE DUMP (.gsa) THAT YtbnnfhpphelmfaaProg.lean LOADS. Nothing in Lean hashes anything: it is a label: what it is worth is what the hold of that sum in a sandbox is worth. -/
noncomputable def Try.pinned : Pinned := { name := "ytbnnfhpphelmfaa", sum := "82eec589ec959091aaaafd9a1c17c1d98690948f8ad3e63a8ac8d915e5ecef11", checked := Try.checked }
namespace Rows
def none {H : Type} : Left H := { results := [], args := [] }

/-- 'whittlelaw05.InternSorts': WHATEVER THE INPUT: true; the input reads as it did. -/
def internSortsSpec : ChangeSpec := { name := "internSorts", fn := fun _ => fun
  | [d1, d2] => { results := [.lit (.bool true)], args := [d1, d2] }
  | _ => none }
def internSortsRow : OpenClaim := { program := "ytbnnfhpphelmfaa", sum := "82eec589ec959091aaaafd9a1c17c1d98690948f8ad3e63a8ac8d915e5ecef11", func := "whittle/whittlelaw05.InternSorts", spec := "internSorts", recurses := true, apart := false }
def InternSortsSaid : Prop := internSortsRow.holds Try.pinned (OpenSpec.ofChange internSortsSpec)

/-- ITS FALSE NEIGHBOUR: 'it returns false'. Refute it at one input. -/
def internSortsWrong : ChangeSpec := { name := "internSorts", fn := fun _ => fun
  | [d1, d2] => { results := [.lit (.bool false)], args := [d1, d2] }
  | _ => none }
def InternSortsWrongFalsely : Prop := internSortsRow.holds Try.pinned (OpenSpec.ofChange internSortsWrong)

/-- 'whittlelaw05.InternDoes': WHATEVER THE INPUT: true; the input reads as it did. -/
def internDoesSpec : ChangeSpec := { name := "internDoes", fn := fun _ => fun
  | [d1, d2, d3] => { results := [.lit (.bool true)], args := [d1, d2, d3] }
  | _ => none }
def internDoesRow : OpenClaim := { program := "ytbnnfhpphelmfaa", sum := "82eec589ec959091aaaafd9a1c17c1d98690948f8ad3e63a8ac8d915e5ecef11", func := "whittle/whittlelaw05.InternDoes", spec := "internDoes", recurses := true, apart := false }
def InternDoesSaid : Prop := internDoesRow.holds Try.pinned (OpenSpec.ofChange internDoesSpec)

/-- ITS FALSE NEIGHBOUR: 'it returns false'. Refute it at one input. -/
def internDoesWrong : ChangeSpec := { name := "internDoes", fn := fun _ => fun
  | [d1, d2, d3] => { results := [.lit (.bool false)], args := [d1, d2, d3] }
  | _ => none }
def InternDoesWrongFalsely : Prop := internDoesRow.holds Try.pinned (OpenSpec.ofChange internDoesWrong)

/-- 'whittlelaw05.InternSame': WHATEVER THE INPUT: true; the input reads as it did. -/
def internSameSpec : ChangeSpec := { name := "internSame", fn := fun _ => fun
  | [d1, d2, d3] => { results := [.lit (.bool true)], args := [d1, d2, d3] }
  | _ => none }
def internSameRow : OpenClaim := { program := "ytbnnfhpphelmfaa", sum := "82eec589ec959091aaaafd9a1c17c1d98690948f8ad3e63a8ac8d915e5ecef11", func := "whittle/whittlelaw05.InternSame", spec := "internSame", recurses := true, apart := false }
def InternSameSaid : Prop := internSameRow.holds Try.pinned (OpenSpec.ofChange internSameSpec)

/-- ITS FALSE NEIGHBOUR: 'it returns false'. Refute it at one input. -/
def internSameWrong : ChangeSpec := { name := "internSame", fn := fun _ => fun
  | [d1, d2, d3] => { results := [.lit (.bool false)], args := [d1, d2, d3] }
  | _ => none }
def InternSameWrongFalsely : Prop := internSameRow.holds Try.pinned (OpenSpec.ofChange internSameWrong)

/-- 'whittlelaw05.InternOrder': WHATEVER THE INPUT: true; the input reads as it did. -/
def internOrderSpec : ChangeSpec := { name := "internOrder", fn := fun _ => fun
  | [d1, d2, d3] => { results := [.lit (.bool true)], args := [d1, d2, d3] }
  | _ => none }
def internOrderRow : OpenClaim := { program := "ytbnnfhpphelmfaa", sum := "82eec589ec959091aaaafd9a1c17c1d98690948f8ad3e63a8ac8d915e5ecef11", func := "whittle/whittlelaw05.InternOrder", spec := "internOrder", recurses := true, apart := false }
def InternOrderSaid : Prop := internOrderRow.holds Try.pinned (OpenSpec.ofChange internOrderSpec)

/-- ITS FALSE NEIGHBOUR: 'it returns false'. Refute it at one input. -/
def internOrderWrong : ChangeSpec := { name := "internOrder", fn := fun _ => fun
  | [d1, d2, d3] => { results := [.lit (.bool false)], args := [d1, d2, d3] }
  | _ => none }
def InternOrderWrongFalsely : Prop := internOrderRow.holds Try.pinned (OpenSpec.ofChange internOrderWrong)

/-- 'whittlelaw05.InternFull': WHATEVER THE INPUT: true; the input reads as it did. -/
def internFullSpec : ChangeSpec := { name := "internFull", fn := fun _ => fun
  | [d] => { results := [.lit (.bool true)], args := [d] }
  | _ => none }
def internFullRow : OpenClaim := { program := "ytbnnfhpphelmfaa", sum := "82eec589ec959091aaaafd9a1c17c1d98690948f8ad3e63a8ac8d915e5ecef11", func := "whittle/whittlelaw05.InternFull", spec := "internFull", recurses := true, apart := false }
def InternFullSaid : Prop := internFullRow.holds Try.pinned (OpenSpec.ofChange internFullSpec)

/-- ITS FALSE NEIGHBOUR: 'it returns false'. Refute it at one input. -/
def internFullWrong : ChangeSpec := { name := "internFull", fn := fun _ => fun
  | [d] => { results := [.lit (.bool false)], args := [d] }
  | _ => none }
def InternFullWrongFalsely : Prop := internFullRow.holds Try.pinned (OpenSpec.ofChange internFullWrong)

/-- 'whittlelaw05.InternNil': WHATEVER THE INPUT: true; the input reads as it did. -/
def internNilSpec : ChangeSpec := { name := "internNil", fn := fun _ => fun
  | [d1, d2] => { results := [.lit (.bool true)], args := [d1, d2] }
  | _ => none }
def internNilRow : OpenClaim := { program := "ytbnnfhpphelmfaa", sum := "82eec589ec959091aaaafd9a1c17c1d98690948f8ad3e63a8ac8d915e5ecef11", func := "whittle/whittlelaw05.InternNil", spec := "internNil", recurses := true, apart := false }
def InternNilSaid : Prop := internNilRow.holds Try.pinned (OpenSpec.ofChange internNilSpec)

/-- ITS FALSE NEIGHBOUR: 'it returns false'. Refute it at one input. -/
def internNilWrong : ChangeSpec := { name := "internNil", fn := fun _ => fun
  | [d1, d2] => { results := [.lit (.bool false)], args := [d1, d2] }
  | _ => none }
def InternNilWrongFalsely : Prop := internNilRow.holds Try.pinned (OpenSpec.ofChange internNilWrong)

/- THE SECOND FORM. 'bulk': how many values and letters a reading holds, each counted each time it is reached (what is shared counts as often as it is met; a slice's spare places count too). A statement '..UptoSaid' is the law's where the arguments, and the package variables that the reading takes, are together of bulk at most 1048576: NARROWER than '..Said'. Prove '..Said' where nothing that the law and all that it calls make is longer than what came in: it says more and counts as full. Else prove '..UptoSaid'. A law counts once. -/
mutual
def uptoBulk {H : Type} : DataW H → Nat
  | .lit (.string bytes) => bytes.length + 1
  | .lit _ => 1
  | .nil => 1
  | .ptr d => uptoBulk d + 1
  | .slice elems spare => uptoBulkAll elems + uptoBulkAll spare + 1
  | .agg parts => uptoBulkAll parts + 1
  | .iface _ d => uptoBulk d + 1
  | .map entries => uptoBulkEntries entries + 1
  | .held _ => 1
def uptoBulkAll {H : Type} : List (DataW H) → Nat
  | [] => 0
  | d :: r => uptoBulk d + uptoBulkAll r
def uptoBulkEntries {H : Type} : List (Lit × DataW H) → Nat
  | [] => 0
  | x :: r => uptoBulkEntry x + uptoBulkEntries r
def uptoBulkEntry {H : Type} : Lit × DataW H → Nat
  | (.string bytes, d) => bytes.length + uptoBulk d + 1
  | (_, d) => uptoBulk d + 1
 end
def uptoSmall : (H : Type) → List (DataW H) → Bool := fun _ ds => decide (uptoBulkAll ds ≤ 1048576)
def OpenSpec.upto (s : _root_.Go.ChangeSpec) : _root_.Go.OpenSpec := { _root_.Go.OpenSpec.ofChange s with cond := some uptoSmall }

/-- 'whittlelaw05.InternSorts', WHERE WHAT IT READS IS OF BULK AT MOST 1048576: true; the input reads as it did. -/
def internSortsUptoRow : OpenClaim := { program := "ytbnnfhpphelmfaa", sum := "82eec589ec959091aaaafd9a1c17c1d98690948f8ad3e63a8ac8d915e5ecef11", func := "whittle/whittlelaw05.InternSorts", spec := "internSorts", recurses := true, apart := false, narrowed := true }
def InternSortsUptoSaid : Prop := internSortsUptoRow.holds Try.pinned (OpenSpec.upto internSortsSpec)

/-- 'whittlelaw05.InternDoes', WHERE WHAT IT READS IS OF BULK AT MOST 1048576: true; the input reads as it did. -/
def internDoesUptoRow : OpenClaim := { program := "ytbnnfhpphelmfaa", sum := "82eec589ec959091aaaafd9a1c17c1d98690948f8ad3e63a8ac8d915e5ecef11", func := "whittle/whittlelaw05.InternDoes", spec := "internDoes", recurses := true, apart := false, narrowed := true }
def InternDoesUptoSaid : Prop := internDoesUptoRow.holds Try.pinned (OpenSpec.upto internDoesSpec)

/-- 'whittlelaw05.InternSame', WHERE WHAT IT READS IS OF BULK AT MOST 1048576: true; the input reads as it did. -/
def internSameUptoRow : OpenClaim := { program := "ytbnnfhpphelmfaa", sum := "82eec589ec959091aaaafd9a1c17c1d98690948f8ad3e63a8ac8d915e5ecef11", func := "whittle/whittlelaw05.InternSame", spec := "internSame", recurses := true, apart := false, narrowed := true }
def InternSameUptoSaid : Prop := internSameUptoRow.holds Try.pinned (OpenSpec.upto internSameSpec)

/-- 'whittlelaw05.InternOrder', WHERE WHAT IT READS IS OF BULK AT MOST 1048576: true; the input reads as it did. -/
def internOrderUptoRow : OpenClaim := { program := "ytbnnfhpphelmfaa", sum := "82eec589ec959091aaaafd9a1c17c1d98690948f8ad3e63a8ac8d915e5ecef11", func := "whittle/whittlelaw05.InternOrder", spec := "internOrder", recurses := true, apart := false, narrowed := true }
def InternOrderUptoSaid : Prop := internOrderUptoRow.holds Try.pinned (OpenSpec.upto internOrderSpec)

/-- 'whittlelaw05.InternFull', WHERE WHAT IT READS IS OF BULK AT MOST 1048576: true; the input reads as it did. -/
def internFullUptoRow : OpenClaim := { program := "ytbnnfhpphelmfaa", sum := "82eec589ec959091aaaafd9a1c17c1d98690948f8ad3e63a8ac8d915e5ecef11", func := "whittle/whittlelaw05.InternFull", spec := "internFull", recurses := true, apart := false, narrowed := true }
def InternFullUptoSaid : Prop := internFullUptoRow.holds Try.pinned (OpenSpec.upto internFullSpec)

/-- 'whittlelaw05.InternNil', WHERE WHAT IT READS IS OF BULK AT MOST 1048576: true; the input reads as it did. -/
def internNilUptoRow : OpenClaim := { program := "ytbnnfhpphelmfaa", sum := "82eec589ec959091aaaafd9a1c17c1d98690948f8ad3e63a8ac8d915e5ecef11", func := "whittle/whittlelaw05.InternNil", spec := "internNil", recurses := true, apart := false, narrowed := true }
def InternNilUptoSaid : Prop := internNilUptoRow.holds Try.pinned (OpenSpec.upto internNilSpec)

end Rows
end Go.Proofs.Ytbnnfhpphelmfaa
