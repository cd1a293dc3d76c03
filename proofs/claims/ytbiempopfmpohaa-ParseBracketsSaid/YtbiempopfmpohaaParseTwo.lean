/-
  Expressions that the statements build in memory, of one part and of two. Conditions: the parts lie in memory.
-/
import Derived.Test.YtbiempopfmpohaaParseAwake
namespace Go.Proofs.Ytbiempopfmpohaa
open Go.RowKit

/-- An expression without text and set, written out. -/
theorem lit_eq (k : Int) (ps : List Rx) (lo hi : Int) (ao : Option Addr) (n cap : Nat) (hn : ps.length = n) :
    (Value.agg #[.int .i64 ((k : Int) : Int), .string { data := #[] }, .int .u64 0, .int .u64 0, .int .u64 0, .int .u64 0, .slice ao n cap, .int .i64 lo, .int .i64 hi]) = rxV (.mk k [] noSet ps lo hi) ao cap := by
  have z := wd_no
  simp [Rx.kind, Rx.text, Rx.set, Rx.parts, Rx.lo, Rx.hi, z, mkS, hn]
theorem lit_cells (k : Int) (ps : List Rx) (lo hi : Int) (ao : Option Addr) (n cap : Nat) (hn : ps.length = n) :
    rxCells (.mk k [] noSet ps lo hi) ao cap = #[.int .i64 ((k : Int) : Int), .string { data := #[] }, .int .u64 0, .int .u64 0, .int .u64 0, .int .u64 0, .slice ao n cap, .int .i64 lo, .int .i64 hi] := by
  have z := wd_no
  simp [Rx.kind, Rx.text, Rx.set, Rx.parts, Rx.lo, Rx.hi, z, mkS, hn]
theorem Blk.r9 {W : World} {B o : Nat} {t : TypeId} {vs : Array Value} {a : Rx} {ao : Option Addr} {cap : Nat} (h : Blk W B t vs) (hc : ∀ i, i < 9 → vs[o + i]? = (rxCells a ao cap)[i]?) : R9At W B o a ao cap :=
  ⟨(h.cell o).trans (hc 0 (by decide)), (h.cell _).trans (hc 1 (by decide)), (h.cell _).trans (hc 2 (by decide)), (h.cell _).trans (hc 3 (by decide)), (h.cell _).trans (hc 4 (by decide)), (h.cell _).trans (hc 5 (by decide)), (h.cell _).trans (hc 6 (by decide)), (h.cell _).trans (hc 7 (by decide)), (h.cell _).trans (hc 8 (by decide))⟩
/-- The cells of two expressions, side by side. -/
abbrev rx2 (a : Rx) (ao : Option Addr) (ac : Nat) (b : Rx) (bo : Option Addr) (bc : Nat) : Array Value := #[.int .i64 a.kind, .string (mkS a.text), .int .u64 ((wd a.set 0 : Nat) : Int), .int .u64 ((wd a.set 1 : Nat) : Int), .int .u64 ((wd a.set 2 : Nat) : Int), .int .u64 ((wd a.set 3 : Nat) : Int), .slice ao a.parts.length ac, .int .i64 a.lo, .int .i64 a.hi, .int .i64 b.kind, .string (mkS b.text), .int .u64 ((wd b.set 0 : Nat) : Int), .int .u64 ((wd b.set 1 : Nat) : Int), .int .u64 ((wd b.set 2 : Nat) : Int), .int .u64 ((wd b.set 3 : Nat) : Int), .slice bo b.parts.length bc, .int .i64 b.lo, .int .i64 b.hi]
theorem built_two (k : Int) (a b : Rx) (ao bo : Option Addr) (ac bc : Nat) (lo hi : Int) (W : World) (ha : ReAt W W.heap.size a ao ac) (hb : ReAt W W.heap.size b bo bc) :
    ReAt (W.alloc (.cells (rx2 a ao ac b bo bc) 27)) (W.alloc (.cells (rx2 a ao ac b bo bc) 27)).heap.size (.mk k [] noSet [a, b] lo hi) (some ⟨W.heap.size, 0, none⟩) 2 := by
  have hA := bal0 W (.cells (rx2 a ao ac b bo bc) 27)
  have h1 := ha.go hA
  have h2 := hb.go hA
  have hB := Blk.new W 27 (rx2 a ao ac b bo bc)
  have hlt := hB.lt
  rw [ReAt_eq]
  refine ⟨show (2 : Nat) ≤ 4398046511104 by decide, Nat.le_refl 2, by decide, .inr ⟨_, _, rfl, hlt, ?_⟩⟩
  show RowAt _ _ _ _ [a, b]
  rw [RowAt_cons, RowAt_cons, RowAt]
  refine ⟨⟨ao, ac, hB.r9 fun i hi => ?_, h1⟩, ⟨bo, bc, hB.r9 fun i hi => ?_, h2⟩, trivial⟩
  · match i, hi with
    | 0, _ | 1, _ | 2, _ | 3, _ | 4, _ | 5, _ | 6, _ | 7, _ | 8, _ => rfl
  · match i, hi with
    | 0, _ | 1, _ | 2, _ | 3, _ | 4, _ | 5, _ | 6, _ | 7, _ | 8, _ => rfl
theorem built_one (k : Int) (a : Rx) (ao : Option Addr) (ac : Nat) (lo hi : Int) (W : World) (ha : ReAt W W.heap.size a ao ac) :
    ReAt (W.alloc (.cells (rxCells a ao ac) 27)) (W.alloc (.cells (rxCells a ao ac) 27)).heap.size (.mk k [] noSet [a] lo hi) (some ⟨W.heap.size, 0, none⟩) 1 := by
  have hA := bal0 W (.cells (rxCells a ao ac) 27)
  have h1 := ha.go hA
  have hB := Blk.new W 27 (rxCells a ao ac)
  have hlt := hB.lt
  rw [ReAt_eq]
  refine ⟨show (1 : Nat) ≤ 4398046511104 by decide, Nat.le_refl 1, by decide, .inr ⟨_, _, rfl, hlt, ?_⟩⟩
  show RowAt _ _ _ _ [a]
  rw [RowAt_cons, RowAt]
  refine ⟨⟨ao, ac, hB.r9 fun i hi => ?_, h1⟩, trivial⟩
  rw [Nat.zero_add]
/-- In a later world, too. -/
theorem same_two {k : Int} {a b d : Rx} (hd : d = .mk k [] noSet [a, b] 0 0) (ao bo po : Option Addr) (ac bc pc : Nat) (W W' : World) (ha : ReAt W W.heap.size a ao ac) (hb : ReAt W W.heap.size b bo bc) (hp : ReAt W W.heap.size d po pc)
    (hW : Below (W.alloc (.cells (rx2 a ao ac b bo bc) 27)).heap.size (W.alloc (.cells (rx2 a ao ac b bo bc) 27)) W') :
    Calls Try.prog 8 #[rxV d po pc, .agg #[.int .i64 ((k : Int) : Int), .string { data := #[] }, .int .u64 0, .int .u64 0, .int .u64 0, .int .u64 0, .slice (some ⟨W.heap.size, 0, none⟩) 2 2, .int .i64 0, .int .i64 0]] W' fun e w' => e = .returned (.bool true) ∧ Below W'.heap.size W' w' := by
  subst hd
  rw [lit_eq k [a, b] 0 0 (some ⟨W.heap.size, 0, none⟩) 2 2 rfl]
  exact refsame_any _ _ (Nat.lt_succ_self _) _ _ _ _ _ ((hp.go (bal0 W _)).go hW) ((built_two k a b ao bo ac bc 0 0 W ha hb).go hW)
theorem same_one {k : Int} {a d : Rx} {lo hi : Int} (hd : d = .mk k [] noSet [a] lo hi) (ao po : Option Addr) (ac pc : Nat) (W W' : World) (ha : ReAt W W.heap.size a ao ac) (hp : ReAt W W.heap.size d po pc)
    (hW : Below (W.alloc (.cells (rxCells a ao ac) 27)).heap.size (W.alloc (.cells (rxCells a ao ac) 27)) W') :
    Calls Try.prog 8 #[rxV d po pc, .agg #[.int .i64 ((k : Int) : Int), .string { data := #[] }, .int .u64 0, .int .u64 0, .int .u64 0, .int .u64 0, .slice (some ⟨W.heap.size, 0, none⟩) 1 1, .int .i64 lo, .int .i64 hi]] W' fun e w' => e = .returned (.bool true) ∧ Below W'.heap.size W' w' := by
  subst hd
  rw [lit_eq k [a] lo hi (some ⟨W.heap.size, 0, none⟩) 1 1 rfl]
  exact refsame_any _ _ (Nat.lt_succ_self _) _ _ _ _ _ ((hp.go (bal0 W _)).go hW) ((built_one k a ao ac lo hi W ha).go hW)
end Go.Proofs.Ytbiempopfmpohaa
