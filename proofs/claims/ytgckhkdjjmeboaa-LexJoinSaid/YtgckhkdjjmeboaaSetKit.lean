/-
  Small laws on a block of cells: what it holds, what a store makes of it, that it stays where what lies below a bound stays. Conditions: those that each names.
-/
import Derived.Test.YtgckhkdjjmeboaaChecked
import Derived.Test.YtgckhkdjjmeboaaSetPop
import Derived.WalkKit
import Derived.WalkLawsBesides
import Derived.WalkSpells
import Derived.ProofKit
import Derived.OneCell
import Derived.Shelf.Spec.TrailingZeros
namespace Go.Proofs.Ytgckhkdjjmeboaa
open Go.RowKit

theorem ret_int {k : IntKind} {a b : Int} (h : a = b) : Ending.returned (.int k a) = .returned (.int k b) := by rw [h]
/-- A new block changes nothing below. -/
theorem bal {a w : World} (h : Below a.heap.size a w) (o : Obj) : Below a.heap.size a (w.alloc o) := h.alloc h.size o
theorem bal0 (w : World) (o : Obj) : Below w.heap.size w (w.alloc o) := bal (Below.refl _ _) o
/-- What has happened since, seen from a smaller world. -/
theorem btr {a b c : World} (h : Below a.heap.size a b) (k : Below b.heap.size b c) : Below a.heap.size a c := h.trans (k.mono h.size)

/-- Block B is a row of cells of type t. -/
def Blk (W : World) (B : Nat) (t : TypeId) (vs : Array Value) : Prop := W.heap[B]? = some (.cells vs t (0, 0))

theorem Blk.lt {W : World} {B : Nat} {t : TypeId} {vs : Array Value} (h : Blk W B t vs) : B < W.heap.size := lt_of_block h
theorem Blk.cell {W : World} {B : Nat} {t : TypeId} {vs : Array Value} (h : Blk W B t vs) (k : Nat) : W.cell? ⟨B, k, none⟩ = vs[k]? := by
  simp [World.cell?, show W.heap[B]? = _ from h]
theorem Blk.frozen {W : World} {B : Nat} {t : TypeId} {vs : Array Value} (h : Blk W B t vs) (k : Nat) : W.frozen? ⟨B, k, none⟩ = false := by
  simp [World.frozen?, show W.heap[B]? = _ from h]
theorem Blk.new (W : World) (t : TypeId) (vs : Array Value) : Blk (W.alloc (.cells vs t)) W.heap.size t vs := by
  show (W.heap.push _)[W.heap.size]? = _
  simp
theorem Blk.below {n : Nat} {W W' : World} {B : Nat} {t : TypeId} {vs : Array Value} (h : Blk W B t vs) (hb : Below n W W') (hB : B < n) : Blk W' B t vs := (hb.block B hB).trans h
theorem Blk.alloc {W : World} {B : Nat} {t : TypeId} {vs : Array Value} (h : Blk W B t vs) (o : Obj) : Blk (W.alloc o) B t vs := (Below.heap_alloc W o B h.lt).trans h
theorem Blk.drew {W : World} {B : Nat} {t : TypeId} {vs : Array Value} (h : Blk W B t vs) : Blk W.drew B t vs := h
theorem Blk.other {W : World} {B : Nat} {t : TypeId} {vs : Array Value} (h : Blk W B t vs) (a : Addr) (u : Value) (ha : B ≠ a.block) : Blk (W.setCell a u) B t vs := (Below.heap_setCell W a u B ha).trans h
theorem Blk.set {W : World} {B : Nat} {t : TypeId} {vs : Array Value} (h : Blk W B t vs) (k : Nat) (u : Value) : Blk (W.setCell ⟨B, k, none⟩ u) B t (vs.setIfInBounds k u) := by
  have hlt := h.lt
  have h' : W.heap[B] = .cells vs t (0, 0) := by
    have := h; unfold Blk at this; simpa [Array.getElem?_eq_getElem hlt] using this
  show (W.heap.modify B _)[B]? = _
  rw [Array.getElem?_eq_getElem (by simpa using hlt), Array.getElem_modify_self, h']
  rfl

/-- The four words of a set, as values. -/
abbrev cells4 (S : Nat → Bool) : Array Value := #[.int .u64 ((wd S 0 : Nat) : Int), .int .u64 ((wd S 1 : Nat) : Int), .int .u64 ((wd S 2 : Nat) : Int), .int .u64 ((wd S 3 : Nat) : Int)]
/-- A set, as a value. -/
abbrev sv (S : Nat → Bool) : Value := .agg #[.int .u64 ((wd S 0 : Nat) : Int), .int .u64 ((wd S 1 : Nat) : Int), .int .u64 ((wd S 2 : Nat) : Int), .int .u64 ((wd S 3 : Nat) : Int)]

theorem cells4_get (S : Nat → Bool) (k : Nat) (hk : k < 4) : (cells4 S)[k]? = some (.int .u64 ((wd S k : Nat) : Int)) := by
  match k, hk with
  | 0, _ => rfl
  | 1, _ => rfl
  | 2, _ => rfl
  | 3, _ => rfl

theorem Blk.cells {W : World} {B : Nat} {t : TypeId} {S : Nat → Bool} (h : Blk W B t (cells4 S)) :
    W.cell? ⟨B, 0, none⟩ = some (.int .u64 ((wd S 0 : Nat) : Int)) ∧ W.cell? ⟨B, 1, none⟩ = some (.int .u64 ((wd S 1 : Nat) : Int)) ∧ W.cell? ⟨B, 2, none⟩ = some (.int .u64 ((wd S 2 : Nat) : Int)) ∧ W.cell? ⟨B, 3, none⟩ = some (.int .u64 ((wd S 3 : Nat) : Int)) :=
  ⟨h.cell 0, h.cell 1, h.cell 2, h.cell 3⟩

theorem cells4_ext {S T : Nat → Bool} (h : ∀ i, i < 256 → S i = T i) : cells4 S = cells4 T := by
  have e : ∀ k, k < 4 → wd S k = wd T k := fun k hk => wd_ext fun j hj => h _ (by omega)
  unfold cells4
  rw [e 0 (by decide), e 1 (by decide), e 2 (by decide), e 3 (by decide)]

theorem sv_ext {S T : Nat → Bool} (h : ∀ i, i < 256 → S i = T i) : sv S = sv T := congrArg Value.agg (cells4_ext h)

/-- A byte more, in its word. -/
theorem cells4_upd (S : Nat → Bool) (x : Nat) (hx : x < 256) : (cells4 S).setIfInBounds (x / 64) (.int .u64 ((wd (upd S x) (x / 64) : Nat) : Int)) = cells4 (upd S x) := by
  have h : ∀ k, x / 64 = k → k < 4 → (cells4 S).setIfInBounds k (.int .u64 ((wd (upd S x) k : Nat) : Int)) = cells4 (upd S x) := by
    intro k hk hk4
    have o : ∀ i, i ≠ k → wd (upd S x) i = wd S i := fun i hi => wd_upd_other S x i (by omega)
    unfold cells4
    match k, hk4 with
    | 0, _ => rw [o 1 (by decide), o 2 (by decide), o 3 (by decide)]; rfl
    | 1, _ => rw [o 0 (by decide), o 2 (by decide), o 3 (by decide)]; rfl
    | 2, _ => rw [o 0 (by decide), o 1 (by decide), o 3 (by decide)]; rfl
    | 3, _ => rw [o 0 (by decide), o 1 (by decide), o 2 (by decide)]; rfl
  exact h _ rfl (by omega)

/-- A new row of four zero words. -/
abbrev zero4 : Array Value := #[.int .u64 0, .int .u64 0, .int .u64 0, .int .u64 0]
theorem cells4_zero : cells4 (fun _ => false) = zero4 := rfl
/-- 'word |= 1 << (x % 64)', as the walk spells it. -/
theorem or_walk (S : Nat → Bool) (x : Nat) : bits .or .u64 ((wd S (x / 64) : Nat) : Int) (IntKind.u64.wrap (2 ^ (x % 64))) = ((wd (upd S x) (x / 64) : Nat) : Int) := by
  have e : IntKind.u64.wrap ((2 : Int) ^ (x % 64)) = ((2 ^ (x % 64) : Nat) : Int) := by
    have h : 2 ^ (x % 64) < 2 ^ 64 := Nat.pow_lt_pow_right (by decide) (by omega)
    have h2 : ((2 : Int) ^ (x % 64)) = ((2 ^ (x % 64) : Nat) : Int) := by rw [Int.natCast_pow]; rfl
    have key : ∀ p : Nat, p < 2 ^ 64 → ((p : Int) % 18446744073709551616 = (p : Int)) := by intro p hp; omega
    rw [h2, IntKind.wrap_u64]
    exact key _ h
  rw [e, wd_upd_or S x _ rfl]
theorem Blk.upd {W : World} {B : Nat} {t : TypeId} {S : Nat → Bool} (h : Blk W B t (cells4 S)) (x : Nat) (hx : x < 256) : Blk (W.setCell ⟨B, x / 64, none⟩ (.int .u64 ((wd (upd S x) (x / 64) : Nat) : Int))) B t (cells4 (upd S x)) := by
  have := h.set (x / 64) (.int .u64 ((wd (Go.Proofs.Ytgckhkdjjmeboaa.upd S x) (x / 64) : Nat) : Int))
  rwa [cells4_upd S x hx] at this

end Go.Proofs.Ytgckhkdjjmeboaa
