/-
  A set, written as one. Conditions: the table of math/bits lies as it is laid.
-/
import Derived.Test.YtgckhkdjjmeboaaLexText
import Derived.Test.YtgckhkdjjmeboaaSetRowsC
import Derived.Test.YtgckhkdjjmeboaaSetOps
namespace Go.Proofs.Ytgckhkdjjmeboaa
open Go.RowKit

/-- Two own rows lie apart. -/
def Apart (v vr : Value) : Prop := ∀ g, v.ownBlock = some g → vr.ownBlock ≠ some g
theorem Apart.keep {W W' : World} {v vr : Value} (hs : Apart v vr) (hg : W.grownBy W' v.ownBlock) {base size n : Nat} {e : TypeId} {xs : List Value} (h : W.ownsRow base e size vr n xs) : W'.ownsRow base e size vr n xs := by
  refine h.kept hg ?_
  cases hv : vr.ownBlock with
  | none => exact .inl rfl
  | some g => exact .inr fun e => hs g e.symm hv
theorem Apart.step {W : World} {v v' vr : Value} (hs : Apart v vr) (hp : Placed W v v') {base size n : Nat} {e : TypeId} {xs : List Value} (h : W.ownsRow base e size vr n xs) : Apart v' vr := by
  intro g hg hr
  rcases hp with hp | ⟨k, hp, hk⟩
  · exact hs g (hp.symm.trans hg) hr
  · have h1 := (h.lt g hr).2
    have := Option.some.inj (hp.symm.trans hg)
    omega
theorem blk_keep {W W' : World} {B : Nat} {t : TypeId} {vs : Array Value} {v : Value} (h : Blk W B t vs) (hg : W.grownBy W' v.ownBlock) (hne : v.ownBlock ≠ some B) : Blk W' B t vs := (hg.block B h.lt fun e => hne e.symm).trans h
theorem own_not {W : World} {base size n B : Nat} {e : TypeId} {v : Value} {xs : List Value} (h : W.ownsRow base e size v n xs) (hB : W.heap.size ≤ B) : v.ownBlock ≠ some B := by
  intro e
  have := (h.lt B e).2
  omega
theorem placed_not {W : World} {v v' : Value} {B : Nat} (hp : Placed W v v') (hv : v.ownBlock ≠ some B) (hB : B < W.heap.size) : v'.ownBlock ≠ some B := by
  rcases hp with hp | ⟨k, hp, hk⟩
  · rw [hp]; exact hv
  · rw [hp]; intro e; have := Option.some.inj e; omega
theorem lit_ne {b B n c : Nat} (h : b ≠ B) : (Value.slice (some ⟨b, 0, none⟩) n c).ownBlock ≠ some B := fun e => h (Option.some.inj e)
theorem lit_le {b B n c : Nat} (h : B ≤ b) : ∀ k, (Value.slice (some ⟨b, 0, none⟩) n c).ownBlock = some k → B ≤ k := fun k hk => by
  have e : b = k := Option.some.inj hk
  omega
theorem cnt_size (S : Nat → Bool) : sz S = cnt S 256 := rfl

theorem owns_store {W W' : World} {base size n b : Nat} {e : TypeId} {v : Value} {xs : List Value} (h : W.ownsRow base e size v n xs) (hko : ∀ (B' : Nat) (t : TypeId) (vs : Array Value), B' ≠ b → Blk W B' t vs → Blk W' B' t vs) (hne : ∀ k, v.ownBlock = some k → k ≠ b) : W'.ownsRow base e size v n xs := by
  obtain ⟨h1, h2⟩ := h
  refine ⟨h1, ?_⟩
  rcases h2 with h0 | ⟨g, cap, cur, rfl, hb, hg, rest⟩
  · exact .inl h0
  · exact .inr ⟨g, cap, cur, rfl, hb, hko g e cur (hne g rfl) hg, rest⟩

end Go.Proofs.Ytgckhkdjjmeboaa
