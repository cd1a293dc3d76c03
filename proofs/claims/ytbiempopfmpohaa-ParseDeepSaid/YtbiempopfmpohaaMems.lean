/-
A slice of numbers in memory: where it lies, that it stays where what lies below a bound stays, its front and its back; one of the call's own. Conditions: none but those that each names.
What a call that changes some old blocks leaves as it was; rows of numbers, and rows of such rows, that lie in blocks of a given kind. Conditions: none but those that each names.
A region that draws its order, whose operations give the same values in every world in which nothing that was there has changed: walked once. Conditions: those that each names.
-/
import Derived.Test.YtbiempopfmpohaaSetKs
import Derived.Lib.Hide
import Derived.Laws.MakeOwn
import Derived.Laws.OwnMore
import Derived.Maps.AppendAt
import Derived.BigQuiet
namespace Go.Proofs.Ytbiempopfmpohaa
open Go.RowKit

/-- From the address on lie these numbers, in a block below the bound. -/
def IAt (W : World) (ao : Option Addr) (xs : List Int) (bd : Nat) : Prop :=
  0 < xs.length → ∃ g off, ao = some ⟨g, off, none⟩ ∧ g < bd ∧ ∀ i, i < xs.length → W.cell? ⟨g, off + i, none⟩ = some (.int .i64 (xs.getD i 0))
theorem IAt.below {W W' : World} {ao : Option Addr} {xs : List Int} {bd n : Nat} (h : IAt W ao xs bd) (hb : Below n W W') (hn : bd ≤ n) : IAt W' ao xs bd := by
  intro hp
  obtain ⟨g, off, hg, hlt, hc⟩ := h hp
  exact ⟨g, off, hg, hlt, fun i hi => (hb.cell (p := ⟨g, _, none⟩) (by simp only; omega)).trans (hc i hi)⟩
theorem IAt.mono {W : World} {ao : Option Addr} {xs : List Int} {bd n : Nat} (h : IAt W ao xs bd) (hn : bd ≤ n) : IAt W ao xs n := by
  intro hp
  obtain ⟨g, off, hg, hlt, hc⟩ := h hp
  exact ⟨g, off, hg, by omega, hc⟩
theorem IAt.hid {w : World} {ao : Option Addr} {xs : List Int} {len : Nat} (hl : xs.length = len) (h : IAt w ao xs w.heap.size) :
    Hid (0 < len → ∃ g off, ao = some ⟨g, off, none⟩ ∧ g < w.heap.size ∧ ∀ i, i < len → ∀ W : World, Below w.heap.size w W → W.cell? ⟨g, off + i, none⟩ = some (.int .i64 (xs.getD i 0))) :=
  Lib.hid fun hp => by
    obtain ⟨g, off, rfl, hg, hc⟩ := h (by omega)
    exact ⟨g, off, rfl, hg, fun i hi W hb => (hb.cell (p := ⟨g, _, none⟩) hg).trans (hc i (by omega))⟩

abbrev numCells (L : List Int) : List Value := L.map (Value.int .i64)
theorem IAt.of_owns {W : World} {base : Nat} {v : Value} {xs : List Int} (h : W.ownsRow base 3 1 v xs.length (numCells xs)) : ∃ ao cap, v = .slice ao xs.length cap ∧ xs.length ≤ cap ∧ cap ≤ maxLen ∧ IAt W ao xs W.heap.size := by
  obtain ⟨hl, h⟩ := h
  rcases h with ⟨rfl, h0⟩ | ⟨g, cap, cur, rfl, _, hb, hn, hcm, hsz, ht⟩
  · exact ⟨none, 0, by rw [h0], by omega, Nat.zero_le _, fun hp => by omega⟩
  · refine ⟨_, cap, rfl, hn, hcm, fun _ => ⟨g, 0, rfl, lt_of_block hb, fun i hi => ?_⟩⟩
    have : W.cell? ⟨g, 0 + i, none⟩ = cur[i]? := by simp [World.cell?, hb]
    rw [this]
    have h2 : (cur.toList.take (xs.length * 1))[i]? = (numCells xs)[i]? := by rw [ht]
    rw [List.getElem?_take_of_lt (by omega)] at h2
    simp [List.getD, hi] at h2 ⊢
    exact h2
theorem owns_low {W : World} {b b' : Nat} {e : TypeId} {size n : Nat} {v : Value} {xs : List Value} (h : W.ownsRow b e size v n xs) (hb : b' ≤ b) : W.ownsRow b' e size v n xs := by
  obtain ⟨h1, h2⟩ := h
  refine ⟨h1, ?_⟩
  rcases h2 with h | ⟨g, cap, cur, e1, e2, e3⟩
  · exact .inl h
  · exact .inr ⟨g, cap, cur, e1, by omega, e3⟩
/-- The front of a row, and what stands behind it. -/
theorem IAt.front {W : World} {ao : Option Addr} {xs : List Int} {bd : Nat} (h : IAt W ao xs bd) (k : Nat) : IAt W ao (xs.take k) bd := by
  intro hp
  rw [List.length_take] at hp
  obtain ⟨g, off, e, hlt, hc⟩ := h (by omega)
  refine ⟨g, off, e, hlt, fun i hi => ?_⟩
  rw [List.length_take] at hi
  rw [hc i (by omega)]
  simp [List.getD, show i < k by omega]
theorem IAt.back {W : World} {g off : Nat} {xs : List Int} {bd : Nat} (h : IAt W (some ⟨g, off, none⟩) xs bd) (k : Nat) : IAt W (some ⟨g, off + k, none⟩) (xs.drop k) bd := by
  intro hp
  rw [List.length_drop] at hp
  obtain ⟨g', off', e, hlt, hc⟩ := h (by omega)
  cases e
  refine ⟨g, off + k, rfl, hlt, fun i hi => ?_⟩
  rw [List.length_drop] at hi
  rw [Nat.add_assoc, hc (k + i) (by omega)]
  simp [List.getD, List.getElem?_drop]
end Go.Proofs.Ytbiempopfmpohaa
namespace Go.Proofs.Ytbiempopfmpohaa
open Go.RowKit

/-- Of what was there only blocks of F have changed. -/
structure But (F : Nat → Prop) (w w' : World) : Prop where
  os : w'.os = w.os
  tape : w'.tape = w.tape
  output : w'.output = w.output
  size : w.heap.size ≤ w'.heap.size
  block : ∀ k, k < w.heap.size → ¬ F k → w'.heap[k]? = w.heap[k]?
theorem But.of_below {F : Nat → Prop} {w w' : World} (h : Below w.heap.size w w') : But F w w' := ⟨h.os, h.tape, h.output, h.size, fun k hk _ => h.block k hk⟩
theorem But.below {F : Nat → Prop} {n : Nat} {w w' : World} (h : But F w w') (hn : n ≤ w.heap.size) (hF : ∀ k, F k → n ≤ k) : Below n w w' :=
  ⟨h.os, h.tape, h.output, h.size, fun k hk => h.block k (by omega) fun f => by have := hF k f; omega⟩
theorem But.trans {F G : Nat → Prop} {a b c : World} (h : But F a b) (k : But G b c) (hG : ∀ i, G i → F i ∨ a.heap.size ≤ i) : But F a c :=
  ⟨k.os.trans h.os, k.tape.trans h.tape, k.output.trans h.output, Nat.le_trans h.size k.size, fun i hi hf => (k.block i (Nat.lt_of_lt_of_le hi h.size) fun g => by
    rcases hG i g with g | g
    · exact hf g
    · omega).trans (h.block i hi hf)⟩
theorem But.mono {F G : Nat → Prop} {w w' : World} (h : But F w w') (hG : ∀ k, F k → G k) : But G w w' := ⟨h.os, h.tape, h.output, h.size, fun k hk hg => h.block k hk fun f => hg (hG k f)⟩
theorem But.cell {F : Nat → Prop} {w w' : World} (h : But F w w') {a : Addr} (ha : a.block < w.heap.size) (hF : ¬ F a.block) : w'.cell? a = w.cell? a := World.cell?_of_block (h.block _ ha hF)
theorem But.blk {F : Nat → Prop} {w w' : World} (h : But F w w') {B : Nat} {t : TypeId} {vs : Array Value} (hB : Blk w B t vs) (hF : ¬ F B) : Blk w' B t vs := (h.block _ hB.lt hF).trans hB
theorem But.owns {F : Nat → Prop} {w w' : World} (h : But F w w') {base : Nat} {e : TypeId} {size n : Nat} {v : Value} {xs : List Value} (ho : w.ownsRow base e size v n xs) (hF : ∀ k, v.ownBlock = some k → ¬ F k) : w'.ownsRow base e size v n xs := by
  obtain ⟨h1, h2⟩ := ho
  refine ⟨h1, ?_⟩
  rcases h2 with h0 | ⟨g, cap, cur, rfl, hb, hg, rest⟩
  · exact .inl h0
  · exact .inr ⟨g, cap, cur, rfl, hb, (h.block g (lt_of_block hg) (hF g rfl)).trans hg, rest⟩

theorem owns_form {w : World} {base size n : Nat} {e : TypeId} {v : Value} {xs : List Value} (h : w.ownsRow base e size v n xs) : ∃ ao cap, v = .slice ao n cap ∧ n ≤ cap := by
  rcases h.2 with ⟨rfl, rfl⟩ | ⟨g, cap, cur, rfl, _, _, h, _⟩
  · exact ⟨none, 0, rfl, Nat.le_refl _⟩
  · exact ⟨_, cap, rfl, h⟩
/-- From the address on lie these numbers, in a block of F. -/
def RowIn (W : World) (F : Nat → Prop) (ao : Option Addr) (xs : List Int) : Prop :=
  0 < xs.length → ∃ g off, ao = some ⟨g, off, none⟩ ∧ F g ∧ g < W.heap.size ∧ ∀ i, i < xs.length → W.cell? ⟨g, off + i, none⟩ = some (.int .i64 (xs.getD i 0))
theorem RowIn.iat {W : World} {F : Nat → Prop} {ao : Option Addr} {xs : List Int} (h : RowIn W F ao xs) : IAt W ao xs W.heap.size := fun hp => by
  obtain ⟨g, off, e, _, hl, hc⟩ := h hp
  exact ⟨g, off, e, hl, hc⟩
theorem RowIn.but {W W' : World} {F G : Nat → Prop} {ao : Option Addr} {xs : List Int} (h : RowIn W F ao xs) (hb : But G W W') (hd : ∀ k, F k → ¬ G k) : RowIn W' F ao xs := fun hp => by
  obtain ⟨g, off, e, hF, hl, hc⟩ := h hp
  exact ⟨g, off, e, hF, Nat.lt_of_lt_of_le hl hb.size, fun i hi => (hb.cell (a := ⟨g, _, none⟩) hl (hd g hF)).trans (hc i hi)⟩
theorem RowIn.mono {W : World} {F G : Nat → Prop} {ao : Option Addr} {xs : List Int} (h : RowIn W F ao xs) (hG : ∀ k, F k → G k) : RowIn W G ao xs := fun hp => by
  obtain ⟨g, off, e, hF, hl, hc⟩ := h hp
  exact ⟨g, off, e, hG g hF, hl, hc⟩
/-- A row of the call's own lies so. -/
theorem RowIn.of_owns {W : World} {base : Nat} {v : Value} {xs : List Int} (h : W.ownsRow base 3 1 v xs.length (numCells xs)) : ∃ ao cap, v = .slice ao xs.length cap ∧ xs.length ≤ cap ∧ cap ≤ maxLen ∧ RowIn W (fun k => base ≤ k) ao xs := by
  obtain ⟨ao, cap, rfl, h1, h2, h3⟩ := IAt.of_owns h
  refine ⟨ao, cap, rfl, h1, h2, fun hp => ?_⟩
  obtain ⟨g, off, rfl, hg, hc⟩ := h3 hp
  exact ⟨g, off, rfl, (h.lt g rfl).1, hg, hc⟩
theorem IAt.row {W : World} {ao : Option Addr} {xs : List Int} {bd : Nat} (h : IAt W ao xs bd) (hb : bd ≤ W.heap.size) : RowIn W (fun k => k < bd) ao xs := fun hp => by
  obtain ⟨g, off, e, hg, hc⟩ := h hp
  exact ⟨g, off, e, hg, by omega, hc⟩

/-- A slice of rows: from the address on lie slices of these rows, all in blocks below the bound. -/
def RsAt (W : World) (ao : Option Addr) (L : List (List Int)) (bd : Nat) : Prop :=
  0 < L.length → ∃ g off, ao = some ⟨g, off, none⟩ ∧ g < bd ∧ ∀ i, i < L.length → ∃ so sc, W.cell? ⟨g, off + i, none⟩ = some (.slice so (L.getD i []).length sc) ∧ (L.getD i []).length ≤ sc ∧ (L.getD i []).length ≤ maxLen ∧ IAt W so (L.getD i []) bd
theorem RsAt.below {W W' : World} {ao : Option Addr} {L : List (List Int)} {bd n : Nat} (h : RsAt W ao L bd) (hb : Below n W W') (hn : bd ≤ n) : RsAt W' ao L bd := fun hp => by
  obtain ⟨g, off, e, hg, hc⟩ := h hp
  refine ⟨g, off, e, hg, fun i hi => ?_⟩
  obtain ⟨so, sc, h1, h2, h3, h4⟩ := hc i hi
  exact ⟨so, sc, (hb.cell (p := ⟨g, _, none⟩) (by simp only; omega)).trans h1, h2, h3, h4.below hb hn⟩
theorem RsAt.mono {W : World} {ao : Option Addr} {L : List (List Int)} {bd n : Nat} (h : RsAt W ao L bd) (hn : bd ≤ n) : RsAt W ao L n := fun hp => by
  obtain ⟨g, off, e, hg, hc⟩ := h hp
  refine ⟨g, off, e, by omega, fun i hi => ?_⟩
  obtain ⟨so, sc, h1, h2, h3, h4⟩ := hc i hi
  exact ⟨so, sc, h1, h2, h3, h4.mono hn⟩
end Go.Proofs.Ytbiempopfmpohaa
namespace Go.Proofs.Ytbiempopfmpohaa
open Go.RowKit

/-- A world in which nothing that was there in w0 has changed. -/
structure Past (w0 : World) where
  w : World
  h : Below w0.heap.size w0 w
instance (w0 : World) : Nonempty (Past w0) := ⟨⟨w0, Below.refl _ _⟩⟩
/-- A region that draws its order, whose operations give the same values in every such world: walked once, in the order of the text. -/
theorem wp_region_past {P : Program} {id : Nat} {Q : Exit → Act → World → Prop} {a : Act} {w0 w : World} {l : List Oper} (hm : P.follows .mixedOrders = true) (hB : Region.lexB .any l.toArray = true) (hC : Below w0.heap.size w0 w)
    (h : wpQuiet P l.toArray (fun w' => ∃ p : Past w0, w' = p.w) (fun a' => ∀ p : Past w0, Q .normal a' p.w) l a) : (Code.region id l.toArray true).wp P Q a w := by
  refine wp_region_quiet (C := fun w' => ∃ p : Past w0, w' = p.w) hm hB ⟨⟨w.drew, hC.drew⟩, rfl⟩ ?_
  have e : (fun a' => ∀ w' : World, (∃ p : Past w0, w' = p.w) → Q .normal a' w') = fun a' => ∀ p : Past w0, Q .normal a' p.w := by
    funext a'
    exact propext ⟨fun h p => h p.w ⟨p, rfl⟩, fun h w' ⟨p, hp⟩ => hp ▸ h p⟩
  rw [e]
  exact h
theorem Calls.past {P : Program} {f : FuncId} {args : Array Value} {v : Value} {w0 : World} {p : Past w0} (h : Calls P f args p.w fun e w' => e = .returned v ∧ Below p.w.heap.size p.w w') :
    Calls P f args p.w fun e w' => e = .returned v ∧ ∃ q : Past w0, w' = q.w :=
  h.mono fun _ w' ⟨he, hb⟩ => ⟨he, ⟨w', btr p.h hb⟩, rfl⟩
end Go.Proofs.Ytbiempopfmpohaa
