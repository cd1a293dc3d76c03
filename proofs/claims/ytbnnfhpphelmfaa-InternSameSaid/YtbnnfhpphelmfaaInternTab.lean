/-
  The landed table in memory: a block with a map from keys to numbers and a slice of keys; a row looked up, and a new one noted. Conditions: those that each names.
-/
import Derived.Test.YtbnnfhpphelmfaaInternRowW
import Derived.Test.YtbnnfhpphelmfaaInternRef4
import Derived.Test.YtbnnfhpphelmfaaInternSrt
import Derived.Test.YtbnnfhpphelmfaaMaps
import Derived.Maps.AppendAt
namespace Go.Proofs.Ytbnnfhpphelmfaa
open Go.RowKit Go.Maps

theorem posTo_put (s r : List Int) : ∀ P : List (List Int), posTo s (P ++ [r]) = match posTo s P with
    | some n => some n
    | none => if r = s then some P.length else none
  | [] => by
    simp only [List.nil_append, posTo]
    split <;> rfl
  | x :: P => by
    rw [List.cons_append, posTo, posTo, posTo_put s r P]
    by_cases hx : x = s
    · rw [if_pos hx, if_pos hx]
    · rw [if_neg hx, if_neg hx]
      cases posTo s P with
      | some n => rfl
      | none =>
        by_cases hr : r = s
        · simp [hr]
        · simp [hr]

/-- What the map says of the rows. -/
structure KeyInv (L : List (List Int)) (D : DataW Unit) : Prop where
  map : IsMap D
  has : ∀ r, Rng r → Maps.has D (.string (keyT r)) = (posTo r L).isSome
  at' : ∀ r n, Rng r → posTo r L = some n → D.atKey (.string (keyT r)) (.lit (.int .i64 0)) = .lit (.int .i64 (n : Int))
theorem KeyInv.zero : KeyInv [] (.map [] : DataW Unit) := ⟨isMap_empty, fun _ _ => rfl, fun _ _ _ h => by cases h⟩
theorem key_lit (s : List Int) : WideAt.IsKeyLit (.string (keyT s)) := trivial
theorem KeyInv.new {L : List (List Int)} {D : DataW Unit} (h : KeyInv L D) {s : List Int} (hs : Rng s) (hn : posTo s L = none) : KeyInv (L ++ [s]) (D.put (.string (keyT s)) (.lit (.int .i64 (L.length : Int)))) := by
  refine ⟨h.map.put _ _, fun r hr => ?_, fun r n hr hp => ?_⟩
  · rw [posTo_put]
    by_cases e : s = r
    · subst e
      rw [has_put_same h.map (key_lit s), hn, if_pos rfl]
      rfl
    · rw [has_put_other (fun q => e (keyT_inj hs hr (Lit.string.inj q).symm)), h.has r hr]
      cases posTo r L with
      | some n => rfl
      | none => simp [e]
  · rw [posTo_put] at hp
    by_cases e : s = r
    · subst e
      rw [hn] at hp
      simp only [if_true] at hp
      cases hp
      exact atKey_put_same h.map (key_lit s) _ _
    · rw [atKey_put_other (fun q => e (keyT_inj hs hr (Lit.string.inj q).symm))]
      cases hq : posTo r L with
      | some m =>
        rw [hq] at hp
        cases hp
        exact h.at' r _ hr hq
      | none => rw [hq] at hp; simp [e] at hp

def strCells (L : List (List Int)) : List Value := L.map fun r => Value.string (strOfNums (keyI r))
/-- The table: a block of map and keys; all in blocks of F. -/
structure Tb (W : World) (a : Nat) (L : List (List Int)) (F : Nat → Prop) : Prop where
  box : ∃ mv sv, Blk W a 53 #[mv, sv] ∧ W.ownsRow 0 9 1 sv L.length (strCells L) ∧ (∀ k, sv.ownBlock = some k → F k ∧ k ≠ a) ∧
    ((mv = .map none ∧ L = []) ∨ ∃ b D, mv = .map (some b) ∧ F b ∧ b ≠ a ∧ W.ownsMap Try.prog 9 (plainElem Try.prog 3) b L.length D ∧ KeyInv L D)
  fa : F a
  lt : ∀ k, F k → k < W.heap.size
  good : ∀ r ∈ L, Rng r ∧ r.length ≤ 1000
theorem Tb.but {W W' : World} {a : Nat} {L : List (List Int)} {F G : Nat → Prop} (h : Tb W a L F) (hb : But G W W') (hd : ∀ k, F k → ¬ G k) : Tb W' a L F := by
  obtain ⟨mv, sv, h1, h2, h3, h4⟩ := h.box
  refine ⟨⟨mv, sv, hb.blk h1 (hd a h.fa), hb.owns h2 fun k hk => hd k (h3 k hk).1, h3, ?_⟩, h.fa, fun k hk => Nat.lt_of_lt_of_le (h.lt k hk) hb.size, h.good⟩
  rcases h4 with h4 | ⟨b, D, rfl, hF, hne, hm, hi⟩
  · exact .inl h4
  · obtain ⟨es, clock, hh, r⟩ := hm
    exact .inr ⟨b, D, rfl, hF, hne, ⟨es, clock, (hb.block b (h.lt b hF) (hd b hF)).trans hh, r⟩, hi⟩

theorem key_of (s : List Int) (hm : s.length ≤ 1000) : keyOf Try.prog 9 (.string (strOfNums (keyI s))) = some (.string (keyT s)) :=
  WideMaps.keyOf_string_mk Try.underlying9 (by rw [key_size]; unfold maxLen; omega)
/-- What a look-up answers. -/
theorem look_tab {W : World} {a : Nat} {L : List (List Int)} {F : Nat → Prop} (h : Tb W a L F) (s : List Int) (hs : Rng s) (hm : s.length ≤ 1000) :
    ∃ mv, W.cell? ⟨a, 0, none⟩ = some mv ∧ (Instr.lookup 48 mv (.string (strOfNums (keyI s))) true).run Try.prog W = .ok (.tuple #[.int .i64 (fnd L s).1, .bool (fnd L s).2]) W := by
  obtain ⟨mv, sv, h1, h2, h3, h4⟩ := h.box
  refine ⟨mv, h1.cell 0, ?_⟩
  rcases h4 with ⟨rfl, rfl⟩ | ⟨b, D, rfl, hF, hne, hmap, hi⟩
  · rw [Maps.look_nil true law_str Try.underlying48 (zero_int W) (key_of s hm)]
    rfl
  · obtain ⟨v, ps, hrun, hv⟩ := hmap.look_ok law_str Try.underlying48 (zero_int W) (zd := .lit (.int .i64 0)) (plainElem_int Try.underlying3 (by decide)) (key_of s hm)
    obtain ⟨c, rfl, hc, _⟩ := plainElem_int_inv Try.underlying3 hv
    have hc' := congrArg Prod.fst hc
    rw [hrun, hi.has s hs]
    unfold fnd
    cases hp : posTo s L with
    | some n =>
      rw [hi.at' s n hs hp] at hc'
      cases hc'
      rfl
    | none =>
      have hh := hi.has s hs
      rw [hp] at hh
      rw [atKey_of_not_has hh] at hc'
      cases hc'
      rfl

set_option maxRecDepth 100000 in
theorem numfind_any (a : Nat) (L : List (List Int)) (F : Nat → Prop) (s : List Int) (hs : Rng s) (hm : s.length ≤ 1000) (w : World) (hT : Tb w a L F) :
    Calls Try.prog 30 #[.pointer (some ⟨a, 0, none⟩), .string (strOfNums (keyI s))] w fun e w' => e = .returned (.tuple #[.int .i64 (fnd L s).1, .bool (fnd L s).2]) ∧ Below w.heap.size w w' := by
  obtain ⟨mv, hc, hrun⟩ := look_tab hT s hs hm
  generalize strOfNums (keyI s) = key at *
  generalize fnd L s = r at *
  clear hT hs hm
  go_enter Try.func30, Try.ntmps30
  go_wp2
  go_ret2
  exact ⟨rfl, Below.refl _ _⟩

theorem info_str : (Try.prog.info? 9).map (fun i => (i.zero, i.size, i.bytes)) = some (some (.string ByteArray.empty), 1, 16) := by kernel_rfl
/-- The table with its map made. -/
structure Tm (W : World) (a b : Nat) (sv : Value) (L : List (List Int)) (D : DataW Unit) (F : Nat → Prop) : Prop where
  blk : Blk W a 53 #[.map (some b), sv]
  own : W.ownsRow 0 9 1 sv L.length (strCells L)
  fs : ∀ k, sv.ownBlock = some k → F k ∧ k ≠ a
  fb : F b
  ne : b ≠ a
  map : W.ownsMap Try.prog 9 (plainElem Try.prog 3) b L.length D
  inv : KeyInv L D
  fa : F a
  lt : ∀ k, F k → k < W.heap.size
end Go.Proofs.Ytbnnfhpphelmfaa
