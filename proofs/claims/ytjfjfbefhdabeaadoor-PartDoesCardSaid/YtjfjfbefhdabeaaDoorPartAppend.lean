/-
  An append of a slice of sets, nil or empty too, to a slice of the call's own. Conditions: the sets lie in memory as a slice; sizes that each names.
-/
import Derived.Test.YtjfjfbefhdabeaaDoorPartMap
import Derived.Deep.Upon
import Derived.Deep.AppendSrc
namespace Go.Proofs.YtjfjfbefhdabeaaDoor
open Go.RowKit

theorem sat_cells {W : World} {a : Addr} {L : List (Nat → Bool)} {bd : Nat} (h : SAt W (some a) L bd) : ∀ j u, (setCells L)[j]? = some u → W.cell? (a.add j) = some u := by
  intro j u hj
  have hjl : j < (setCells L).length := (List.getElem?_eq_some_iff.1 hj).1
  rw [setCells_length] at hjl
  obtain ⟨g, off, e, _, hc⟩ := h (by omega)
  cases e
  have hi : j / 4 < L.length := by omega
  obtain ⟨c0, c1, c2, c3⟩ := hc (j / 4) hi
  obtain ⟨s0, s1, s2, s3⟩ := setCells_get L (j / 4) hi
  rw [WideShapes.add_plain]
  have hm : j % 4 = 0 ∨ j % 4 = 1 ∨ j % 4 = 2 ∨ j % 4 = 3 := by omega
  rcases hm with e | e | e | e
  · rw [show off + j = off + j / 4 * 4 by omega, c0, ← hj, show j = j / 4 * 4 by omega, s0, show j / 4 * 4 / 4 = j / 4 by omega]
  · rw [show off + j = off + j / 4 * 4 + 1 by omega, c1, ← hj, show j = j / 4 * 4 + 1 by omega, s1, show (j / 4 * 4 + 1) / 4 = j / 4 by omega]
  · rw [show off + j = off + j / 4 * 4 + 2 by omega, c2, ← hj, show j = j / 4 * 4 + 2 by omega, s2, show (j / 4 * 4 + 2) / 4 = j / 4 by omega]
  · rw [show off + j = off + j / 4 * 4 + 3 by omega, c3, ← hj, show j = j / 4 * 4 + 3 by omega, s3, show (j / 4 * 4 + 3) / 4 = j / 4 by omega]

theorem setCells_one : ∀ (L : List (Nat → Bool)), ∀ u ∈ setCells L, u.oneCell' = true
  | [], u, h => by cases h
  | x :: r, u, h => by
    simp only [setCells, List.mem_cons] at h
    rcases h with rfl | rfl | rfl | rfl | h
    · rfl
    · rfl
    · rfl
    · rfl
    · exact setCells_one r u h

theorem run_append_sets (w : World) (ty base : Nat) (v : Value) (n : Nat) (A : List (Nat → Bool)) (hown : w.ownsRow base 35 4 v n (setCells A)) (ao : Option Addr) (len cap : Nat) (L : List (Nat → Bool)) (hl : L.length = len) {bd : Nat} (hS : SAt w ao L bd)
    (b1 : n + len ≤ 4294967296) (b3 : base ≤ w.heap.size) :
    ∃ v' w', (Builtin.append_ #[22, 22] ty #[v, .slice ao len cap]).run Tryd.prog w = .ok v' w' ∧ w'.ownsRow base 35 4 v' (n + len) (setCells (A ++ L)) ∧ w.grownBy w' v.ownBlock := by
  obtain ⟨i0, hi, hz0, hz1, hz2⟩ := info_parts info_set
  cases ao with
  | some a =>
    obtain ⟨v', w', h1, h2, h3, _⟩ := run_append_own (P := Tryd.prog) w base 22 ty 35 i0 (.agg zero4) 4 32 Tryd.underlying22 hi hz0 hz1 hz2 rfl (by decide) v n (setCells A) hown a len cap (setCells L) (by rw [setCells_length, hl]) (sat_cells hS) (setCells_one L) (by unfold maxLen; omega) (by omega) b3
    exact ⟨v', w', h1, by rw [setCells_append]; exact h2, h3⟩
  | none =>
    have h0 : len = 0 := by
      rcases Nat.eq_zero_or_pos len with h | h
      · exact h
      · obtain ⟨g, off, e, _⟩ := hS (by omega)
        cases e
    subst h0
    obtain rfl : L = [] := List.eq_nil_of_length_eq_zero hl
    have hv : ∃ bo c, v = .slice bo n c ∧ n ≤ c := by
      rcases hown.2 with ⟨rfl, rfl⟩ | ⟨g, c, cur, rfl, _, _, hnc, _⟩
      · exact ⟨none, 0, rfl, Nat.le_refl _⟩
      · exact ⟨_, c, rfl, hnc⟩
    obtain ⟨bo, c, rfl, hnc⟩ := hv
    refine ⟨_, w, run_append_nothing w 22 22 ty 35 i0 Tryd.underlying22 hi bo n c hnc _ (Src.ofNil w Tryd.underlying22 cap), ?_, World.grownBy.refl _ _⟩
    rw [List.append_nil]; exact hown

theorem wpList_append_sets (w : World) {ops : Array Oper} {rest : List Oper} {o : Oper} {a : Act} {Q : Exit → Act → World → Prop}
    (hg : o.guard = none) (s x : Operand) (hop : o.op = Op.call { callee := Callee.builtin Builtin.append, args := #[s, x], argTypes := #[22, 22] })
    (base : Nat) (v : Value) (n : Nat) (A : List (Nat → Bool)) (hs : a.eval s = v) (hown : w.ownsRow base 35 4 v n (setCells A)) (ao : Option Addr) (len cap : Nat) (L : List (Nat → Bool)) (hx : a.eval x = .slice ao len cap) (hl : L.length = len) {bd : Nat} (hS : SAt w ao L bd)
    (b1 : n + len ≤ 4294967296) (b3 : base ≤ w.heap.size)
    (hK : ∀ v' w', w'.ownsRow base 35 4 v' (n + len) (setCells (A ++ L)) → w.grownBy w' v.ownBlock → wpList Tryd.prog ops Q rest (a.put o.dst v') w') :
    wpList Tryd.prog ops Q (o :: rest) a w := by
  refine wpList_plain hg fun K hK' => ?_
  obtain ⟨v', w', hrun, r1, r2⟩ := run_append_sets w o.type base v n A hown ao len cap L hl hS b1 b3
  unfold Oper.wp
  simp [execOp, hop, resolve, invoke, builtin, hs, hx, hrun, Result.andThen]
  exact hK' _ _ (hK v' w' r1 r2)

theorem grown_low0 {W w1 : World} {base : Nat} {e : TypeId} {size n : Nat} {v : Value} {xs : List Value} (h : W.ownsRow base e size v n xs) (hbase : base ≤ W.heap.size) (hg : W.grownBy w1 v.ownBlock) : Below base W w1 :=
  (Below.refl base W).grown hg hbase fun k hk => (h.lt k hk).1
end Go.Proofs.YtjfjfbefhdabeaaDoor
