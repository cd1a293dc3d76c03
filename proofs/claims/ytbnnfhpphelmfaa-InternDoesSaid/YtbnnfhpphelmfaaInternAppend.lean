/-
  An append of a slice of numbers, nil or empty too, to a slice of the call's own. Conditions: the numbers lie in memory as a slice; sizes that each names.
-/
import Derived.Test.YtbnnfhpphelmfaaInternKit
import Derived.Laws.AppendOwn
import Derived.Laws.OwnMore
import Derived.Deep.Upon
import Derived.Deep.AppendSrc
import Derived.OwnWalk
import Derived.WalkSmall
namespace Go.Proofs.Ytbnnfhpphelmfaa
open Go.RowKit

theorem info_num : (Try.prog.info? 3).map (fun i => (i.zero, i.size, i.bytes)) = some (some (.int .i64 0), 1, 8) := by kernel_rfl

theorem iat_cells {W : World} {a : Addr} {L : List Int} {bd : Nat} (h : IAt W (some a) L bd) : ∀ j u, (numCells L)[j]? = some u → W.cell? (a.add j) = some u := by
  intro j u hj
  have hjl : j < L.length := by
    have := (List.getElem?_eq_some_iff.1 hj).1
    simpa using this
  obtain ⟨g, off, e, _, hc⟩ := h (by omega)
  cases e
  rw [WideShapes.add_plain, hc j hjl, ← hj]
  simp [List.getD, hjl]

theorem run_append_nums (w : World) (ty base : Nat) (v : Value) (n : Nat) (A : List Int) (hown : w.ownsRow base 3 1 v n (numCells A)) (ao : Option Addr) (len cap : Nat) (L : List Int) (hl : L.length = len) {bd : Nat} (hS : IAt w ao L bd)
    (b1 : n + len ≤ 4294967296) (b3 : base ≤ w.heap.size) :
    ∃ v' w', (Builtin.append_ #[22, 22] ty #[v, .slice ao len cap]).run Try.prog w = .ok v' w' ∧ w'.ownsRow base 3 1 v' (n + len) (numCells (A ++ L)) ∧ w.grownBy w' v.ownBlock := by
  obtain ⟨i0, hi, hz0, hz1, hz2⟩ := info_parts info_num
  cases ao with
  | some a =>
    obtain ⟨v', w', h1, h2, h3, _⟩ := run_append_own (P := Try.prog) w base 22 ty 3 i0 (.int .i64 0) 1 8 Try.underlying22 hi hz0 hz1 hz2 rfl (by decide) v n (numCells A) hown a len cap (numCells L) (by simp [hl]) (iat_cells hS) (fun u hu => by
      obtain ⟨l, _, rfl⟩ := List.mem_map.1 hu
      rfl) (by unfold maxLen; omega) (by omega) b3
    exact ⟨v', w', h1, by rw [numCells, List.map_append]; exact h2, h3⟩
  | none =>
    have h0 : len = 0 := by
      rcases Nat.eq_zero_or_pos len with h | h
      · exact h
      · obtain ⟨g, off, e, _⟩ := hS (by omega)
        cases e
    subst h0
    obtain rfl : L = [] := List.eq_nil_of_length_eq_zero hl
    have hv : ∃ bo c, v = .slice bo n c ∧ n ≤ c := by
      rcases hown.2 with ⟨rfl, rfl⟩ | ⟨g, c, cur, rfl, _, _, hnc, _⟩
      · exact ⟨none, 0, rfl, Nat.le_refl _⟩
      · exact ⟨_, c, rfl, hnc⟩
    obtain ⟨bo, c, rfl, hnc⟩ := hv
    refine ⟨_, w, run_append_nothing w 22 22 ty 3 i0 Try.underlying22 hi bo n c hnc _ (Src.ofNil w Try.underlying22 cap), ?_, World.grownBy.refl _ _⟩
    rw [List.append_nil]; exact hown

theorem wpList_append_nums (w : World) {ops : Array Oper} {rest : List Oper} {o : Oper} {a : Act} {Q : Exit → Act → World → Prop}
    (hg : o.guard = none) (s x : Operand) (hop : o.op = Op.call { callee := Callee.builtin Builtin.append, args := #[s, x], argTypes := #[22, 22] })
    (base : Nat) (v : Value) (n : Nat) (A : List Int) (hs : a.eval s = v) (hown : w.ownsRow base 3 1 v n (numCells A)) (ao : Option Addr) (len cap : Nat) (L : List Int) (hx : a.eval x = .slice ao len cap) (hl : L.length = len) {bd : Nat} (hS : IAt w ao L bd)
    (b1 : n + len ≤ 4294967296) (b3 : base ≤ w.heap.size)
    (hK : ∀ v' w', w'.ownsRow base 3 1 v' (n + len) (numCells (A ++ L)) → w.grownBy w' v.ownBlock → wpList Try.prog ops Q rest (a.put o.dst v') w') :
    wpList Try.prog ops Q (o :: rest) a w := by
  refine wpList_plain hg fun K hK' => ?_
  obtain ⟨v', w', hrun, r1, r2⟩ := run_append_nums w o.type base v n A hown ao len cap L hl hS b1 b3
  unfold Oper.wp
  simp [execOp, hop, resolve, invoke, builtin, hs, hx, hrun, Result.andThen]
  exact hK' _ _ (hK v' w' r1 r2)
theorem grown_lowN {W w1 : World} {base : Nat} {e : TypeId} {size n : Nat} {v : Value} {xs : List Value} (h : W.ownsRow base e size v n xs) (hbase : base ≤ W.heap.size) (hg : W.grownBy w1 v.ownBlock) : Below base W w1 :=
  (Below.refl base W).grown hg hbase fun k hk => (h.lt k hk).1


end Go.Proofs.Ytbnnfhpphelmfaa
