/-
  The walk of the reference's Pairs: whether two rows of pairs are the same; nothing has changed. Conditions: the rows lie in memory as slices of pairs of bytes.
-/
import Derived.Test.YtanpammidlphbaaDoorSetRowsC
import Derived.Test.YtanpammidlphbaaDoorSetEq
import Derived.RegionTactic
import Derived.ChangeAlike
import Derived.BigRegion
import Derived.Deep.QuietTactic
import Derived.BigQuiet
namespace Go.Proofs.YtanpammidlphbaaDoor
open Go.RowKit Go.Shelf

/-- v is a slice that holds these pairs. -/
def PS (W : World) (v : Value) (p : List (Nat × Nat)) : Prop :=
  (v = .slice none 0 0 ∧ p = []) ∨ ∃ g cap, v = .slice (some ⟨g, 0, none⟩) p.length cap ∧ ∀ i, i < p.length →
    W.cell? ⟨g, i * 2, none⟩ = some (.int .u8 (((p.getD i (0, 0)).1 : Nat) : Int)) ∧ W.cell? ⟨g, i * 2 + 1, none⟩ = some (.int .u8 (((p.getD i (0, 0)).2 : Nat) : Int))

theorem take_next (p : List (Nat × Nat)) (k : Nat) (h : k < p.length) : p.take (k + 1) = p.take k ++ [p.getD k (0, 0)] := by
  rw [List.take_succ_eq_append_getElem h]
  simp [List.getD, h]

set_option maxRecDepth 100000 in
set_option maxHeartbeats 1000000 in
theorem pairs_core (g h : Nat) (cap cap' : Nat) (p q : List (Nat × Nat)) (hp : p.length ≤ 256) (hq : q.length = p.length) (w : World)
    (hc : ∀ i, i < p.length → w.cell? ⟨g, i * 2, none⟩ = some (.int .u8 (((p.getD i (0, 0)).1 : Nat) : Int)) ∧ w.cell? ⟨g, i * 2 + 1, none⟩ = some (.int .u8 (((p.getD i (0, 0)).2 : Nat) : Int)))
    (hd : ∀ i, i < p.length → w.cell? ⟨h, i * 2, none⟩ = some (.int .u8 (((q.getD i (0, 0)).1 : Nat) : Int)) ∧ w.cell? ⟨h, i * 2 + 1, none⟩ = some (.int .u8 (((q.getD i (0, 0)).2 : Nat) : Int))) :
    Calls Tryd.prog 22 #[.slice (some ⟨g, 0, none⟩) p.length cap, .slice (some ⟨h, 0, none⟩) p.length cap'] w fun e w' => e = .returned (.bool (decide (p = q))) ∧ Below w.heap.size w w' := by
  have HC := Lib.hid hc
  have HD := Lib.hid hd
  have HQ := Lib.hid hq
  clear hc hd hq
  obtain ⟨n, hn⟩ : ∃ n, p.length = n := ⟨_, rfl⟩
  have HN := Lib.hid hn
  rw [hn] at HC HD HQ hp ⊢
  clear hn
  go_enter Tryd.func22, Tryd.ntmps22
  go_wp2
  go_loopw [5] (fun i wr => ∃ k : Nat, k ≤ n ∧ i = .int .i64 k ∧ Hid (p.take k = q.take k) ∧ Below w.heap.size w wr ∧ Hid (∀ a, wr.cell? a = w.cell? a))
    (fun i _ => n - (intOf i).toNat)
  case atStart => exact ⟨0, Nat.zero_le _, rfl, Lib.hid rfl, Below.refl _ _, Lib.hid fun _ => rfl⟩
  case round =>
    obtain ⟨k, hk, rfl, hpq, hB, hsame⟩ := hrel
    by_cases hlt : k < n
    · have c1 := (hsame.out ⟨g, k * 2, none⟩).trans (HC.out k hlt).1
      have c2 := (hsame.out ⟨g, k * 2 + 1, none⟩).trans (HC.out k hlt).2
      have d1 := (hsame.out ⟨h, k * 2, none⟩).trans (HD.out k hlt).1
      have d2 := (hsame.out ⟨h, k * 2 + 1, none⟩).trans (HD.out k hlt).2
      have e1 := Lib.hid (show p.getD k (0, 0) = p.getD k (0, 0) from rfl)
      generalize hx : p.getD k (0, 0) = x at c1 c2
      generalize hy : q.getD k (0, 0) = y at d1 d2
      have HX := Lib.hid hx
      have HY := Lib.hid hy
      clear hx hy e1
      have hlti : (k : Int) < (n : Int) := by omega
      have hgd := guard44
      by_cases hxy : x = y
      · have heq := eq_pair_t hxy
        have HXY := Lib.hid hxy
        clear hxy
        go_wp2
        go_quiet (fail)
        go_wp2
        go_roundw
        case rel => exact ⟨k + 1, by omega, by go_num, Lib.hid (by rw [take_next p k (by rw [HN.out]; exact hlt), take_next q k (by rw [HQ.out]; exact hlt), hpq.out, HX.out, HY.out, HXY.out]), below_drewN hB _, Lib.hid fun a => (World.cell?_drewN _ _ _).trans (hsame.out a)⟩
        case measure => simp [intOf]; omega
      · have heq := eq_pair_f hxy
        have HXY := Lib.hid hxy
        clear hxy
        go_wp2
        go_quiet (fail)
        go_wp2
        go_ret
        refine ⟨congrArg (fun b => Ending.returned (Value.bool b)) (decide_eq_false ?_).symm, below_drewN hB _⟩
        intro e
        exact HXY.out (by rw [← HX.out, ← HY.out, e])
    · obtain rfl : k = n := by omega
      go_wp2
      go_ret
      refine ⟨congrArg (fun b => Ending.returned (Value.bool b)) (decide_eq_true ?_).symm, hB⟩
      have := hpq.out
      rwa [List.take_of_length_le (by rw [HN.out]; exact Nat.le_refl _), List.take_of_length_le (by rw [HQ.out]; exact Nat.le_refl _)] at this

theorem pairs_short (v u : Value) (ao bo : Option Addr) (m n cap cap' : Nat) (hv : v = .slice ao m cap) (hu : u = .slice bo n cap') (hne : m ≠ n) (w : World) :
    Calls Tryd.prog 22 #[v, u] w fun e w' => e = .returned (.bool false) ∧ Below w.heap.size w w' := by
  subst hv hu
  have h1 : ((m : Int) == (n : Int)) = false := by simp; omega
  have h2 : ((m : Int) != (n : Int)) = true := by simp; omega
  go_enter Tryd.func22, Tryd.ntmps22
  go_wp2
  go_ret
  exact ⟨rfl, Below.refl _ _⟩

theorem pairs_nil (v u : Value) (ao bo : Option Addr) (cap cap' : Nat) (hv : v = .slice ao 0 cap) (hu : u = .slice bo 0 cap') (w : World) :
    Calls Tryd.prog 22 #[v, u] w fun e w' => e = .returned (.bool true) ∧ Below w.heap.size w w' := by
  subst hv hu
  go_enter Tryd.func22, Tryd.ntmps22
  go_wp2
  refine wp_loop_rounds 1 ?_
  rw [rounds_succ]
  go_wp2
  go_ret
  exact ⟨rfl, Below.refl _ _⟩

/-- whittleref01.Pairs, of any two slices of pairs. -/
theorem pairs_any (v u : Value) (p q : List (Nat × Nat)) (hp : p.length ≤ 256) (w : World) (hv : PS w v p) (hu : PS w u q) :
    Calls Tryd.prog 22 #[v, u] w fun e w' => e = .returned (.bool (decide (p = q))) ∧ Below w.heap.size w w' := by
  obtain ⟨ao, cap, ev, fv⟩ : ∃ ao cap, v = .slice ao p.length cap ∧ (0 < p.length → ∃ g, ao = some ⟨g, 0, none⟩ ∧ ∀ i, i < p.length →
      w.cell? ⟨g, i * 2, none⟩ = some (.int .u8 (((p.getD i (0, 0)).1 : Nat) : Int)) ∧ w.cell? ⟨g, i * 2 + 1, none⟩ = some (.int .u8 (((p.getD i (0, 0)).2 : Nat) : Int))) := by
    rcases hv with ⟨rfl, rfl⟩ | ⟨g, cap, rfl, h⟩
    · exact ⟨none, 0, rfl, fun h => by simp at h⟩
    · exact ⟨_, _, rfl, fun _ => ⟨g, rfl, h⟩⟩
  obtain ⟨bo, cap', eu, fu⟩ : ∃ ao cap, u = .slice ao q.length cap ∧ (0 < q.length → ∃ g, ao = some ⟨g, 0, none⟩ ∧ ∀ i, i < q.length →
      w.cell? ⟨g, i * 2, none⟩ = some (.int .u8 (((q.getD i (0, 0)).1 : Nat) : Int)) ∧ w.cell? ⟨g, i * 2 + 1, none⟩ = some (.int .u8 (((q.getD i (0, 0)).2 : Nat) : Int))) := by
    rcases hu with ⟨rfl, rfl⟩ | ⟨g, cap, rfl, h⟩
    · exact ⟨none, 0, rfl, fun h => by simp at h⟩
    · exact ⟨_, _, rfl, fun _ => ⟨g, rfl, h⟩⟩
  by_cases hl : p.length = q.length
  · by_cases h0 : p.length = 0
    · have e1 : p = [] := List.eq_nil_of_length_eq_zero h0
      have e2 : q = [] := List.eq_nil_of_length_eq_zero (by omega)
      subst e1 e2
      exact pairs_nil v u ao bo cap cap' ev eu w
    · obtain ⟨g, rfl, hg⟩ := fv (by omega)
      obtain ⟨h, rfl, hh⟩ := fu (by omega)
      subst ev eu
      rw [← hl]
      exact pairs_core g h cap cap' p q hp hl.symm w hg (fun i hi => hh i (by omega))
  · have : decide (p = q) = false := decide_eq_false fun e => hl (by rw [e])
    rw [this]
    exact pairs_short v u ao bo _ _ cap cap' ev eu hl w

theorem pairCells_get : ∀ (p : List (Nat × Nat)) (i : Nat), i < p.length → (pairCells p)[i * 2]? = some (.int .u8 (((p.getD i (0, 0)).1 : Nat) : Int)) ∧ (pairCells p)[i * 2 + 1]? = some (.int .u8 (((p.getD i (0, 0)).2 : Nat) : Int))
  | [], i, h => by simp at h
  | x :: r, 0, _ => ⟨rfl, rfl⟩
  | x :: r, i + 1, h => by
    have := pairCells_get r i (by simpa using h)
    rw [show (i + 1) * 2 = i * 2 + 1 + 1 by omega]
    simpa [pairCells] using this

/-- What Rows hands back lies in memory as a slice of pairs. -/
theorem PS.of_owns {W : World} {base : Nat} {v : Value} {p : List (Nat × Nat)} (h : W.ownsRow base 44 2 v p.length (pairCells p)) : PS W v p := by
  obtain ⟨hl, h⟩ := h
  rcases h with ⟨rfl, h0⟩ | ⟨g, cap, cur, rfl, _, hb, hn, _, hsz, ht⟩
  · exact .inl ⟨rfl, List.eq_nil_of_length_eq_zero h0⟩
  · refine .inr ⟨g, cap, rfl, fun i hi => ?_⟩
    have hget : ∀ j, j < p.length * 2 → W.cell? ⟨g, j, none⟩ = (pairCells p)[j]? := by
      intro j hj
      have : W.cell? ⟨g, j, none⟩ = cur[j]? := by simp [World.cell?, hb]
      rw [this, ← ht, List.getElem?_take_of_lt hj]
      simp
    have := pairCells_get p i hi
    exact ⟨(hget _ (by omega)).trans this.1, (hget _ (by omega)).trans this.2⟩
theorem PS.below {W W' : World} {v : Value} {p : List (Nat × Nat)} (h : PS W v p) (hb : Below W.heap.size W W') : PS W' v p := by
  rcases h with h | ⟨g, cap, hv, h⟩
  · exact .inl h
  · refine .inr ⟨g, cap, hv, fun i hi => ?_⟩
    have hi' := h i hi
    have hg : g < W.heap.size := by
      rcases Nat.lt_or_ge g W.heap.size with h' | h'
      · exact h'
      · have := hi'.1; simp [World.cell?, Array.getElem?_eq_none h'] at this
    exact ⟨(hb.cell (p := ⟨g, _, none⟩) hg).trans hi'.1, (hb.cell (p := ⟨g, _, none⟩) hg).trans hi'.2⟩
end Go.Proofs.YtanpammidlphbaaDoor
